import PyProof.Rows.All
import Wide.All
import OpenK.AllK
import Wide.FinOn
import PyProof.EqAt
import PyProof.EqKinds
import PyProof.TupleCall
import PyProof.P3In
import PyProof.ZipIter
import PyProof.ListRange
import PyProof.SetRoads
import PyProof.Rows.SetFrom
import PyProof.Rows.SeqMore2
import KE.RegKIsAll
import PySem.Challenge.RW_farcuts_k49_no_long_table
set_option Elab.async false
set_option linter.all false
set_option maxRecDepth 100000
set_option genSizeOfSpec false
set_option genInjectivity false
/-! THE HAND LAYER, for ints, bools, texts, own classes, LISTS and tuples (index, slices, in, append, pop ..), calls, loops. Paste it whole ahead of your own text; what your proof does not reach may be deleted. -/
open Array renaming getElem?_toList->U8
open Bool renaming false_ne_true->Xx,and_eq_true->XN,false_eq_true->BP,and_true->VH,eq_false_iff->Uq
open False renaming elim->Bj
open ForInStep renaming yield->JD
open Int renaming le_trans->Qa,zero_add->Qz,toNat_natCast->Q3,gcd->JL,toNat_of_nonneg->Bx,mul_le_mul_of_nonneg_left->BL,gcd_eq_natAbs_gcd_natAbs->BX,max_eq_right->Vh,natAbs_ediv_le_natAbs->Vi,max_eq_left->Vl,mul_nonpos_of_nonneg_of_nonpos->Vo,lt_of_lt_of_le->Vp,natAbs_natCast->Uh,le_refl->Us,eq_ofNat_of_zero_le->UG,le_total->U5
open List renaming length_map->Xg,range->Xj,getElem?_eq_some_iff->Xk,mem_cons->Xl,getElem?_map->Xm,getD_eq_getElem?_getD->Xr,map_congr_left->Xy,replicate->Xz,mem_singleton->XC,mem_append_right->XF,length_range->XH,getElem?_eq_getElem->XJ,mem_map->XQ,size_toArray->XR,getElem?_set_ne->X4,mem_range->X5,getElem?_set_self->Qi,map_cons->Ql,map_map->Qp,nodup_cons->Qs,mem_of_getElem?->Qv,length_append->Qx,getElem?_range->QB,mem_append->QC,append_nil->QL,lookup_cons->QM,nodup_append->QQ,getElem?_eq_none_iff->QR,Nodup->QV,map_append->Q8,mem_append_left->Q9,getElem?_eq_none->JQ,not_mem_nil->JS,length_drop->JT,getElem?_of_mem->JX,eq_nil_of_length_eq_zero->JZ,length_set->Bb,getElem?_append_right->Bk,mem_filter->Bo,replicate_succ->Bv,length_cons->Bw,append_assoc->Vb,getElem_mem->Vf,getElem?_append_left->Vg,getElem?_replicate->Vn,toArray->Vs,flatten_cons->Vt,exists_of_findSome?_eq_some->Vu,length_replicate->VB,all_eq_true->VD,mem_cons_of_mem->VJ,mem_cons_self->V8,forIn_nil->V9,findSome?_eq_none_iff->Ua,getElem?_nil->Um,all_cons->Ur,take_length->Uw,mem_flatMap->Ux,length_take->Uy,range_succ->U3,forIn_cons->U4,length_filter_le->U9
open Nat renaming ne_of_lt->Xn,ne_of_gt->XM,lt_of_lt_of_le->X3,le_refl->Qn,le_trans->QF,zero_le->Bh,lt_irrefl->Br,lt_succ_self->BJ,not_lt_zero->BW,zero_add->Vy,succ_le_succ->VG,pow_le_pow_right->VL,lt_trans->V6,le_add_right->Uz,le_of_lt->U0
open Ne renaming symm->JM
open Option renaming bind_some->Xf,some->Bf
open Option.some renaming inj->Qy
open Or renaming inr->Qg,inl->Qo
open PyProof.Rows renaming callWith_type1->JW,seqObj->By,IntsAre->Vj,ClsAt->Vm,envOfC->Vw,slot_tupleiter_next->Ui,AllBare->UL
open PySem renaming PyData->Xa,Value->Xc,Shared->Xd,wpAny_bind->Xe,starEach->Xh,FuncData->Xp,sizeLine->Xq,mainGlobals->XD,wpAny->XX,Program->X6,model->X7,wpAny_pure->X8,bootBuiltins->Qc,sizeLine_eq->Qj,Around->Qk,World->Qt,wpAny_mono->QD,assignEach->QT,wpAny_loadPart'->QZ,backTo->Q6,wpAny_field->JF,mem_of_lookup->JH,cellsFrom->JN,wpAny_Call_Name_kw->Ba,NameKind->Bc,compareOp->Bg,IsPair->Bl,pushCells->Bm,wpAny_loadPart_at->Bs,foldedSetIterable->Bu,wpAny_seqItems->BR,binaryOp->BV,wpAny_setField_rec->BZ,wpAny_passesOwn->Vc,swapsWith->Ve,assign->Vx,wpAny_callSpecial?_slot->Vz,wpAny_truthy_bool->VF,wpAny_call_entry->VN,behindInMarks->V2,start->V3,sliceBounds->V4,Scope->V5,wpAny_execs_nil->Uc,pushCells_keeps->Ud,letOwnedTupleGo->Ue,Apart->Uk,intItems->Ut,IsZip->Uv,wpAny_newObj_type->UJ,wpAny_holding->UT,rawInt->UV
open PySem.Builtin renaming bitAnd->U7
open PySem.Builtin.Int renaming intBits->JB,intTooBig->Uo
open PySem.Builtin.List renaming listTooLong->VM
open PySem.Builtin.SmallTypes renaming nextOf->QG,ownedTupleIsFree->JR,ownedTupleHandOut->Ub
open PySem.Calls renaming spliced_cons->V7
open PySem.F renaming excBase_ValueError->V1
open PySem.Heap renaming get?_push_of_some->Xi,lt_size->Xv,get?_push_size->Qd,size_push->QX,SameBut->Vv,IsListIter->U6
open PySem.NameKind renaming free->QK,cell->JP
open PySem.Obj renaming mapSeq->JK
open PySem.PassesOwn renaming never->Xw
open PySem.PyData renaming int->Xo,list->QH,eqv->Q7,canLayAll0->JC,canLay0->JV,strOk->Vq,eqvAll->Uj
open PySem.SeqAt renaming EqAt->JG,canLay_of_shaped->Vr,shaped->VP
open PySem.Value renaming ref->Qu,none->Q0,builtin->Ul,int->Uu
open PySem.W renaming Frag->Xb,nsIn->Qe,kitOne->Qh,mg_none_of->Qw,kia_one->QJ,Looks->QS,keepIn->QW,hideAll->Q5,subIn->Be,kitAny->Bp,findIn->Bq,hideAll_none->Va,fnOf->Vd,of_hideAll->VR,callWith_K->V0,looks_findIn->UW
open Rat renaming divInt->Xu,divInt_eq_div->Qq,div_def->BK,intCast_mul->Vk,div_mul_cancel->Ug
namespace L2
open PySem PySem.Spec PyProof.Rows
noncomputable abbrev Key:=Sum Int Str
noncomputable def Z62:Key->Xc->Bool
 | .inl k,v=>Xc.isInt k v
 | .inr x,v=>Xc.isStrOf x v
noncomputable def Yd4(w:Qt):Key->Int
 | .inl k=>hashInt k
 | .inr x=>hashStr w x
theorem Wg:∀{k:Key} {v:Xc},Z62 k v=true->(∃i t,k=Sum.inl i∧v=Uu i t)∨(∃x t,k=Sum.inr x∧v=Value.str x t)
 | .inl i,v,h=>by
  obtain⟨t,e⟩:=Value.isInt_shape (k:=i) (v:=v) h
  exact .inl ⟨i,t,rfl,e⟩
 | .inr x,v,h=>by
  obtain⟨t,e⟩:=Xc.isStrOf_shape (x:=x) (v:=v) h
  exact .inr ⟨x,t,rfl,e⟩
theorem Z22(a b:Int):decide ((Sum.inl a:Key)=Sum.inl b)=(a==b):=by
 by_cases e:a=b
 ·subst e;simp
 ·have h:¬(Sum.inl a:Key)=Sum.inl b:=λq=>e (Sum.inl.inj q)
  rw[decide_eq_false h]
  exact(beq_eq_false_iff_ne.mpr e).symm
theorem Z4l(a b:Str):decide ((Sum.inr a:Key)=Sum.inr b)=decide (a=b):=by
 by_cases e:a=b
 ·subst e;simp
 ·have h:¬(Sum.inr a:Key)=Sum.inr b:=λq=>e (Sum.inr.inj q)
  rw[decide_eq_false h,decide_eq_false e]
theorem Z7q(a:Int)(b:Str):decide ((Sum.inl a:Key)=Sum.inr b)=false:=decide_eq_false (λq=>nomatch q)
theorem Z5c(a:Str)(b:Int):decide ((Sum.inr a:Key)=Sum.inl b)=false:=decide_eq_false (λq=>nomatch q)
noncomputable def Znw(prog:X6)(w:Qt):PySem.KeyKind prog w Key where
 is:=Z62
 hash:=Yd4 w
 inj:=λv a b ha hb=>by
  rcases Wg ha with⟨i,t,rfl,rfl⟩|⟨x,t,rfl,rfl⟩
  ·rcases Wg hb with⟨j,u,rfl,e⟩|⟨y,u,rfl,e⟩
   ·injection e with e1 _;rw[e1]
   ·exact nomatch e
  ·rcases Wg hb with⟨j,u,rfl,e⟩|⟨y,u,rfl,e⟩
   ·exact nomatch e
   ·injection e with e1 _;rw[e1]
 byValue:=λk v h=>by
  rcases Wg h with⟨i,t,rfl,rfl⟩|⟨x,t,rfl,rfl⟩<;>rfl
 pyHash:=λhv h=>by
  rcases Wg hv with⟨i,t,rfl,rfl⟩|⟨x,t,rfl,rfl⟩
  ·exact wpAny_pyHash_int h
  ·exact wpAny_pyHash_str h
 eqBool:=λhu hv h=>by
  rcases Wg hu with⟨i,t,rfl,rfl⟩|⟨x,t,rfl,rfl⟩
  ·rcases Wg hv with⟨j,u,rfl,rfl⟩|⟨y,u,rfl,rfl⟩
   ·rw[Z22]at h;exact wpAny_eqBool_int h
   ·rw[Z7q]at h;exact SeqAt.EqAt.int_str i t y u _ _ _ _ h
  ·rcases Wg hv with⟨j,u,rfl,rfl⟩|⟨y,u,rfl,rfl⟩
   ·rw[Z5c]at h;exact SeqAt.EqAt.str_int x t j u _ _ _ _ h
   ·rw[Z4l]at h;exact wpAny_eqBool_str h
 «strs»:=λk x t v h=>by
  rcases Wg h with⟨i,u,rfl,e⟩|⟨y,u,rfl,e⟩
  ·exact nomatch e
  ·injection e with e1 _
   subst e1
   cases v<;>rfl
inductive V where
 | non|bl (b:Bool)|int (i:Int)|str (x:Str)|byt (b:Array UInt8)|flt (b:UInt64)|ref (a:Addr)|ty (n:String)
 deriving DecidableEq
noncomputable def RelV:V->Xc->Prop
 | .non,u=>u=Q0
 | .bl b,u=>u=Value.bool b
 | .int i,u=>∃t,u=Uu i t
 | .str x,u=>∃t,u=Value.str x t
 | .byt b,u=>∃t,u=Xc.bytes b t
 | .flt b,u=>∃t,u=Xc.float b t
 | .ref a,u=>u=Qu a
 | .ty n,u=>u=Xc.type n
noncomputable abbrev Vals:List V->List Xc->Prop:=Paired RelV
theorem Vals.length{xs:List V}{us:List Xc}(r:Vals xs us):xs.length=us.length:=Paired.length r
theorem Vals.get{xs:List V}{us:List Xc}{i:Nat}{x:V}(h:Vals xs us)(e:xs[i]? =some x):∃u,us[i]? =some u∧RelV x u:=by
 induction h generalizing i with
 | nil=>exact(Option.some_ne_none _ (e.symm.trans Um)).elim
 | cons r t ih=>
  cases i with
  | zero=>exact⟨_,rfl,Qy e▸r⟩
  | succ i=>exact ih e
theorem Vals.set{x:V}{u:Xc}(r:RelV x u){xs:List V}{us:List Xc}(i:Nat)(h:Vals xs us):Vals (xs.set i x) (us.set i u):=by
 induction h generalizing i with
 | nil=>exact .nil
 | cons q t ih=>
  cases i with
  | zero=>exact .cons r t
  | succ i=>exact .cons q (ih i)
theorem Vals.append{xs ys:List V}{us ws:List Xc}(h:Vals xs us)(s:Vals ys ws):Vals (xs ++ ys) (us ++ ws):=by
 induction h with
 | nil=>exact s
 | cons r t ih=>exact .cons r ih
theorem Vals.take{xs:List V}{us:List Xc}(n:Nat)(h:Vals xs us):Vals (xs.take n) (us.take n):=by
 induction h generalizing n with
 | nil=>rw[List.take_nil,List.take_nil];exact .nil
 | cons r t ih=>
  cases n with
  | zero=>exact .nil
  | succ n=>exact .cons r (ih n)
theorem Vals.drop{xs:List V}{us:List Xc}(n:Nat)(h:Vals xs us):Vals (xs.drop n) (us.drop n):=by
 induction h generalizing n with
 | nil=>rw[List.drop_nil,List.drop_nil];exact .nil
 | cons r t ih=>
  cases n with
  | zero=>exact .cons r t
  | succ n=>exact ih n
noncomputable def RelO:Option V->Option Xc->Prop
 | some v,some u=>RelV v u
 | none,none=>True
 | _,_=>False
noncomputable def KV{κ:Type}:List (κ×V)->List (κ×Xc)->Prop:=Paired λ(p:κ×V) (q:κ×Xc)=>p.1=q.1∧RelV p.2 q.2
noncomputable def kV:Key->V
 | .inl i=>.int i
 | .inr x=>.str x
inductive HO where
  | lst (xs:List V)
  | tup (xs:List V)
  | dK (kvs:List (Key×V))|dT (kvs:List (List Key×V))
  | set (S:Int->Bool) (n:Nat)
  | ins (C dx:Addr) (fs:List (Str×V))
  | own (x:Addr)
  | xd (fs:List (Str×V))
  | met (f x:Addr)
  | rng (lo hi:Int)
  | frz (o:Obj) (u:HO)
  | tbl (ps:Array Xc)
  | ext (φ:Heap->Prop)
noncomputable abbrev Hp:=Addr->Option HO
noncomputable def upd(H:Hp)(a:Addr)(o:HO):Hp:=λb=>if b=a then some o else H b
theorem Z1{H:Hp}{a:Addr}{o:HO}:upd H a o a=some o:=by unfold upd;rw[if_pos rfl]
theorem Zr{H:Hp}{a b:Addr}{o:HO}(h:b≠a):upd H a o b=H b:=by unfold upd;rw[if_neg h]
theorem Yu{H:Hp}{a b:Addr}{o:HO}(h:H a=some o)(h':H b=none):a≠b:=by
 intro e;subst e;rw[h]at h';cases h'
section
variable (P:X6)(w:Qt)
noncomputable def ObjOk(H:Hp)(h:Heap)(a:Addr):HO->Prop
 | .lst xs=>xs.length≤Xq∧∃(its:List Xc) (n:Nat),Vals xs its∧h.get? a=some { cls:=.type "list",data:=.seq its.toArray n }
 | .tup xs=>xs.length≤Xq∧∃its:List Xc,Vals xs its∧IsTup h a its.toArray
 | .dK kvs=>kvs.length≤Xq∧(a==sysModules)=false∧∃vs,KV kvs vs∧h.DictOf (Znw P w) a vs
 | .dT kvs=>kvs.length≤Xq∧(a==sysModules)=false∧∃xs:List (List Key×Addr×Xc),
   Paired (λ(p:List Key×V) (q:List Key×Addr×Xc)=>p.1=q.1∧H q.2.1=some (.tup (p.1.map kV))∧RelV p.2 q.2.2) kvs xs∧
   ∃o es ep,h.get? a=some o∧o.ExactDict∧o.data= .dict es ep∧es.toList=xs.map (entryOfKey (tupleKind (Znw P w)))∧(xs.map (·.1)).Nodup
 | .set S n=>h.SetOf (intKind P w) a S n
 | .ins C dx fs=>H dx=some (.own a)∧fs.length≤1000∧dx≠a∧h.get? a=some (PySem.W.instObj C dx)∧
   ∃mA,h.Ns1 dx mA∧(∀f,RelO (fs.lookup f) (mA f))∧PySem.Within mA (fs.map (·.1))
 | .own _=>∃o,h.get? a=some o
 | .xd fs=>∃mA,h.Ns1 a mA∧∀f,RelO (fs.lookup f) (mA f)
 | .rng lo hi=>∃t u v,h.get? a=some { cls:=.type "range",data:=.fields #[.int lo t,.int hi u,.int 1 v] }
 | .frz o u=>h.get? a=some o∧ObjOk H h a u
 | .tbl ps=>h.get? a=some { cls:=.none,data:=.fields ps }
 | .met f x=>h.get? a=some (PySem.W.methodObj (.ref f) (.ref x))
 | .ext φ=>φ h∧(∃o,h.get? a=some o)∧∀h1 h2:Heap,φ h1->(∀o,h1.get? a=some o->h2.get? a=some o)->φ h2
noncomputable def HOk(H:Hp)(h:Heap):Prop:=∀a o,H a=some o->ObjOk P w H h a o
end
section
variable {P:X6}{w:Qt}{H H':Hp}{h h':Heap}{a:Addr}{o:HO}
theorem ObjOk.lt(x:ObjOk P w H h a o):a<h.objs.size:=by
 cases o with
 | lst xs=>obtain⟨_,_,_,_,e⟩:=x;exact Xv e
 | tup xs=>obtain⟨_,_,_,p⟩:=x;exact p.lt
 | dK kvs=>obtain⟨_,_,_,_,o,_,_,e,_⟩:=x;exact Xv e
 | dT kvs=>obtain⟨_,_,_,_,o,_,_,e,_⟩:=x;exact Xv e
 | set S n=>obtain⟨o,_,_,_,e,_⟩:=x;exact Xv e
 | ins C dx fs=>obtain⟨_,_,_,e,_⟩:=x;exact Xv e
 | own y=>obtain⟨_,e⟩:=x;exact Xv e
 | xd fs=>obtain⟨_,⟨_,_,_,e,_⟩,_⟩:=x;exact Xv e
 | rng lo hi=>obtain⟨_,_,_,e⟩:=x;exact Xv e
 | frz ob u=>obtain⟨e,_⟩:=x;exact Xv e
 | tbl ps=>exact Xv (show h.get? a=some _ from x)
 | met f y=>exact Xv (show h.get? a=some _ from x)
 | ext φ=>obtain⟨_,⟨_,e⟩,_⟩:=x;exact Xv e
theorem Paired.mapP{α β:Type}{F G:α->β->Prop}{l₁:List α}{l₂:List β}(h:Paired F l₁ l₂)(f:∀a b,F a b->G a b):Paired G l₁ l₂:=by
 induction h with
 | nil=>exact .nil
 | cons r t ih=>exact .cons (f _ _ r) ih
theorem ObjOk.stay(x:ObjOk P w H h a o)(k:∀b u,(b=a∨H b=some (.own a))->h.get? b=some u->h'.get? b=some u)
  (ho:∀b,H b=some (.own a)->H' b=some (.own a)) (ht:∀b xs,H b=some (.tup xs)->H' b=some (.tup xs)):ObjOk P w H' h' a o:=by
 induction o with
 | lst xs=>obtain⟨z,its,n,r,e⟩:=x;exact⟨z,its,n,r,k _ _ (.inl rfl) e⟩
 | tup xs=>obtain⟨z,its,r,ob,e,c⟩:=x;exact⟨z,its,r,ob,k _ _ (.inl rfl) e,c⟩
 | dK kvs=>obtain⟨z,y,vs,r,ob,es,ep,e,c⟩:=x;exact⟨z,y,vs,r,ob,es,ep,k _ _ (.inl rfl) e,c⟩
 | dT kvs=>
  obtain⟨z,y,xs,r,ob,es,ep,e,c⟩:=x
  exact⟨z,y,xs,Paired.mapP r λp q z=>⟨z.1,ht _ _ z.2.1,z.2.2⟩,ob,es,ep,k _ _ (.inl rfl) e,c⟩
 | set S n=>obtain⟨ob,es,ep,t,e,c⟩:=x;exact⟨ob,es,ep,t,k _ _ (.inl rfl) e,c⟩
 | ins C dx fs=>
  obtain⟨d,z,ne,e,mA,⟨od,es,ep,e2,c⟩,r⟩:=x
  exact⟨ho _ d,z,ne,k _ _ (.inl rfl) e,mA,⟨od,es,ep,k _ _ (.inr d) e2,c⟩,r⟩
 | own y=>obtain⟨ob,e⟩:=x;exact⟨ob,k _ _ (.inl rfl) e⟩
 | xd fs=>obtain⟨mA,⟨od,es,ep,e,c⟩,r⟩:=x;exact⟨mA,⟨od,es,ep,k _ _ (.inl rfl) e,c⟩,r⟩
 | rng lo hi=>obtain⟨t,u,v,e⟩:=x;exact⟨t,u,v,k _ _ (.inl rfl) e⟩
 | frz ob u ih=>obtain⟨e,q⟩:=x;exact⟨k _ _ (.inl rfl) e,ih q⟩
 | tbl ps=>
  have e:h.get? a=some { cls:=.none,data:=.fields ps }:=x
  show h'.get? a=some { cls:=.none,data:=.fields ps }
  exact k a _ (.inl rfl) e
 | met f y=>
  have e:h.get? a=some (PySem.W.methodObj (.ref f) (.ref y)):=x
  show h'.get? a=some (PySem.W.methodObj (.ref f) (.ref y))
  exact k a _ (.inl rfl) e
 | ext φ=>obtain⟨p,⟨o,e⟩,st⟩:=x;exact⟨st _ _ p λo q=>k _ _ (.inl rfl) q,⟨o,k _ _ (.inl rfl) e⟩,st⟩
theorem HOk.lt(x:HOk P w H h)(e:H a=some o):a<h.objs.size:=(x a o e).lt
theorem HOk.fresh(x:HOk P w H h)(e:h.objs.size≤a):H a=none:=by
 cases q:H a with
 | none=>rfl
 | some u=>exact absurd (X3 (x.lt q) e) (Br _)
theorem HOk.kept(x:HOk P w H h)(k:∀b u,h.get? b=some u->h'.get? b=some u):HOk P w H h':=λa o e=>
 (x a o e).stay (λb u _ q=>k b u q) (λ_ q=>q) λ_ _ q=>q
theorem HOk.laid(x:HOk P w H h)(k:∀b u,h.get? b=some u->h'.get? b=some u)(hp:h.objs.size≤a)(new:ObjOk P w (upd H a o) h' a o):HOk P w (upd H a o) h':=λb u e=>by
 have hn:=x.fresh hp
 by_cases hb:b=a
 ·subst hb;rw[Z1]at e;cases e;exact new
 ·rw[Zr hb]at e
  exact(x b u e).stay (λc v _ q=>k c v q) (λc q=>by rw[Zr (Yu q hn)];exact q) λc xs q=>by rw[Zr (Yu q hn)];exact q
end
noncomputable def Rd(H:Hp)(a:Addr)(u:HO):Prop:=H a=some u∨∃o,H a=some (.frz o u)
theorem Rd.ok{P:X6}{w:Qt}{H:Hp}{h:Heap}{a:Addr}{u:HO}(r:Rd H a u)(x:HOk P w H h):ObjOk P w H h a u:=by
 rcases r with r|⟨o,r⟩
 ·exact x a u r
 ·obtain⟨_,q⟩:=x a _ r
  exact q
noncomputable def Mut:Option HO->Prop
 | some (.lst _)=>True
 | some (.dK _)=>True
 | some (.dT _)=>True
 | some (.set _ _)=>True
 | some (.ins _ _ _)=>True
 | some (.ext _)=>True
 | _=>False
section
variable {P:X6}{w:Qt}{H:Hp}{h h':Heap}{x e:Addr}{o':HO}
theorem HOk.write(ok:HOk P w H h)(mu:Mut (H x))(he:e=x∨H e=some (.own x))(k:∀b u,b≠e->h.get? b=some u->h'.get? b=some u)(heo:∃u,h'.get? e=some u)
  (new:ObjOk P w (upd H x o') h' x o'):HOk P w (upd H x o') h':=λb u q=>by
 have nown:∀c y,H c=some (.own y)->c≠x:=λc y r z=>by subst z;rw[r]at mu;exact mu
 have ntup:∀c xs,H c=some (.tup xs)->c≠x:=λc xs r z=>by subst z;rw[r]at mu;exact mu
 by_cases hb:b=x
 ·subst hb;rw[Z1]at q;cases q;exact new
 ·rw[Zr hb]at q
  by_cases hbe:b=e
  ·have q':H b=some (.own x):=by
    rcases he with z|z
    ·exact absurd (hbe.trans z) hb
    ·rw[hbe];exact z
   rw[q]at q';cases q'
   obtain⟨v,hv⟩:=heo
   exact⟨v,by rw[hbe];exact hv⟩
  ·refine(ok b u q).stay (λc v hc r=>k c v ?_ r) (λc r=>by rw[Zr (nown c b r)];exact r) λc xs r=>by rw[Zr (ntup c xs r)];exact r
   rcases hc with rfl|hc
   ·exact hbe
   ·rintro rfl
    rcases he with z|z
    ·exact nown c b hc z
    ·rw[hc]at z;cases z;exact hb rfl
end
structure Un(fs ex:List Addr)(H H':Hp)(h h':Heap):Prop where
 keep:∀b o,h.get? b=some o->H b=none->b∉fs->b∉ex->h'.get? b=some o
 slot:∀b o,h.get? b=some o->H b=none->b∈fs->b∉ex->∃sl,h'.get? b=some { o with slots:=sl }
 free:∀b o,h.get? b=some o->H b=none->b∉ex->H' b=none
 there:∀b o,h.get? b=some o->b∉ex->∃o',h'.get? b=some o'
 tups:∀b xs,H b=some (.tup xs)->H' b=some (.tup xs)
 frzs:∀b o u,H b=some (.frz o u)->H' b=some (.frz o u)
 tbls:∀b ps,H b=some (.tbl ps)->∃more,H' b=some (.tbl (ps ++ more))
section
variable {fs fs' ex ex':List Addr}{H H1 H2:Hp}{h h1 h2 h':Heap}{a x e:Addr}{o:HO}
theorem Un.any(u:Un fs ex H H1 h h1){b:Addr}{ob:Obj}(q:h.get? b=some ob)(n:H b=none)(hx:b∉ex):∃sl,h1.get? b=some { ob with slots:=sl }:=by
 by_cases hb:b∈fs
 ·exact u.slot b ob q n hb hx
 ·exact⟨ob.slots,u.keep b ob q n hb hx⟩
theorem Un.kept(k:∀b u,h.get? b=some u->h'.get? b=some u):Un fs ex H H h h' :=
 ⟨λb ob q _ _ _=>k b ob q,λb ob q _ _ _=>⟨ob.slots,k b ob q⟩,λ_ _ _ n _=>n,λb ob q _=>⟨ob,k b ob q⟩,λ_ _ q=>q,λ_ _ _ q=>q,λ_ ps q=>⟨#[],by rw[q];simp⟩⟩
theorem Un.refl:Un fs ex H H h h:=Un.kept λ_ _ q=>q
theorem Un.laid(k:∀b u,h.get? b=some u->h'.get? b=some u)(hp:h.objs.size≤a)(hn:H a=none):Un fs ex H (upd H a o) h h' where
 keep:=λb u q _ _ _=>k b u q
 slot:=λb u q _ _ _=>⟨u.slots,k b u q⟩
 free:=λb u q n _=>by rw[Zr (Xn (X3 (Xv q) hp))];exact n
 there:=λb u q _=>⟨u,k b u q⟩
 tups:=λb xs q=>by rw[Zr (Yu q hn)];exact q
 frzs:=λb u xs q=>by rw[Zr (Yu q hn)];exact q
 tbls:=λb ps q=>⟨#[],by rw[Zr (Yu q hn),q];simp⟩
theorem Un.write(mu:Mut (H x))(he:e=x∨H e=some (.own x))(k:∀b u,b≠e->h.get? b=some u->h'.get? b=some u)(heo:∃u,h'.get? e=some u):Un fs ex H (upd H x o) h h':=by
 have hx:∀b,H b=none->b≠x:=λb n z=>by subst z;rw[n]at mu;exact mu
 have hb:∀b,H b=none->b≠e:=λb n z=>by
  subst z
  rcases he with r|r
  ·exact hx b n r
  ·rw[n]at r;cases r
 have hm:∀b u,H b=some u->¬Mut (some u)->b≠x:=λb u q nm z=>by subst z;rw[q]at mu;exact nm mu
 refine⟨λb u q n _ _=>k b u (hb b n) q,λb u q n _ _=>⟨u.slots,k b u (hb b n) q⟩,λb u q n _=>by rw[Zr (hx b n)];exact n,λb u q _=>?_,
  λb xs q=>by rw[Zr (hm b _ q λz=>z)];exact q,λb u xs q=>by rw[Zr (hm b _ q λz=>z)];exact q,λb ps q=>⟨#[],by rw[Zr (hm b _ q λz=>z),q];simp⟩⟩
 by_cases hbe:b=e
 ·subst hbe;exact heo
 ·exact⟨u,k b u hbe q⟩
end
noncomputable def trk(h:Heap)(H:Hp):List Addr:=(Xj h.objs.size).filter λa=>(H a).isSome
noncomputable def Zv4(h:Heap)(H:Hp):Heap:=Q5 h (trk h H)
theorem Zqq(h:Heap)(H:Hp):(Zv4 h H).objs.size=h.objs.size:=PySem.W.hideAll_size _ _
theorem Zv1{h:Heap}{H:Hp}{b:Addr}{o:Obj}(e:h.get? b=some o)(n:H b=none):(Zv4 h H).get? b=some o :=
 PySem.W.hideAll_get _ e λhm=>by
  have q:(H b).isSome=true:=(Bo.mp hm).2
  rw[n]at q;simp at q
theorem Z0i{h:Heap}{H:Hp}{b:Addr}{o:Obj}(e:(Zv4 h H).get? b=some o):h.get? b=some o∧H b=none:=by
 have e':h.get? b=some o:=VR (trk h H) e
 refine⟨e',?_⟩
 cases q:H b with
 | none=>rfl
 | some x=>
  have hm:b∈trk h H:=Bo.mpr ⟨X5.mpr (Xv e'),by simp[q]⟩
  have z:(Zv4 h H).get? b=none:=Va (trk h H) hm
  rw[z]at e;cases e
noncomputable def Z0l(g h:Heap)(L:Addr):List (Addr×Obj):=(Xj h.objs.size).filterMap λa=>if a=L∨(g.get? a).isSome=true then none else(h.get? a).map λo=>(a,o)
noncomputable def rest(g h:Heap)(L d:Addr):List (Addr×Obj):=(Z0l g h L).filter λp=>decide (p.1≠d)
structure Mod(K:Xb)(mg:Str->Option Xc)(base:Heap):Prop where
 kin:K.In base
 glob:base.Ns XD mg
 blt:∃mb,base.Ns builtinsNs mb∧∀x:Str,x≠"__name__" ->mb x=Qc x
 nolimit:base.NoLimit
set_option genInjectivity false in
structure Cx where
 prog:X6
 w:Qt
 K:Xb
 mg:Str->Option Xc
 base:Heap
 A:Qk
 N:List Str
 s₀:Xd
 H₀:Hp
 env:Env
 outer:List Env
 stack:List Env
 ex:List Addr
 fn:Str->Bool
 calm:Bool
 pn:List (Addr×Obj)
 xe:Xc->Xd->Prop
noncomputable def frs(l:List Env):List Addr:=l.filterMap (·.frame)
noncomputable abbrev Cx.fs(X:Cx):List Addr:=frs X.outer
noncomputable def Vis(sc:V5)(x:Str):Prop:=sc.names.lookup x=some .local∨sc.names.lookup x=some .cell∨sc.names.lookup x=some .free
noncomputable def Loc(sc:V5)(x:Str):Prop:=sc.names.lookup x=some .local∨sc.names.lookup x=some .cell
noncomputable def Look(env:Env)(h:Heap)(m:Str->Option Xc)(x:Str)(u:Xc):Prop :=
 (env.kindOf x=some .local∧m x=some u)∨((env.kindOf x=some .cell∨env.kindOf x=some .free)∧∃c,env.cells.lookup x=some c∧h.IsCell c (some u))
structure Cx.Ok(X:Cx):Prop where
 mod:Mod X.K X.mg X.base
 kind:X.env.scope.kind= .function
 glob:X.env.globals=XD
 blt:X.env.builtins=builtinsNs
 above:X.s₀.heap.objs.size≤X.env.locals
 inj:∀x y c,X.env.cells.lookup x=some c->X.env.cells.lookup y=some c->x=y
 has:∀x,(X.env.kindOf x=some .cell∨X.env.kindOf x=some .free)->∃c,X.env.cells.lookup x=some c
 cab:∀x c,X.fn x=true->X.env.cells.lookup x=some c->X.s₀.heap.objs.size≤c
 hd:X.calm=true->X.A.handled=none
 frames:X.A.frames=some X.stack
 stk:X.stack=X.outer∨(X.stack=X.env :: X.outer∧X.env.frame=some X.env.locals)
 exf:∀b∈X.ex,b≠X.env.locals∧∀x c,X.env.cells.lookup x=some c->c≠b
 bs:∀b o,X.base.get? b=some o->X.s₀.heap.get? b=some o∧X.H₀ b=none
 bsz:X.base.objs.size≤X.s₀.heap.objs.size
 noex:∀b o,X.base.get? b=some o->b∉X.ex
 exfs:∀b∈X.ex,b∉X.fs
 funs:X.s₀.heap.FunFrames X.base X.outer
 frf:∀b∈X.fs,X.H₀ b=none
structure Inv(X:Cx)(pins:List (Addr×Obj))(σ:List (Option V))(H:Hp)(s:Xd):Prop where
 ok:X.Ok
 os:s.os=X.s₀.os
 bare:UL s.gens
 base:Un X.fs X.ex X.H₀ H X.s₀.heap s.heap
 loc:∃m,s.heap.Ns X.env.locals m∧∀(i:Nat) (x:Str) (v:V),X.N[i]? =some x->σ[i]? =some (some v)->Vis X.env.scope x->∃u,RelV v u∧Look X.env s.heap m x u
 cell:∀x c,X.env.cells.lookup x=some c->∃v,s.heap.IsCell c v
 free:H X.env.locals=none
 freeC:∀x c,X.env.cells.lookup x=some c->H c=none
 pin:∀p∈X.pn ++ pins,s.heap.get? p.1=some p.2∧H p.1=none∧p.1≠X.env.locals∧p.1∉X.fs∧∀v,p.2.data≠ .cell v
 hok:HOk X.prog X.w H s.heap
 len:σ.length=X.N.length
section
variable {X:Cx}{pins:List (Addr×Obj)}{σ:List (Option V)}{H H':Hp}{s:Xd}{h':Heap}
theorem Cx.Ok.nofr(ok:X.Ok){b:Addr}{o:Obj}(e:X.base.get? b=some o):b∉X.fs:=λhb=>by
 have:=(ok.funs.mem hb).1
 rw[e]at this;cases this
theorem Inv.bs(I:Inv X pins σ H s):∀b o,X.base.get? b=some o->s.heap.get? b=some o∧H b=none:=λb o e=>
 ⟨I.base.keep b o (I.ok.bs b o e).1 (I.ok.bs b o e).2 (I.ok.nofr e) (I.ok.noex b o e),I.base.free b o (I.ok.bs b o e).1 (I.ok.bs b o e).2 (I.ok.noex b o e)⟩
theorem Inv.bk(I:Inv X pins σ H s):∀b o,X.base.get? b=some o->s.heap.get? b=some o:=λb o e=>(I.bs b o e).1
theorem Inv.mod(I:Inv X pins σ H s):Mod X.K X.mg X.base:=I.ok.mod
theorem Inv.kIn(I:Inv X pins σ H s):X.K.In s.heap:=I.ok.mod.kin.keeps I.bk
theorem Inv.lt(I:Inv X pins σ H s):X.env.locals<s.heap.objs.size:=let⟨_,hn,_⟩:=I.loc;hn.lt
theorem Inv.sz(I:Inv X pins σ H s):X.s₀.heap.objs.size≤s.heap.objs.size:=QF I.ok.above (U0 I.lt)
theorem Inv.nofs(I:Inv X pins σ H s){a:Addr}(h:s.heap.objs.size≤a):a∉X.fs:=λhb=>by
 obtain⟨_,o,ho,_⟩:=I.ok.funs.mem hb
 exact absurd (X3 (Xv ho) (QF I.sz h)) (Br _)
theorem Inv.cne(I:Inv X pins σ H s):∀x c,X.env.cells.lookup x=some c->c≠X.env.locals:=λx c e z=>by
 obtain⟨v,o,ho,hd⟩:=I.cell x c e
 obtain⟨m,⟨o',es,ep,ho',hd',_⟩,_⟩:=I.loc
 rw[z,ho']at ho;cases ho;rw[hd']at hd;cases hd
theorem Inv.funs(I:Inv X pins σ H s):s.heap.FunFrames X.base X.outer:=by
 have all:∀(l:List Env),(∀b∈frs l,b∈X.fs)->X.s₀.heap.FunFrames X.base l->s.heap.FunFrames X.base l:=by
  intro l
  induction l with
  | nil=>intro _ _;trivial
  | cons env r ih=>
   intro hs hl
   obtain⟨hk,⟨L,o,hf,hn,ho,hd⟩,hr⟩:=hl
   have hL:L∈X.fs:=hs L (by unfold frs;rw[List.filterMap_cons,hf];exact V8)
   obtain⟨sl,e⟩:=I.base.slot L o ho (I.ok.frf L hL) hL λz=>I.ok.exfs L z hL
   exact⟨hk,⟨L,_,hf,hn,e,hd⟩,ih (λb hb=>hs b (by unfold frs;rw[List.filterMap_cons,hf];exact VJ _ hb)) hr⟩
 exact all X.outer (λ_ hb=>hb) I.ok.funs
theorem Inv.stack(I:Inv X pins σ H s):s.heap.FunFrames X.base X.stack:=by
 rcases I.ok.stk with e|⟨e,hf⟩
 ·rw[e];exact I.funs
 ·rw[e]
  obtain⟨m,hn,_⟩:=I.loc
  refine .cons (by rw[I.ok.kind];decide) hf hn ?_ I.funs
  exact Heap.get?_none_of_le (QF I.ok.bsz I.ok.above)
theorem Inv.stkSub(I:Inv X pins σ H s):∀b∈frs X.stack,b∈X.env.locals :: X.fs:=λb hb=>by
 rcases I.ok.stk with e|⟨e,hf⟩
 ·rw[e]at hb;exact VJ _ hb
 ·rw[e]at hb
  unfold frs at hb
  rw[List.filterMap_cons,hf]at hb
  exact hb
theorem Inv.stkFree(I:Inv X pins σ H s):∀b∈frs X.stack,H b=none:=λb hb=>by
 rcases Xl.mp (I.stkSub b hb)with e|hb
 ·rw[e];exact I.free
 ·obtain⟨_,o,ho,_⟩:=I.ok.funs.mem hb
  exact I.base.free b o ho (I.ok.frf b hb) λz=>I.ok.exfs b z hb
theorem Inv.step{g':Array GenState}{t':Nat}{d':Drawn}{ch:List Addr}(I:Inv X pins σ H s)
  (hch:∀b∈ch,(b∈X.ex∨X.s₀.heap.objs.size≤b)∧b≠X.env.locals∧(∀x c,X.env.cells.lookup x=some c->c≠b)∧∀p∈X.pn ++ pins,p.1≠b)
  (keep:∀b o,b≠X.env.locals->b∉X.fs->b∉ch->s.heap.get? b=some o->H b=none->h'.get? b=some o)
  (slot:∀b o,b≠X.env.locals->b∈X.fs->b∉ch->s.heap.get? b=some o->H b=none->∃sl,h'.get? b=some { o with slots:=sl }) (free:∀b o,b∉ch->s.heap.get? b=some o->H b=none->H' b=none)
  (there:∀b o,b∉ch->s.heap.get? b=some o->∃o',h'.get? b=some o')
  (tups:∀b xs,H b=some (.tup xs)->H' b=some (.tup xs)) (frzs:∀b o u,H b=some (.frz o u)->H' b=some (.frz o u)) (tbls:∀b ps,H b=some (.tbl ps)->∃more,H' b=some (.tbl (ps ++ more)))
  (ns:∀m,s.heap.Ns X.env.locals m->h'.Ns X.env.locals m) (hok:HOk X.prog X.w H' h') (hg:UL g') :
  Inv X pins σ H' { s with heap:=h',gens:=g',drawn:=d',toks:=t' }:=by
 have neL:∀b o,X.s₀.heap.get? b=some o->b≠X.env.locals:=λb o e=>Xn (X3 (Xv e) I.ok.above)
 have neC:∀b o,X.s₀.heap.get? b=some o->b∉X.ex->b∉ch:=λb o e hx hb=>by
  rcases(hch b hb).1 with z|z
  ·exact hx z
  ·exact absurd (X3 (Xv e) z) (Br _)
 have cellK:∀x c,X.env.cells.lookup x=some c->∀v,s.heap.IsCell c v->h'.IsCell c v:=λx c e v ⟨o,ho,hd⟩=>by
  have nch:c∉ch:=λz=>(hch c z).2.2.1 x c e rfl
  by_cases hc:c∈X.fs
  ·obtain⟨sl,q⟩:=slot c o (I.cne x c e) hc nch ho (I.freeC x c e)
   exact⟨_,q,hd⟩
  ·exact⟨o,keep c o (I.cne x c e) hc nch ho (I.freeC x c e),hd⟩
 refine⟨I.ok,I.os,hg,⟨λb o e n hb hx=>?_,λb o e n hb hx=>?_,λb o e n hx=>?_,λb o e hx=>?_,λb xs e=>tups b xs (I.base.tups b xs e),λb o xs e=>frzs b o xs (I.base.frzs b o xs e),λb ps e=>?_⟩,?_,λx c e=>?_,?_,λx c e=>?_,λp hp=>?_,hok,I.len⟩
 ·exact keep b o (neL b o e) hb (neC b o e hx) (I.base.keep b o e n hb hx) (I.base.free b o e n hx)
 ·obtain⟨sl,e1⟩:=I.base.slot b o e n hb hx
  obtain⟨sl',e2⟩:=slot b _ (neL b o e) hb (neC b o e hx) e1 (I.base.free b o e n hx)
  exact⟨sl',e2⟩
 ·obtain⟨o',e1⟩:=I.base.there b o e hx
  exact free b o' (neC b o e hx) e1 (I.base.free b o e n hx)
 ·obtain⟨o',e1⟩:=I.base.there b o e hx
  exact there b o' (neC b o e hx) e1
 ·obtain⟨m1,e1⟩:=I.base.tbls b ps e
  obtain⟨m2,e2⟩:=tbls b _ e1
  exact⟨m1 ++ m2,by rw[e2,Array.append_assoc]⟩
 ·obtain⟨m,hn,hl⟩:=I.loc
  refine⟨m,ns m hn,λi x v e1 e2 e3=>?_⟩
  obtain⟨u,r,l⟩:=hl i x v e1 e2 e3
  refine⟨u,r,?_⟩
  rcases l with l|⟨k,c,e,z⟩
  ·exact .inl l
  ·exact .inr ⟨k,c,e,cellK x c e _ z⟩
 ·obtain⟨v,z⟩:=I.cell x c e
  exact⟨v,cellK x c e v z⟩
 ·obtain⟨m,⟨o,_,_,ho,_⟩,_⟩:=I.loc
  exact free _ o (λz=>(hch _ z).2.1 rfl) ho I.free
 ·obtain⟨v,o,ho,hd⟩:=I.cell x c e
  exact free c o (λz=>(hch c z).2.2.1 x c e rfl) ho (I.freeC x c e)
 ·obtain⟨e,n,ne,nf,d⟩:=I.pin p hp
  have nch:p.1∉ch:=λz=>(hch p.1 z).2.2.2 p hp rfl
  exact⟨keep p.1 p.2 ne nf nch e n,free p.1 p.2 nch e n,ne,nf,d⟩
theorem Inv.un{t':Nat}(I:Inv X pins σ H s)(u:Un X.fs [] H H' s.heap h')(hok:HOk X.prog X.w H' h'):Inv X pins σ H' { s with heap:=h',toks:=t' }:=by
 obtain⟨m,⟨o,es,ep,ho,r⟩,_⟩:=id I.loc
 obtain⟨sl,hL⟩:=u.any ho I.free (by simp)
 exact I.step (g':=s.gens) (d':=s.drawn) (ch:=[]) (λ_ z=>nomatch z) (λb o _ hb _ e n=>u.keep b o e n hb (by simp)) (λb o _ hb _ e n=>u.slot b o e n hb (by simp)) (λb o _ e n=>u.free b o e n (by simp)) (λb o _ e=>u.there b o e (by simp)) u.tups u.frzs u.tbls (λm' hm=>by
  obtain⟨o',es',ep',ho',r'⟩:=hm
  rw[ho]at ho';cases ho'
  exact⟨_,es',ep',hL,r'⟩) hok I.bare
theorem Inv.call{g':Array GenState}{t':Nat}{d':Drawn}{ch:List Addr}(I:Inv X pins σ H s)(u:Un (frs X.stack) ch H H' s.heap h')(hok:HOk X.prog X.w H' h')(hg:UL g')
  (hch:∀b∈ch,(b∈X.ex∨X.s₀.heap.objs.size≤b)∧b≠X.env.locals∧(∀x c,X.env.cells.lookup x=some c->c≠b)∧∀p∈X.pn ++ pins,p.1≠b) :
  Inv X pins σ H' { s with heap:=h',gens:=g',drawn:=d',toks:=t' }:=by
 obtain⟨m,⟨o,es,ep,ho,r⟩,_⟩:=id I.loc
 obtain⟨sl,hL⟩:=u.any ho I.free λz=>(hch _ z).2.1 rfl
 exact I.step (ch:=ch) hch (λb o hL hb hc e n=>u.keep b o e n (λz=>(Xl.mp (I.stkSub b z)).elim hL hb) hc) (λb o _ _ hc e n=>u.any e n hc) (λb o hc e n=>u.free b o e n hc) (λb o hc e=>u.there b o e hc) u.tups u.frzs u.tbls (λm' hm=>by
  obtain⟨o',es',ep',ho',r'⟩:=hm
  rw[ho]at ho';cases ho'
  exact⟨_,es',ep',hL,r'⟩) hok hg
theorem Inv.turned{t':Nat}{it:Addr}(I:Inv X pins σ H s)(k:∀b o,b≠it->s.heap.get? b=some o->h'.get? b=some o)(hn:H it=none)(hL:it≠X.env.locals)
  (h1:it∈X.ex∨X.s₀.heap.objs.size≤it) (h2:∀x c,X.env.cells.lookup x=some c->c≠it) (h3:∀p∈X.pn ++ pins,p.1≠it):Inv X pins σ H { s with heap:=h',toks:=t' }:=by
 have nit:∀b u,H b=some u->b≠it:=λb u e z=>by rw[z,hn]at e;cases e
 refine I.step (g':=s.gens) (d':=s.drawn) (ch:=[it]) (λb hb=>?_) (λb o _ _ hc e _=>k b o (λz=>hc (by simp[z])) e) (λb o _ _ hc e _=>⟨o.slots,k b o (λz=>hc (by simp[z])) e⟩) (λ_ _ _ _ n=>n)
  (λb o hc e=>⟨o,k b o (λz=>hc (by simp[z])) e⟩) (λ_ _ e=>e) (λ_ _ _ e=>e) (λb ps e=>⟨#[],by rw[e];simp⟩) (λm hm=>?_) (λb u e=>?_) I.bare
 ·have e:b=it:=by simpa using hb
  subst e
  exact⟨h1,hL,h2,h3⟩
 ·obtain⟨o,es,ep,ho,r⟩:=hm
  exact⟨o,es,ep,k _ o (JM hL) ho,r⟩
 ·refine(I.hok b u e).stay (λc v hc q=>k c v ?_ q) (λ_ q=>q) λ_ _ q=>q
  rcases hc with z|z
  ·rw[z];exact nit b u e
  ·exact nit c _ z
theorem Inv.tok(I:Inv X pins σ H s)(t:Nat):Inv X pins σ H { s with toks:=t }:=I.un (h':=s.heap) (t':=t) Un.refl I.hok
theorem Inv.kept{t':Nat}(I:Inv X pins σ H s)(k:∀b u,s.heap.get? b=some u->h'.get? b=some u):Inv X pins σ H { s with heap:=h',toks:=t' }:=I.un (Un.kept k) (I.hok.kept k)
theorem Inv.laid{a:Addr}{o:HO}{t':Nat}(I:Inv X pins σ H s)(k:∀b u,s.heap.get? b=some u->h'.get? b=some u)(hp:s.heap.objs.size≤a)(new:ObjOk X.prog X.w (upd H a o) h' a o) :
  Inv X pins σ (upd H a o) { s with heap:=h',toks:=t' }:=I.un (Un.laid k hp (I.hok.fresh hp)) (I.hok.laid k hp new)
theorem Inv.write{x e:Addr}{o:HO}{t':Nat}(I:Inv X pins σ H s)(mu:Mut (H x))(he:e=x∨H e=some (.own x))(k:∀b u,b≠e->s.heap.get? b=some u->h'.get? b=some u)(heo:∃u,h'.get? e=some u)
  (new:ObjOk X.prog X.w (upd H x o) h' x o):Inv X pins σ (upd H x o) { s with heap:=h',toks:=t' }:=I.un (Un.write mu he k heo) (I.hok.write mu he k heo new)
theorem Inv.pins_of{pins':List (Addr×Obj)}(I:Inv X pins σ H s)(h:∀p∈pins',s.heap.get? p.1=some p.2∧H p.1=none∧p.1≠X.env.locals∧p.1∉X.fs∧∀v,p.2.data≠ .cell v):Inv X pins' σ H s :=
 ⟨I.ok,I.os,I.bare,I.base,I.loc,I.cell,I.free,I.freeC,λp hp=>(QC.mp hp).elim (λz=>I.pin p (Q9 _ z)) (h p),I.hok,I.len⟩
theorem Zkv{N:List Str}(hN:N.Nodup){i j:Nat}{x:Str}(a:N[i]? =some x)(b:N[j]? =some x):i=j:=by
 obtain⟨h1,e1⟩:=Xk.mp a
 obtain⟨h2,e2⟩:=Xk.mp b
 exact(List.getElem_inj hN).mp (e1.trans e2.symm)
theorem Zmk{M:Model}{A:Qk}{E:Xc->Xd->Prop}{i:Nat}{x:Str}{v:V}{u:Xc}{Q:Unit->Xd->Prop}(I:Inv X pins σ H s)(hN:X.N.Nodup)(hi:X.N[i]? =some x)(hx:Loc X.env.scope x)(r:RelV v u)
  (h:∀s',Inv X pins (σ.set i (some v)) H s'->(∃a,Vv a s.heap s'.heap∧(a=X.env.locals∨X.env.cells.lookup x=some a))->Q () s') (hf:X.fn x=true∨X.env.scope.names.lookup x=some .local:=by first|exact .inl rfl|exact .inr rfl|assumption):XX M A (storeName X.env x u) Q E s:=by
 obtain⟨m,hn,hl⟩:=id I.loc
 have hcls:(X.env.scope.kind== .class||(X.env.scope.kind== .module&&X.env.locals !=X.env.globals))=false:=by rw[I.ok.kind];rfl
 have hiσ:i<σ.length:=by rw[I.len];exact(Xk.mp hi).1
 have cne:=I.cne
 have tracked:∀{a:Addr} {h':Heap},(∃o,s.heap.get? a=some o∧H a=none)->Vv a s.heap h'->HOk X.prog X.w H h':=fun{a h'} ha hs b ob e=>by
  obtain⟨_,_,hfree⟩:=ha
  refine(I.hok b ob e).stay (λc w' hc q=>(hs.2 c ?_).trans q) (λ_ q=>q) λ_ _ q=>q
  rintro rfl
  rcases hc with rfl|hc
  ·rw[hfree]at e;cases e
  ·rw[hfree]at hc;cases hc
 rcases hx with hk|hk
 ·refine wpAny_storeName_local hk hn (λh' hn' hs=>?_) hcls
  obtain⟨oL,_,_,hoL,_⟩:=id hn
  refine h _ ⟨I.ok,I.os,I.bare,⟨λb o e n hb hx=>?_,λb o e n hb hx=>?_,I.base.free,λb o e hx=>?_,I.base.tups,I.base.frzs,I.base.tbls⟩,⟨_,hn',λj y v' e1 e2 e3=>?_⟩,λy c e=>?_,I.free,I.freeC,λp hp=>?_,tracked ⟨oL,hoL,I.free⟩ hs,by simpa using I.len⟩ ⟨_,hs,.inl rfl⟩
  ·exact(hs.2 b (Xn (X3 (Xv e) I.ok.above))).trans (I.base.keep b o e n hb hx)
  ·obtain⟨sl,e1⟩:=I.base.slot b o e n hb hx
   exact⟨sl,(hs.2 b (Xn (X3 (Xv e) I.ok.above))).trans e1⟩
  ·obtain⟨o',e1⟩:=I.base.there b o e hx
   exact⟨o',(hs.2 b (Xn (X3 (Xv e) I.ok.above))).trans e1⟩
  ·by_cases hj:j=i
   ·subst hj
    rw[hi]at e1;cases e1
    rw[Qi hiσ]at e2
    cases e2
    exact⟨u,r,.inl ⟨hk,by simp⟩⟩
   ·rw[X4 (JM hj)]at e2
    obtain⟨u',r',q⟩:=hl j y v' e1 e2 e3
    refine⟨u',r',?_⟩
    rcases q with⟨k,e⟩|⟨k,c,e,z⟩
    ·refine .inl ⟨k,?_⟩
     have:y≠x:=λe=>hj (Zkv hN e1 (e▸hi))
     simp[this,e]
    ·exact .inr ⟨k,c,e,z.sameBut hs (cne y c e)⟩
  ·obtain⟨w',z⟩:=I.cell y c e
   exact⟨w',z.sameBut hs (cne y c e)⟩
  ·obtain⟨e,n,ne,nf,d⟩:=I.pin p hp
   exact⟨(hs.2 p.1 ne).trans e,n,ne,nf,d⟩
 ·have hfn:X.fn x=true:=by
   rcases hf with z|z
   ·exact z
   ·rw[z]at hk;cases hk
  obtain⟨c,hc⟩:=I.ok.has x (.inl hk)
  obtain⟨w',z⟩:=I.cell x c hc
  refine wpAny_storeName_cell I.ok.kind hk hc z (λh' hc' hs=>?_)
  obtain⟨oc,hoc,hocd⟩:=id z
  refine h { s with heap:=h' } ⟨I.ok,I.os,I.bare,⟨λb o e n hb hx=>?_,λb o e n hb hx=>?_,I.base.free,λb o e hx=>?_,I.base.tups,I.base.frzs,I.base.tbls⟩,⟨m,hn.sameBut hs (JM (cne x c hc)),λj y v' e1 e2 e3=>?_⟩,λy c' e=>?_,I.free,I.freeC,λp hp=>?_,tracked ⟨oc,hoc,I.freeC x c hc⟩ hs,by simpa using I.len⟩ ⟨c,hs,.inr hc⟩
  ·exact(hs.2 b (Xn (X3 (Xv e) (I.ok.cab x c hfn hc)))).trans (I.base.keep b o e n hb hx)
  ·obtain⟨sl,e1⟩:=I.base.slot b o e n hb hx
   exact⟨sl,(hs.2 b (Xn (X3 (Xv e) (I.ok.cab x c hfn hc)))).trans e1⟩
  ·obtain⟨o',e1⟩:=I.base.there b o e hx
   exact⟨o',(hs.2 b (Xn (X3 (Xv e) (I.ok.cab x c hfn hc)))).trans e1⟩
  ·by_cases hj:j=i
   ·subst hj
    rw[hi]at e1;cases e1
    rw[Qi hiσ]at e2
    cases e2
    exact⟨u,r,.inr ⟨.inl hk,c,hc,hc'⟩⟩
   ·rw[X4 (JM hj)]at e2
    obtain⟨u',r',q⟩:=hl j y v' e1 e2 e3
    refine⟨u',r',?_⟩
    rcases q with q|⟨k,c',e,z'⟩
    ·exact .inl q
    ·refine .inr ⟨k,c',e,z'.sameBut hs ?_⟩
     rintro rfl
     exact hj (Zkv hN e1 (I.ok.inj _ _ _ e hc▸hi))
  ·by_cases hcc:c'=c
   ·subst hcc;exact⟨_,hc'⟩
   ·obtain⟨w2,z2⟩:=I.cell y c' e
    exact⟨w2,z2.sameBut hs hcc⟩
  ·obtain⟨e,n,ne,nf,d⟩:=I.pin p hp
   refine⟨(hs.2 p.1 ?_).trans e,n,ne,nf,d⟩
   intro q
   rw[q,hoc]at e
   have q':oc=p.2:=Qy e
   exact d w' (by rw[←q'];exact hocd)
theorem Zj4{M:Model}{A:Qk}{E:Xc->Xd->Prop}{i:Nat}{x:Str}{v:V}{u:Xc}{Q:Unit->Xd->Prop}(I:Inv X pins σ H s)(hN:X.N.Nodup)(hi:X.N[i]? =some x)(hx:Loc X.env.scope x)(r:RelV v u)
  (h:∀s',Inv X pins (σ.set i (some v)) H s'->Q () s') (hf:X.fn x=true∨X.env.scope.names.lookup x=some .local:=by first|exact .inl rfl|exact .inr rfl|assumption):XX M A (storeName X.env x u) Q E s :=
 Zmk I hN hi hx r (λs' I' _=>h s' I') hf
theorem Inv.call'{s':Xd}{ch:List Addr}(I:Inv X pins σ H s)(ho:s'.os=s.os)(u:Un (frs X.stack) ch H H' s.heap s'.heap)(hok:HOk X.prog X.w H' s'.heap)(hg:UL s'.gens)
  (hch:∀b∈ch,(b∈X.ex∨X.s₀.heap.objs.size≤b)∧b≠X.env.locals∧(∀x c,X.env.cells.lookup x=some c->c≠b)∧∀p∈X.pn ++ pins,p.1≠b):Inv X pins σ H' s':=by
 obtain⟨h',g',d',t',o'⟩:=s'
 have e:o'=s.os:=ho
 subst e
 exact I.call (g':=g') (t':=t') (d':=d') u hok hg hch
end
noncomputable abbrev XK:=Xc->Option Addr->Hp->Prop
noncomputable abbrev St:=List (Option V)
noncomputable abbrev VK:=V->Hp->Prop
noncomputable abbrev TE:=St->Hp->VK->Prop
noncomputable abbrev TT:=St->Hp->(Bool->Hp->Prop)->Prop
noncomputable abbrev TA:=St->Hp->(List V->Hp->Prop)->Prop
set_option genInjectivity false in
structure Ends where
 nx:St->Hp->Prop
 rt:VK
 bk:St->Hp->Prop:=λ_ _=>False
 ct:St->Hp->Prop:=λ_ _=>False
noncomputable abbrev TS:=Ends->St->Hp->Prop
noncomputable def EP(X:Cx)(pins:List (Addr×Obj))(σ:St)(Q:VK)(u:Xc)(s':Xd):Prop:=∃v H',Inv X pins σ H' s'∧RelV v u∧Q v H'
noncomputable def TP(X:Cx)(pins:List (Addr×Obj))(σ:St)(Q:Bool->Hp->Prop)(b:Bool)(s':Xd):Prop:=∃H',Inv X pins σ H' s'∧Q b H'
noncomputable def AP(X:Cx)(pins:List (Addr×Obj))(σ:St)(Q:List V->Hp->Prop)(us:List Xc)(s':Xd):Prop:=∃vs H',Inv X pins σ H' s'∧Vals vs us∧Q vs H'
noncomputable def SP(X:Cx)(pins:List (Addr×Obj))(D:Ends)(f:Flow)(s':Xd):Prop :=
 match f with
 | .next=>∃σ' H',Inv X pins σ' H' s'∧D.nx σ' H'
 | .brk=>∃σ' H',Inv X pins σ' H' s'∧D.bk σ' H'
 | .cont=>∃σ' H',Inv X pins σ' H' s'∧D.ct σ' H'
 | .ret u=>∃v σ' H',Inv X pins σ' H' s'∧RelV v u∧D.rt v H'
noncomputable def PE(X:Cx)(e:Expr)(t:TE):Prop :=
 ∀(pins:List (Addr×Obj)) (s:Xd) (σ:St) (H:Hp) (Q:VK),Inv X pins σ H s->t σ H Q->XX (X7 X.prog X.w) X.A (eval e X.env) (EP X pins σ Q) X.xe s
noncomputable def PT(X:Cx)(e:Expr)(t:TT):Prop :=
 ∀(pins:List (Addr×Obj)) (s:Xd) (σ:St) (H:Hp) (Q:Bool->Hp->Prop),Inv X pins σ H s->t σ H Q->XX (X7 X.prog X.w) X.A (isTrue e X.env (eval e X.env)) (TP X pins σ Q) X.xe s
noncomputable def PW(X:Cx)(e:Expr)(t:TT):Prop :=
 ∀(whole:Sem Xc) (pins:List (Addr×Obj)) (s:Xd) (σ:St) (H:Hp) (Q:Bool->Hp->Prop),Inv X pins σ H s->t σ H Q->XX (X7 X.prog X.w) X.A (isTrue e X.env whole) (TP X pins σ Q) X.xe s
theorem PW.pt{X:Cx}{e:Expr}{t:TT}(h:PW X e t):PT X e t:=h _
noncomputable def PA(X:Cx)(es:List Expr)(t:TA):Prop :=
 ∀(pos:Pos) (pins:List (Addr×Obj)) (s:Xd) (σ:St) (H:Hp) (Q:List V->Hp->Prop),Inv X pins σ H s->t σ H Q->XX (X7 X.prog X.w) X.A (spliced (Q6 pos (Xh es X.env))) (AP X pins σ Q) X.xe s
noncomputable def PS(X:Cx)(st:Stmt)(t:TS):Prop :=
 ∀(pins:List (Addr×Obj)) (s:Xd) (σ:St) (H:Hp) (D:Ends),Inv X pins σ H s->t D σ H->XX (X7 X.prog X.w) X.A (exec st X.env) (SP X pins D) X.xe s
noncomputable def PSs(X:Cx)(st:List Stmt)(t:TS):Prop :=
 ∀(pins:List (Addr×Obj)) (s:Xd) (σ:St) (H:Hp) (D:Ends),Inv X pins σ H s->t D σ H->XX (X7 X.prog X.w) X.A (execs st X.env) (SP X pins D) X.xe s
theorem thn{α:Type}{t:Sem α}{Q Q':α->Xd->Prop}{M:Model}{A:Qk}{E:Xc->Xd->Prop}{s:Xd}(h:XX M A t Q E s)(hQ:∀a s,Q a s->Q' a s):XX M A t Q' E s:=QD h hQ λ_ _ x=>x
section
variable {X:Cx}
noncomputable def Z8m(i:Nat):TE:=λσ H Q=>∃v,σ[i]? =some (some v)∧Q v H
noncomputable def tC(v:V):TE:=λ_ H Q=>Q v H
theorem Zxm{i:Nat}{x:Str}{pos:Pos}(hN:X.N[i]? =some x)(hv:Vis X.env.scope x)(hd:(x==("__debug__" : Str))=false:=by decide)(hcd:(x==("__classdict__" : Str))=false:=by decide):PE X (.Name x pos) (Z8m i):=by
 intro pins s σ H Q I h
 obtain⟨v,e,h⟩:=h
 obtain⟨m,hn,hl⟩:=I.loc
 obtain⟨u,r,l⟩:=hl i x v hN e hv
 have fin:EP X pins σ Q u s:=⟨v,H,I,r,h⟩
 rcases l with⟨hk,hm⟩|⟨hk,c,hc,hcell⟩
 ·exact wpAny_Name (wpAny_loadName_local I.ok.kind hk hn hm fin) hd
 ·rcases hk with hk|hk
  ·exact wpAny_Name (wpAny_loadName_cell I.ok.kind hk hc hcell fin) hd
  ·exact wpAny_Name (wpAny_loadName_free I.ok.kind hk hc hcell fin hcd) hd
theorem Z2p{i j pos}:PE X (.Constant (.int i) j pos) (tC (.int i)):=λ_ _ _ H _ I h=>wpAny_Constant_int ⟨.int i,H,I.tok _,⟨_,rfl⟩,h⟩
theorem Ya1{b j pos}:PE X (.Constant (.bool b) j pos) (tC (.bl b)):=λ_ _ _ H _ I h=>Constant_bool ⟨.bl b,H,I,rfl,h⟩
theorem Z6y{j pos}:PE X (.Constant .none j pos) (tC .non):=λ_ _ _ H _ I h=>Constant_none ⟨.non,H,I,rfl,h⟩
theorem Z7a{x j pos}:PE X (.Constant (.str x) j pos) (tC (.str x)):=λ_ _ _ H _ I h=>Calls.Constant_str ⟨.str x,H,I.tok _,⟨_,rfl⟩,h⟩
noncomputable def Gl(X:Cx)(x:Str):Prop:=X.env.kindOf x=some .globalImplicit
theorem Zfz{E:Xc->Xd->Prop}{pins:List (Addr×Obj)}{s:Xd}{σ:St}{H:Hp}{x:Str}{u:Xc}{pos:Pos}{Q:Xc->Xd->Prop}(I:Inv X pins σ H s)(hg:Gl X x)(hm:X.mg x=some u)(h:Q u s)
  (hd:(x==("__debug__" : Str))=false:=by decide):XX (X7 X.prog X.w) X.A (eval (.Name x pos) X.env) Q E s :=
 Calls.Name_function_global I.ok.kind hg (Calls.loadGlobal_global (by rw[I.ok.glob];exact I.mod.glob.keeps I.bk) hm h) hd
theorem Zg9{E:Xc->Xd->Prop}{pins:List (Addr×Obj)}{s:Xd}{σ:St}{H:Hp}{x:Str}{u:Xc}{pos:Pos}{Q:Xc->Xd->Prop}(I:Inv X pins σ H s)(hg:Gl X x)(hm:X.mg x=none)(hv:Qc x=some u)(h:Q u s)
  (hn:x≠"__name__" :=by decide) (hd:(x==("__debug__" : Str))=false:=by decide):XX (X7 X.prog X.w) X.A (eval (.Name x pos) X.env) Q E s:=by
 obtain⟨mb,h1,h2⟩:=I.mod.blt
 exact Calls.Name_function_global I.ok.kind hg (Calls.loadGlobal_builtin (by rw[I.ok.glob];exact I.mod.glob.keeps I.bk) hm (by rw[I.ok.blt];exact h1.keeps I.bk) ((h2 x hn).trans hv) h) hd
theorem Za5{x:Str}{v:V}{u:Xc}{pos:Pos}(hg:Gl X x)(hm:X.mg x=some u)(r:RelV v u)(hd:(x==("__debug__" : Str))=false:=by decide):PE X (.Name x pos) (tC v) :=
 λ_ _ _ H _ I h=>Zfz I hg hm ⟨v,H,I,r,h⟩ hd
theorem Zt0{x:Str}{v:V}{u:Xc}{pos:Pos}(hg:Gl X x)(hm:X.mg x=none)(hv:Qc x=some u)(r:RelV v u)(hn:x≠"__name__" :=by decide)(hd:(x==("__debug__" : Str))=false:=by decide):PE X (.Name x pos) (tC v) :=
 λ_ _ _ H _ I h=>Zg9 I hg hm hv ⟨v,H,I,r,h⟩ hn hd
noncomputable def t2I(ta tb:TE)(k:Int->Int->Hp->Prop):St->Hp->Prop:=λσ H=>ta σ H λx H1=>tb σ H1 λy H2=>∃i j,x= .int i∧y= .int j∧k i j H2
variable {a b:Expr}{ta tb:TE}{pos:Pos}
noncomputable def Z2a(p:Int->Int->Bool)(ta tb:TE):TE:=λσ H Q=>t2I ta tb (λi j H2=>Q (.bl (p i j)) H2) σ H
noncomputable abbrev tLt:TE->TE->TE:=Z2a λi j=>decide (i<j)
noncomputable abbrev tLe:TE->TE->TE:=Z2a λi j=>decide (i≤j)
noncomputable abbrev tGt:TE->TE->TE:=Z2a λi j=>decide (j<i)
noncomputable abbrev tGe:TE->TE->TE:=Z2a λi j=>decide (j≤i)
noncomputable abbrev Yfg:TE->TE->TE:=Z2a λi j=>decide (i=j)
noncomputable abbrev Yff:TE->TE->TE:=Z2a λi j=>!decide (i=j)
noncomputable def tB(t:TE):TT:=λσ H Q=>t σ H λx H1=>∃c,x= .bl c∧Q c H1
variable {tA tB':TT}{rest:List Expr}
noncomputable def Yey(t u:TT):TT:=λσ H Q=>t σ H λc H1=>if c=true then u σ H1 Q else Q false H1
noncomputable def tOr(t u:TT):TT:=λσ H Q=>t σ H λc H1=>if c=true then Q true H1 else u σ H1 Q
noncomputable def Yeq(t:TT):TT:=λσ H Q=>t σ H λc H1=>Q (!c) H1
theorem Zzs(ha:PT X a tA):PW X (.BoolOp .And [a] pos) tA:=by
 intro wh pins s σ H Q I h
 refine isTrue_and (thn (ha pins s σ H Q I h) λc s1 e=>?_)
 cases c with
 | true=>exact isTrue_and_nil e
 | false=>exact e
theorem Z4c(ha:PT X a tA):PW X (.BoolOp .Or [a] pos) tA:=by
 intro wh pins s σ H Q I h
 refine isTrue_or (thn (ha pins s σ H Q I h) λc s1 e=>?_)
 cases c with
 | false=>exact isTrue_or_nil e
 | true=>exact e
theorem Z2t(ha:PT X a tA)(hb:PW X (.BoolOp .And (b :: rest) pos) tB'):PW X (.BoolOp .And (a :: b :: rest) pos) (Yey tA tB'):=by
 intro wh pins s σ H Q I h
 refine isTrue_and (thn (ha pins s σ H _ I h) λc s1 qz9=>?_)
 obtain⟨H1,I1,q1⟩:=qz9
 cases c with
 | true=>exact hb wh pins s1 σ H1 Q I1 q1
 | false=>exact⟨H1,I1,q1⟩
theorem Z87(ha:PT X a tA)(hb:PW X (.BoolOp .Or (b :: rest) pos) tB'):PW X (.BoolOp .Or (a :: b :: rest) pos) (tOr tA tB'):=by
 intro wh pins s σ H Q I h
 refine isTrue_or (thn (ha pins s σ H _ I h) λc s1 qz9=>?_)
 obtain⟨H1,I1,q1⟩:=qz9
 cases c with
 | true=>exact⟨H1,I1,q1⟩
 | false=>exact hb wh pins s1 σ H1 Q I1 q1
theorem Z3l(ha:PT X a tA):PT X (.UnaryOp .Not a pos) (Yeq tA):=by
 intro pins s σ H Q I h
 exact isTrue_not (ha pins s σ H (λc H1=>Q (!c) H1) I h)
noncomputable def Z9h(ta tb:TE):TE:=λσ H Q=>ta σ H λx H1=>∃c,x= .bl c∧if c=true then tb σ H1 Q else Q (.bl false) H1
noncomputable def Yas(ta:TE):TE:=λσ H Q=>ta σ H λx H1=>∃c,x= .bl c∧Q (.bl (!c)) H1
theorem Z4n{op}{t:TE}(h:PE X a t):PE X (.BoolOp op [a] pos) t:=λpins s σ H Q I hw=>BoolOp_one (h pins s σ H Q I hw)
theorem Z39(ha:PE X a ta)(hb:PE X (.BoolOp .And (b :: rest) pos) tb):PE X (.BoolOp .And (a :: b :: rest) pos) (Z9h ta tb):=by
 intro pins s σ H Q I h
 refine BoolOp_and (thn (ha pins s σ H _ I h) λv s1 qz9=>?_)
 obtain⟨x,H1,I1,r1,q1⟩:=qz9
 obtain⟨c,rfl,q1⟩:=q1
 cases r1
 refine VF ?_
 cases c with
 | true=>exact hb pins s1 σ H1 Q I1 q1
 | false=>exact⟨.bl false,H1,I1,rfl,q1⟩
theorem Z3t(ha:PE X a ta):PE X (.UnaryOp .Not a pos) (Yas ta):=by
 intro pins s σ H Q I h
 refine UnaryOp_ (thn (ha pins s σ H _ I h) λv s1 qz9=>?_)
 obtain⟨x,H1,I1,r1,q1⟩:=qz9
 obtain⟨c,rfl,q1⟩:=q1
 cases r1
 exact not_of (VF ⟨.bl (!c),H1,I1,rfl,q1⟩)
noncomputable def tIf(t:TT)(ta tb:TE):TE:=λσ H Q=>t σ H λc H1=>if c=true then ta σ H1 Q else tb σ H1 Q
theorem Zvr{c:Expr}(hc:PT X c tA)(ha:PE X a ta)(hb:PE X b tb):PE X (.IfExp c a b pos) (tIf tA ta tb):=by
 intro pins s σ H Q I h
 refine wpAny_IfExp (thn (hc pins s σ H _ I h) λd s1 qz9=>?_)
 obtain⟨H1,I1,q1⟩:=qz9
 cases d with
 | true=>exact ha pins s1 σ H1 Q I1 q1
 | false=>exact hb pins s1 σ H1 Q I1 q1
end
noncomputable def SqL(K:Xb)(H:Hp)(a:Addr)(xs:List V):Prop :=
 Rd H a (.lst xs)∨
  ∃(o:Obj) (its:Array Xc) (n:Nat),K.lookup a=some o∧o.cls= .type "list"∧o.dict=none∧o.data= .seq its n∧its.size≤Xq∧Vals xs its.toList
noncomputable def SqT(K:Xb)(H:Hp)(a:Addr)(xs:List V):Prop :=
 Rd H a (.tup xs)∨
  ∃(o:Obj) (its:Array Xc) (n:Nat),K.lookup a=some o∧o.cls= .type "tuple"∧o.data= .seq its n∧its.size≤Xq∧Vals xs its.toList
noncomputable def Ydy:Xc->Option V
 | .none=>some .non
 | .bool b=>some (.bl b)
 | .int i _=>some (.int i)
 | .str x _=>some (.str x)
 | .bytes b _=>some (.byt b)
 | .float b _=>some (.flt b)
 | .ref a=>some (.ref a)
 | .type n=>some (.ty n)
 | _=>none
theorem RelV.abs{x:V}{u:Xc}(r:RelV x u):Ydy u=some x:=by
 cases x with
 | non=>cases r;rfl
 | bl _=>cases r;rfl
 | int _=>obtain⟨t,rfl⟩:=r;rfl
 | str _=>obtain⟨t,rfl⟩:=r;rfl
 | byt _=>obtain⟨t,rfl⟩:=r;rfl
 | flt _=>obtain⟨t,rfl⟩:=r;rfl
 | ref _=>cases r;rfl
 | ty _=>cases r;rfl
theorem RelV.inj{x y:V}{u:Xc}(r:RelV x u)(q:RelV y u):x=y:=Qy (r.abs.symm.trans q.abs)
theorem Vals.inj{xs ys:List V}{us:List Xc}(h:Vals xs us)(k:Vals ys us):xs=ys:=by
 induction h generalizing ys with
 | nil=>cases k;rfl
 | cons r t ih=>
  cases k with
  | cons r' t'=>rw[r.inj r',ih t']
section
variable {X:Cx}{pins:List (Addr×Obj)}{σ:St}{H:Hp}{s:Xd}{a:Addr}{xs ys:List V}
theorem Inv.list(I:Inv X pins σ H s)(h:SqL X.K H a xs):∃its:List Xc,Vals xs its∧PlainL s.heap a its.toArray∧xs.length≤Xq:=by
 rcases h with h|⟨o,its,n,hk,hc,hd,hs,hz,r⟩
 ·obtain⟨z,its,n,r,e⟩:=h.ok I.hok
  exact⟨its,r,⟨_,n,e,rfl,rfl,rfl⟩,z⟩
 ·refine⟨its.toList,r,⟨o,n,I.kIn a o hk,hc,hd,by simpa using hs⟩,?_⟩
  have e:=r.length
  simp only[Array.length_toList]at e
  omega
theorem Inv.tuple(I:Inv X pins σ H s)(h:SqT X.K H a xs):∃its:List Xc,Vals xs its∧IsTup s.heap a its.toArray∧xs.length≤Xq:=by
 rcases h with h|⟨o,its,n,hk,hc,hs,hz,r⟩
 ·obtain⟨z,its,r,p⟩:=h.ok I.hok
  exact⟨its,r,p,z⟩
 ·refine⟨its.toList,r,⟨o,I.kIn a o hk,hc,n,by simpa using hs⟩,?_⟩
  have e:=r.length
  simp only[Array.length_toList]at e
  omega
theorem Inv.list_inj(I:Inv X pins σ H s)(h:SqL X.K H a xs)(h':SqL X.K H a ys):xs=ys:=by
 obtain⟨its,r,⟨o,n,e,_,_,d⟩,_⟩:=I.list h
 obtain⟨its',r',⟨o',n',e',_,_,d'⟩,_⟩:=I.list h'
 rw[e]at e';cases e'
 rw[d]at d'
 injection d' with d1 _
 have:its=its':=by simpa using congrArg Array.toList d1
 subst this
 exact r.inj r'
end
noncomputable abbrev Cx.wish(X:Cx)(E:Xc->Xd->Prop):Cx:={ X with xe:=E }
noncomputable abbrev Cx.nox(X:Cx):Cx:=X.wish λ_ _=>False
theorem Cx.Ok.wish{X:Cx}(ok:X.Ok)(E:Xc->Xd->Prop):(X.wish E).Ok :=
 ⟨ok.mod,ok.kind,ok.glob,ok.blt,ok.above,ok.inj,ok.has,ok.cab,ok.hd,ok.frames,ok.stk,ok.exf,ok.bs,ok.bsz,ok.noex,ok.exfs,ok.funs,ok.frf⟩
theorem Cx.Ok.unwish{X:Cx}{E:Xc->Xd->Prop}(ok:(X.wish E).Ok):X.Ok :=
 ⟨ok.mod,ok.kind,ok.glob,ok.blt,ok.above,ok.inj,ok.has,ok.cab,ok.hd,ok.frames,ok.stk,ok.exf,ok.bs,ok.bsz,ok.noex,ok.exfs,ok.funs,ok.frf⟩
section
variable {X:Cx}{pins:List (Addr×Obj)}{σ:St}{H:Hp}{s:Xd}{E:Xc->Xd->Prop}
theorem Inv.wish(I:Inv X pins σ H s)(E:Xc->Xd->Prop):Inv (X.wish E) pins σ H s:=⟨I.ok.wish E,I.os,I.bare,I.base,I.loc,I.cell,I.free,I.freeC,I.pin,I.hok,I.len⟩
theorem Inv.unwish(I:Inv (X.wish E) pins σ H s):Inv X pins σ H s:=⟨I.ok.unwish,I.os,I.bare,I.base,I.loc,I.cell,I.free,I.freeC,I.pin,I.hok,I.len⟩
theorem SP.unwish{D:Ends}{f:Flow}{s':Xd}(h:SP (X.wish E) pins D f s'):SP X pins D f s':=by
 cases f with
 | next=>obtain⟨σ',H',I,q⟩:=h;exact⟨σ',H',I.unwish,q⟩
 | brk=>obtain⟨σ',H',I,q⟩:=h;exact⟨σ',H',I.unwish,q⟩
 | cont=>obtain⟨σ',H',I,q⟩:=h;exact⟨σ',H',I.unwish,q⟩
 | ret u=>obtain⟨v,σ',H',I,r,q⟩:=h;exact⟨v,σ',H',I.unwish,r,q⟩
theorem PSs.nox{st:List Stmt}{t:TS}(h:PSs X.nox st t):PSs X st t:=λpins s σ H D I hw=>
 QD (h pins s σ H D (I.wish _) hw) (λ_ _ q=>q.unwish) λ_ _ z=>Bj z
end
section
variable {X:Cx}{st:Stmt}{rest:List Stmt}{t u:TS}{e:Expr}{te:TE}{pos:Pos}
noncomputable def Ybh:TS:=λD σ H=>D.nx σ H
noncomputable def Ye1(t u:TS):TS:=λD σ H=>t { D with nx:=u D } σ H
theorem Zzj:PSs X [] Ybh:=λ_ _ σ H _ I h=>Uc ⟨σ,H,I,h⟩
theorem Zvn(h1:PS X st t)(h2:PSs X rest u):PSs X (st :: rest) (Ye1 t u):=by
 intro pins s σ H D I h
 refine wpAny_execs_cons (thn (h1 pins s σ H { D with nx:=u D } I h) λf s1 q=>?_)
 cases f with
 | next=>
  obtain⟨σ',H',I',q⟩:=q
  exact h2 pins s1 σ' H' D I' q
 | ret v=>exact q
 | brk=>exact q
 | cont=>exact q
theorem Z1q(h1:PS X st t):PSs X [st] t:=by
 intro pins s σ H D I h
 refine wpAny_execs_cons (thn (h1 pins s σ H D I h) λf s1 q=>?_)
 cases f with
 | next=>exact Uc q
 | ret v=>exact q
 | brk=>exact q
 | cont=>exact q
theorem Inv.quiet{pins:List (Addr×Obj)}{σ:St}{H:Hp}{s:Xd}(I:Inv X pins σ H s):interactive X.env=false:=by simp[interactive,I.ok.kind]
noncomputable def Z9s(te:TE):TS:=λD σ H=>te σ H λ_ H1=>D.nx σ H1
theorem Ztt(he:PE X e te)(hs:Ve e none pos.line X.env=pure false:=by rfl):PS X (.Expr e pos) (Z9s te):=by
 intro pins s σ H D I h
 refine wpAny_Expr_any (thn (he pins s σ H _ I h) λv s1 qz9=>?_) I.quiet hs
 obtain⟨x,H1,I1,r1,q1⟩:=qz9
 exact⟨σ,H1,I1,q1⟩
noncomputable def Yd9(te:TE):TS:=λD σ H=>te σ H D.rt
theorem Zw6(he:PE X e te):PS X (.Return (some e) pos) (Yd9 te):=by
 intro pins s σ H D I h
 refine wpAny_Return_some (thn (he pins s σ H _ I h) λv s1 qz9=>?_)
 obtain⟨x,H1,I1,r1,q1⟩:=qz9
 exact⟨x,σ,H1,I1,r1,q1⟩
noncomputable def Yez(c:TT)(t u:TS):TS:=λD σ H=>c σ H λb H1=>if b=true then t D σ H1 else u D σ H1
theorem Yao{c:Expr}{a b:List Stmt}{tc:TT}(hc:PT X c tc)(ha:PSs X a t)(hb:PSs X b u):PS X (.If c a b pos) (Yez tc t u):=by
 intro pins s σ H D I h
 refine wpAny_If (thn (hc pins s σ H _ I h) λd s1 qz9=>?_)
 obtain⟨H1,I1,q1⟩:=qz9
 cases d with
 | true=>exact ha pins s1 σ H1 D I1 q1
 | false=>exact hb pins s1 σ H1 D I1 q1
noncomputable def Z5e:TS:=λ_ _ _=>False
theorem Zwl:PS X st Z5e:=λ_ _ _ _ _ _ h=>h.elim
end
noncomputable abbrev TG:=V->St->Hp->(St->Hp->Prop)->Prop
noncomputable abbrev TGs:=List V->St->Hp->(St->Hp->Prop)->Prop
noncomputable def PG(X:Cx)(target:Expr)(t:TG):Prop :=
 ∀(pins:List (Addr×Obj)) (s:Xd) (σ:St) (H:Hp) (v:V) (u:Xc) (Q:St->Hp->Prop),Inv X pins σ H s->RelV v u->t v σ H Q ->
  XX (X7 X.prog X.w) X.A (Vx target X.env u) (λ_ s'=>∃σ' H',Inv X pins σ' H' s'∧Q σ' H') X.xe s
noncomputable def PGs(X:Cx)(ts:List Expr)(t:TGs):Prop :=
 ∀(pins:List (Addr×Obj)) (s:Xd) (σ:St) (H:Hp) (vs:List V) (us:List Xc) (Q:St->Hp->Prop),Inv X pins σ H s->Vals vs us->t vs σ H Q ->
  XX (X7 X.prog X.w) X.A (assignInOrder ((QT ts X.env).map (·.2)) us) (λ_ s'=>∃σ' H',Inv X pins σ' H' s'∧Q σ' H') X.xe s
noncomputable abbrev Z85:=V->V->V->Hp->(Hp->Prop)->Prop
noncomputable def Ydl(X:Cx)(t:Z85):Prop :=
 ∀(pins:List (Addr×Obj)) (s:Xd) (σ:St) (H:Hp) (o i v:V) (ov iv u:Xc) (Q:Hp->Prop),Inv X pins σ H s->RelV o ov->RelV i iv->RelV v u->t o i v H Q ->
  XX (X7 X.prog X.w) X.A (setItem ov iv u) (λ_ s'=>∃H',Inv X pins σ H' s'∧Q H') X.xe s
noncomputable abbrev TIp:=V->V->Hp->VK->Prop
section
variable {X:Cx}{pos:Pos}
noncomputable def Zsm(i:Nat):TG:=λv σ H Q=>Q (σ.set i (some v)) H
theorem Zqt{i:Nat}{x:Str}(hN:X.N.Nodup)(hi:X.N[i]? =some x)(hx:Loc X.env.scope x)(hf:X.fn x=true∨X.env.scope.names.lookup x=some .local:=by first|exact .inl rfl|exact .inr rfl|assumption):PG X (.Name x pos) (Zsm i):=by
 intro pins s σ H v u Q I r h
 exact wpAny_assign_Name (Zj4 I hN hi hx r (λs' I'=>⟨_,H,I',h⟩) hf)
noncomputable def Ye5:TGs:=λvs σ H Q=>vs=[]∧Q σ H
noncomputable def Ya5(t:TG)(u:TGs):TGs:=λvs σ H Q=>∃v r,vs=v :: r∧t v σ H λσ' H'=>u r σ' H' Q
theorem Z0n:PGs X [] Ye5:=by
 intro pins s σ H vs us Q I r h
 obtain⟨e,h⟩:=h
 subst e
 cases r
 exact assignInOrder_nil ⟨σ,H,I,h⟩
theorem Zo3{e:Expr}{es:List Expr}{t:TG}{u:TGs}(h1:PG X e t)(h2:PGs X es u)
  (hs:(QT (e :: es) X.env).map (·.2)=Vx e X.env :: (QT es X.env).map (·.2):=by rfl):PGs X (e :: es) (Ya5 t u):=by
 intro pins s σ H vs us Q I r h
 obtain⟨v,vr,e1,h⟩:=h
 subst e1
 cases r with
 | cons r rr=>
  rw[hs]
  refine assignInOrder_cons (thn (h1 pins s σ H _ _ _ I r h) λ_ s1 qz9=>?_)
  obtain⟨σ1,H1,I1,q1⟩:=qz9
  exact h2 pins s1 σ1 H1 _ _ Q I1 rr q1
noncomputable def Yfb(K:Xb)(n:Nat)(t:TGs):TG:=λv σ H Q=>∃a xs,v= .ref a∧SqT K H a xs∧xs.length=n∧t xs σ H Q
theorem Z37{es:List Expr}{k:Nat}{t:TGs}{n:Nat}(hc:X.calm=true)(h:PGs X es t)
  (hn:(QT es X.env).length=n:=by rfl) (hst:(QT es X.env).findIdx? (·.1)=none:=by rfl):PG X (.Tuple es k pos) (Yfb X.K n t):=by
 intro pins s σ H v u Q I r hw
 obtain⟨a,xs,e1,hq,hl,hw⟩:=hw
 subst e1
 cases r
 obtain⟨its,rv,ht,hz⟩:=I.tuple hq
 refine assign_Tuple_tuple (I.ok.hd hc) ht (by simp[hn,←hl,rv.length]) hst λh' hx=>?_
 have I1:Inv X pins σ H { s with heap:=h' }:=I.kept (t':=s.toks) λb o e=>hx b o (Xn (Xv e)) e
 exact h pins _ σ H xs _ Q I1 (by simpa using rv) hw
noncomputable def Z8c(to ti:TE)(t:Z85):TG:=λv σ H Q=>to σ H λo H1=>ti σ H1 λi H2=>t o i v H2 λH3=>Q σ H3
theorem Zt8{o i:Expr}{to ti:TE}{t:Z85}(ho:PE X o to)(hi:PE X i ti)(hs:Ydl X t)
  (ha:∀v,Vx (.Subscript o i pos) X.env v=(do
   let ov←holding [v] (eval o X.env)
   let iv←holding [v,ov] (eval i X.env)
   standAt pos
   holding [v,ov,iv] (setItem ov iv v)
   release [v,ov,iv] []):=by intro _;rfl):PG X (.Subscript o i pos) (Z8c to ti t):=by
 intro pins s σ H v u Q I r h
 rw[ha]
 refine Xe (UT (thn (ho pins s σ H _ I h) λov s1 qz9=>?_))
 obtain⟨x,H1,I1,r1,q1⟩:=qz9
 refine Xe (UT (thn (hi pins s1 σ H1 _ I1 q1) λiv s2 qz9=>?_))
 obtain⟨y,H2,I2,r2,q2⟩:=qz9
 refine Xe (wpAny_standAt (Xe (UT (thn (hs pins s2 σ H2 x y v ov iv u _ I2 r1 r2 r q2) λ_ s3 qz9=>?_))))
 obtain⟨H3,I3,q3⟩:=qz9
 exact wpAny_release ⟨σ,H3,I3,q3⟩
noncomputable def Z6f(te:TE)(g:TG):TS:=λD σ H=>te σ H λx H1=>g x σ H1 D.nx
theorem Zqm{tg e:Expr}{te:TE}{g:TG}(he:PE X e te)(hg:PG X tg g)(hs:swapsWithSole [tg] e pos.line X.env=pure false:=by rfl)(hw:swappedStores [tg] e X.env=pure none:=by rfl)
  (h1:(QT [tg] X.env).map (·.2)=[Vx tg X.env]:=by rfl):PS X (.Assign [tg] e pos) (Z6f te g):=by
 intro pins s σ H D I h
 refine wpAny_Assign_stores (thn (he pins s σ H _ I h) λv s1 qz9=>?_) hs hw
 obtain⟨x,H1,I1,r1,q1⟩:=qz9
 rw[h1]
 exact thn (hg pins s1 σ H1 x v _ I1 r1 q1) λ_ s2 q=>q
theorem Zxx{i:Nat}{x:Str}{e:Expr}{te:TE}{pos':Pos}(hN:X.N.Nodup)(hi:X.N[i]? =some x)(hx:Loc X.env.scope x)(he:PE X e te)(hs:Ve e (some (.Name x pos')) pos.line X.env=pure false:=by rfl)(hf:X.fn x=true∨X.env.scope.names.lookup x=some .local:=by first|exact .inl rfl|exact .inr rfl|assumption) :
  PS X (.Assign [.Name x pos'] e pos) (Z6f te (Zsm i)):=by
 intro pins s σ H D I h
 refine wpAny_Assign_Name (thn (he pins s σ H _ I h) λv s1 qz9=>?_) hs
 obtain⟨y,H1,I1,r1,q1⟩:=qz9
 exact Zj4 I1 hN hi hx r1 (λs2 I2=>⟨_,H1,I2,q1⟩) hf
end
section
variable {X:Cx}{pos:Pos}
noncomputable def Z6i(c:TT)(tb:TS):TS:=λD σ H=>∃W:Nat->St->Hp->Prop,(∃m,W m σ H)∧∀m σ H,W m σ H ->
 c σ H λb H1=>if b=true then∃N:St->Hp->Prop,(∀σ' H',N σ' H'->∃m',m'<m∧W m' σ' H')∧tb { D with nx:=N,ct:=N,bk:=D.nx } σ H1 else D.nx σ H1
theorem Zvf{c:Expr}{body:List Stmt}{tc:TT}{tb:TS}(hp:PassesOwn (X7 X.prog X.w) X.A X.env X.xe)(hc:PT X c tc)(hb:PSs X body tb):PS X (.While c body [] pos) (Z6i tc tb):=by
 intro pins s σ H D I h
 obtain⟨W,⟨m0,w0⟩,turn⟩:=h
 refine wpAny_While (codeAny_whileLoop (λn s'=>∃σ' H',Inv X pins σ' H' s'∧W n σ' H') ?_ m0 ⟨σ,H,I,w0⟩)
 rintro n s1 ⟨σ1,H1,I1,w1⟩
 refine Vc hp (thn (hc pins s1 σ1 H1 _ I1 (turn n σ1 H1 w1)) λb s2 qz9=>?_)
 obtain⟨H2,I2,q2⟩:=qz9
 cases b with
 | true=>
  obtain⟨N,hN,q2⟩:=q2
  rw[if_pos rfl]
  refine Vc hp (thn (hb pins s2 σ1 H2 _ I2 q2) λf s3 q3=>?_)
  cases f with
  | next=>
   obtain⟨σ3,H3,I3,n3⟩:=q3
   obtain⟨m',hm,w3⟩:=hN σ3 H3 n3
   exact⟨m',hm,σ3,H3,I3,w3⟩
  | cont=>
   obtain⟨σ3,H3,I3,n3⟩:=q3
   obtain⟨m',hm,w3⟩:=hN σ3 H3 n3
   exact⟨m',hm,σ3,H3,I3,w3⟩
  | brk=>exact q3
  | ret v=>exact q3
 | false=>
  rw[if_neg Xx]
  exact Uc ⟨σ1,H2,I2,q2⟩
end
set_option genInjectivity false in
structure It where
 go:Nat->Hp->Prop
 yld:Nat->Hp->V->Hp->Prop
 stop:Nat->Hp->Prop
noncomputable def Zjz(X:Cx)(pins:List (Addr×Obj))(H:Hp)(b:Addr):Prop :=
 H b=none∧b≠X.env.locals∧b∉X.fs∧(b∈X.ex∨X.s₀.heap.objs.size≤b)∧(∀x c,X.env.cells.lookup x=some c->c≠b)∧∀p∈X.pn ++ pins,p.1≠b
theorem Inv.fpOk{X:Cx}{pins:List (Addr×Obj)}{σ:St}{H H':Hp}{s:Xd}{b:Addr}(I:Inv X pins σ H s)(hb:s.heap.objs.size≤b)(hn:H' b=none):Zjz X pins H' b:=by
 refine⟨hn,XM (X3 I.lt hb),I.nofs hb,.inr (QF I.sz hb),λx c e z=>?_,λp hp z=>?_⟩
 ·obtain⟨v,q⟩:=I.cell x c e
  exact absurd (X3 q.lt (by rw[z];exact hb)) (Br _)
 ·exact absurd (X3 (Xv (I.pin p hp).1) (by rw[z];exact hb)) (Br _)
structure Turn(P:X6)(w:Qt)(K:Xb)(tg:Expr)(J:It)(fp:List Addr)(it:Addr)(tn:Nat->Heap->Prop):Prop where
 mem:it∈fp
 obj:∀i h,tn i h->∀b∈fp,∃o,h.get? b=some o∧∀v,o.data≠ .cell v
 keep:∀i h h',tn i h->(∀b∈fp,∀o,h.get? b=some o->h'.get? b=some o)->tn i h'
 item:∀(X:Cx),X.prog=P->X.w=w->X.K=K->X.calm=true->∀(i:Nat) (pins:List (Addr×Obj)) (s:Xd) (σ:St) (H:Hp) (E:Xc->Xd->Prop),Inv X pins σ H s->(∀b∈fp,Zjz X pins H b)->tn i s.heap->J.go i H ->
  XX (X7 P w) X.A (pyNext (.ref it)) (λr s1=>∃u,r=some u∧
   XX (X7 P w) X.A (Ue tg (.ref it) u) (λ_ s2=>∃x H',Inv X pins σ H' s2∧RelV x u∧J.yld i H x H'∧tn (i+1) s2.heap∧∀b∈fp,H' b=none) E s1) E s
 done:∀(X:Cx),X.prog=P->X.w=w->X.K=K->X.calm=true->∀(i:Nat) (pins:List (Addr×Obj)) (s:Xd) (σ:St) (H:Hp) (E:Xc->Xd->Prop),Inv X pins σ H s->(∀b∈fp,Zjz X pins H b)->tn i s.heap->J.stop i H ->
  XX (X7 P w) X.A (pyNext (.ref it)) (λr s1=>r=none∧Inv X pins σ H s1) E s
 self:∀(A:Qk) (i:Nat) (s:Xd) (Q:Xc->Xd->Prop) (E:Xc->Xd->Prop),tn i s.heap->Q (.ref it) s->XX (X7 P w) A (pyIter (.ref it)) Q E s
noncomputable abbrev TI:=St->Hp->(It->Hp->Prop)->Prop
noncomputable def PIE(X:Cx)(pins:List (Addr×Obj))(σ:St)(tg:Expr)(R:It->Hp->Prop)(itv:Xc)(s2:Xd):Prop :=
 ∃(it:Addr) (fp:List Addr) (tn:Nat->Heap->Prop) (J:It) (H':Hp),itv= .ref it∧Inv X pins σ H' s2∧Turn X.prog X.w X.K tg J fp it tn∧tn 0 s2.heap∧(∀b∈fp,Zjz X pins H' b)∧R J H'
noncomputable def PI(X:Cx)(tg iter:Expr)(wi:TI):Prop :=
 ∀(pins:List (Addr×Obj)) (s:Xd) (σ:St) (H:Hp) (R:It->Hp->Prop),Inv X pins σ H s->wi σ H R ->
  XX (X7 X.prog X.w) X.A (eval iter X.env) (λv s1=>XX (X7 X.prog X.w) X.A (pyIter v) (PIE X pins σ tg R) X.xe s1) X.xe s
theorem Z59{M:Model}{A:Qk}{E:Xc->Xd->Prop}{s:Xd}{tg:Expr}{it:Addr}{u:Xc}{o:Obj}{n:String}{vs:Array Xc}{Q:Unit->Xd->Prop}(ho:s.heap.get? it=some o)(hc:o.cls= .type n)(hd:o.data= .fields vs)
  (hn:["enumerate","zip","dict_itemiterator","dict_reverseitemiterator","odict_iterator","itertools.zip_longest","itertools.pairwise"].contains n=false) (hQ:Q () s):XX M A (Ue tg (.ref it) u) Q E s:=by
 unfold Ue
 cases tg<;>first
  | exact X8 hQ
  | (cases u<;>first
    | exact X8 hQ
    | (refine Xe (wpAny_load ho ?_)
       rw[hc,hd]
       show XX M A (if(["enumerate","zip","dict_itemiterator","dict_reverseitemiterator","odict_iterator","itertools.zip_longest","itertools.pairwise"].contains n&&vs[0]? ==some (UV _))=true then _ else _) Q E s
       rw[if_neg (by intro h;rw[hn,Bool.false_and]at h;cases h)]
       exact X8 hQ))
noncomputable def Itl(K:Xb)(a:Addr):It :=
 ⟨λi H=>∃xs x,SqL K H a xs∧xs[i]? =some x,λi H x H'=>H'=H∧∀xs,SqL K H a xs->xs[i]? =some x,λi H=>∃xs,SqL K H a xs∧xs.length≤i⟩
noncomputable def Itr(lo:Int)(n:Nat):It:=⟨λi _=>i<n,λi H x H'=>H'=H∧x= .int (lo+i),λi _=>n≤i⟩
theorem Zr9{P:X6}{w:Qt}{K:Xb}{tg:Expr}(a it:Addr):Turn P w K tg (Itl K a) [it] it (λi h=>h.IsListIter it a i) where
 mem:=by simp
 obj:=λi h st b hb=>by
  have e:b=it:=by simpa using hb
  subst e
  obtain⟨o,e,c,d⟩:=st
  exact⟨o,e,λv z=>by rw[d]at z;cases z⟩
 keep:=λi h h' st k=>st.at λo e=>k it (by simp) o e
 item:=by
  intro X hP hw hK hc i pins s σ H E I hf st hg
  subst hP hw hK
  obtain⟨xs,x,hq,hx⟩:=hg
  obtain⟨its,rv,p,hz⟩:=I.list hq
  obtain⟨u,hu,ru⟩:=rv.get hx
  obtain⟨f0,f1,f2,f3,f4,f5⟩:=hf it (by simp)
  refine wpAny_pyNext_list_item st p.isList (x:=u) (by simpa using hu) λh' st' sb=>?_
  have I1:Inv X pins σ H { s with heap:=h' }:=I.turned (t':=s.toks) (λb o hb e=>(sb.2 b hb).trans e) f0 f1 f3 f4 f5
  obtain⟨o,e,c,d⟩:=id st'
  exact⟨u,rfl,Z59 (s:={ s with heap:=h' }) e c d (by decide) ⟨x,H,I1,ru,⟨rfl,λys hy=>by rw[I.list_inj hy hq];exact hx⟩,st',λb hb=>(hf b hb).1⟩⟩
 done:=by
  intro X hP hw hK hc i pins s σ H E I hf st hg
  subst hP hw hK
  obtain⟨xs,hq,hx⟩:=hg
  obtain⟨its,rv,p,hz⟩:=I.list hq
  obtain⟨f0,f1,f2,f3,f4,f5⟩:=hf it (by simp)
  have hl:=rv.length
  exact wpAny_pyNext_list_end (I.ok.hd hc) st p.isList (by simp;omega) λh' eb=>⟨rfl,I.turned (t':=s.toks) (λb o hb e=>eb b o hb e) f0 f1 f3 f4 f5⟩
 self:=λ_ _ _ _ _ st h=>wpAny_pyIter_listiter st h
theorem Zpi{P:X6}{w:Qt}{K:Xb}{tg:Expr}(it:Addr)(lo:Int)(n:Nat):Turn P w K tg (Itr lo n) [it] it (λi h=>IsRangeIter h it (lo+(i:Nat)*1) ((n:Int)-(i:Nat)) 1) where
 mem:=by simp
 obj:=λi h st b hb=>by
  have e:b=it:=by simpa using hb
  subst e
  exact⟨_,st,λv z=>by
   have z':Data.fields _=Data.cell v:=z
   cases z'⟩
 keep:=λi h h' st k=>k it (by simp) _ st
 item:=by
  intro X hP hw hK hc i pins s σ H E I hf st hg
  subst hP hw hK
  obtain⟨f0,f1,f2,f3,f4,f5⟩:=hf it (by simp)
  have W:=Walks.range (prog:=X.prog) (w:=X.w) (I.ok.hd hc) it lo 1 n
  refine W.item i s _ _ hg st λv h' tk hv st' kk=>?_
  obtain⟨t,rfl⟩:=hv
  have I1:Inv X pins σ H { s with heap:=h',toks:=tk }:=I.turned (λb o hb e=>kk b o (by simpa using hb) e) f0 f1 f3 f4 f5
  refine⟨_,rfl,Z59 (s:={ s with heap:=h',toks:=tk }) (n :="range_iterator") st' rfl rfl (by decide) ⟨.int (lo+i),H,I1,⟨t,?_⟩,⟨rfl,rfl⟩,st',λb hb=>(hf b hb).1⟩⟩
  rw[Int.mul_one]
 done:=by
  intro X hP hw hK hc i pins s σ H E I hf st hg
  subst hP hw hK
  obtain⟨f0,f1,f2,f3,f4,f5⟩:=hf it (by simp)
  exact wpAny_pyNext_range_end (I.ok.hd hc) st (by have:n≤i:=hg;omega) λh' eb=>⟨rfl,I.turned (t':=s.toks) (λb o hb e=>eb b o hb e) f0 f1 f3 f4 f5⟩
 self:=λ_ _ _ _ _ st h=>wpAny_pyIter_rangeiter st h
section
variable {X:Cx}{tg:Expr}
noncomputable def Z2r(K:Xb)(tl:TE):TI:=λσ H R=>tl σ H λx H1=>∃a,x= .ref a∧(∃xs,SqL K H1 a xs)∧R (Itl K a) H1
theorem Zzc{l:Expr}{tl:TE}(hl:PE X l tl):PI X tg l (Z2r X.K tl):=by
 intro pins s σ H R I h
 refine thn (hl pins s σ H _ I h) λv s1 qz9=>?_
 obtain⟨x,H1,I1,r1,q1⟩:=qz9
 obtain⟨a,e,⟨xs,hq⟩,q⟩:=q1
 subst e
 cases r1
 obtain⟨its,rv,p,hz⟩:=I1.list hq
 refine wpAny_pyIter_list p.isList ?_
 refine⟨s1.heap.objs.size,[s1.heap.objs.size],_,_,H1,rfl,I1.kept (t':=s1.toks) λb o e=>Xi _ e,Zr9 a _,⟨_,Qd _ rfl,rfl,rfl⟩,λb hb=>?_,q⟩
 have e:b=s1.heap.objs.size:=by simpa using hb
 subst e
 exact I1.fpOk (Qn _) (I1.hok.fresh (Qn _))
theorem Zom{pins:List (Addr×Obj)}{σ:St}{H:Hp}{s:Xd}{R:It->Hp->Prop}{E:Xc->Xd->Prop}{lo hi:Int}{t u v:Tok}{tk:Nat}(I:Inv X pins σ H s)(h1:-(2^62)≤lo)(h2:lo<2^62)(h3:-(2^62)≤hi)(h4:hi<2^62)
  (q:R (Itr lo (hi-lo).toNat) H):XX (X7 X.prog X.w) X.A (pyIter (.ref s.heap.objs.size)) (PIE X pins σ tg R) E { s with heap:=s.heap.push { cls:=.type "range",data:=.fields #[.int lo t,.int hi u,.int 1 v] },toks:=tk }:=by
 refine wpAny_pyIter_range (IsRange.new ..) (small_one h1 h2 h3 h4) ?_
 have I1:Inv X pins σ H { s with heap:=s.heap.push { cls:=.type "range",data:=.fields #[.int lo t,.int hi u,.int 1 v] },toks:=tk }:=I.kept λb o e=>Xi _ e
 refine⟨(s.heap.push { cls:=.type "range",data:=.fields #[.int lo t,.int hi u,.int 1 v] }).objs.size,[(s.heap.push { cls:=.type "range",data:=.fields #[.int lo t,.int hi u,.int 1 v] }).objs.size],_,_,H,rfl,
  I1.kept (t':=tk) λb o e=>Xi _ e,Zpi _ lo (hi-lo).toNat,?_,λb hb=>?_,q⟩
 ·have e1:lo+((0:Nat):Int)*1=lo:=by simp
  have e2:(((hi-lo).toNat:Nat):Int)-((0:Nat):Int)=Builtin.Range.rangeSize lo hi 1:=by rw[rangeSize_one];split<;>omega
  show IsRangeIter _ _ (lo+((0:Nat):Int)*1) ((((hi-lo).toNat:Nat):Int)-((0:Nat):Int)) 1
  rw[e1,e2]
  exact Qd _ rfl
 ·have e:b=(s.heap.push { cls:=.type "range",data:=.fields #[.int lo t,.int hi u,.int 1 v] }).objs.size:=by simpa using hb
  subst e
  exact I1.fpOk (Qn _) (I1.hok.fresh (Qn _))
noncomputable def Yag(ta:TA):TI:=λσ H R=>ta σ H λvs H1=>∃j:Int,vs=[.int j]∧-(2^62)≤j∧j<2^62∧R (Itr 0 j.toNat) H1
noncomputable def Yal(ta:TA):TI:=λσ H R=>ta σ H λvs H1=>∃i j:Int,vs=[.int i,.int j]∧(-(2^62)≤i∧i<2^62∧-(2^62)≤j∧j<2^62)∧R (Itr i (j-i).toNat) H1
theorem Zub{a:Expr}{ta:TA}{p pos:Pos}(hg:Gl X "range")(hm:X.mg "range"=none)(ha:PA X [a] ta)(hs:Xh [a] X.env=[(false,eval a X.env)]:=by rfl):PI X tg (.Call (.Name "range" p) [a] [] pos) (Yag ta):=by
 intro pins s σ H R I h
 refine Call_ (Zg9 I hg hm boot_range (JW (thn (ha pos pins s σ H _ I h) λus s1 qz9=>?_) hs rfl))
 obtain⟨vs,H1,I1,r1,q1⟩:=qz9
 obtain⟨j,e,q1,q2,q⟩:=q1
 subst e
 cases r1 with
 | cons r rr=>
  cases rr
  obtain⟨t,rfl⟩:=r
  exact call_range_1 (Zom I1 (by omega) (by omega) q1 q2 (by simpa using q))
theorem Zrk{a b:Expr}{ta:TA}{p pos:Pos}(hg:Gl X "range")(hm:X.mg "range"=none)(ha:PA X [a,b] ta)(hs:Xh [a,b] X.env=[(false,eval a X.env),(false,eval b X.env)]:=by rfl)(hs2:Xh [b] X.env=[(false,eval b X.env)]:=by rfl) :
  PI X tg (.Call (.Name "range" p) [a,b] [] pos) (Yal ta):=by
 intro pins s σ H R I h
 refine Call_ (Zg9 I hg hm boot_range (JW (thn (ha pos pins s σ H _ I h) λus s1 ⟨vs,H1,I1,r1,q1⟩=>?_) (by rw[hs,hs2]) (by rw[hs2];rfl)))
 obtain⟨i,j,e,⟨q1,q2,q3,q4⟩,q⟩:=q1
 subst e
 cases r1 with
 | cons r rr=>
  cases rr with
  | cons r' rr=>
   cases rr
   obtain⟨t,rfl⟩:=r
   obtain⟨t',rfl⟩:=r'
   exact call_range_2 (Zom I1 q1 q2 q3 q4 q)
noncomputable def Yd0(wi:TI)(g:TG)(tb:TS):TS:=λD σ H=>wi σ H λJ H1=>∃W:Nat->Nat->St->Hp->Prop,(∃m,W 0 m σ H1)∧∀i m σ H,W i m σ H ->
 (J.stop i H∧D.nx σ H)∨(J.go i H∧∃N:St->Hp->Prop,(∀σ' H',N σ' H'->∃m',m'<m∧W (i+1) m' σ' H')∧∀x H',J.yld i H x H'->g x σ H' λσ2 H2=>tb { D with nx:=N,ct:=N,bk:=D.nx } σ2 H2)
noncomputable def Zlo(fp:List Addr)(h:Heap):List (Addr×Obj):=fp.filterMap λb=>(h.get? b).map λo=>(b,o)
theorem Zd3{fp:List Addr}{h:Heap}{b:Addr}{o:Obj}(hb:b∈fp)(e:h.get? b=some o):(b,o)∈Zlo fp h:=List.mem_filterMap.mpr ⟨b,hb,by rw[e];rfl⟩
theorem Zry{fp:List Addr}{h:Heap}{p:Addr×Obj}(hp:p∈Zlo fp h):p.1∈fp∧h.get? p.1=some p.2:=by
 obtain⟨b,hb,e⟩:=List.mem_filterMap.mp hp
 cases q:h.get? b with
 | none=>rw[q]at e;cases e
 | some o=>
  rw[q]at e
  have e':(b,o)=p:=Qy e
  subst e'
  exact⟨hb,q⟩
theorem Inv.pinned{pins:List (Addr×Obj)}{σ:St}{H:Hp}{s:Xd}{fp:List Addr}(I:Inv X pins σ H s)(hf:∀b∈fp,Zjz X pins H b)(ho:∀b∈fp,∃o,s.heap.get? b=some o∧∀v,o.data≠ .cell v):Inv X (pins ++ Zlo fp s.heap) σ H s :=
 I.pins_of λp hp=>(QC.mp hp).elim (λz=>I.pin p (XF _ z)) λz=>by
  obtain⟨hb,e⟩:=Zry z
  obtain⟨f0,f1,f2,_⟩:=hf p.1 hb
  obtain⟨o,e',d⟩:=ho p.1 hb
  rw[e]at e';cases e'
  exact⟨e,f0,f1,f2,d⟩
theorem Inv.unpinned{pins pl:List (Addr×Obj)}{σ:St}{H:Hp}{s:Xd}(I:Inv X (pins ++ pl) σ H s):Inv X pins σ H s:=I.pins_of λp hp=>I.pin p (XF _ (Q9 _ hp))
theorem Z27{iter:Expr}{body:List Stmt}{wi:TI}{g:TG}{tb:TS}{pos:Pos}(hp:PassesOwn (X7 X.prog X.w) X.A X.env X.xe)(hc:X.calm=true)(hi:PI X tg iter wi)(hg:PG X tg g)(hb:PSs X body tb)
  (hs:∀x,Bu iter X.env x=pure x:=by intro _;rfl):PS X (.For tg iter body [] pos) (Yd0 wi g tb):=by
 intro pins s σ H D I h
 refine wpAny_For (thn (hi pins s σ H _ I h) λv s1 h1=>thn h1 λitv s2 h2=>?_) hs
 obtain⟨it,fp,tn,J,H2,e,I2,T,st2,f2,W,⟨m0,w0⟩,turn⟩:=h2
 subst e
 -- what stays true of the iterator's objects through the loop
 have stat:∀{H':Hp},(∀b∈fp,H' b=none)->∀b∈fp,Zjz X pins H' b:=λhn b hb=>⟨hn b hb,(f2 b hb).2⟩
 refine codeAny_forLoop_any (λn s'=>∃i σ' H',Inv X pins σ' H' s'∧tn i s'.heap∧(∀b∈fp,H' b=none)∧W i n σ' H') ?_ m0 ⟨0,σ,H2,I2,st2,λb hb=>(f2 b hb).1,w0⟩
 rintro n s3 ⟨i,σ3,H3,I3,st3,fr3,w3⟩
 rcases turn i n σ3 H3 w3 with⟨stop,qn⟩|⟨go,N,hN,step⟩
 ·refine Vc hp (thn (T.done X rfl rfl rfl hc i pins s3 σ3 H3 X.xe I3 (stat fr3) st3 stop) λr s4 qz9=>?_)
  obtain⟨hr,I4⟩:=qz9
  subst hr
  exact Uc ⟨σ3,H3,I4,qn⟩
 ·refine Vc hp (thn (T.item X rfl rfl rfl hc i pins s3 σ3 H3 X.xe I3 (stat fr3) st3 go) λr s4 qz9=>?_)
  obtain⟨u,hr,h4⟩:=qz9
  subst hr
  refine Vc hp (thn h4 λ_ s5 qz9=>?_)
  obtain⟨x,H5,I5,r5,y5,st5,fr5⟩:=qz9
  have I5':=I5.pinned (stat fr5) (T.obj _ _ st5)
  refine Vc hp (thn (hg _ s5 σ3 H5 x u _ I5' r5 (step x H5 y5)) λ_ s6 qz9=>?_)
  obtain⟨σ6,H6,I6,q6⟩:=qz9
  refine Vc hp (thn (hb _ s6 σ6 H6 _ I6 q6) λf s7 q7=>?_)
  have again:∀{σ7:St} {H7:Hp},Inv X (pins ++ Zlo fp s5.heap) σ7 H7 s7->N σ7 H7->∃m,m<n∧∃i σ' H',Inv X pins σ' H' s7∧tn i s7.heap∧(∀b∈fp,H' b=none)∧W i m σ' H':=fun{σ7 H7} I7 n7=>by
   obtain⟨m',hm,w7⟩:=hN σ7 H7 n7
   refine⟨m',hm,i+1,σ7,H7,I7.unpinned,T.keep _ _ _ st5 λb hb o e=>(I7.pin (b,o) (XF _ (XF _ (Zd3 hb e)))).1,λb hb=>?_,w7⟩
   obtain⟨o,e,d⟩:=T.obj _ _ st5 b hb
   exact(I7.pin (b,o) (XF _ (XF _ (Zd3 hb e)))).2.1
  cases f with
  | next=>obtain⟨σ7,H7,I7,n7⟩:=q7;exact again I7 n7
  | cont=>obtain⟨σ7,H7,I7,n7⟩:=q7;exact again I7 n7
  | brk=>obtain⟨σ7,H7,I7,q7⟩:=q7;exact⟨σ7,H7,I7.unpinned,q7⟩
  | ret v=>obtain⟨x7,σ7,H7,I7,r7,q7⟩:=q7;exact⟨x7,σ7,H7,I7.unpinned,r7,q7⟩
end
noncomputable abbrev R2:=V->V->Hp->VK->Prop
noncomputable def OpR(X:Cx)(f:Xc->Xc->Sem Xc)(r:R2):Prop :=
 ∀(pins:List (Addr×Obj)) (s:Xd) (σ:St) (H:Hp) (x y:V) (v u:Xc) (Q:VK),Inv X pins σ H s->RelV x v->RelV y u->r x y H Q ->
  XX (X7 X.prog X.w) X.A (f v u) (EP X pins σ Q) X.xe s
noncomputable def UnR(X:Cx)(f:Xc->Sem Xc)(r:V->Hp->VK->Prop):Prop :=
 ∀(pins:List (Addr×Obj)) (s:Xd) (σ:St) (H:Hp) (x:V) (v:Xc) (Q:VK),Inv X pins σ H s->RelV x v->r x H Q ->
  XX (X7 X.prog X.w) X.A (f v) (EP X pins σ Q) X.xe s
noncomputable def Zd9(X:Cx)(f:Xc)(r:List V->Hp->VK->Prop):Prop :=
 ∀(pins:List (Addr×Obj)) (s:Xd) (σ:St) (H:Hp) (xs:List V) (us:List Xc) (Q:VK),Inv X pins σ H s->Vals xs us->r xs H Q ->
  XX (X7 X.prog X.w) X.A (call f us) (EP X pins σ Q) X.xe s
noncomputable def Yea(X:Cx)(r:V->Hp->(Bool->Hp->Prop)->Prop):Prop :=
 ∀(pins:List (Addr×Obj)) (s:Xd) (σ:St) (H:Hp) (x:V) (v:Xc) (Q:Bool->Hp->Prop),Inv X pins σ H s->RelV x v->r x H Q ->
  XX (X7 X.prog X.w) X.A (truthy v) (TP X pins σ Q) X.xe s
noncomputable def tOp(r:R2)(ta tb:TE):TE:=λσ H Q=>ta σ H λx H1=>tb σ H1 λy H2=>r x y H2 Q
noncomputable def tUn(r:V->Hp->VK->Prop)(ta:TE):TE:=λσ H Q=>ta σ H λx H1=>r x H1 Q
noncomputable def rI(C:Int->Int->Prop)(g:Int->Int->V):R2:=λx y H Q=>∃i j,x= .int i∧y= .int j∧C i j∧Q (g i j) H
noncomputable def rI0(g:Int->Int->V):R2:=λx y H Q=>∃i j,x= .int i∧y= .int j∧Q (g i j) H
noncomputable def rU(g:Int->V):V->Hp->VK->Prop:=λx H Q=>∃i,x= .int i∧Q (g i) H
section
variable {X:Cx}{a b c:Expr}{ta tb tc:TE}{pos:Pos}
theorem Z9j(ha:PE X a ta)(hb:PE X b tb){pins:List (Addr×Obj)}{s:Xd}{σ:St}{H:Hp}{R:V->V->Hp->Prop}(I:Inv X pins σ H s)
  (h:ta σ H λx H1=>tb σ H1 λy H2=>R x y H2) {Q:Xc->Xd->Prop} {f:Xc->Xc->Sem Xc}
  (hf:∀v u s2 x y H2,Inv X pins σ H2 s2->RelV x v->RelV y u->R x y H2->XX (X7 X.prog X.w) X.A (f v u) Q X.xe s2) :
  XX (X7 X.prog X.w) X.A (eval a X.env) (λv s₁=>XX (X7 X.prog X.w) X.A (eval b X.env) (λu s₂=>XX (X7 X.prog X.w) X.A (f v u) Q X.xe s₂) X.xe s₁) X.xe s:=by
 refine thn (ha pins s σ H _ I h) λv s1 qz9=>?_
 obtain⟨x,H1,I1,r1,q1⟩:=qz9
 refine thn (hb pins s1 σ H1 _ I1 q1) λu s2 qz9=>?_
 obtain⟨y,H2,I2,r2,q2⟩:=qz9
 exact hf v u s2 x y H2 I2 r1 r2 q2
theorem Zz9{op:Operator}{r:R2}(ho:OpR X (BV op) r)(ha:PE X a ta)(hb:PE X b tb):PE X (.BinOp a op b pos) (tOp r ta tb):=by
 intro pins s σ H Q I h
 exact wpAny_BinOp (Z9j ha hb I h λv u s2 x y H2 I2 rx ry q=>ho pins s2 σ H2 x y v u Q I2 rx ry q)
theorem Z9d{op:UnaryOp}{r:V->Hp->VK->Prop}(ho:UnR X (unaryOp op) r)(ha:PE X a ta):PE X (.UnaryOp op a pos) (tUn r ta):=by
 intro pins s σ H Q I h
 refine UnaryOp_ (thn (ha pins s σ H _ I h) λv s1 qz9=>?_)
 obtain⟨x,H1,I1,r1,q1⟩:=qz9
 exact ho pins s1 σ H1 x v Q I1 r1 q1
theorem opI{f:Xc->Xc->Sem Xc}{C:Int->Int->Prop}{g:Int->Int->Int}
  (rule:∀(i j:Int) (t u:Tok) (s:Xd) (Q:Xc->Xd->Prop) (E:Xc->Xd->Prop),C i j->Q (.int (g i j) s.toks) { s with toks:=s.toks+1 }->XX (X7 X.prog X.w) X.A (f (.int i t) (.int j u)) Q E s) :
  OpR X f (rI C λi j=>.int (g i j)):=by
 intro pins s σ H x y v u Q I rx ry h
 obtain⟨i,j,rfl,rfl,hc,q⟩:=h
 obtain⟨t,rfl⟩:=rx
 obtain⟨t',rfl⟩:=ry
 exact rule i j t t' s _ _ hc ⟨.int (g i j),H,I.tok _,⟨_,rfl⟩,q⟩
theorem Yam{f:Xc->Xc->Sem Xc}{g:Int->Int->Int}
  (rule:∀(i j:Int) (t u:Tok) (s:Xd) (Q:Xc->Xd->Prop) (E:Xc->Xd->Prop),Q (.int (g i j) s.toks) { s with toks:=s.toks+1 }->XX (X7 X.prog X.w) X.A (f (.int i t) (.int j u)) Q E s) :
  OpR X f (rI0 λi j=>.int (g i j)):=by
 intro pins s σ H x y v u Q I rx ry h
 obtain⟨i,j,rfl,rfl,q⟩:=h
 obtain⟨t,rfl⟩:=rx
 obtain⟨t',rfl⟩:=ry
 exact rule i j t t' s _ _ ⟨.int (g i j),H,I.tok _,⟨_,rfl⟩,q⟩
theorem Z8b{f:Xc->Xc->Sem Xc}{g:Int->Int->Bool}
  (rule:∀(i j:Int) (t u:Tok) (s:Xd) (Q:Xc->Xd->Prop) (E:Xc->Xd->Prop),Q (.bool (g i j)) s->XX (X7 X.prog X.w) X.A (f (.int i t) (.int j u)) Q E s) :
  OpR X f (rI0 λi j=>.bl (g i j)):=by
 intro pins s σ H x y v u Q I rx ry h
 obtain⟨i,j,rfl,rfl,q⟩:=h
 obtain⟨t,rfl⟩:=rx
 obtain⟨t',rfl⟩:=ry
 exact rule i j t t' s _ _ ⟨.bl (g i j),H,I,rfl,q⟩
noncomputable def Z2i(i j:Int):Prop:=0≤j∧j≤1000000∧i.natAbs<2^64
noncomputable def CMul(i j:Int):Prop:=(-(2^64)<i∧i<2^64)∨(-(2^64)<j∧j<2^64)
theorem CMul.ok{i j:Int}(h:CMul i j):IntMulOk i j:=by
 rcases h with⟨h1,h2⟩|⟨h1,h2⟩
 ·exact .of_left (intBits_le_64 h1 h2)
 ·exact .of_right (intBits_le_64 h1 h2)
theorem Zqh(k:Nat):(0:Int)≤2^k:=by
 rw[two_pow_cast]
 exact Int.natCast_nonneg _
theorem Z5u:OpR X (BV .Add) (rI0 λi j=>.int (i+j)):=Yam λ_ _ _ _ _ _ _ q=>add_int q
theorem Z6p:OpR X (BV .Sub) (rI0 λi j=>.int (i-j)):=Yam λ_ _ _ _ _ _ _ q=>sub_int q
theorem Zzg:OpR X (BV .Mod) (rI (λ_ j=>j≠0) λi j=>.int (i.fmod j)):=opI λ_ _ _ _ _ _ _ hc q=>mod_int' hc q
theorem Z7g:OpR X (BV .Pow) (rI Z2i λi j=>.int (i^j.toNat)):=opI λ_ _ _ _ _ _ _ hc q=>pow_int_small hc.1 hc.2.1 hc.2.2 q
theorem Z3p:OpR X (BV .LShift) (rI Z2i λi j=>.int (i*2^j.toNat)):=opI λ_ _ _ _ _ _ _ hc q=>lshift_int_small hc.1 hc.2.1 hc.2.2 q
theorem Zxq:OpR X (BV .RShift) (rI (λ_ j=>0≤j) λi j=>.int (i/2^j.toNat)):=opI λi j _ _ _ _ _ hc q=>
 rshift_int hc (by rw[Int.fdiv_eq_ediv_of_nonneg i (Zqh _)];exact q)
theorem Zyl:OpR X (BV .BitAnd) (rI0 λi j=>.int (U7 i j)):=Yam λ_ _ _ _ _ _ _ q=>and_int q
theorem unI{f:Xc->Sem Xc}{g:Int->Int}
  (rule:∀(i:Int) (t:Tok) (s:Xd) (Q:Xc->Xd->Prop) (E:Xc->Xd->Prop),Q (.int (g i) s.toks) { s with toks:=s.toks+1 }->XX (X7 X.prog X.w) X.A (f (.int i t)) Q E s) :
  UnR X f (rU λi=>.int (g i)):=by
 intro pins s σ H x v Q I rx h
 obtain⟨i,rfl,q⟩:=h
 obtain⟨t,rfl⟩:=rx
 exact rule i t s _ _ ⟨.int (g i),H,I.tok _,⟨_,rfl⟩,q⟩
theorem Z5b:UnR X (unaryOp .USub) (rU λi=>.int (-i)):=unI λ_ _ _ _ _ q=>neg_int q
end
section
variable {X:Cx}{a b c:Expr}{ta tb tc:TE}{pos:Pos}
theorem Zyp{pins:List (Addr×Obj)}{σ:St}{H:Hp}{s:Xd}{Q:VK}{k k':Bool}(I:Inv X pins σ H s)(q:Q (.bl k) H)(e:k=k'):EP X pins σ Q (.bool k') s:=by
 subst e
 exact⟨.bl k,H,I,rfl,q⟩
theorem Z3a:OpR X (Bg .Lt) (rI0 λi j=>.bl (decide (i<j))):=Z8b λ_ _ _ _ _ _ _ q=>lt_int q
theorem Ybi:OpR X (Bg .LtE) (rI0 λi j=>.bl (decide (i≤j))):=Z8b λ_ _ _ _ _ _ _ q=>le_int q
theorem Ya9:OpR X (Bg .Gt) (rI0 λi j=>.bl (decide (j<i))):=Z8b λ_ _ _ _ _ _ _ q=>gt_int q
theorem Ybf:OpR X (Bg .GtE) (rI0 λi j=>.bl (decide (j≤i))):=Z8b λ_ _ _ _ _ _ _ q=>ge_int q
theorem Z2n:OpR X (Bg .Is) (λx y H Q=>y= .non∧Q (.bl (decide (x= .non))) H):=by
 intro pins s σ H x y v u Q I rx ry h
 obtain⟨rfl,q⟩:=h
 cases ry
 refine is_none_gen (Zyp I q ?_)
 cases x<;>first
  | (cases rx;rfl)
  | (obtain⟨t,rfl⟩:=rx;rfl)
theorem Zmy:OpR X (Bg .IsNot) (λx y H Q=>y= .non∧Q (.bl (!decide (x= .non))) H):=by
 intro pins s σ H x y v u Q I rx ry h
 obtain⟨rfl,q⟩:=h
 cases ry
 refine isnot_none_gen (Zyp I q ?_)
 cases x<;>first
  | (cases rx;rfl)
  | (obtain⟨t,rfl⟩:=rx;rfl)
theorem Zbn(b:Expr){op:CmpOp}(h:op≠ .In:=by decide)(h2:op≠ .NotIn:=by decide):V2 op b=false:=by
 have e1:(op==CmpOp.In)=false:=by cases op<;>first|rfl|exact absurd rfl h
 have e2:(op==CmpOp.NotIn)=false:=by cases op<;>first|rfl|exact absurd rfl h2
 cases b<;>simp[V2,e1,e2]
theorem Zz2{op:CmpOp}{r:R2}(ho:OpR X (Bg op) r)(ha:PE X a ta)(hb:PE X b tb)(hm:V2 op b=false):PE X (.Compare a [op] [b] pos) (tOp r ta tb):=by
 intro pins s σ H Q I h
 exact wpAny_Compare1 (Z9j ha hb I h λv u s2 x y H2 I2 rx ry q=>ho pins s2 σ H2 x y v u Q I2 rx ry q) hm
noncomputable def Z2v(t:TE):TT:=λσ H Q=>t σ H λx H'=>∃k,x= .bl k∧Q k H'
theorem Z0w{op:CmpOp}{r:R2}(ho:OpR X (Bg op) r)(ha:PE X a ta)(hb:PE X b tb)(hm:V2 op b=false):PT X (.Compare a [op] [b] pos) (Z2v (tOp r ta tb)):=by
 intro pins s σ H Q I h
 refine wpAny_isTrue_Compare1 (thn (ha pins s σ H _ I h) λv s1 ⟨x,H1,I1,r1,q1⟩=>thn (hb pins s1 σ H1 _ I1 q1) λu s2 ⟨y,H2,I2,r2,q2⟩=>
  thn (ho pins s2 σ H2 x y v u _ I2 r1 r2 q2) λc s3 ⟨z,H3,I3,r3,k,e,q3⟩=>?_) hm
 subst e
 cases r3
 exact VF ⟨H3,I3,q3⟩
noncomputable def Yat(K:Xb)(x:V)(H:Hp)(k:Bool):Prop :=
 match x with
 | .non=>k=false
 | .bl b=>k=b
 | .int i=>k=(i !=0)
 | .str y=>y.length≤Xq∧k=((y.length:Int) !=0)
 | .byt y=>y.size≤Xq∧k=((y.size:Int) !=0)
 | .ref p=>(∃xs,SqL K H p xs∧k= !xs.isEmpty)∨(∃xs,SqT K H p xs∧k= !xs.isEmpty)∨∃kvs,H p=some (.dK kvs)∧k= !kvs.isEmpty
 | _=>False
theorem Zqc{κ:Type}{kvs:List (κ×V)}{vs:List (κ×Xc)}(r:KV kvs vs):(!vs.isEmpty)= !kvs.isEmpty:=by
 cases r<;>rfl
theorem Zjd{xs:List V}{its:List Xc}(r:Vals xs its):(!its.toArray.isEmpty)= !xs.isEmpty:=by
 cases r<;>simp
theorem Zjc:(Xq:Nat)<2^63:=by rw[Qj];decide
theorem Z7r:Yea X (λx H Q=>∃k,Yat X.K x H k∧Q k H):=by
 intro pins s σ H x v Q I rx h
 obtain⟨k,e,q⟩:=h
 have hl:=Zjc
 have hs:Xq=16777216:=Qj
 cases x with
 | non=>
  cases rx
  have e':k=false:=e
  subst e'
  exact truthy_none ⟨H,I,q⟩
 | bl b=>
  cases rx
  have e':k=b:=e
  subst e'
  exact VF ⟨H,I,q⟩
 | int i=>
  obtain⟨t,rfl⟩:=rx
  have e':k=(i !=0):=e
  subst e'
  exact PySem.P.truthy_int ⟨H,I,q⟩
 | str y=>
  obtain⟨t,rfl⟩:=rx
  obtain⟨hy,e'⟩:y.length≤Xq∧k=((y.length:Int) !=0):=e
  subst e'
  exact PySem.P.truthy_str (by omega) ⟨H,I.tok _,q⟩
 | byt y=>
  obtain⟨t,rfl⟩:=rx
  obtain⟨hy,e'⟩:y.size≤Xq∧k=((y.size:Int) !=0):=e
  subst e'
  exact PySem.W.truthy_bytes (by omega) ⟨H,I.tok _,q⟩
 | ref p=>
  cases rx
  have e':(∃xs,SqL X.K H p xs∧k= !xs.isEmpty)∨(∃xs,SqT X.K H p xs∧k= !xs.isEmpty)∨∃kvs,H p=some (.dK kvs)∧k= !kvs.isEmpty:=e
  rcases e' with⟨xs,hx,e'⟩|⟨xs,hx,e'⟩|⟨kvs,hx,e'⟩
  ·subst e'
   obtain⟨its,r,pl,hz⟩:=I.list hx
   have hlen:=r.length
   exact wpAny_truthy_list pl.isList (by simp only[XR];omega) ⟨H,I.tok _,by rw[Zjd r];exact q⟩
  ·subst e'
   obtain⟨its,r,pl,hz⟩:=I.tuple hx
   have hlen:=r.length
   exact truthy_tuple pl (by simp only[XR];omega) ⟨H,I.tok _,by rw[Zjd r];exact q⟩
  ·subst e'
   obtain⟨hz,hS,vs,r,m⟩:kvs.length≤Xq∧(p==sysModules)=false∧∃vs,KV kvs vs∧s.heap.DictOf (Znw X.prog X.w) p vs:=I.hok p _ hx
   have hlen:kvs.length=vs.length:=Paired.length r
   exact wpAny_truthy_dict hS m (by omega) ⟨H,I.tok _,by rw[Zqc r];exact q⟩
 | _=>exact(show False from e).elim
theorem Zwi(ha:PE X a ta)(he:∀whole,isTrue a X.env whole=(do let v←whole;standAt a.pos;holding [v] (truthy v))) :
  PT X a (λσ H Q=>ta σ H λx H'=>∃k,Yat X.K x H' k∧Q k H'):=by
 intro pins s σ H Q I h
 refine isTrue_plain (thn (ha pins s σ H _ I h) λv s1 qz9=>?_) (he _)
 obtain⟨x,H1,I1,r1,q1⟩:=qz9
 exact Z7r pins s1 σ H1 x v Q I1 r1 q1
theorem vals1{x:V}{us:List Xc}(r:Vals [x] us):∃u,us=[u]∧RelV x u:=by
 cases r with
 | cons r1 r2=>cases r2;exact⟨_,rfl,r1⟩
theorem vals2{x y:V}{us:List Xc}(r:Vals [x,y] us):∃u w',us=[u,w']∧RelV x u∧RelV y w':=by
 cases r with
 | cons r1 r2=>
  cases r2 with
  | cons r3 r4=>cases r4;exact⟨_,_,rfl,r1,r3⟩
theorem Zjx:Zd9 X (.builtin "abs") (λxs H Q=>∃i,xs=[.int i]∧Q (.int (if i<0 then -i else i)) H):=by
 intro pins s σ H xs us Q I r h
 obtain⟨i,rfl,q⟩:=h
 obtain⟨u,rfl,t,rfl⟩:=vals1 r
 exact call_abs_int λu tk=>⟨.int (if i<0 then -i else i),H,I.tok _,⟨_,rfl⟩,q⟩
theorem Zmq(hc:X.calm=true):Zd9 X (.builtin "min") (λxs H Q=>∃i j,xs=[.int i,.int j]∧Q (.int (if j<i then j else i)) H):=by
 intro pins s σ H xs us Q I r h
 obtain⟨i,j,rfl,q⟩:=h
 obtain⟨u,w',rfl,⟨t,rfl⟩,⟨t',rfl⟩⟩:=vals2 r
 refine min_two_ints (I.ok.hd hc) λh' tk k=>⟨_,H,I.kept k,?_,q⟩
 by_cases hj:j<i
 ·rw[if_pos hj,if_pos hj];exact⟨_,rfl⟩
 ·rw[if_neg hj,if_neg hj];exact⟨_,rfl⟩
theorem Zdf:Zd9 X (.type "int") (λxs H Q=>(∃i,xs=[.int i]∧Q (.int i) H)∨∃k,xs=[.bl k]∧Q (.int (if k then 1 else 0)) H):=by
 intro pins s σ H xs us Q I r h
 rcases h with⟨i,rfl,q⟩|⟨k,rfl,q⟩
 ·obtain⟨u,rfl,t,rfl⟩:=vals1 r
  exact call_int_int ⟨.int i,H,I,⟨_,rfl⟩,q⟩
 ·obtain⟨u,rfl,r1⟩:=vals1 r
  cases r1
  exact call_int_bool ⟨.int (if k then 1 else 0),H,I.tok _,⟨_,rfl⟩,q⟩
end
structure ObjM(h:Heap)(x dx C:Addr)(mA:Str->Option Xc):Prop where
 obj:h.get? x=some (PySem.W.instObj C dx)
 ns:h.Ns1 dx mA
 ne:dx≠x
theorem Ztk{h:Heap}{dx:Addr}{mA:Str->Option Xc}(n:h.Ns1 dx mA):∃od,h.get? dx=some od∧∀name,PySem.W.lookIn name od=some (mA name):=by
 obtain⟨o,es,ep,ho,hd,hk,_,hm⟩:=n
 refine⟨o,ho,λname=>?_⟩
 have e:=hm name
 unfold nsFind findBy at e
 rw[←Array.find?_toList]at e
 unfold PySem.W.lookIn
 rw[hd]
 dsimp only
 split
 ·rename_i y q
  rw[q]at e
  exact congrArg some e
 ·rename_i q
  rw[q]at e
  have a:es.toList.any (·.refKey)=false:=by
   rw[List.any_eq_false]
   intro y hy
   obtain⟨z,t,hkey⟩:=hk y (Array.mem_toList_iff.mp hy)
   simp[DictEntry.refKey,hkey]
  have a':¬es.toList.any (·.refKey)=true:=by rw[a];exact Xx
  rw[if_neg a']
  exact congrArg some e
theorem ObjM.look{h:Heap}{x dx C:Addr}{mA:Str->Option Xc}(I:ObjM h x dx C mA):∃od,PySem.W.InstAt h x (PySem.W.instObj C dx) C (some od)∧∀name,PySem.W.lookIn name od=some (mA name) :=
 let⟨od,ho,hl⟩:=Ztk I.ns
 ⟨od,⟨I.obj,rfl,rfl,ho⟩,hl⟩
section
variable {prog:X6}{w:Qt}{A:Qk}{E:Xc->Xd->Prop}{s:Xd}{K:Xb}{x dx C f:Addr}{mA:Str->Option Xc}{name:Str}{v:Xc}
end
section
variable {P:X6}{w:Qt}{H H':Hp}{h h':Heap}{a C dx:Addr}{fs fs':List (Str×V)}
theorem Zzk(hok:HOk P w H h)(e:H a=some (.ins C dx fs)):∃mA,ObjM h a dx C mA∧(∀f,RelO (fs.lookup f) (mA f))∧PySem.Within mA (fs.map (·.1))∧fs.length≤1000∧H dx=some (.own a):=by
 obtain⟨d,z,ne,ob,mA,n,r,q⟩:=(show ObjOk P w H h a (.ins C dx fs)from hok a _ e)
 exact⟨mA,⟨ob,n,ne⟩,r,q,z,d⟩
end
structure Cls(K:Xb)(C:Addr):Prop where
 pg:PySem.W.plainGet K C Str.empty=true
 hd:PySem.W.hasDictIn K C=true
 po:PySem.W.plainOver K C=true
 sa:Bq K (.ref C) "__setattr__"=some (some (.builtin "object.__setattr__"))
theorem Cls.get{K:Xb}{C:Addr}(c:Cls K C)(f:Str):PySem.W.plainGet K C f=true:=c.pg
structure Con(K:Xb)(C:Addr)(f:Str)(v:V)(u:Xc):Prop where
 at_:Bq K (.ref C) f=some (some u)
 rel:RelV v u
 get:PySem.W.specialIn K u "__get__"=some none
 cp:PySem.W.copiedNames.contains f=false
structure Meth(K:Xb)(C:Addr)(m:Str)(f:Addr):Prop where
 at_:Bq K (.ref C) m=some (some (.ref f))
 fn:PySem.W.isFn K (.ref f)=true
 kp:QW K (.ref f)=true
section
variable {X:Cx}{pins:List (Addr×Obj)}{σ:St}{H:Hp}{s:Xd}{a C dx:Addr}{fs:List (Str×V)}{f:Str}{v:V}{A:Qk}{E:Xc->Xd->Prop}
end
section
variable {X:Cx}{o e value:Expr}{f:Str}{pos pos' tpos:Pos}{ta tv:TE}
end
section
variable {X:Cx}{pins:List (Addr×Obj)}{σ:St}{H:Hp}{s:Xd}{A:Qk}{E:Xc->Xd->Prop}{Q:Xc->Xd->Prop}{c:Xc}{b:Bool}
inductive Zqj(K:Xb)(H:Hp):V->Xc->Prop where
 | non:Zqj K H .non (.type "NoneType")
 | bl (x:Bool):Zqj K H (.bl x) (.type "bool")
 | int (i:Int):Zqj K H (.int i) (.type "int")
 | str (x:Str):Zqj K H (.str x) (.type "str")
 | flt (x:UInt64):Zqj K H (.flt x) (.type "float")
 | lst {a:Addr} {xs:List V} (e:H a=some (.lst xs)):Zqj K H (.ref a) (.type "list")
 | frz {a:Addr} {o:Obj} {xs:List V} (e:H a=some (.frz o (.lst xs))):Zqj K H (.ref a) (.type "list")
 | tup {a:Addr} {xs:List V} (e:H a=some (.tup xs)):Zqj K H (.ref a) (.type "tuple")
 | dK {a:Addr} {kvs:List (Key×V)} (e:H a=some (.dK kvs)):Zqj K H (.ref a) (.type "dict")
 | dT {a:Addr} {kvs:List (List Key×V)} (e:H a=some (.dT kvs)):Zqj K H (.ref a) (.type "dict")
 | ins {a C dx:Addr} {fs:List (Str×V)} (e:H a=some (.ins C dx fs)) (cl:Cls K C) (ha:Bq K (.ref C) "__class__"=some (some (.builtin "object.__class__")))
   (hn:PySem.W.specialIn K (.builtin "object.__class__") "__get__"=some (some (.builtin "getset_descriptor.__get__"))) (htk:PySem.W.takesIn K (.builtin "object.__class__")=some true)
   (hm:PySem.W.mroIn K C (.type "object")=some true):Zqj K H (.ref a) (.ref C)
theorem Za4{x:V}{u t:Xc}(I:Inv X pins σ H s)(rx:RelV x u)(ty:Zqj X.K H x t)(e:Qh X.K t c=some b)(h:∀tk,Q (.bool b) { s with toks:=tk }) :
  XX (X7 X.prog X.w) A (call (.builtin "isinstance") [u,c]) Q E s:=by
 cases ty with
 | non=>cases(show u=Q0 from rx);exact QJ PySem.W.kitx_none I.kIn True.intro e (λz=>nomatch z) h
 | bl y=>cases(show u=Value.bool y from rx);exact QJ PySem.W.kitx_bool I.kIn True.intro e (λz=>nomatch z) h
 | int i=>obtain⟨t,q⟩:=(show∃t,u=Uu i t from rx);cases q;exact QJ PySem.W.kitx_int I.kIn True.intro e (λz=>nomatch z) h
 | str y=>obtain⟨t,q⟩:=(show∃t,u=Value.str y t from rx);cases q;exact QJ PySem.W.kitx_str I.kIn True.intro e (λz=>nomatch z) h
 | flt y=>obtain⟨t,q⟩:=(show∃t,u=Xc.float y t from rx);cases q;exact QJ PySem.W.kitx_float I.kIn True.intro e (λz=>nomatch z) h
 | @lst a xs ea=>
  cases(show u=Qu a from rx)
  obtain⟨_,_,n,_,h1⟩:=(show ObjOk X.prog X.w H s.heap a (.lst xs)from I.hok a _ ea)
  exact QJ PySem.W.kitx_list I.kIn ⟨_,h1,rfl⟩ e (λz=>nomatch z) h
 | @frz a ob xs ea=>
  cases(show u=Qu a from rx)
  obtain⟨_,_,_,n,_,h1⟩:=(show ObjOk X.prog X.w H s.heap a (.frz ob (.lst xs))from I.hok a _ ea)
  exact QJ PySem.W.kitx_list I.kIn ⟨_,h1,rfl⟩ e (λz=>nomatch z) h
 | @tup a xs ea=>
  cases(show u=Qu a from rx)
  obtain⟨_,_,_,p⟩:=(show ObjOk X.prog X.w H s.heap a (.tup xs)from I.hok a _ ea)
  obtain⟨o,h1,h2,_⟩:=p
  exact QJ PySem.W.kitx_tuple I.kIn ⟨o,h1,h2⟩ e (λz=>nomatch z) h
 | @dK a kvs ea=>
  cases(show u=Qu a from rx)
  obtain⟨_,_,vs,_,p⟩:=(show ObjOk X.prog X.w H s.heap a (.dK kvs)from I.hok a _ ea)
  obtain⟨o,es,ep,h1,h2,_⟩:=p
  exact QJ PySem.W.kitx_dict I.kIn ⟨o,h1,h2.1⟩ e (λz=>nomatch z) h
 | @dT a kvs ea=>
  cases(show u=Qu a from rx)
  obtain⟨_,_,xs,_,o,es,ep,h1,h2,_⟩:=(show ObjOk X.prog X.w H s.heap a (.dT kvs)from I.hok a _ ea)
  exact QJ PySem.W.kitx_dict I.kIn ⟨o,h1,h2.1⟩ e (λz=>nomatch z) h
 | @ins a C dx fs ea cl ha hn htk hm=>
  cases(show u=Qu a from rx)
  obtain⟨mA,O,_⟩:=Zzk I.hok ea
  obtain⟨od,J,_⟩:=O.look
  exact QJ (PySem.W.kitx_own (cl.get _) cl.hd ha hn htk hm) I.kIn J e (λz=>nomatch z) h
end
structure Room(k:Nat)(A:Qk):Prop where
 hd:A.handled=none
 dp:A.depth+3*k+5<recursionLimit
 un:A.units+16*k+200<cLine
theorem Room.mono{j k:Nat}{A:Qk}(r:Room k A)(h:j≤k):Room j A:=⟨r.hd,by have:=r.dp;omega,by have:=r.un;omega⟩
theorem Room.deeper{k:Nat}{A:Qk}(r:Room (k+1) A)(env:Env):Room k (A.deeper env) :=
 ⟨r.hd,by have:=r.dp;show A.depth+1+3*k+5<_;omega,by have:=r.un;show A.units+3+16*k+200<_;omega⟩
theorem Room.depth{k:Nat}{A:Qk}(r:Room k A):A.depth<recursionLimit:=by have:=r.dp;omega
theorem Room.units{k:Nat}{A:Qk}(r:Room k A):A.units+64<cLine:=by have:=r.un;omega
noncomputable def Ybs:TA:=λ_ H Q=>Q [] H
noncomputable def Zuu(ta:TE)(tr:TA):TA:=λσ H Q=>ta σ H λx H1=>tr σ H1 λxs H2=>Q (x :: xs) H2
section
variable {X:Cx}{e:Expr}{es:List Expr}{te:TE}{t:TA}{pos:Pos}
theorem Zgo:PA X [] Ybs:=λ_ _ _ _ H Q I h=>Calls.spliced_nil ⟨[],H,I,.nil,h⟩
theorem Y5(ha:PE X e te)(hr:PA X es t)(hs:Xh (e :: es) X.env=(false,eval e X.env) :: Xh es X.env:=by rfl):PA X (e :: es) (Zuu te t):=by
 intro pos pins s σ H Q I h
 rw[hs]
 show XX _ _ (spliced ((false,eval e X.env) :: Q6 pos (Xh es X.env))) _ _ s
 refine V7 (thn (ha pins s σ H _ I h) λu s1 qz9=>?_)
 obtain⟨x,H1,I1,r1,q1⟩:=qz9
 refine thn (hr pos pins s1 σ H1 _ I1 q1) λus s2 qz9=>?_
 obtain⟨xs,H2,I2,r2,q2⟩:=qz9
 exact⟨x :: xs,H2,I2,.cons r1 r2,q2⟩
noncomputable def Ye3(t:TA):TE:=λσ H Q=>t σ H λxs H1=>xs.length≤Xq∧∀p,H1 p=none->Q (.ref p) (upd H1 p (.tup xs))
noncomputable def Yep(t:TA):TE:=λσ H Q=>t σ H λxs H1=>xs.length≤Xq∧∀p,H1 p=none->Q (.ref p) (upd H1 p (.lst xs))
theorem Zxa{x1}(h:PA X es t):PE X (.Tuple es x1 pos) (Ye3 t):=by
 intro pins s σ H Q I hq
 refine wpAny_Tuple_spliced (thn (h pos pins s σ H _ I hq) λus s1 ⟨xs,H1,I1,r,z,q⟩=>⟨by rw[←r.length];exact z,?_⟩)
 have hf:H1 s1.heap.objs.size=none:=I1.hok.fresh (Qn _)
 refine⟨.ref s1.heap.objs.size,upd H1 s1.heap.objs.size (.tup xs),I1.laid (t':=s1.toks) (λb u e=>Xi _ e) (Qn _) ?_,rfl,q _ hf⟩
 exact⟨z,us,r,⟨_,Qd _ rfl,rfl,_,rfl⟩⟩
theorem Zx2(h:PA X es t):PE X (.List es pos) (Yep t):=by
 intro pins s σ H Q I hq
 refine wpAny_List_spliced (thn (h pos pins s σ H _ I hq) λus s1 ⟨xs,H1,I1,r,z,q⟩=>⟨by rw[←r.length];exact z,?_⟩)
 have hf:H1 s1.heap.objs.size=none:=I1.hok.fresh (Qn _)
 refine⟨.ref s1.heap.objs.size,upd H1 s1.heap.objs.size (.lst xs),I1.laid (t':=s1.toks) (λb u e=>Xi _ e) (Qn _) ?_,rfl,q _ hf⟩
 exact⟨z,us,0,r,Qd _ rfl⟩
end
noncomputable abbrev Sp:=List V->Hp->VK->XK->Prop
noncomputable abbrev CXT:=List Env->Hp->Xd->XK->Xc->Xd->Prop
structure Z8l(P:X6)(w:Qt)(K:Xb)(mg:Str->Option Xc)(base:Heap)(A:Qk)(outer:List Env)(s:Xd)(H:Hp):Prop where
 frames:A.frames=some outer
 mod:Mod K mg base
 bs:∀b o,base.get? b=some o->s.heap.get? b=some o∧H b=none
 bsz:base.objs.size≤s.heap.objs.size
 funs:s.heap.FunFrames base outer
 frf:∀b∈frs outer,H b=none
 hok:HOk P w H s.heap
 bare:UL s.gens
noncomputable def CE(outer:List Env)(P:X6)(w:Qt)(H:Hp)(s:Xd)(Q:VK)(u:Xc)(s':Xd):Prop :=
 ∃v H',s'.os=s.os∧UL s'.gens∧Un (frs outer) [] H H' s.heap s'.heap∧HOk P w H' s'.heap∧RelV v u∧Q v H'
noncomputable def CR(CX:CXT)(outer:List Env)(P:X6)(w:Qt)(H:Hp)(s:Xd)(Q:VK)(E:XK)(r:Result)(s':Xd):Prop :=
 match r with
 | .ok (.ret u)=>CE outer P w H s Q u s'
 | .ok _=>False
 | .error e=>CX outer H s E e s'
structure FnOk(P:X6)(w:Qt)(K:Xb)(mg:Str->Option Xc)(base:Heap)(CX:CXT)(k:Nat)(f:Addr)(fd:Xp)(ps:List Str)(sp:Sp):Prop where
 len:∀vs H Q E,sp vs H Q E->vs.length=ps.length
 run:∀(A:Qk) (outer:List Env) (s:Xd) (H:Hp) (args:Args) (us:List Xc) (vs:List V) (Q:VK) (E:XK),Room k A->Z8l P w K mg base A outer s H->BindsTo s fd args (ps.zip us)->Vals vs us->sp vs H Q E ->
  codeAny (X7 P w) A (.call (.ref f) args) (CR CX outer P w H s Q E) s
theorem FnOk.imp{P:X6}{w:Qt}{K:Xb}{mg:Str->Option Xc}{base:Heap}{CX:CXT}{k:Nat}{f:Addr}{fd:Xp}{ps:List Str}{sp sp':Sp}(F:FnOk P w K mg base CX k f fd ps sp)
  (h:∀vs H Q E,sp' vs H Q E->sp vs H Q E):FnOk P w K mg base CX k f fd ps sp' :=
 ⟨λvs H Q E q=>F.len vs H Q E (h _ _ _ _ q),λA outer s H args us vs Q E hr he hb hv hs=>F.run A outer s H args us vs Q E hr he hb hv (h _ _ _ _ hs)⟩
section
variable {X:Cx}{pins:List (Addr×Obj)}{σ:St}{H:Hp}{s s':Xd}
theorem Inv.env0(I:Inv X pins σ H s):Z8l X.prog X.w X.K X.mg X.base X.A X.stack s H :=
 ⟨I.ok.frames,I.ok.mod,I.bs,QF I.ok.bsz I.sz,I.stack,I.stkFree,I.hok,I.bare⟩
theorem Inv.after{Q:VK}{u:Xc}(I:Inv X pins σ H s)(h:CE X.stack X.prog X.w H s Q u s'):EP X pins σ Q u s':=by
 obtain⟨v,H',os,bare,un,hok,r,q⟩:=h
 obtain⟨hh,g,d,t,os'⟩:=s'
 obtain rfl:os'=s.os:=os
 exact⟨v,H',I.call (h':=hh) (g':=g) (d':=d) (t':=t) (ch:=[]) un hok bare (λb z=>absurd z (by simp)),r,q⟩
end
noncomputable def Zue(sp:Sp)(dvs:List V)(E:XK)(t:TA):TE:=λσ H Q=>t σ H λvs H1=>sp (vs ++ dvs) H1 Q E
noncomputable def Binds(K:Xb)(fd:Xp)(ps:List Str)(ds:List Xc):Prop :=
 ∀(s:Xd) (us:List Xc),K.In s.heap->(us ++ ds).length=ps.length->BindsTo s fd ⟨us,[]⟩ (ps.zip (us ++ ds))
theorem Binds.all{K:Xb}{fd:Xp}{ps:List Str}(h:∀us:List Xc,us.length=ps.length->bindArgs fd ⟨us,[]⟩=pure (ps.zip us)):Binds K fd ps []:=λs us _ hl=>by
 rw[QL]at hl⊢
 exact .of_eq (h us hl)
noncomputable def Zgh(CX:CXT)(X:Cx)(E:XK):Prop:=∀(pins:List (Addr×Obj)) (σ:St) (H:Hp) (s:Xd) (e:Xc) (s':Xd),Inv X pins σ H s->CX X.stack H s E e s'->X.xe e s'
section
variable {X:Cx}{CX:CXT}{k:Nat}{f C:Addr}{fd:Xp}{ps:List Str}{sp:Sp}{dvs:List V}{ds:List Xc}{E:XK}{x m:Str}{p pos apos:Pos}{e o:Expr}{es:List Expr}{ta:TE}{t:TA}
theorem Zw7{pins:List (Addr×Obj)}{σ:St}{H:Hp}{s:Xd}{Q:VK}{us:List Xc}{vs:List V}(F:FnOk X.prog X.w X.K X.mg X.base CX k f fd ps sp)(hr:Room k X.A)(hb:Binds X.K fd ps ds)(hd:Vals dvs ds)(hx:Zgh CX X E)
  (I:Inv X pins σ H s) (r:Vals vs us) (h:sp (vs ++ dvs) H Q E):XX (X7 X.prog X.w) X.A (call (.ref f) us) (EP X pins σ Q) X.xe s:=by
 have r2:Vals (vs ++ dvs) (us ++ ds):=r.append hd
 have hl:(us ++ ds).length=ps.length:=by rw[←r2.length];exact F.len _ _ _ _ h
 refine wpAny_call (codeAny_mono (F.run X.A X.stack s H ⟨us,[]⟩ (us ++ ds) (vs ++ dvs) Q E hr I.env0 (hb s us I.kIn hl) r2 h) λr s' hq=>?_)
 cases r with
 | error e=>exact hx pins σ H s e s' I hq
 | ok fl=>
  cases fl with
  | ret u=>exact I.after hq
  | next=>exact Bj hq
  | brk=>exact Bj hq
  | cont=>exact Bj hq
theorem Znz(F:FnOk X.prog X.w X.K X.mg X.base CX k f fd ps sp)(hr:Room k X.A)(hg:Gl X x)(hm:X.mg x=some (.ref f))(hk:QW X.K (.ref f)=true)(hb:Binds X.K fd ps ds)(hd:Vals dvs ds)(hx:Zgh CX X E)
  (ha:PA X (e :: es) t) (hdb:(x==("__debug__" : Str))=false:=by decide) (he:Xh (e :: es) X.env=(false,eval e X.env) :: Xh es X.env:=by rfl) (hpl:(Q6 pos (Xh es X.env)).any (·.1)=false:=by rfl) :
  PE X (.Call (.Name x p) (e :: es) [] pos) (Zue sp dvs E t):=by
 intro pins s σ H Q I h
 refine Ba (Zfz I hg hm ?_ hdb)
 refine V0 (h₀:=X.base) I.ok.mod.kin hk (thn (ha pos pins s σ H _ I h) λus s1 qz9=>?_) he hpl
 obtain⟨vs,H1,I1,r,q⟩:=qz9
 refine⟨I1.kIn,?_⟩
 exact Zw7 F hr hb hd hx I1 r q
structure Mk(K:Xb)(C f:Addr):Prop where
 makes:PySem.W.makesIn K C=true
 init:Bq K (.ref C) "__init__"=some (some (.ref f))
 fn:PySem.W.isFn K (.ref f)=true
 kp:QW K (.ref C)=true
end
section
variable {X:Cx}{CX:CXT}{k:Nat}{f C:Addr}{fd:Xp}{ps ks:List Str}{sp:Sp}{E:XK}{x m:Str}{p pos apos kpos:Pos}{e o:Expr}{es:List Expr}{kws:List Keyword}{te ta:TE}{t tk:TA}{nm:Option Str}
structure Ycc(K:Xb)(fd:Xp)(ps ks:List Str)(g:List Xc->List Xc->List Xc)(gV:List V->List V->List V):Prop where
 to:∀(s:Xd) (us ws:List Xc),K.In s.heap->(g us ws).length=ps.length->BindsTo s fd ⟨us,ks.zip ws⟩ (ps.zip (g us ws))
 rel:∀{vs:List V} {us:List Xc} {zs:List V} {ws:List Xc},Vals vs us->Vals zs ws->Vals (gV vs zs) (g us ws)
variable {g:List Xc->List Xc->List Xc}{gV:List V->List V->List V}
end
structure Zo(N P:List Str)(sc:V5):Prop where
 kind:sc.kind= .function
 co:sc.isCoroutine=false
 gen:sc.isGenerator=false
 nd:N.Nodup
 pre:N.take P.length=P
 par:∀x∈P,sc.names.lookup x=some .local∨sc.names.lookup x=some .cell
 nofree:∀y∈sc.names,y.2≠ .free
theorem Zlk{kindOf:Str->Option Bc}{x:Str}:∀{binds:List (Str×Xc)} {m:Str->Option Xc},(∀v,(x,v)∉binds)->bindL kindOf binds m x=m x
 | [],_,_=>rfl
 | (n,v) :: r,m,h=>by
  unfold bindL
  rw[Zlk λw hw=>h w (VJ _ hw)]
  split
  ·have:x≠n:=by rintro rfl;exact h v V8
   simp[this]
  ·rfl
theorem Zlp{kindOf:Str->Option Bc}{x:Str}:∀{binds:List (Str×Xc)} {m:Str->Option Xc},(∀v,(x,v)∉binds)->bindC kindOf binds m x=m x
 | [],_,_=>rfl
 | (n,v) :: r,m,h=>by
  unfold bindC
  rw[Zlp λw hw=>h w (VJ _ hw)]
  split
  ·rfl
  ·have:x≠n:=by rintro rfl;exact h v V8
   simp[this]
theorem Zl6{kindOf:Str->Option Bc}{x:Str}{v:Xc}:∀{P:List Str} {vs:List Xc} {i:Nat} {m:Str->Option Xc},P.Nodup->P[i]? =some x->vs[i]? =some v->kindOf x=some .local ->
  bindL kindOf (P.zip vs) m x=some v
 | [],_,_,_,_,h,_,_=>by simp at h
 | _ :: _,[],_,_,_,_,h,_=>by simp at h
 | p :: P,w :: vs,0,m,nd,h1,h2,hk=>by
  simp at h1 h2;subst h1;subst h2
  show bindL kindOf ((p,w) :: P.zip vs) m p=_
  unfold bindL
  rw[Zlk λv hv=>(Qs.mp nd).1 (List.of_mem_zip hv).1,if_pos hk]
  simp
 | p :: P,w :: vs,i+1,m,nd,h1,h2,hk=>by
  show bindL kindOf ((p,w) :: P.zip vs) m x=_
  unfold bindL
  exact Zl6 (i:=i) (Qs.mp nd).2 (by simpa using h1) (by simpa using h2) hk
theorem Zk7{kindOf:Str->Option Bc}{x:Str}{v:Xc}:∀{P:List Str} {vs:List Xc} {i:Nat} {m:Str->Option Xc},P.Nodup->P[i]? =some x->vs[i]? =some v->kindOf x≠some .local ->
  bindC kindOf (P.zip vs) m x=some v
 | [],_,_,_,_,h,_,_=>by simp at h
 | _ :: _,[],_,_,_,_,h,_=>by simp at h
 | p :: P,w :: vs,0,m,nd,h1,h2,hk=>by
  simp at h1 h2;subst h1;subst h2
  show bindC kindOf ((p,w) :: P.zip vs) m p=_
  unfold bindC
  rw[Zlp λv hv=>(Qs.mp nd).1 (List.of_mem_zip hv).1,if_neg hk]
  simp
 | p :: P,w :: vs,i+1,m,nd,h1,h2,hk=>by
  show bindC kindOf ((p,w) :: P.zip vs) m x=_
  unfold bindC
  exact Zk7 (i:=i) (Qs.mp nd).2 (by simpa using h1) (by simpa using h2) hk
noncomputable def V3(N:List Str)(vs:List V):St:=vs.map some ++ Xz (N.length-vs.length) none
noncomputable def Zox(CX:CXT)(P:X6)(w:Qt)(K:Xb)(mg:Str->Option Xc)(base:Heap)(N:List Str)(qual:Str)(scope:V5)(f:Addr)(cd:Xc)(A:Qk)(outer:List Env)(s:Xd)(H:Hp)(E:XK):Cx where
 prog:=P
 w:=w
 K:=K
 mg:=mg
 base:=base
 A:=A.deeper (Vw qual scope s.heap.objs.size f cd)
 N:=N
 s₀:=s
 H₀:=H
 env:=Vw qual scope s.heap.objs.size f cd
 outer:=outer
 stack:=Vw qual scope s.heap.objs.size f cd :: outer
 ex:=[]
 calm:=true
 fn:=λ_=>true
 pn:=[]
 xe:=λe s'=>XX (X7 P w) (A.deeper (Vw qual scope s.heap.objs.size f cd)) (leaving (Vw qual scope s.heap.objs.size f cd) e) (λ_ s''=>CX outer H s E e s'') (λe' s''=>CX outer H s E e' s'') s'
theorem Zor{sc:V5}{n:Nat}{x:Str}(h:sc.names.lookup x=some .cell):∃c,(JN n sc.names []).lookup x=some c:=by
 have q:=PySem.W.cellsFrom_some sc.names n [] (.inl h)
 exact Option.isSome_iff_exists.mp q
theorem Zsi{CX:CXT}{P:X6}{w:Qt}{K:Xb}{mg:Str->Option Xc}{base:Heap}{N ps:List Str}{qual:Str}{scope:V5}{f:Addr}{cd:Xc}{A:Qk}{outer:List Env}{s s1:Xd}{H:Hp}{E:XK}{us:List Xc}{vs:List V}
  (S:Zo N ps scope) (hd:A.handled=none) (e0:Z8l P w K mg base A outer s H) (hl:vs.length=ps.length) (r:Vals vs us)
  (x:InCallC s s.heap.objs.size (bindL (Vw qual scope s.heap.objs.size f cd).kindOf (ps.zip us) λ_=>none) (JN (s.heap.objs.size+1) scope.names []) (bindC (Vw qual scope s.heap.objs.size f cd).kindOf (ps.zip us) λ_=>none) s1) :
  Inv (Zox CX P w K mg base N qual scope f cd A outer s H E) [] (V3 N vs) H s1:=by
 have hpl:ps.length≤N.length:=by have:=congrArg List.length S.pre;rw[Uy]at this;omega
 obtain⟨h1,tk,rfl,hk⟩:=x.done
 have noA:∀b:Addr,b∉(Zox CX P w K mg base N qual scope f cd A outer s H E).ex:=λb z=>absurd (show b∈([]:List Addr)from z) (by simp)
 refine⟨⟨e0.mod,S.kind,rfl,rfl,Qn _,λy z c h1 h2=>?_,λy hy=>?_,λy c _ h=>?_,λ_=>hd,Qk.frames_deeper e0.frames,.inr ⟨rfl,rfl⟩,λb z=>absurd z (noA b),e0.bs,e0.bsz,λb _ _=>noA b,λb z=>absurd z (noA b),e0.funs,e0.frf⟩,
  rfl,e0.bare,Un.kept hk,⟨_,x.toInCall.ns,λi y v h1 h2 h3=>?_⟩,λy c h=>⟨_,x.cell y c h⟩,e0.hok.fresh (Qn _),λy c h=>?_,λp hp=>absurd (show p∈([]:List (Addr×Obj))from hp) (by simp),e0.hok.kept hk,?_⟩
 ·exact name_of_addr x.apart (JH h1) (JH h2)
 ·have hy:scope.names.lookup y=some .cell∨scope.names.lookup y=some .free:=hy
  rcases hy with hy|hy
  ·exact Zor hy
  ·exact absurd rfl (S.nofree _ (JH hy))
 ·exact U0 (x.above y c (JH h))
 ·have hi:i<vs.length:=by
   unfold V3 at h2
   by_cases hi:i<vs.length
   ·exact hi
   ·rw[Bk (by simpa using hi)]at h2
    rw[Vn]at h2
    split at h2<;>cases h2
  have ha:vs[i]? =some v:=by
   unfold V3 at h2
   rw[Vg (by simpa using hi),Xm]at h2
   cases e:vs[i]? with
   | none=>rw[e]at h2;cases h2
   | some a=>rw[e]at h2;cases h2;rfl
  obtain⟨u,hu,rv⟩:=r.get ha
  have hp:ps[i]? =some y:=by
   rw[←S.pre,List.getElem?_take_of_lt (by omega)];exact h1
  have ndP:ps.Nodup:=by rw[←S.pre];exact S.nd.sublist (List.take_sublist _ _)
  refine⟨u,rv,?_⟩
  rcases S.par y (Qv hp)with k|k
  ·exact .inl ⟨k,Zl6 ndP hp hu k⟩
  ·obtain⟨c,e⟩:=Zor (n:=s.heap.objs.size+1) k
   refine .inr ⟨.inl k,c,e,?_⟩
   have q:=x.cell y c e
   rw[Zk7 ndP hp hu (by show scope.names.lookup y≠_;rw[k];decide)]at q
   exact q
 ·exact e0.hok.fresh (U0 (x.above y c (JH h)))
 ·unfold V3
  show _=N.length
  rw[Qx,Xg,VB]
  omega
theorem Z4o{CX:CXT}{P:X6}{w:Qt}{K:Xb}{mg:Str->Option Xc}{base:Heap}{k:Nat}{f:Addr}{name qual:Str}{params:Arguments}{body:List Stmt}{scope:V5}{dV kV doc pm cdv ct oc:Xc}{an od:Option Addr}
  {osl:Array (Option Xc)} {N ps:List Str} {sp:Sp} (lk:K.lookup f=some ⟨oc,od,.func (Vd name qual params body scope dV kV doc pm an cdv ct),osl⟩) (hcd:PySem.W.codeIn K cdv qual=true) (S:Zo N ps scope)
  (len:∀vs H Q E,sp vs H Q E->vs.length=ps.length)
  (hbody:∀(A:Qk) (outer:List Env) (s:Xd) (H:Hp) (vs:List V) (Q:VK) (E:XK),Room k (A.deeper (Vw qual scope s.heap.objs.size f cdv))->sp vs H Q E ->
   ∃t,PSs (Zox CX P w K mg base N qual scope f cdv A outer s H E) body t∧t { nx:=λ_ H'=>Q .non H',rt:=Q } (V3 N vs) H) :
  FnOk P w K mg base CX (k+1) f (Vd name qual params body scope dV kV doc pm an cdv ct) ps sp:=by
 refine⟨len,λA outer s H args us vs Q E hr e0 hb r hsp=>?_⟩
 have hl:=len _ _ _ _ hsp
 have KX:K.In s.heap:=e0.mod.kin.keeps λb o e=>(e0.bs b o e).1
 have lim:s.heap.NoLimit:=e0.mod.nolimit.keeps λb o e=>(e0.bs b o e).1
 have hkind:∀y∈ps.zip us,scope.names.lookup y.1=some .local∨(scope.names.lookup y.1=some .cell∧((JN (s.heap.objs.size+1) scope.names []).lookup y.1).isSome=true):=λ⟨n,v⟩ hy=>by
  rcases S.par n (List.of_mem_zip hy).1 with q|q
  ·exact .inl q
  ·exact .inr ⟨q,PySem.W.cellsFrom_some _ _ _ (.inl q)⟩
 refine codeAny_call_function hr.depth (KX _ _ lk) rfl S.co S.gen rfl (PySem.W.codeRec_of KX hcd) (hb _ _ _ _ ?_)
 refine wpAny_newFunctionEnv_cells S.kind hkind λenv he s1 x=>?_
 subst he
 refine⟨lim.keeps x.toInCall.keep,codeAny_func ?_⟩
 obtain⟨t,ht,hq⟩:=hbody A outer s H vs Q E (hr.deeper _) hsp
 have I:Inv (Zox CX P w K mg base N qual scope f cdv A outer s H E) [] (V3 N vs) H s1:=Zsi S hr.hd e0 hl r x
 refine QD (ht [] s1 (V3 N vs) H _ I hq) (λfl s' hs=>?_) λe s' hs=>hs
 have fin:∀{σ':St} {H':Hp} {v:V} {u:Xc},Inv (Zox CX P w K mg base N qual scope f cdv A outer s H E) [] σ' H' s'->RelV v u->Q v H'->CE outer P w H s Q u s' :=
  fun{σ' H' v u} J rv q=>⟨v,H',J.os,J.bare,J.base,J.hok,rv,q⟩
 cases fl with
 | ret u=>
  obtain⟨v,σ',H',J,rv,q⟩:=hs
  exact fin J rv q
 | next=>
  obtain⟨σ',H',J,q⟩:=hs
  exact fin (v:=V.non) (u:=Q0) J rfl q
 | brk=>
  obtain⟨_,_,_,q⟩:=hs
  exact Bj q
 | cont=>
  obtain⟨_,_,_,q⟩:=hs
  exact Bj q
section
variable {X:Cx}{x:Str}{p pos:Pos}{e:Expr}{es:List Expr}{t:TA}{id T:String}{r:List V->Hp->VK->Prop}
noncomputable def tCB(r:List V->Hp->VK->Prop)(t:TA):TE:=λσ H Q=>t σ H λvs H1=>r vs H1 Q
theorem Zfb(hc:Zd9 X (.builtin id) r)(hg:Gl X x)(hm:X.mg x=none)(hv:Qc x=some (.builtin id))(ha:PA X (e :: es) t)(hn:x≠"__name__" :=by decide)(hdb:(x==("__debug__" : Str))=false:=by decide)
  (he:Xh (e :: es) X.env=(false,eval e X.env) :: Xh es X.env:=by rfl) (hpl:(Q6 pos (Xh es X.env)).any (·.1)=false:=by rfl):PE X (.Call (.Name x p) (e :: es) [] pos) (tCB r t):=by
 intro pins s σ H Q I h
 refine Ba (Zg9 I hg hm hv ?_ hn hdb)
 refine PyProof.Rows.callWith_builtin1 (thn (ha pos pins s σ H _ I h) λus s1 qz9=>?_) he hpl
 obtain⟨vs,H1,I1,r1,q1⟩:=qz9
 exact hc pins s1 σ H1 vs us Q I1 r1 q1
theorem Zsh(hc:Zd9 X (.type T) r)(hg:Gl X x)(hm:X.mg x=none)(hv:Qc x=some (.type T))(ha:PA X (e :: es) t)(hn:x≠"__name__" :=by decide)(hdb:(x==("__debug__" : Str))=false:=by decide)
  (he:Xh (e :: es) X.env=(false,eval e X.env) :: Xh es X.env:=by rfl) (hpl:(Q6 pos (Xh es X.env)).any (·.1)=false:=by rfl):PE X (.Call (.Name x p) (e :: es) [] pos) (tCB r t):=by
 intro pins s σ H Q I h
 refine Ba (Zg9 I hg hm hv ?_ hn hdb)
 refine JW (thn (ha pos pins s σ H _ I h) λus s1 qz9=>?_) he hpl
 obtain⟨vs,H1,I1,r1,q1⟩:=qz9
 exact hc pins s1 σ H1 vs us Q I1 r1 q1
end
end L2
namespace HT
open PySem PyProof.Rows
section
open PySem.SeqAt
open PySem.AutoSeq1 (wpAny_loadPart')
open PySem.MeetsSeq PySem.MeetsSeq2 PySem.MeetsSeq3
end
section
variable {prog:X6}{w:Qt}{A:Qk}{E:Xc->Xd->Prop}{s:Xd}
noncomputable def sIx(n d:Nat):Option Int->Nat
 | none=>d
 | some v=>if v<0 then(v+(n:Int)).toNat else min v.toNat n
theorem sIx_none(n d:Nat):sIx n d none=d:=rfl
theorem sIx_nat(n d k:Nat):sIx n d (some (k:Int))=min k n:=by
 show(if(k:Int)<0 then((k:Int)+(n:Int)).toNat else min (k:Int).toNat n)=min k n
 rw[if_neg (by omega),Q3]
end
end HT
namespace L2
open PySem PySem.Spec PyProof.Rows
noncomputable abbrev TO:=St->Hp->(Option Int->Hp->Prop)->Prop
noncomputable def PO(X:Cx)(e:Option Expr)(t:TO):Prop :=
 ∀(pins:List (Addr×Obj)) (s:Xd) (σ:St) (H:Hp) (Q:Option Int->Hp->Prop),Inv X pins σ H s->t σ H Q ->
  XX (X7 X.prog X.w) X.A (evalPart e X.env) (λu s'=>∃o H',Inv X pins σ H' s'∧IsPart u o∧Q o H') X.xe s
noncomputable def Zyy:TO:=λ_ H Q=>Q none H
noncomputable def Z8q(t:TE):TO:=λσ H Q=>t σ H λx H1=>∃i,x= .int i∧Q (some i) H1
section
variable {X:Cx}{e:Expr}{te:TE}{lo hi:Option Expr}{tl th:TO}{pos p2:Pos}
theorem Zzw:PO X none Zyy:=by
 intro pins s σ H Q I h
 rw[evalPart_none]
 exact X8 ⟨none,H,I,.none,h⟩
theorem Zzt(h:PE X e te):PO X (some e) (Z8q te):=by
 intro pins s σ H Q I hw
 rw[evalPart_some]
 refine thn (h pins s σ H _ I hw) λu s1 qz9=>?_
 obtain⟨x,H1,I1,r1,q1⟩:=qz9
 obtain⟨i,rfl,q⟩:=q1
 obtain⟨t,rfl⟩:=r1
 exact⟨some i,H1,I1,.int i t,q⟩
noncomputable def SlR(X:Cx)(r:V->Option Int->Option Int->Hp->VK->Prop):Prop :=
 ∀(pins:List (Addr×Obj)) (s:Xd) (σ:St) (H:Hp) (x:V) (v vl vu:Xc) (lo hi:Option Int) (sl:Addr) (Q:VK),Inv X pins σ H s->RelV x v->s.heap.IsSliceOf sl vl vu .none->IsPart vl lo->IsPart vu hi->r x lo hi H Q ->
  ∃T id,typeLookup (.type T) "__getitem__"=pure (some (.builtin id))∧s.TypeIs v T∧XX (X7 X.prog X.w) X.A (getItem v (.ref sl)) (EP X pins σ Q) X.xe s
noncomputable def tSl(r:V->Option Int->Option Int->Hp->VK->Prop)(te:TE)(tl th:TO):TE:=λσ H Q=>te σ H λx H1=>tl σ H1 λl H2=>th σ H2 λu H3=>r x l u H3 Q
theorem Zww{r:V->Option Int->Option Int->Hp->VK->Prop}(hr:SlR X r)(he:PE X e te)(hl:PO X lo tl)(hu:PO X hi th):PE X (.Subscript e (.Slice lo hi none p2) pos) (tSl r te tl th):=by
 intro pins s σ H Q I h
 refine Subscript_ (thn (he pins s σ H _ I h) λv s1 qz9=>?_)
 obtain⟨x,H1,I1,r1,q1⟩:=qz9
 refine wpAny_Slice (thn (hl pins s1 σ H1 _ I1 q1) λvl s2 qz9=>?_)
 obtain⟨l,H2,I2,pl,q2⟩:=qz9
 refine thn (hu pins s2 σ H2 _ I2 q2) λvu s3 qz9=>?_
 obtain⟨u,H3,I3,pu,q3⟩:=qz9
 rw[evalPart_none]
 refine X8 ?_
 have I4:Inv X pins σ H3 { s3 with heap:=s3.heap.push { cls:=.type "slice",data:=.fields #[vl,vu,.none] } }:=I3.kept (t':=s3.toks) λb ob q=>Xi _ q
 obtain⟨T,id,hT,ht,hg⟩:=hr pins { s3 with heap:=s3.heap.push { cls:=.type "slice",data:=.fields #[vl,vu,.none] } } σ H3 x v vl vu l u s3.heap.objs.size Q I4 r1 (Heap.IsSliceOf.new ..) pl pu q3
 show XX (X7 X.prog X.w) X.A (subscriptTail e (.Slice lo hi none p2) v (.ref s3.heap.objs.size)) (EP X pins σ Q) X.xe { s3 with heap:=s3.heap.push { cls:=.type "slice",data:=.fields #[vl,vu,.none] } }
 exact tail_any (ops:=[.ref s3.heap.objs.size,v]) ht hT hg (by with_unfolding_all rfl)
noncomputable def Z2j(xs:List V)(lo hi:Option Int):List V:=(xs.drop (HT.sIx xs.length 0 lo)).take (HT.sIx xs.length xs.length hi-HT.sIx xs.length 0 lo)
theorem Zm5(xs:List V)(lo hi:Option Int):(Z2j xs lo hi).length≤xs.length:=by
 unfold Z2j
 rw[Uy,JT]
 omega
end
noncomputable def ixN(n:Nat)(i:Int):Option Nat:=if 0≤i then(if i<n then some i.toNat else none)else if -(n:Int)≤i then some (i+n).toNat else none
noncomputable def atI{α:Type}(xs:List α)(i:Int):Option α:=(ixN xs.length i).bind λj=>xs[j]?
theorem Zto{n:Nat}{i:Int}{j:Nat}(h:ixN n i=some j):seqIndex? i n=some j∧j<n∧-(n:Int)≤i∧i<n:=by
 unfold ixN at h
 by_cases h0:0≤i
 ·rw[if_pos h0]at h
  by_cases h1:i<n
  ·rw[if_pos h1]at h
   have e:i.toNat=j:=Qy h
   exact⟨by rw[seqIndex_of h0 h1,e],by omega,by omega,h1⟩
  ·rw[if_neg h1]at h;cases h
 ·rw[if_neg h0]at h
  by_cases h1:-(n:Int)≤i
  ·rw[if_pos h1]at h
   have e:(i+n).toNat=j:=Qy h
   exact⟨by rw[seqIndex_neg (by omega) h1,e],by omega,h1,by omega⟩
  ·rw[if_neg h1]at h;cases h
theorem Zm1{α:Type}{xs:List α}{i:Int}{v:α}(h:atI xs i=some v):∃j,seqIndex? i xs.length=some j∧xs[j]? =some v∧j<xs.length∧-(xs.length:Int)≤i∧i<xs.length:=by
 unfold atI at h
 cases e:ixN xs.length i with
 | none=>rw[e]at h;cases h
 | some j=>
  rw[e]at h
  obtain⟨h1,h2,h3,h4⟩:=Zto e
  exact⟨j,h1,h,h2,h3,h4⟩
noncomputable def Zj9(b:Expr):Prop:=∀o i,subscripted b false o i=operate [o,i] (getItem o i)
noncomputable def IxR(X:Cx)(r:R2):Prop :=
 ∀(value slice:Expr) (pins:List (Addr×Obj)) (s:Xd) (σ:St) (H:Hp) (x y:V) (v u:Xc) (Q:VK),Inv X pins σ H s->RelV x v->RelV y u->r x y H Q ->
  subscripted slice false v u=operate [v,u] (getItem v u)->XX (X7 X.prog X.w) X.A (subscriptTail value slice v u) (EP X pins σ Q) X.xe s
noncomputable def MtR(X:Cx)(id:String)(r:V->List V->Hp->VK->Prop):Prop :=
 ∀(pins:List (Addr×Obj)) (s:Xd) (σ:St) (H:Hp) (x:V) (xs:List V) (v:Xc) (us:List Xc) (Q:VK),Inv X pins σ H s->RelV x v->Vals xs us->r x xs H Q ->
  XX (X7 X.prog X.w) X.A (call (.builtin id) (v :: us)) (EP X pins σ Q) X.xe s
section
variable {X:Cx}{a b:Expr}{ta tb:TE}{pos:Pos}
theorem IxR.or{r r':R2}(h:IxR X r)(h':IxR X r'):IxR X (λx y H Q=>r x y H Q∨r' x y H Q):=by
 intro value slice pins s σ H x y v u Q I rx ry q hs
 rcases q with q|q
 ·exact h value slice pins s σ H x y v u Q I rx ry q hs
 ·exact h' value slice pins s σ H x y v u Q I rx ry q hs
theorem Z6t{r:R2}(hr:IxR X r)(ha:PE X a ta)(hb:PE X b tb)(hs:Zj9 b):PE X (.Subscript a b pos) (tOp r ta tb):=by
 intro pins s σ H Q I h
 exact Subscript_ (Z9j ha hb I h λv u s2 x y H2 I2 rx ry q=>hr a b pins s2 σ H2 x y v u Q I2 rx ry q (hs _ _))
noncomputable def Z95(K:Xb):R2:=λx y H Q=>∃p xs i v,x= .ref p∧y= .int i∧SqL K H p xs∧atI xs i=some v∧Q v H
noncomputable def Yck(K:Xb):R2:=λx y H Q=>∃p xs i v,x= .ref p∧y= .int i∧SqT K H p xs∧atI xs i=some v∧Q v H
noncomputable def Ydb:R2:=λx y H Q=>∃z i c,x= .str z∧y= .int i∧z.length≤Xq∧atI z.cps.toList i=some c∧Q (.str ⟨#[c]⟩) H
theorem Zs3:IxR X (Z95 X.K):=by
 intro value slice pins s σ H x y v u Q I rx ry h hs
 obtain⟨p,xs,i,z,rfl,rfl,hq,he,q⟩:=h
 cases rx
 obtain⟨t,rfl⟩:=ry
 obtain⟨its,r,pl,hz⟩:=I.list hq
 obtain⟨j,h1,h2,h3,h4,h5⟩:=Zm1 he
 obtain⟨w,ew,rw'⟩:=r.get h2
 have hl:=r.length
 have hn:=Zjc
 have fin:EP X pins σ Q w s:=⟨z,H,I,rw',q⟩
 by_cases h0:0≤i
 ·have hj:i.toNat=j:=by
   rw[seqIndex_of h0 h5]at h1
   exact Qy h1
  exact item_listR pl.isList h0 (by omega) (by rw[hj];simpa using ew) fin hs
 ·have hj:(i+(its.toArray.size:Int)).toNat=j:=by
   rw[seqIndex_neg (by omega) h4]at h1
   rw[XR,←hl]
   exact Qy h1
  exact subscriptTail_builtinR (x:=w) pl.isList.typeIs slot_list_getitem.lookup
   (wpAny_getItem_list_neg (Q:=λr s'=>r=w∧EP X pins σ Q r s') pl.isList (by omega) (by rw[XR]<;>omega) (by omega) (by rw[hj];simpa using ew) ⟨rfl,fin⟩) hs
theorem Z4j:IxR X (Yck X.K):=by
 intro value slice pins s σ H x y v u Q I rx ry h hs
 obtain⟨p,xs,i,z,rfl,rfl,hq,he,q⟩:=h
 cases rx
 obtain⟨t,rfl⟩:=ry
 obtain⟨its,r,pl,hz⟩:=I.tuple hq
 obtain⟨j,h1,h2,h3,h4,h5⟩:=Zm1 he
 obtain⟨w,ew,rw'⟩:=r.get h2
 have hl:=r.length
 have hn:=Zjc
 have fin:EP X pins σ Q w s:=⟨z,H,I,rw',q⟩
 exact subscriptTail_builtinR (x:=w) pl.typeIs slot_tuple_getitem.lookup
  (getItem_tuple (j:=j) (Q:=λr s'=>r=w∧EP X pins σ Q r s') pl (by omega) (by omega) (by rw[XR,←hl];exact h1) (by simpa using ew) ⟨rfl,fin⟩) hs
theorem Z5a:IxR X Ydb:=by
 intro value slice pins s σ H x y v u Q I rx ry h hs
 obtain⟨z,i,c,rfl,rfl,hz,he,q⟩:=h
 obtain⟨t,rfl⟩:=rx
 obtain⟨t',rfl⟩:=ry
 obtain⟨j,h1,h2,h3,h4,h5⟩:=Zm1 he
 have hl:z.cps.toList.length=z.length:=by simp[Str.length]
 rw[hl]at h1 h4 h5
 have hn:=Zjc
 exact tail_any (typeIs_str s z t) slot_str_getitem.lookup (getItem_str (c:=c) (by
  have e1:decide (i< -(2^63:Int))=false:=decide_eq_false (by omega)
  have e2:decide (i≥2^63)=false:=decide_eq_false (by omega)
  rw[e1,e2,Bool.or_false]) (by rw[h1];simpa using h2) ⟨.str ⟨#[c]⟩,H,I.tok _,⟨_,rfl⟩,q⟩) hs
noncomputable def rIx(K:Xb):R2:=λx y H Q=>Z95 K x y H Q∨Yck K x y H Q∨Ydb x y H Q
theorem Z2w:IxR X (rIx X.K):=Zs3.or (Z4j.or Z5a)
theorem Zpl(its:List Xc)(n j:Nat)(u:Xc):JK (·.setIfInBounds j u) { cls:=.type "list",data:=.seq its.toArray n }={ cls:=.type "list",data:=.seq (its.set j u).toArray n }:=by
 simp[JK]
theorem Inv.lst{pins:List (Addr×Obj)}{σ:St}{H:Hp}{s:Xd}{p:Addr}{xs:List V}(I:Inv X pins σ H s)(h:H p=some (.lst xs)) :
  ∃(its:List Xc) (n:Nat),Vals xs its∧s.heap.get? p=some { cls:=.type "list",data:=.seq its.toArray n }∧xs.length≤Xq:=by
 obtain⟨z,its,n,r,e⟩:=I.hok p _ h
 exact⟨its,n,r,e,z⟩
theorem Inv.lstUpd{pins:List (Addr×Obj)}{σ:St}{H:Hp}{s:Xd}{p:Addr}{xs ys:List V}{its its':List Xc}{n n':Nat}{f:Obj->Obj}(I:Inv X pins σ H s)(h:H p=some (.lst xs))
  (ho:s.heap.get? p=some { cls:=.type "list",data:=.seq its.toArray n }) (hf:f { cls:=.type "list",data:=.seq its.toArray n }={ cls:=.type "list",data:=.seq its'.toArray n' }) (r:Vals ys its') (hz:ys.length≤Xq) (t:Nat) :
  Inv X pins σ (upd H p (.lst ys)) { s with heap:=s.heap.update p f,toks:=t }:=by
 have e:(s.heap.update p f).get? p=some { cls:=.type "list",data:=.seq its'.toArray n' }:=by
  rw[Heap.get?_update_self f ho (by rw[hf]<;>rfl),hf]
 refine I.write (x:=p) (e:=p) (by rw[h];trivial) (.inl rfl) (λb u hb q=>(Heap.get?_update_other _ _ (JM hb)).trans q) ⟨_,e⟩ ?_
 exact⟨hz,its',n',r,e⟩
noncomputable def Zwy:V->V->V->Hp->(Hp->Prop)->Prop:=λo i v H Q=>∃p xs k j,o= .ref p∧i= .int k∧H p=some (.lst xs)∧ixN xs.length k=some j∧Q (upd H p (.lst (xs.set j v)))
theorem set_list:Ydl X Zwy:=by
 intro pins s σ H o i v ov iv u Q I ro ri rv h
 obtain⟨p,xs,k,j,rfl,rfl,hp,hj,q⟩:=h
 cases ro
 obtain⟨t,rfl⟩:=ri
 obtain⟨its,n,r,ho,hz⟩:=I.lst hp
 obtain⟨h1,h2,h3,h4⟩:=Zto hj
 have hl:=r.length
 have hn:=Zjc
 have I':Inv X pins σ (upd H p (.lst (xs.set j v))) { s with heap:=s.heap.update p (JK (·.setIfInBounds j u)) } :=
  I.lstUpd hp ho (Zpl its n j u) (r.set rv j) (by rw[Bb];exact hz) s.toks
 by_cases h0:0≤k
 ·have hk:k.toNat=j:=by
   rw[seqIndex_of h0 h4]at h1
   exact Qy h1
  exact PySem.W.ki_setAt ho h0 (by omega) (by rw[XR,←hl];exact h4) (by rw[hk];exact⟨_,I',q⟩)
 ·have hk:(k+(its.toArray.size:Int)).toNat=j:=by
   rw[seqIndex_neg (by omega) h3]at h1
   rw[XR,←hl]
   exact Qy h1
  exact PySem.W.ki_setBack ho (by omega) (by rw[XR,←hl];exact h3) (by omega) (by rw[hk];exact⟨_,I',q⟩)
theorem Zk4(lo hi:Option Int)(n:Nat):(V4 lo hi none n).1=((HT.sIx n 0 lo:Nat):Int)∧(V4 lo hi none n).2.1=((HT.sIx n n hi:Nat):Int)∧(V4 lo hi none n).2.2=1:=by
 refine⟨?_,?_,rfl⟩
 ·cases lo with
  | none=>simp[V4,HT.sIx]
  | some i=>
   simp only[V4,HT.sIx,Option.getD_none,show(1:Int)>0 by decide,if_true]
   by_cases h:i<0
   ·simp only[h,if_true]<;>omega
   ·simp only[h,if_false]<;>omega
 ·cases hi with
  | none=>simp[V4,HT.sIx]
  | some i=>
   simp only[V4,HT.sIx,Option.getD_none,show(1:Int)>0 by decide,if_true]
   by_cases h:i<0
   ·simp only[h,if_true]<;>omega
   ·simp only[h,if_false]<;>omega
theorem Zjp(its:List Xc)(lo hi:Option Int):slicePick its.toArray lo hi none=((its.drop (HT.sIx its.length 0 lo)).take (HT.sIx its.length its.length hi-HT.sIx its.length 0 lo)).toArray:=by
 obtain⟨h1,h2,h3⟩:=Zk4 lo hi its.toArray.size
 unfold slicePick
 rw[h1,h2,h3]
 simp only[sliceRange_one,pick_run,XR]<;>rfl
noncomputable def Ycv(K:Xb):V->Option Int->Option Int->Hp->VK->Prop:=λx lo hi H Q=>∃a xs,x= .ref a∧SqL K H a xs∧∀p,H p=none->Q (.ref p) (upd H p (.lst (Z2j xs lo hi)))
theorem Zy2:SlR X (Ycv X.K):=by
 intro pins s σ H x v vl vu lo hi sl Q I rx hs pl pu h
 obtain⟨a,xs,rfl,hx,q⟩:=h
 cases rx
 obtain⟨its,r,ht,hz⟩:=I.list hx
 have hlen:=r.length
 refine⟨"list",_,slot_list_getitem.lookup,ht.isList.typeIs,?_⟩
 refine wpAny_getItem_list_slice ht.isList hs pl pu .none (by simp) ?_ (by rw[XR]<;>omega)
 rw[Zjp,←hlen]
 refine⟨.ref s.heap.objs.size,_,I.laid (t':=s.toks) (o:=.lst (Z2j xs lo hi)) (λb ob q=>Xi _ q) (Qn _) ?_,rfl,q _ (I.hok.fresh (Qn _))⟩
 exact⟨QF (Zm5 xs lo hi) hz,_,0,(r.drop (HT.sIx xs.length 0 lo)).take (HT.sIx xs.length xs.length hi-HT.sIx xs.length 0 lo),Qd _ rfl⟩
noncomputable def Zho:V->Bool
 | .non=>true
 | .bl _=>true
 | .int _=>true
 | .str _=>true
 | _=>false
noncomputable def eqV:V->V->Bool
 | .non,.non=>true
 | .bl a,.bl b=>a==b
 | .bl a,.int b=>(if a then 1 else 0)==b
 | .int a,.bl b=>a==(if b then 1 else 0)
 | .int a,.int b=>a==b
 | .str a,.str b=>a==b
 | _,_=>false
theorem Z4p{A:Qk}{s:Xd}{y x:V}{u v:Xc}(ry:RelV y u)(rx:RelV x v)(fy:Zho y=true)(fx:Zho x=true):JG A s u v (eqV y x):=by
 cases y with
 | non=>
  cases ry
  cases x with
  | non=>cases rx;exact JG.same _
  | bl b=>cases rx;exact JG.none_bool b
  | int b=>obtain⟨t,rfl⟩:=rx;exact JG.none_int b t
  | str b=>obtain⟨t,rfl⟩:=rx;exact JG.none_str b t
  | _=>exact absurd (show false=true from fx) Xx
 | bl a=>
  cases ry
  cases x with
  | non=>cases rx;exact JG.bool_none a
  | bl b=>cases rx;exact JG.bool_bool a b
  | int b=>obtain⟨t,rfl⟩:=rx;exact JG.bool_int a b t
  | str b=>obtain⟨t,rfl⟩:=rx;exact JG.bool_str a b t
  | _=>exact absurd (show false=true from fx) Xx
 | int a=>
  obtain⟨t',rfl⟩:=ry
  cases x with
  | non=>cases rx;exact JG.int_none a t'
  | bl b=>cases rx;exact JG.int_bool a t' b
  | int b=>obtain⟨t,rfl⟩:=rx;exact JG.int_int a t' b t
  | str b=>obtain⟨t,rfl⟩:=rx;exact SeqAt.EqAt.int_str a t' b t
  | _=>exact absurd (show false=true from fx) Xx
 | str a=>
  obtain⟨t',rfl⟩:=ry
  cases x with
  | non=>cases rx;exact JG.str_none a t'
  | bl b=>cases rx;exact JG.str_bool a t' b
  | int b=>obtain⟨t,rfl⟩:=rx;exact SeqAt.EqAt.str_int a t' b t
  | str b=>obtain⟨t,rfl⟩:=rx;exact JG.str_str a t' b t
  | _=>exact absurd (show false=true from fx) Xx
 | _=>exact absurd (show false=true from fy) Xx
noncomputable def eqU(x:V)(u:Xc):Bool:=match u with
 | .none=>eqV .non x
 | .bool b=>eqV (.bl b) x
 | .int i _=>eqV (.int i) x
 | .str z _=>eqV (.str z) x
 | _=>false
theorem Zx7{x y:V}{u:Xc}(r:RelV y u)(f:Zho y=true):eqU x u=eqV y x:=by
 cases y with
 | non=>cases r;rfl
 | bl b=>cases r;rfl
 | int i=>obtain⟨t,rfl⟩:=r;rfl
 | str z=>obtain⟨t,rfl⟩:=r;rfl
 | _=>exact absurd (show false=true from f) Xx
theorem Zj3{x:V}{xs:List V}{us:List Xc}(h:Vals xs us)(f:xs.all Zho=true):us.any (eqU x)=xs.any λy=>eqV y x:=by
 induction h with
 | nil=>rfl
 | cons r t ih=>
  rw[Ur,XN]at f
  rw[List.any_cons,List.any_cons,Zx7 r f.1,ih f.2]
theorem Zg0{A:Qk}{s:Xd}{x:V}{v:Xc}(rx:RelV x v)(fx:Zho x=true){xs:List V}{us:List Xc}(h:Vals xs us)(f:xs.all Zho=true):∀u∈us,JG A s u v (eqU x u):=by
 induction h with
 | nil=>intro u hu;cases hu
 | cons r t ih=>
  intro u' hu
  rw[Ur,XN]at f
  rcases Xl.mp hu with rfl|hu
  ·rw[Zx7 r f.1];exact Z4p r rx f.1 fx
  ·exact ih f.2 u' hu
noncomputable def inV(x:V)(xs:List V):Bool:=xs.any λy=>eqV y x
noncomputable def rIn(K:Xb)(neg:Bool):R2:=λx y H Q=>∃p xs,y= .ref p∧(SqL K H p xs∨SqT K H p xs)∧Zho x=true∧xs.all Zho=true∧Q (.bl (if neg then !inV x xs else inV x xs)) H
theorem Zsf:OpR X (Bg .In) (rIn X.K false):=by
 intro pins s σ H x y v u Q I rx ry h
 obtain⟨p,xs,rfl,hq,fx,fs,q⟩:=h
 cases ry
 rcases hq with hq|hq
 ·obtain⟨its,r,pl,hz⟩:=I.list hq
  refine SeqAt.in_listAt (eqU x) pl.isList (λw hw=>Zg0 rx fx r fs w (by simpa using hw)) ⟨.bl _,H,I,rfl,?_⟩
  rw[show its.toArray.any (eqU x)=its.any (eqU x) by simp,Zj3 r fs]
  exact q
 ·obtain⟨its,r,pl,hz⟩:=I.tuple hq
  refine SeqAt.in_tupleAt (eqU x) pl (λw hw=>Zg0 rx fx r fs w (by simpa using hw)) ⟨.bl _,H,I,rfl,?_⟩
  rw[show its.toArray.any (eqU x)=its.any (eqU x) by simp,Zj3 r fs]
  exact q
theorem Zmb:OpR X (Bg .NotIn) (rIn X.K true):=by
 intro pins s σ H x y v u Q I rx ry h
 obtain⟨p,xs,rfl,hq,fx,fs,q⟩:=h
 cases ry
 rcases hq with hq|hq
 ·obtain⟨its,r,pl,hz⟩:=I.list hq
  refine SeqAt.notIn_listAt (eqU x) pl.isList (λw hw=>Zg0 rx fx r fs w (by simpa using hw)) ⟨.bl _,H,I,rfl,?_⟩
  rw[show its.toArray.any (eqU x)=its.any (eqU x) by simp,Zj3 r fs]
  exact q
 ·obtain⟨its,r,pl,hz⟩:=I.tuple hq
  refine SeqAt.notIn_tupleAt (eqU x) pl (λw hw=>Zg0 rx fx r fs w (by simpa using hw)) ⟨.bl _,H,I,rfl,?_⟩
  rw[show its.toArray.any (eqU x)=its.any (eqU x) by simp,Zj3 r fs]
  exact q
theorem Zld:Zd9 X (.builtin "len") (λxs H Q=>∃p ys,xs=[.ref p]∧(SqL X.K H p ys∨SqT X.K H p ys)∧Q (.int ys.length) H):=by
 intro pins s σ H xs us Q I r h
 obtain⟨p,ys,rfl,hq,q⟩:=h
 obtain⟨u,rfl,rx⟩:=vals1 r
 cases rx
 have hn:=Zjc
 rcases hq with hq|hq
 ·obtain⟨its,r',pl,hz⟩:=I.list hq
  have hlen:=r'.length
  exact Calls.call_len_list pl.isList (by simp only[XR]<;>omega) ⟨.int ys.length,H,I.tok _,⟨s.toks+1,by rw[XR,hlen]⟩,q⟩
 ·obtain⟨its,r',pl,hz⟩:=I.tuple hq
  have hlen:=r'.length
  exact len_tuple pl (by simp only[XR]<;>omega) ⟨.int ys.length,H,I.tok _,⟨s.toks+1,by rw[XR,hlen]⟩,q⟩
noncomputable def tyV(K:Xb)(T:String)(x:V)(H:Hp):Prop:=match x with
 | .str _=>T="str"
 | .int _=>T="int"
 | .ref p=>(T="list"∧∃xs,SqL K H p xs)∨(T="tuple"∧∃o,K.lookup p=some o∧o.cls= .type "tuple"∧o.dict=none)∨
   (T="dict"∧((∃kvs,H p=some (.dK kvs))∨∃kvs,H p=some (.dT kvs)))∨(T="set"∧∃S n,H p=some (.set S n))
 | _=>False
theorem Z3m{pins:List (Addr×Obj)}{σ:St}{H:Hp}{s:Xd}{T:String}{x:V}{v:Xc}(I:Inv X pins σ H s)(r:RelV x v)(ty:tyV X.K T x H) :
  s.TypeIs v T∧∀a,v= .ref a->∃ob,s.heap.get? a=some ob∧ob.dict=none:=by
 cases x with
 | str z=>
  obtain⟨t,rfl⟩:=r
  cases(show T="str"from ty)
  exact⟨typeIs_str s z t,λ_ e=>nomatch e⟩
 | int i=>
  obtain⟨t,rfl⟩:=r
  cases(show T="int"from ty)
  exact⟨typeIs_int s i t,λ_ e=>nomatch e⟩
 | ref p=>
  cases r
  rcases ty with⟨rfl,xs,hq⟩|⟨rfl,o,hk,hc,hd⟩|⟨rfl,hk⟩|⟨rfl,S,n,hk⟩
  ·obtain⟨its,_,pl,_⟩:=I.list hq
   refine⟨pl.isList.typeIs,λa e=>?_⟩
   cases e
   obtain⟨o,n,e,c,hd,_⟩:=pl
   exact⟨o,e,hd⟩
  ·refine⟨⟨o,I.kIn p o hk,hc⟩,λa e=>?_⟩
   cases e
   exact⟨o,I.kIn _ o hk,hd⟩
  ·have z:∃o,s.heap.get? p=some o∧o.ExactDict:=by
    rcases hk with⟨kvs,hk⟩|⟨kvs,hk⟩
    ·obtain⟨_,_,_,_,o,_,_,e,ex,_⟩:=I.hok p _ hk
     exact⟨o,e,ex⟩
    ·obtain⟨_,_,_,_,o,_,_,e,ex,_⟩:=I.hok p _ hk
     exact⟨o,e,ex⟩
   obtain⟨o,e,ex⟩:=z
   refine⟨⟨o,e,ex.1⟩,λa e2=>?_⟩
   cases e2
   exact⟨o,e,ex.2.1⟩
  ·obtain⟨o,_,_,_,e,ex,_⟩:=I.hok p _ hk
   refine⟨⟨o,e,ex.1⟩,λa e2=>?_⟩
   cases e2
   exact⟨o,e,ex.2.1⟩
 | _=>exact Bj ty
noncomputable def tBM(K:Xb)(T:String)(r:V->List V->Hp->VK->Prop)(to:TE)(t:TA):TE:=λσ H Q=>to σ H λx H1=>tyV K T x H1∧t σ H1 λxs H2=>r x xs H2 Q
variable {o e:Expr}{es:List Expr}{to:TE}{t:TA}{name:Str}{apos cpos:Pos}{T id:String}{r:V->List V->Hp->VK->Prop}
theorem Z96(pa:PlainAttrs T)(slot:Slot T name id)(hty:typeOf (.builtin id)=pure (.type "method_descriptor"))(hm:MtR X id r)(ho:PE X o to)(ha:PA X (e :: es) t)
  (hbase:attributeBase o name X.env (eval o X.env)=eval o X.env:=by rfl)
  (hfew:((Q6 cpos (Xh (e :: es) X.env)).all (λx=>!x.1)&&(backToKw cpos (keywordEach [] X.env)).all (λx=>x.1.isSome)
   &&decide ((e :: es).length+([]:List Keyword).length+(if([]:List Keyword).isEmpty then 0 else 1)<30))=true:=by rfl)
  (hline:(apos.endLine==cpos.line)=true:=by rfl) (hs:Xh (e :: es) X.env=(false,eval e X.env) :: Xh es X.env:=by rfl) (hplain:(Q6 cpos (Xh es X.env)).any (·.1)=false:=by rfl) :
  PE X (.Call (.Attribute o name apos) (e :: es) [] cpos) (tBM X.K T r to t):=by
 intro pins s σ H Q I h
 refine wpAny_Call_method_late hbase hfew hline rfl (thn (ho pins s σ H _ I h) λv s1 qz9=>?_)
 obtain⟨x,H1,I1,r1,ty,q1⟩:=qz9
 obtain⟨h1,h2⟩:=Z3m I1 r1 ty
 refine⟨T,id,pa,slot,hty,h1,h2,?_⟩
 have hA:=ha cpos pins s1 σ H1 _ I1 q1
 rw[hs]at hA⊢
 refine Calls.callWith_builtin (by show(false||(Q6 cpos (Xh es X.env)).any (·.1))=false;rw[hplain]<;>rfl) (Calls.evalArgs_plain ?_)
 refine thn hA λus s2 qz9=>?_
 obtain⟨vs,H2,I2,r2,q2⟩:=qz9
 exact hm pins s2 σ H2 x vs v us Q I2 r1 r2 q2
end
noncomputable def MtM(X:Cx)(id:String)(r:V->List V->Hp->VK->Prop):Prop :=
 ∀(pins:List (Addr×Obj)) (s:Xd) (σ:St) (H:Hp) (x:V) (xs:List V) (v:Xc) (us:List Xc) (Q:VK),Inv X pins σ H s->RelV x v->Vals xs us->r x xs H Q ->
  XX (X7 X.prog X.w) X.A (call (.builtin id) (v :: us)) (EP X pins σ Q) X.xe s
theorem Vals.one{x:V}{us:List Xc}(h:Vals [x] us):∃u,us=[u]∧RelV x u:=by
 cases h with
 | cons r t=>cases t;exact⟨_,rfl,r⟩
theorem Vals.zero:∀{us:List Xc},Vals [] us->us=[]
 | _,.nil=>rfl
theorem Vals.rep{xs:List V}{us:List Xc}(h:Vals xs us):∀k:Nat,Vals (Xz k xs).flatten (Xz k us).flatten
 | 0=>.nil
 | k+1=>by
  rw[Bv,Bv,Vt,Vt]
  exact Vals.append h (Vals.rep h k)
theorem foldl_rep(its:List Xc):∀(k:Nat) (acc:List Xc),
  List.foldl (λx1 x2=>x1 ++ x2) acc.toArray (Xz k its.toArray)=(acc ++ (Xz k its).flatten).toArray
 | 0,acc=>by simp
 | k+1,acc=>by
  have e:acc.toArray ++ its.toArray=(acc ++ its).toArray:=by simp
  have e2:(acc ++ its) ++ (Xz k its).flatten=acc ++ (Xz (k+1) its).flatten:=by
   rw[Bv,Vt,Vb]
  rw[←e2,←foldl_rep its k (acc ++ its),←e,Bv,List.foldl_cons]
section
variable {X:Cx}{pins:List (Addr×Obj)}{σ:St}{H:Hp}{s:Xd}{l b:Addr}{xs ys zs:List V}
theorem Inv.lset{its its':List Xc}{n:Nat}{f:Array Xc->Array Xc}{t':Nat}(I:Inv X pins σ H s)(hH:H l=some (.lst xs))
  (e:s.heap.get? l=some { cls:=.type "list",data:=.seq its.toArray n }) (hf:f its.toArray=its'.toArray) (hv:Vals ys its') (hz:ys.length≤Xq) :
  Inv X pins σ (upd H l (.lst ys)) { s with heap:=s.heap.update l (JK f),toks:=t' }:=by
 have q:=PySem.IsL.update e f
 rw[hf]at q
 refine I.write (x:=l) (e:=l) (by rw[hH];exact trivial) (.inl rfl) (λb' u hb hu=>(Heap.get?_update_other s.heap (JK f) (JM hb)).trans hu) ⟨_,q⟩ ?_
 exact⟨hz,its',_,hv,q⟩
theorem Inv.lnew{its:List Xc}{t':Nat}(I:Inv X pins σ H s)(hv:Vals ys its)(hz:ys.length≤Xq) :
  Inv X pins σ (upd H s.heap.objs.size (.lst ys)) { s with heap:=s.heap.push { cls:=.type "list",data:=.seq its.toArray },toks:=t' } :=
 I.laid (λ_ _ q=>Xi _ q) (Qn _) ⟨hz,its,0,hv,Qd _ rfl⟩
theorem Inv.fresh(I:Inv X pins σ H s):H s.heap.objs.size=none:=I.hok.fresh (Qn _)
theorem Inv.lstM(I:Inv X pins σ H s)(hH:H l=some (.lst xs)):xs.length≤Xq∧∃(its:List Xc) (n:Nat),Vals xs its∧xs.length=its.length∧s.heap.get? l=some { cls:=.type "list",data:=.seq its.toArray n }:=by
 obtain⟨z,its,n,r,e⟩:=I.hok l _ hH
 exact⟨z,its,n,r,r.length,e⟩
theorem Zvg{n:Nat}(h:n≤Xq):VM n=false:=by
 unfold VM
 exact decide_eq_false (by omega)
end
section
variable {X:Cx}
noncomputable def Z0t:V->List V->Hp->VK->Prop:=λx vs H Q=>∃l xs y,x= .ref l∧vs=[y]∧H l=some (.lst xs)∧xs.length<Xq∧Q .non (upd H l (.lst (xs ++ [y])))
theorem Zl5:MtM X "list.append" Z0t:=by
 intro pins s σ H x vs v us Q I rx rv h
 obtain⟨l,xs,y,rfl,rfl,hH,hz,q⟩:=h
 cases rx
 obtain⟨u,rfl,ru⟩:=rv.one
 obtain⟨z,its,n,r,hl,e⟩:=I.lstM hH
 refine call_meets F.slot_list_append ⟨_,e,rfl⟩ F.entry_list_append (F.args_list_append_2 _ _) (PySem.list_append l its.toArray n u (by rw[XR];omega)) ⟨e,?_⟩
 refine⟨.non,_,I.lset (its':=its ++ [u]) hH e (by simp) (r.append (.cons ru .nil)) ?_,rfl,q⟩
 rw[Qx,List.length_singleton]
 omega
noncomputable def Yer:R2:=λx y H Q=>∃l k xs,x= .ref l∧y= .int k∧H l=some (.lst xs)∧-(2^63)≤k∧k<2^63∧xs.length*k.toNat≤Xq∧
 ∀p,H p=none->Q (.ref p) (upd H p (.lst (Xz k.toNat xs).flatten))
theorem len_rep{α:Type}(xs:List α)(k:Nat):(Xz k xs).flatten.length=k*xs.length:=by
 induction k with
 | zero=>simp
 | succ k ih=>rw[Bv,Vt,Qx,ih,Nat.succ_mul,Nat.add_comm]
theorem Z7d:OpR X (BV .Mult) Yer:=by
 intro pins s σ H x y v u Q I rx ry h
 obtain⟨l,k,xs,rfl,rfl,hH,h1,h2,hz,q⟩:=h
 cases rx
 obtain⟨t,rfl⟩:=ry
 obtain⟨z,its,n,r,hl,e⟩:=I.lstM hH
 have hlen:its.toArray.size*k.toNat≤Xq:=by rw[XR,←hl];exact hz
 have hcap:¬its.toArray.size*k.toNat>(2^63-1)/8:=by
  have:(Xq:Nat)≤(2^63-1)/8:=by decide
  omega
 have hfit:¬(!Builtin.List.listFitsIndex k)=true:=by
  rw[fitsIndex_both h1 h2]
  exact Xx
 have hlong:¬VM (its.toArray.size*k.toNat)=true:=by
  rw[Zvg hlen]
  exact Xx
 have hnew:List.foldl (λx1 x2=>x1 ++ x2) #[] (Xz (if its.toArray.isEmpty=true then 0 else k.toNat) its.toArray)=(Xz k.toNat its).flatten.toArray:=by
  have f0:∀m:Nat,List.foldl (λx1 x2=>x1 ++ x2) #[] (Xz m its.toArray)=(Xz m its).flatten.toArray:=λm=>by
   have:=foldl_rep its m []
   rw[List.nil_append]at this
   exact this
  rw[f0]
  cases its with
  | nil=>simp
  | cons a r'=>rw[if_neg (by simp)]
 refine wpAny_binaryOp_repeat_ref (T :="list") (U :="int") (by decide) ⟨_,e,rfl⟩ (λs'=>typeIs_int s' k t) noFill_list_mul F.fills_int_mul F.slot_int_rmul repeat_list F.slot_int_index.lookup
  (call_meets F.slot_int_rmul (typeIs_int s k t) F.entry_int_rmul (F.args_int_rmul_2 _ _) (int___rmul___int_list k t l its.toArray n)
   ⟨e,rfl,⟨_,e,rfl⟩,call_meets F.slot_list_mul ⟨_,e,rfl⟩ F.entry_list_mul (F.args_list_mul_2 _ _) (AutoListH.list___mul___list_int_3 l its.toArray n k t hfit hcap hlong) ⟨e,?_⟩⟩)
 rw[hnew]
 exact⟨.ref _,_,I.lnew (t':=s.toks) (r.rep k.toNat) (by rw[len_rep,Nat.mul_comm];exact hz),rfl,q _ I.fresh⟩
end
section
variable {prog:X6}{w:Qt}{A:Qk}{E:Xc->Xd->Prop}{s:Xd}
end
section
variable {X:Cx}
end
end L2
namespace Att
open PySem PySem.W PySem.Calls PyProof.Rows
theorem Zhn{P:Params}{h:Heap}:∀(ns:List Int) (vs:List Xc),WellAll P h vs (ns.map WData.int)->Vj vs ns:=by
 intro ns
 induction ns with
 | nil=>
  intro vs w
  rw[List.map_nil]at w
  cases w
  exact .nil
 | cons n ns ih=>
  intro vs w
  rw[Ql]at w
  cases w with
  | cons a b=>
   cases a
   exact .cons _ _ (ih _ b)
theorem Zrp{l:OpenLaw}{n:Nat}(hn:l.most=some n){P:Params}{h:Heap}{args:List WData}{vals:List Xc}
  (hpre:l.row.toRowW.claim.pre args=true) (hwl:WellAll P h vals args) :
  ∃a vs ns,vals=[Qu a]∧args=[WData.list (ns.map WData.int)]∧h.get? a=some { cls:=.type "list",data:=.seq vs.toArray }∧Vj vs ns∧ns.length≤n:=by
 have hsh:WShape.hasAll [] args [.list .int]=true:=(pre_splitW hpre).1
 have hc:l.pre.holds [] { args:=args }=true:=(pre_splitW hpre).2
 obtain⟨d,r,rfl,h1,h2⟩:=hasAllW_cons hsh
 obtain rfl:=hasAllW_nil h2
 obtain⟨xs,rfl,h3⟩:=hasW_list h1
 obtain⟨ns,rfl⟩:=items_int h3
 have hlen:ns.length≤n:=by
  unfold OpenLaw.pre at hc
  have h4:(WTm.not (.lt (.lit (.int (n:Int))) (.len (.arg 0)))).holds [] { args:=[.list (ns.map .int)] }=true:=by
   have h4:=(holds_andW hc).1
   rw[hn]at h4
   exact h4
  have h5:=condW_of h4 (w_not (w_lt w_lit (w_len_list (w_arg rfl))))
  rw[Xg]at h5
  refine Nat.le_of_not_lt λq=>?_
  have q':(n:Int)<((ns.length:Nat):Int):=by omega
  first
   | (rw[decide_eq_true q']at h5;exact absurd h5 (by decide))
   | (simp at h5;omega)
 cases hwl with
 | cons w1 w2=>
  cases w2
  cases w1 with
  | list ho hall=>exact⟨_,_,ns,rfl,rfl,ho,Zhn ns _ hall,hlen⟩
theorem Zts(l:OpenLaw)(args:List WData):l.row.toRowW.claim.post args (.bool true) args=true :=
 postW_of (r:=l.row.toRowW) (X:=(true==true))
  (show WShape.has [] (.bool true) .bool=true by first|rfl|decide|simp[WShape.has,WShape.arms,WShape.armsAll])
  (show(WTm.eq .res (.lit (.bool true))).value [] { args:=args,res:=some (.bool true),after:=args }=some (.bool (true==true))from w_eq_bool (w_res rfl) w_lit) rfl
theorem attach_call{l:OpenLaw}{n:Nat}{q:X6}{loose:List Str}{XP:(Str->Option Xc)->Heap->Prop}{YP:Qt->Heap->Prop}{d:DefRec}
  (hn:l.most=some n) (hdf:d.params.defaults=[])
  (call:∀(w:Qt) (s₀ s₁:Xd) (mg mb:Str->Option Xc) (fa:Addr) (o:Obj) (pm cd doc:Xc) (a:Addr) (vs:List Xc) (ns:List Int),
   Ground q loose [] XP w s₀ mg mb s₁.heap->YP w s₁.heap ->
   s₁.heap.get? fa=some o->o.data= .func (docDef d.name d.params d.body d.scope pm cd doc)->s₁.heap.CodeRec cd d.name->mg d.name=some (.ref fa) ->
   s₁.heap.get? a=some { cls:=.type "list",data:=.seq vs.toArray }->Vj vs ns->ns.length≤n->s₁.gens=#[] ->
   codeAny (X7 l.prog w) callerA (.call (.ref fa) ⟨[.ref a],[]⟩) (λr s'=>r= .ok (.ret (.bool true))∧OldK s₁.heap s'.heap∧s'.os=s₁.os∧UL s'.gens) s₁) :
  WalkO q loose XP YP l.row.toRowW d [] (λf vs=>PySem.call f vs):=by
 intro w s₀ s₁ mg mb G Y fa o pm cd doc dV kV ho hd hcd hD hmg hg args vals as hpre hlay hrd hwl hlo
 obtain rfl:dV= .none:=Dflts.none hD hdf
 obtain rfl:kV= .none:=Dflts.noKw hD
 obtain⟨a,vs,ns,rfl,rfl,hobj,hints,hlen⟩:=Zrp hn hpre hwl
 refine enter_call (codeAny_mono (call w s₀ s₁ mg mb fa o pm cd doc a vs ns G Y ho (fd_plain hd) hcd hmg hobj hints hlen hg) λr s' hq=>?_)
 obtain⟨rfl,h2,h3,h4⟩:=hq
 exact⟨.inl ⟨.bool true,.bool true,[],rfl,λ_=>rfl,.bool true,Zts l _,λ_=>⟨List.Pairwise.nil,λ_ hm=>(nomatch hm)⟩⟩,h2,h3,h4⟩
section
variable {prog:X6}{w:Qt}{A:Qk}{E:Xc->Xd->Prop}{s:Xd}{K:Frag}
end
end Att
namespace L2
open PySem PySem.Spec PyProof.Rows
theorem Zuj{vs:List Xc}{ns:List Int}(h:Vj vs ns):Vals (ns.map V.int) vs:=by
 induction h with
 | nil=>exact .nil
 | cons n t h ih=>exact .cons ⟨t,rfl⟩ ih
noncomputable def Only(H:Hp):Prop:=∀b,H b=none∨∃o xs,H b=some (.frz o (.lst xs))
theorem Zu6{P:X6}{w:Qt}{K:Xb}{mg mb:Str->Option Xc}{CX:CXT}{k:Nat}{fa a:Addr}{fd:Xp}{x:Str}{sp:Sp}{s₁:Xd}{vs:List Xc}{ns:List Int}
  (KX:K.In s₁.heap) (hns:s₁.heap.Ns XD mg) (hb:s₁.heap.Ns builtinsNs mb) (hbb:∀x:Str,x≠"__name__" ->mb x=Qc x) (hlim:s₁.heap.NoLimit) (hg:s₁.gens=#[])
  (ha:s₁.heap.get? a=some { cls:=.type "list",data:=.seq vs.toArray }) (hi:Vj vs ns) (hl:ns.length≤Xq) (hr:Room k callerA)
  (F:∀base:Heap,K.In base->base.Ns XD mg->FnOk P w K mg base CX k fa fd [x] sp) (hbind:∀(s:Xd) (u:Xc),BindsTo s fd ⟨[u],[]⟩ [(x,u)])
  (hsp:∀H:Hp,Only H->SqL K H a (ns.map V.int)->sp [.ref a] H (λv _=>v= .bl true) λ_ _ _=>False)
  (hCX:∀H e s',CX [] H s₁ (λ_ _ _=>False) e s'->False) :
  codeAny (X7 P w) callerA (.call (.ref fa) ⟨[.ref a],[]⟩) (λr s'=>r= .ok (.ret (.bool true))∧OldK s₁.heap s'.heap∧s'.os=s₁.os∧UL s'.gens) s₁:=by
 have rv:=Zuj hi
 have lenV:=hi.length
 -- from an abstract heap in which nothing but the script may be tracked
 have core:∀H:Hp,Only H->SqL K H a (ns.map V.int)->HOk P w H s₁.heap->(∀b,H b≠none->b=a)->(H a≠none->K.lookup a=none) ->
   codeAny (X7 P w) callerA (.call (.ref fa) ⟨[.ref a],[]⟩) (λr s'=>r= .ok (.ret (.bool true))∧OldK s₁.heap s'.heap∧s'.os=s₁.os∧UL s'.gens) s₁:=by
  intro H hO hS hok hA hK
  have base_of:∀{b:Addr} {o:Obj},s₁.heap.get? b=some o->H b=none->(Zv4 s₁.heap H).get? b=some o:=λe n=>Zv1 e n
  have noA:∀{b:Addr} {o:Obj} {es:Array DictEntry} {ep:Nat},s₁.heap.get? b=some o->o.data= .dict es ep->H b=none:=fun{b o es ep} e d=>by
   cases q:H b with
   | none=>rfl
   | some u=>
    have e':b=a:=hA b (by rw[q];simp)
    subst e'
    rw[ha]at e;cases e
    have d':Data.seq vs.toArray _=Data.dict es ep:=d
    cases d'
  have nsK:∀{b:Addr} {m:Str->Option Xc},s₁.heap.Ns b m->(Zv4 s₁.heap H).Ns b m:=fun{b m} ⟨o,es,ep,e,d,r⟩=>⟨o,es,ep,base_of e (noA e d),d,r⟩
  have hKb:K.In (Zv4 s₁.heap H):=λb o e=>base_of (KX b o e) (by
   cases q:H b with
   | none=>rfl
   | some u=>
    have e':b=a:=hA b (by rw[q];simp)
    subst e'
    rw[hK (by rw[q];simp)]at e;cases e)
  have hM:Mod K mg (Zv4 s₁.heap H):=⟨hKb,nsK hns,⟨mb,nsK hb,hbb⟩,let⟨mc,h1,h2⟩:=hlim;⟨mc,nsK h1,h2⟩⟩
  have e0:Z8l P w K mg (Zv4 s₁.heap H) callerA [] s₁ H:=⟨rfl,hM,λb o e=>Z0i e,Nat.le_of_eq (Zqq _ _),trivial,λb hb=>absurd (show b∈([]:List Addr)from hb) (by simp),hok,.of_eq hg⟩
  refine codeAny_mono ((F _ hKb (nsK hns)).run callerA [] s₁ H ⟨[.ref a],[]⟩ [.ref a] [.ref a] _ _ hr e0 (hbind s₁ (.ref a)) (.cons rfl .nil) (hsp H hO hS)) λr s' h=>?_
  cases r with
  | error e=>exact(hCX H e s' h).elim
  | ok fl=>
   cases fl with
   | next=>exact Bj h
   | brk=>exact Bj h
   | cont=>exact Bj h
   | ret u=>
    obtain⟨v,H',os,bare,un,hok',r',q⟩:=h
    have q':v= .bl true:=q
    subst q'
    obtain rfl:u=Value.bool true:=r'
    refine⟨rfl,OldK.of_keep λb o e=>?_,os,bare⟩
    cases q:H b with
    | none=>exact un.keep b o e q (by intro z;exact absurd (show b∈([]:List Addr)from z) (by simp)) (by simp)
    | some u=>
     rcases hO b with z|⟨ob,xs,z⟩
     ·rw[q]at z;cases z
     ·have z2:=un.frzs b ob _ z
      obtain⟨e1,_⟩:=hok b _ z
      obtain⟨e2,_⟩:=hok' b _ z2
      rw[e]at e1;cases e1
      exact e2
 cases hk:K.lookup a with
 | some o=>
  -- the script is one of the module's own objects
  have e:=KX a o hk
  rw[ha]at e
  cases e
  refine core (λ_=>none) (λ_=>.inl rfl) (.inr ⟨_,vs.toArray,_,hk,rfl,rfl,rfl,by rw[XR,lenV];exact hl,by simpa using rv⟩) (λb u z=>by have z':(none:Option HO)=some u:=z;cases z') (λb z=>absurd rfl z) λz=>absurd rfl z
 | none=>
  refine core (λb=>if b=a then some (.frz { cls:=.type "list",data:=.seq vs.toArray } (.lst (ns.map V.int)))else none) (λb=>?_) (.inl (.inr ⟨{ cls:=.type "list",data:=.seq vs.toArray },if_pos rfl⟩)) (λb u z=>?_) (λb z=>?_) λ_=>hk
  ·by_cases hb:b=a
   ·exact .inr ⟨_,_,if_pos hb⟩
   ·exact .inl (if_neg hb)
  ·by_cases hb:b=a
   ·have z':=(if_pos hb).symm.trans z
    cases z'
    subst hb
    exact⟨ha,by rw[Xg];exact hl,vs,_,rv,ha⟩
   ·have z':=(if_neg hb).symm.trans z
    cases z'
  ·by_cases hb:b=a
   ·exact hb
   ·exact absurd (if_neg hb) z
noncomputable abbrev KOf{K:Xb}{h:Heap}(_:K.In h):Xb:=K
theorem Zz5{l:PySem.W.OpenLaw}{n k:Nat}{q:X6}{loose:List Str}{XP:(Str->Option Xc)->Heap->Prop}{YP:Qt->Heap->Prop}{d:DefRec}{K:Params->Xb}{CX:Qt->CXT}{sp:Qt->Sp}{x:Str}
  (hn:l.most=some n) (hn2:n≤Xq) (hdf:d.params.defaults=[]) (hr:Room k callerA)
  (hY:∀(w:Qt) (h:Heap),YP w h->(K w.params).In h)
  (F:∀(w:Qt) (mg:Str->Option Xc) (fa:Addr) (h:Heap),(K w.params).In h->h.Ns XD mg->mg d.name=some (.ref fa) ->
   ∃fd:Xp,(∀(s:Xd) (u:Xc),BindsTo s fd ⟨[u],[]⟩ [(x,u)])∧
    ∀base:Heap,(K w.params).In base->base.Ns XD mg->FnOk l.prog w (K w.params) mg base (CX w) k fa fd [x] (sp w))
  (hsp:∀(w:Qt) (H:Hp) (a:Addr) (ns:List Int),ns.length≤n->Only H->SqL (K w.params) H a (ns.map V.int)->sp w [.ref a] H (λv _=>v= .bl true) λ_ _ _=>False)
  (hCX:∀(w:Qt) (H:Hp) (s:Xd) (e:Xc) (s':Xd),CX w [] H s (λ_ _ _=>False) e s'->False) :
  PySem.W.WalkO q loose XP YP l.row.toRowW d [] (λf vs=>PySem.call f vs):=by
 refine Att.attach_call hn hdf λw s₀ s₁ mg mb fa o pm cd doc a vs ns G Y ho hd hcd hmg hobj hints hlen hg=>?_
 have KX:=hY w _ Y
 obtain⟨fd,hb,hF⟩:=F w mg fa _ KX G.T.g hmg
 exact Zu6 KX G.T.g G.T.b G.T.builtins G.T.nolimit hg hobj hints (QF hlen hn2) hr hF hb (λH hO hS=>hsp w H a ns hlen hO hS) λH e s'=>hCX w H s₁ e s'
noncomputable def Zfi(s:Stmt):Arguments:=match s with
 | .FunctionDef _ a _ _ _ _ _ _ _ _=>a
 | _=>{ posonlyargs:=[],args:=[],vararg:=none,kwonlyargs:=[],kw_defaults:=[],kwarg:=none,defaults:=[] }
noncomputable def Jf(s:Stmt):List Stmt:=match s with
 | .FunctionDef _ _ b _ _ _ _ _ _ _=>b
 | _=>[]
noncomputable def Zj(s:Stmt):V5:=match s with
 | .FunctionDef _ _ _ _ _ _ sc _ _ _=>sc
 | _=>{ kind:=.function,names:=[],isGenerator:=false,isCoroutine:=false }
noncomputable abbrev CX0:CXT:=λ_ _ _ _ _ _=>False
noncomputable abbrev E0:XK:=λ_ _ _=>False
theorem Jp{X:Cx}:Zgh CX0 X E0:=λ_ _ _ _ _ _ _ h=>h.elim
structure Fun(K:Xb)(x qual:Str)(st:Stmt)(f:Addr)(fd:Xp):Prop where
 ex:∃(oc:Xc) (od:Option Addr) (kV doc pm:Xc) (an:Option Addr) (cdv ct:Xc) (osl:Array (Option Xc)),
  fd=Vd x qual (Zfi st) (Jf st) (Zj st) .none kV doc pm an cdv ct∧K.lookup f=some ⟨oc,od,.func fd,osl⟩∧PySem.W.codeIn K cdv qual=true
 kp:QW K (.ref f)=true
section
variable {P:X6}{w:Qt}{K:Xb}{mg:Str->Option Xc}{base:Heap}
theorem Fun.ok{x qual:Str}{st:Stmt}{f:Addr}{fd:Xp}{N ps:List Str}{k:Nat}{sp:Sp}(F:Fun K x qual st f fd)(S:Zo N ps (Zj st))(len:∀vs H Q E,sp vs H Q E->vs.length=ps.length)
  (hbody:∀(cdv:Xc) (A:Qk) (outer:List Env) (s:Xd) (H:Hp) (vs:List V) (Q:VK) (E:XK),Room k (A.deeper (Vw qual (Zj st) s.heap.objs.size f cdv))->sp vs H Q E ->
   ∃t,PSs (Zox CX0 P w K mg base N qual (Zj st) f cdv A outer s H E).nox (Jf st) t∧t { nx:=λ_ H'=>Q .non H',rt:=Q } (V3 N vs) H):FnOk P w K mg base CX0 (k+1) f fd ps sp:=by
 obtain⟨oc,od,kV,doc,pm,an,cdv,ct,osl,rfl,lk,hcd⟩:=F.ex
 refine Z4o lk hcd S len λA outer s H vs Q E hr hsp=>?_
 obtain⟨t,h,q⟩:=hbody cdv A outer s H vs Q E hr hsp
 exact⟨t,h.nox,q⟩
theorem Fun.binds{x qual:Str}{st:Stmt}{f:Addr}{fd:Xp}{ps:List Str}(F:Fun K x qual st f fd)
  (h:∀(kV doc pm:Xc) (an:Option Addr) (cdv ct:Xc) (us:List Xc),us.length=ps.length->bindArgs (Vd x qual (Zfi st) (Jf st) (Zj st) .none kV doc pm an cdv ct) ⟨us,[]⟩=pure (ps.zip us)):Binds K fd ps []:=by
 obtain⟨oc,od,kV,doc,pm,an,cdv,ct,osl,rfl,lk,hcd⟩:=F.ex
 exact .all (h kV doc pm an cdv ct)
theorem Z6k{x qual:Str}{st:Stmt}{f:Addr}{oc:Xc}{od an:Option Addr}{osl:Array (Option Xc)}{kV doc pm cdv ct:Xc}(l:K.lookup f=some ⟨oc,od,.func (Vd x qual (Zfi st) (Jf st) (Zj st) .none kV doc pm an cdv ct),osl⟩)
  (c:PySem.W.codeIn K cdv qual=true) (k:QW K (.ref f)=true):Fun K x qual st f (Vd x qual (Zfi st) (Jf st) (Zj st) .none kV doc pm an cdv ct):=⟨⟨oc,od,kV,doc,pm,an,cdv,ct,osl,rfl,l,c⟩,k⟩
end
section
variable {X:Cx}
theorem pv(i:Nat){x:Str}{pos:Pos}(hN:X.N[i]? =some x:=by rfl)(hv:Vis X.env.scope x:=by first|exact Qo rfl|exact Qg (Qo rfl)|exact Qg (Qg rfl))(hd:(x==("__debug__" : Str))=false:=by decide)
  (hcd:(x==("__classdict__" : Str))=false:=by decide):PE X (.Name x pos) (Z8m i):=Zxm hN hv hd hcd
end
noncomputable def Same(H H':Hp):Prop:=∀b o,H b=some o->H' b=some o
theorem Same.refl(H:Hp):Same H H:=λ_ _ h=>h
theorem Same.trans{H H1 H2:Hp}(a:Same H H1)(b:Same H1 H2):Same H H2:=λc o h=>b c o (a c o h)
theorem Same.free{H H':Hp}(e:Same H H'){l:Addr}(h:H' l=Option.none):H l=Option.none:=by
 cases q:H l with
 | none=>rfl
 | some o=>
  rw[e l o q]at h
  cases h
end L2
set_option maxHeartbeats 4000000
namespace L2
open PySem PySem.Spec PyProof.Rows
noncomputable def Bt(n:Nat)(x:Int):Prop:=x.natAbs<2^n
theorem Bt.mono{m n:Nat}{x:Int}(h:Bt m x)(hn:m≤n):Bt n x:=X3 h (VL (by decide) hn)
theorem Bt.mul{m n:Nat}{x y:Int}(h:Bt m x)(k:Bt n y):Bt (m+n) (x*y):=by
 unfold Bt at*
 rw[Int.natAbs_mul,Nat.pow_add]
 exact Nat.mul_lt_mul'' h k
theorem Bt.neg{m:Nat}{x:Int}(h:Bt m x):Bt m (-x):=by
 unfold Bt at*
 rw[Int.natAbs_neg]
 exact h
theorem Bt.add{m n:Nat}{x y:Int}(h:Bt m x)(k:Bt n y):Bt (m+n+1) (x+y):=by
 unfold Bt at*
 have h1:2^m≤2^(m+n):=VL (by decide) (by omega)
 have h2:2^n≤2^(m+n):=VL (by decide) (by omega)
 have h3:2^(m+n+1)=2*2^(m+n):=by rw[Nat.pow_succ];omega
 have h4:=Int.natAbs_add_le x y
 omega
theorem Bt.of_le{m:Nat}{x y:Int}(h:Bt m x)(k:y.natAbs≤x.natAbs):Bt m y:=Nat.lt_of_le_of_lt k h
theorem Bt.of_lt{m:Nat}{x:Int}(h1:-(2^m)<x)(h2:x<2^m):Bt m x:=by
 unfold Bt
 have e:((2^m:Nat):Int)=2^m:=by simp
 omega
theorem Bt.bits{m:Nat}{x:Int}(h:Bt m x):JB x≤m:=by
 unfold JB
 split
 ·exact Bh _
 ·rename_i hx
  have hp:x.natAbs≠0:=by
   intro e
   apply hx
   have:x=0:=by omega
   subst this
   rfl
  have:=(Nat.log2_lt hp).mpr h
  omega
theorem Bt.mulOk{m n:Nat}{x y:Int}(h:Bt m x)(k:Bt n y)(hmn:m+n≤100000000:=by decide):IntMulOk x y:=by
 have h1:=h.bits
 have h2:=k.bits
 have h3:Uo (JB x+JB y)=false:=by
  unfold Uo bitsLine
  exact decide_eq_false (by omega)
 unfold IntMulOk
 rw[h3]
 simp
noncomputable def DivOk(_ j:Int):Prop:=j≠0∧j.natAbs.log2<9000
theorem DivOk.of{i j:Int}{n:Nat}(h0:j≠0)(h:Bt n j)(hn:n≤9000:=by decide):DivOk i j:=by
 refine⟨h0,?_⟩
 have hp:j.natAbs≠0:=by omega
 have:=(Nat.log2_lt hp).mpr h
 omega
section
variable {X:Cx}
theorem Z04:OpR X (BV .Mult) (rI IntMulOk λi j=>.int (i*j)):=opI λ_ _ _ _ _ _ _ hc q=>mul_int q hc
theorem Zvj:OpR X (BV .FloorDiv) (rI DivOk λi j=>.int (i.fdiv j)):=opI λ_ _ _ _ _ _ _ hc q=>floordiv_int hc.1 q (.inl (PyProof.noPylong_of_log2 hc.2))
theorem Z09:OpR X (BV .Pow) (rI Z2i λi j=>.int (i^j.toNat)):=Z7g
end
theorem Zip(elt target iter:Expr)(ifs:List Expr)(scope:V5)(pos:Pos)(it acc:Xc)(env:Env) :
  compTurn (.ListComp elt [⟨target,iter,ifs,0⟩] scope pos) 0 it acc env=(standAt iter.pos>>= λ_=>pyNext it>>= λr=>match r with
   | none=>pure (.done .next)
   | some v=>Ue target it v>>= λ_=>Vx target env v>>= λ_=>
    (forIn ifs true λc r=>if r=true then do let ok←isTrue c env (eval c env);pure (JD ok)else pure (JD r))>>= λok=>
     if ok=true then((eval elt env>>= λx=>call (.builtin "list.append") [acc,x]>>= λ_=>pure ())>>= λ_=>
      again (.compLoop (.ListComp elt [⟨target,iter,ifs,0⟩] scope pos) 0 it acc env))
     else again (.compLoop (.ListComp elt [⟨target,iter,ifs,0⟩] scope pos) 0 it acc env)):=by rfl
theorem Zmr{prog:X6}{w:Qt}{A:Qk}{R:Result->Xd->Prop}{s:Xd}{elt target iter:Expr}{ifs:List Expr}{scope:V5}{pos:Pos}{it acc:Xc}{env:Env}(I:Nat->Xd->Prop)
  (turn:∀n s,I n s->XX (X7 prog w) A (pyNext it) (λr s₁=>match r with
   | none=>R (.ok .next) s₁
   | some v=>XX (X7 prog w) A (Ue target it v) (λ_ s₁=>XX (X7 prog w) A (Vx target env v) (λ_ s₂=>
     XX (X7 prog w) A (forIn ifs true λc r=>if r=true then do let ok←isTrue c env (eval c env);pure (JD ok)else pure (JD r)) (λok s₃=>
      if ok=true then XX (X7 prog w) A (eval elt env) (λx s₄=>
       XX (X7 prog w) A (call (.builtin "list.append") [acc,x]) (λ_ s₅=>∃m,m<n∧I m s₅) (notedBy (X7 prog w) A env λe s'=>R (.error e) s') s₄) (notedBy (X7 prog w) A env λe s'=>R (.error e) s') s₃
      else∃m,m<n∧I m s₃) (notedBy (X7 prog w) A env λe s'=>R (.error e) s') s₂) (notedBy (X7 prog w) A env λe s'=>R (.error e) s') s₁) (notedBy (X7 prog w) A env λe s'=>R (.error e) s') s₁) (notedBy (X7 prog w) A env λe s'=>R (.error e) s') s)
  (n:Nat) (h:I n s) :
  codeAny (X7 prog w) A (.compLoop (.ListComp elt [⟨target,iter,ifs,0⟩] scope pos) 0 it acc env) R s:=by
 refine codeAny_loop rfl I (λn s hI=>?_) n h
 show XX _ A ((compTurn (.ListComp elt [⟨target,iter,ifs,0⟩] scope pos) 0 it acc env).onRaise (λx=>do noteFrame x env;theTreesLotGoes x)) _ _ s
 refine wpAny_noted ?_
 rw[Zip]
 refine Xe (wpAny_standAt (Xe (QD (turn n s hI) (λr s₁ h₁=>?_) λ_ _ h'=>h')))
 cases r with
 | none=>exact X8 h₁
 | some v=>
  refine Xe (QD h₁ (λ_ s₂ h₂=>?_) λ_ _ h'=>h')
  refine Xe (QD h₂ (λ_ s₂ h₂=>Xe (QD h₂ (λok s₃ h₃=>?_) λ_ _ h'=>h')) λ_ _ h'=>h')
  cases ok with
  | false=>exact X8 ⟨rfl,h₃⟩
  | true=>
   exact Xe (Xe (QD h₃ (λx s₄ h₄=>Xe (QD h₄ (λ_ s₅ h₅=>X8 (X8 ⟨rfl,h₅⟩)) λ_ _ h'=>h')) λ_ _ h'=>h'))
noncomputable def Zii(env:Env):List (Str×Bc)->List (Str×Addr)->List (Str×Addr)
 | [],acc=>acc
 | (n,k) :: r,acc=>if k== .free then Zii env r ((n,(env.cells.lookup n).getD 0) :: acc)else Zii env r acc
theorem Zkb{env:Env}:∀(names:List (Str×Bc)) (acc:List (Str×Addr)),(∀y∈names,y.2= .free->∃c,env.cells.lookup y.1=some c) ->
  (forIn names acc (λ(y:Str×Bc) cs=>(if y.2== .free then(cellOf env y.1>>= λc=>pure (JD ((y.1,c) :: cs)))else pure (JD cs):Sem (ForInStep (List (Str×Addr))))))=pure (Zii env names acc)
 | [],acc,_=>by rw[V9];rfl
 | (n,k) :: r,acc,h=>by
  by_cases hk:k= .free
  ·subst hk
   obtain⟨c,hc⟩:=h (n,.free) (.head _) rfl
   have hc':env.cells.lookup n=some c:=hc
   have e:=Zkb (env:=env) r ((n,c) :: acc) λy hy=>h y (.tail _ hy)
   have ec:cellOf env n=pure c:=by
    unfold cellOf
    rw[hc']
   rw[U4]
   simp only[beq_self_eq_true,if_true]
   rw[ec]
   simp only[Zii,beq_self_eq_true,if_true,hc',Option.getD_some]
   exact e
  ·have e:=Zkb (env:=env) r acc λy hy=>h y (.tail _ hy)
   have hb:(k==QK)=false:=by simpa using hk
   rw[U4]
   simp only[Zii,hb,BP,if_false]
   exact e
theorem Zeg{scope:V5}{env:Env}(h:∀y∈scope.names,y.2= .free->∃c,env.cells.lookup y.1=some c):closureFor scope env=pure (Zii env scope.names []):=by
 have e:=Zkb scope.names [] h
 have e':(forIn scope.names ([]:List (Str×Addr)) (λ(y:Str×Bc) cs=>(match y with|(name,kind)=>do
   if kind== .free then do let a←cellOf env name;pure (JD ((name,a) :: cs))else pure (JD cs):Sem (ForInStep (List (Str×Addr))))))=pure (Zii env scope.names []):=e
 exact congrArg (λ(m:Sem (List (Str×Addr)))=>m>>= λx=>pure x) e'
theorem Zjj{env:Env}:∀(names:List (Str×Bc)) (acc:List (Str×Addr)),(∀y∈names,y.2= .free->∃c,env.cells.lookup y.1=some c) ->
  ∀n c,(n,c)∈Zii env names acc->(n,c)∈acc∨((n,QK)∈names∧env.cells.lookup n=some c)
 | [],acc,_,n,c,h=>.inl h
 | (m,k) :: r,acc,h,n,c,hm=>by
  by_cases hk:k= .free
  ·subst hk
   obtain⟨d,hd⟩:=h (m,.free) (.head _) rfl
   have hd':env.cells.lookup m=some d:=hd
   simp only[Zii,beq_self_eq_true,if_true,hd',Option.getD_some]at hm
   rcases Zjj r _ (λy hy=>h y (.tail _ hy)) n c hm with z|⟨z1,z2⟩
   ·rcases Xl.mp z with z|z
    ·cases z;exact .inr ⟨.head _,hd'⟩
    ·exact .inl z
   ·exact .inr ⟨.tail _ z1,z2⟩
  ·have hb:(k==QK)=false:=by simpa using hk
   simp only[Zii,hb,BP,if_false]at hm
   refine(Zjj r _ (λy hy=>h y (.tail _ hy)) n c hm).imp id λqz9=>?_
   obtain⟨z1,z2⟩:=qz9
   exact⟨.tail _ z1,z2⟩
theorem Zj6{env:Env}:∀(names:List (Str×Bc)) (acc:List (Str×Addr)),∀p∈acc,p∈Zii env names acc
 | [],_,_,h=>h
 | (m,k) :: r,acc,p,h=>by
  unfold Zii
  split
  ·exact Zj6 r _ p (.tail _ h)
  ·exact Zj6 r _ p h
theorem Zkf{env:Env}:∀(names:List (Str×Bc)) (acc:List (Str×Addr)) (n:Str),(n,QK)∈names->∃c,(n,c)∈Zii env names acc
 | [],_,_,h=>nomatch h
 | (m,k) :: r,acc,n,h=>by
  rcases Xl.mp h with z|z
  ·cases z
   exact⟨_,by
    simp only[Zii,beq_self_eq_true,if_true]
    exact Zj6 _ _ _ (.head _)⟩
  ·unfold Zii
   split
   ·exact Zkf r _ n z
   ·exact Zkf r _ n z
theorem Zf7{env:Env}(inj:∀x y c,env.cells.lookup x=some c->env.cells.lookup y=some c->x=y):∀(names:List (Str×Bc)) (acc:List (Str×Addr)),
  (∀ y∈names,y.2= .free->∃c,env.cells.lookup y.1=some c)->(names.map (·.1)).Nodup->(∀p∈acc,env.cells.lookup p.1=some p.2)->(∀p∈acc,p.1∉names.map (·.1))->(acc.Pairwise λx y=>x.2≠y.2) ->
  (Zii env names acc).Pairwise λx y=>x.2≠y.2
 | [],_,_,_,_,_,h=>h
 | (m,k) :: r,acc,hf,hn,ha,hd,hp=>by
  rw[Ql,Qs]at hn
  have hf':∀y∈r,y.2= .free->∃c,env.cells.lookup y.1=some c:=λy hy=>hf y (.tail _ hy)
  have hd':∀p∈acc,p.1∉r.map (·.1):=λp hp z=>hd p hp (by rw[Ql];exact .tail _ z)
  by_cases hk:k= .free
  ·subst hk
   obtain⟨d,hd0⟩:=hf (m,.free) (.head _) rfl
   have hd1:env.cells.lookup m=some d:=hd0
   simp only[Zii,beq_self_eq_true,if_true,hd1,Option.getD_some]
   refine Zf7 inj r _ hf' hn.2 (λp hp'=>?_) (λp hp'=>?_) (List.pairwise_cons.mpr ⟨λp hp' z=>?_,hp⟩)
   ·rcases Xl.mp hp' with rfl|hp'
    ·exact hd1
    ·exact ha p hp'
   ·rcases Xl.mp hp' with rfl|hp'
    ·exact hn.1
    ·exact hd' p hp'
   ·have e:m=p.1:=inj m p.1 d hd1 (by rw[ha p hp',←z])
    exact hd p hp' (by rw[Ql,←e];exact .head _)
  ·have hb:(k==QK)=false:=by simpa using hk
   simp only[Zii,hb,BP,if_false]
   exact Zf7 inj r _ hf' hn.2 ha hd' hp
structure Zpz(h:Heap)(lo:Nat)(names:List (Str×Bc))(acc cs:List (Str×Addr)):Prop where
 mem:∀n c,(n,c)∈cs->(n,c)∈acc∨(h.IsCell c none∧lo≤c∧(n,JP)∈names)
 has:∀n,(n,JP)∈names->∃c,(n,c)∈cs
 old:∀p∈acc,p∈cs
theorem Zf1:∀(names:List (Str×Bc)) (h:Heap) (lo:Nat) (acc:List (Str×Addr)),lo≤h.objs.size->Zpz (Bm h names) lo names acc (JN h.objs.size names acc)
 | [],_,_,_,_=>⟨λ_ _ m=>.inl m,(λ_ m=>nomatch m),λ_ m=>m⟩
 | (name,kind) :: r,h,lo,acc,hlo=>by
  by_cases hk:(kind==JP)=true
  ·have ek:kind= .cell:=by simpa using hk
   subst ek
   have ih:=Zf1 r (h.push { cls:=.type "cell",data:=.cell none }) lo ((name,h.objs.size) :: acc) (by rw[QX];omega)
   rw[QX]at ih
   have e1:JN h.objs.size ((name,.cell) :: r) acc=JN (h.objs.size+1) r ((name,h.objs.size) :: acc):=by
    rw[JN,if_pos hk]
   have e2:Bm h ((name,.cell) :: r)=Bm (h.push { cls:=.type "cell",data:=.cell none }) r:=by
    rw[Bm,if_pos hk]
   rw[e1,e2]
   refine⟨λn c m=>?_,λn m=>?_,λp m=>ih.old p (.tail _ m)⟩
   ·rcases ih.mem n c m with z|⟨z1,z2,z3⟩
    ·rcases Xl.mp z with z|z
     ·cases z
      exact .inr ⟨⟨_,Ud _ _ _ _ (Qd _ rfl),rfl⟩,hlo,.head _⟩
     ·exact .inl z
    ·exact .inr ⟨z1,z2,.tail _ z3⟩
   ·rcases Xl.mp m with z|z
    ·cases z
     exact⟨_,ih.old _ (.head _)⟩
    ·exact ih.has n z
  ·have ih:=Zf1 r h lo acc hlo
   have e1:JN h.objs.size ((name,kind) :: r) acc=JN h.objs.size r acc:=by
    rw[JN,if_neg hk]
   have e2:Bm h ((name,kind) :: r)=Bm h r:=by
    rw[Bm,if_neg hk]
   rw[e1,e2]
   refine⟨λn c m=>(ih.mem n c m).imp id λ⟨z1,z2,z3⟩=>⟨z1,z2,.tail _ z3⟩,λn m=>?_,ih.old⟩
   rcases Xl.mp m with z|z
   ·cases z
    exact absurd rfl hk
   ·exact ih.has n z
theorem Zig(names:List (Str×Bc)):∀(h:Heap) (acc:List (Str×Addr)),(acc.Pairwise λx y=>x.2≠y.2)->(∀p∈acc,p.2<h.objs.size)->(JN h.objs.size names acc).Pairwise λx y=>x.2≠y.2:=by
 induction names with
 | nil=>intro h acc ha _;exact ha
 | cons y r ih=>
  intro h acc ha hb
  obtain⟨name,kind⟩:=y
  unfold JN
  split
  ·have:=ih (h.push { cls:=.type "cell",data:=.cell none }) ((name,h.objs.size) :: acc) (List.pairwise_cons.mpr ⟨λp hp=>XM (hb p hp),ha⟩) (λp hp=>by
    rw[QX]
    rcases Xl.mp hp with rfl|hp
    ·exact BJ _
    ·exact Nat.lt_succ_of_lt (hb p hp))
   rwa[QX]at this
  ·exact ih h acc ha hb
theorem Zir{M:Model}{A:Qk}{E:Xc->Xd->Prop}{s:Xd}{scope:V5}{globals:Addr}{cl:List (Str×Addr)}{qual:Str}{env:Env}{Q:Env->Xd->Prop}
  (hQ:Q (newEnv scope s.heap.objs.size globals (JN (s.heap.objs.size+1) scope.names cl) qual none .none (some env) builtinsNs)
   { s with heap:=Bm (s.heap.push { cls:=.type "dict",data:=.dict #[] }) scope.names }) :
  XX M A (newFunctionEnv scope globals cl [] qual none .none (some env)) Q E s:=by
 simp only[newFunctionEnv,Option.isSome_some,if_true]
 refine Xe (wpAny_alloc ?_)
 refine Xe (wpAny_layCells _ (λname kind cells=>by cases hkc:kind==JP<;>simp[hkc]) _ _ _ _ ?_)
 rw[show({ s with heap:=s.heap.push { cls:=.type "dict",data:=.dict #[] } }:Xd).heap.objs.size=s.heap.objs.size+1 from QX ..]
 rw[V9]
 exact Xe (X8 (X8 hQ))
noncomputable def W4(X:Cx)(N':List Str)(sc:V5)(C:Addr)(cells:List (Str×Addr))(s₂:Xd)(H₂:Hp)(fp:List Addr):Cx :=
 { X with N:=N',s₀:=s₂,H₀:=H₂,env:=compEnvC sc cells C X.env,outer:=X.stack,stack:=X.stack,ex:=fp,fn:=λx=>sc.names.lookup x==some .cell,pn:=[],xe:=λ_ _=>False }
theorem Zee{env:Env}:∀{names:List (Str×Bc)} {x:Str} {k:Bc},names.lookup x=some k ->
  (names.map λ(n,k)=>if(k==QK&&env.scope.kind== .function&&env.kindOf n==some .cell)then(n,JP)else(n,k)).lookup x=
   some (if(k==QK&&env.scope.kind== .function&&env.kindOf x==some .cell)then JP else k)
 | [],_,_,h=>by simp at h
 | (n,k') :: r,x,k,h=>by
  have ih:=@Zee env r x k
  show List.lookup x ((if(k'==QK&&env.scope.kind== .function&&env.kindOf n==some .cell)=true then(n,JP)else(n,k')) :: _)=_
  cases hx:x==n with
  | true=>
   simp only[QM,hx]at h
   cases h
   have e:=beq_iff_eq.mp hx
   subst e
   split<;>simp[QM]
  | false=>
   simp only[QM,hx]at h
   split
   ·simp only[QM,hx];exact ih h
   ·simp only[QM,hx];exact ih h
theorem Zgg{env:Env}:∀{names:List (Str×Bc)} {x:Str},names.lookup x=none ->
  (names.map λ(n,k)=>if(k==QK&&env.scope.kind== .function&&env.kindOf n==some .cell)then(n,JP)else(n,k)).lookup x=none
 | [],_,_=>rfl
 | (n,k') :: r,x,h=>by
  have ih:=@Zgg env r x
  show List.lookup x ((if(k'==QK&&env.scope.kind== .function&&env.kindOf n==some .cell)=true then(n,JP)else(n,k')) :: _)=_
  cases hx:x==n with
  | true=>
   simp only[QM,hx]at h
   cases h
  | false=>
   simp only[QM,hx]at h
   split
   ·simp only[QM,hx];exact ih h
   ·simp only[QM,hx];exact ih h
theorem Ze4{α:Type}:∀{l:List (Str×α)} {n:Str} {c:α},(l.map (·.1)).Nodup->(n,c)∈l->l.lookup n=some c
 | (k,v) :: r,n,c,hd,h=>by
  rw[Ql,Qs]at hd
  rcases Xl.mp h with e|hr
  ·cases e
   simp[QM]
  ·have hne:(n==k)=false:=by
    refine Uq.mpr λz=>hd.1 ?_
    have e:n=k:=beq_iff_eq.mp z
    rw[←e]
    exact XQ.mpr ⟨(n,c),hr,rfl⟩
   rw[QM,hne]
   exact Ze4 hd.2 hr
theorem Yz{α:Type}:∀{l:List (Str×α)} {n:Str} {c:α},(n,c)∈l->∃d,l.lookup n=some d∧(n,d)∈l
 | (k,v) :: r,n,c,h=>by
  by_cases e:n=k
  ·subst e
   exact⟨v,by simp[QM],V8⟩
  ·have hne:(n==k)=false:=by simpa using e
   rcases Xl.mp h with z|z
   ·cases z;exact absurd rfl e
   ·obtain⟨d,h1,h2⟩:=Yz z
    exact⟨d,by rw[QM,hne];exact h1,.tail _ h2⟩
structure CompScope(X:Cx)(own:List Str)(caps:List Nat)(N':List Str)(sc:V5):Prop where
 kind:sc.kind= .function
 nd:N'.Nodup
 names:N'=own ++ caps.map λi=>X.N.getD i Str.empty
 nn:(sc.names.map (·.1)).Nodup
 free:(sc.names.all λy=>y.2 != .free||(X.env.kindOf y.1==some .cell||X.env.kindOf y.1==some .free))=true
 caps:(caps.all λi=>sc.names.lookup (X.N.getD i Str.empty)==some .free)=true
noncomputable def Zav(own:List Str)(caps:List Nat)(σ:St):St:=own.map (λ_=>none) ++ caps.map λi=>(σ[i]?).getD none
section
variable {X:Cx}{own:List Str}{caps:List Nat}{N':List Str}{sc:V5}
theorem CompScope.lk(S:CompScope X own caps N' sc){n:Str}{k:Bc}(h:(n,k)∈sc.names):sc.names.lookup n=some k:=Ze4 S.nn h
theorem CompScope.fr(S:CompScope X own caps N' sc){n:Str}(h:(n,QK)∈sc.names):X.env.kindOf n=some .cell∨X.env.kindOf n=some .free:=by
 have:=VD.mp S.free _ h
 simpa using this
theorem Zqe{pins:List (Addr×Obj)}{σ:St}{H:Hp}{s:Xd}{fp:List Addr}{cl:List (Str×Addr)}(S:CompScope X own caps N' sc)(I:Inv X pins σ H s)
  (f:∀b∈fp,Zjz X pins H b) (fo:∀b∈fp,∃o,s.heap.get? b=some o)
  (hcl:∀n c,(n,c)∈cl->(n,QK)∈sc.names∧X.env.cells.lookup n=some c) (hcl2:∀n,(n,QK)∈sc.names->∃c,(n,c)∈cl) (hapart:cl.Pairwise λx y=>x.2≠y.2) :
  Inv (W4 X N' sc (s.heap.objs.size+1) (JN (s.heap.objs.size+2) sc.names cl) s H fp) [] (Zav own caps σ) (upd H s.heap.objs.size (.lst []))
   { s with heap:=Bm ((s.heap.push { cls:=.type "list",data:=.seq #[] }).push { cls:=.type "dict",data:=.dict #[] }) sc.names }:=by
 generalize hh1:s.heap.push { cls:=.type "list",data:=.seq #[] }=h1
 have z1:h1.objs.size=s.heap.objs.size+1:=by rw[←hh1,QX]
 generalize hh2:h1.push { cls:=.type "dict",data:=.dict #[] }=h2
 have z2:h2.objs.size=s.heap.objs.size+2:=by rw[←hh2,QX,z1]
 have BC:=Zf1 sc.names h2 (s.heap.objs.size+2) cl (by omega)
 have AP:=Zig sc.names h2 cl hapart (λp hp=>by
  obtain⟨v,hv⟩:=I.cell p.1 p.2 (hcl p.1 p.2 hp).2
  exact X3 hv.lt (by omega))
 rw[z2]at BC AP
 have keep:∀b o,s.heap.get? b=some o->(Bm h2 sc.names).get? b=some o:=λb o e=>Ud _ _ _ _ (by
  rw[←hh2]
  refine Xi _ ?_
  rw[←hh1]
  exact Xi _ e)
 have hD:(Bm h2 sc.names).get? s.heap.objs.size=some { cls:=.type "list",data:=.seq #[] }:=Ud _ _ _ _ (by
  rw[←hh2]
  refine Xi _ ?_
  rw[←hh1]
  exact Qd _ rfl)
 have hC:(Bm h2 sc.names).Ns (s.heap.objs.size+1) (λ_=>none):=by
  refine Heap.Ns.keeps ?_ (Ud _ _)
  have:=Heap.Ns.new h1 (.type "dict")
  rw[hh2,z1]at this
  exact this
 have cellOld:∀n c,X.env.cells.lookup n=some c->c<s.heap.objs.size:=λn c e=>by
  obtain⟨v,hv⟩:=I.cell n c e
  exact hv.lt
 have lk':∀n c,(JN (s.heap.objs.size+2) sc.names cl).lookup n=some c->(n,c)∈JN (s.heap.objs.size+2) sc.names cl:=λn c e=>JH e
 have hnD:H s.heap.objs.size=none:=I.fresh
 have fresh:∀c,s.heap.objs.size<c->upd H s.heap.objs.size (.lst []) c=none:=λc hc=>by
  rw[Zr (XM hc)]
  exact I.hok.fresh (U0 hc)
 have isc:∀n c,(n,c)∈JN (s.heap.objs.size+2) sc.names cl->∃v,(Bm h2 sc.names).IsCell c v:=λn c m=>by
  rcases BC.mem n c m with z|⟨z,_⟩
  ·obtain⟨v,hv⟩:=I.cell n c (hcl n c z).2
   exact⟨v,hv.keeps keep⟩
  ·exact⟨none,z⟩
 have okH:HOk X.prog X.w (upd H s.heap.objs.size (.lst [])) (Bm h2 sc.names):=by
  refine I.hok.laid keep (Qn _) ?_
  exact⟨Bh _,[],0,.nil,hD⟩
 have kinds:∀x k,sc.names.lookup x=some k->(relabel sc X.env).names.lookup x=some (if(k==QK&&X.env.scope.kind== .function&&X.env.kindOf x==some .cell)then JP else k):=λx k e=>Zee e
 have kindsR:∀x k,(relabel sc X.env).names.lookup x=some k->∃k',(x,k')∈sc.names∧k=(if(k'==QK&&X.env.scope.kind== .function&&X.env.kindOf x==some .cell)then JP else k'):=λx k e=>by
  cases q:sc.names.lookup x with
  | none=>
   have:=Zgg (env:=X.env) q
   rw[show(relabel sc X.env).names.lookup x=_ from this]at e
   cases e
  | some k'=>
   refine⟨k',JH q,?_⟩
   rw[kinds x k' q]at e
   exact(Qy e).symm
 refine⟨⟨I.ok.mod,S.kind,I.ok.glob,I.ok.blt,?_,?_,?_,?_,I.ok.hd,I.ok.frames,.inl rfl,?_,?_,?_,?_,?_,?_,?_⟩,rfl,I.bare,?_,?_,?_,?_,?_,(λp hp=>nomatch hp),okH,?_⟩
 ·show s.heap.objs.size≤s.heap.objs.size+1;omega
 ·intro x y c e1 e2
  exact name_of_addr AP (lk' x c e1) (lk' y c e2)
 ·intro x hx
  rcases hx with hx|hx
  ·obtain⟨k',hm,hk'⟩:=kindsR x _ hx
   cases k' with
   | cell=>
    obtain⟨c,hc⟩:=BC.has x hm
    obtain⟨d,h1,_⟩:=Yz hc
    exact⟨d,h1⟩
   | free=>
    obtain⟨c,hc⟩:=hcl2 _ hm
    obtain⟨d,h1,_⟩:=Yz (BC.old _ hc)
    exact⟨d,h1⟩
   | _=>simp at hk'
  ·obtain⟨k',hm,hk'⟩:=kindsR x _ hx
   cases k' with
   | free=>
    obtain⟨c,hc⟩:=hcl2 _ hm
    obtain⟨d,h1,_⟩:=Yz (BC.old _ hc)
    exact⟨d,h1⟩
   | _=>simp at hk'
 ·intro x c hf e
  have hf':sc.names.lookup x=some .cell:=by simpa [W4]using hf
  rcases BC.mem x c (lk' x c e)with z|⟨_,z,_⟩
  ·-- a free one and a cell at once: the name stands once
   exfalso
   have q:=S.lk (hcl x c z).1
   rw[hf']at q
   cases q
  ·show s.heap.objs.size≤c;omega
 ·intro b hb
  obtain⟨o,ho⟩:=fo b hb
  have hlt:=Xv ho
  refine⟨Xn (V6 hlt (BJ _)),λx c e z=>?_⟩
  rcases BC.mem x c (lk' x c e)with q|⟨_,q,_⟩
  ·exact(f b hb).2.2.2.2.1 x c (hcl x c q).2 z
  ·subst z
   exact absurd hlt (Nat.not_lt.mpr (QF (Uz _ 2) q))
 ·exact I.bs
 ·exact QF I.ok.bsz I.sz
 ·intro b o e hb
  rcases(f b hb).2.2.2.1 with z|z
  ·exact I.ok.noex b o e z
  ·exact absurd (X3 (Xv e) I.ok.bsz) (Nat.not_lt.mpr z)
 ·intro b hb z
  rcases Xl.mp (I.stkSub b z)with q|q
  ·exact(f b hb).2.1 q
  ·exact(f b hb).2.2.1 q
 ·exact I.stack
 ·exact I.stkFree
 ·exact Un.laid keep (Qn _) hnD
 ·refine⟨_,hC,λi x v e1 e2 e3=>?_⟩
  have e1':(own ++ caps.map λi=>X.N.getD i Str.empty)[i]? =some x:=by rw[←S.names];exact e1
  have e2':(own.map (λ_=>(none:Option V)) ++ caps.map λi=>(σ[i]?).getD none)[i]? =some (some v):=e2
  by_cases hi:i<own.length
  ·rw[Vg (by simpa using hi),Xm]at e2'
   cases q:own[i]? with
   | none=>rw[q]at e2';cases e2'
   | some y=>rw[q]at e2';cases e2'
  ·rw[Bk (by simpa using hi),Xm]at e2'
   rw[Bk (by omega),Xm]at e1'
   rw[Xg]at e2'
   cases q:caps[i-own.length]? with
   | none=>rw[q]at e2';cases e2'
   | some j=>
    rw[q]at e1' e2'
    have e1:X.N.getD j Str.empty=x:=Qy e1'
    have e2:(σ[j]?).getD none=some v:=Qy e2'
    have e4:σ[j]? =some (some v):=by
     cases r:σ[j]? with
     | none=>rw[r]at e2;cases e2
     | some o=>rw[r]at e2;exact congrArg some e2
    have hj:j<X.N.length:=by rw[←I.len];exact(Xk.mp e4).1
    have e5:X.N[j]? =some x:=by rw[←e1];simp[Xr,hj]
    have hc:=VD.mp S.caps j (Qv q)
    have e6:sc.names.lookup x=some .free:=by rw[←e1];simpa using hc
    have hm:=JH e6
    have kx:=S.fr hm
    obtain⟨m,hn,hl⟩:=I.loc
    obtain⟨u,ru,lo⟩:=hl j x v e5 e4 (by rcases kx with z|z;exact .inr (.inl z);exact .inr (.inr z))
    refine⟨u,ru,.inr ⟨?_,?_⟩⟩
    ·have:=kinds x _ e6
     show(relabel sc X.env).names.lookup x=_∨(relabel sc X.env).names.lookup x=_
     rw[this]
     split
     ·exact .inl rfl
     ·exact .inr rfl
    ·rcases lo with⟨z,_⟩|⟨_,c,hc1,hc2⟩
     ·rcases kx with w|w<;>(rw[w]at z;cases z)
     ·obtain⟨d,hd⟩:=hcl2 x hm
      obtain⟨d',h1,h2⟩:=Yz (BC.old _ hd)
      refine⟨d',h1,?_⟩
      rcases BC.mem x d' h2 with w|⟨_,_,w⟩
      ·have w':=(hcl x d' w).2
       rw[hc1]at w'
       cases w'
       exact hc2.keeps keep
      ·have:=S.lk w
       rw[e6]at this
       cases this
 ·intro x c e
  exact isc x c (lk' x c e)
 ·exact fresh _ (BJ _)
 ·intro x c e
  rcases BC.mem x c (lk' x c e)with z|⟨_,z,_⟩
  ·have e':=(hcl x c z).2
   have hlt:=cellOld x c e'
   rw[Zr (Xn hlt)]
   exact I.freeC x c e'
  ·exact fresh c (by omega)
 ·show(Zav own caps σ).length=N'.length
  rw[S.names]
  unfold Zav
  simp
end
noncomputable def Z15(J:It)(g:TG)(tt:TT)(te:TE)(σ0:St)(D:Addr)(Q:Hp->Prop)(H1:Hp):Prop :=
 ∃W:Nat->Nat->St->Hp->Prop,(∃m,W 0 m σ0 (upd H1 D (.lst [])))∧∀i m σ' H',W i m σ' H' ->
  (J.stop i H'∧Q H')∨(J.go i H'∧∀x H2,J.yld i H' x H2->g x σ' H2 λσ2 H3=>tt σ2 H3 λb H4=>
   if b=true then te σ2 H4 λy H5=>∃ys,H5 D=some (.lst ys)∧ys.length<Xq∧∃m',m'<m∧W (i+1) m' σ2 (upd H5 D (.lst (ys ++ [y])))
   else∃m',m'<m∧W (i+1) m' σ2 H4)
noncomputable def Zyz(own:List Str)(caps:List Nat)(wi:TI)(g:TG)(tt:TT)(te:TE):TE:=λσ H Q=>wi σ H λJ H1=>∀D,H1 D=none->Z15 J g tt te (Zav own caps σ) D (Q (.ref D)) H1
noncomputable def Z81:TT:=λ_ H Q=>Q true H
noncomputable def Zze(X:Cx)(ifs:List Expr)(t:TT):Prop :=
 ∀(pins:List (Addr×Obj)) (s:Xd) (σ:St) (H:Hp) (Q:Bool->Hp->Prop),Inv X pins σ H s->t σ H Q ->
  XX (X7 X.prog X.w) X.A (forIn ifs true λc r=>if r=true then do let ok←isTrue c X.env (eval c X.env);pure (JD ok)else pure (JD r)) (TP X pins σ Q) X.xe s
theorem Zzh{X:Cx}:Zze X [] Z81:=λpins s σ H Q I h=>by
 rw[V9]
 exact X8 ⟨H,I,h⟩
theorem Z06{X:Cx}{c:Expr}{t:TT}(h:PT X c t):Zze X [c] t:=λpins s σ H Q I q=>wpAny_tests_one (h pins s σ H Q I q)
theorem Zy3{M:Model}{A:Qk}{α:Type}{t:Sem α}{Q Q':α->Xd->Prop}{E:Xc->Xd->Prop}{s:Xd}(h:XX M A t Q (λ_ _=>False) s)(hQ:∀a s,Q a s->Q' a s):XX M A t Q' E s :=
 QD h hQ λ_ _ z=>z.elim
section
variable {X:Cx}{own:List Str}{caps:List Nat}{N':List Str}{sc:V5}{tg elt iter:Expr}{ifs:List Expr}{pos:Pos}{wi:TI}{g:TG}{tt:TT}{te:TE}
theorem Zof{pins p':List (Addr×Obj)}{σ σ':St}{H H':Hp}{s s':Xd}{fp:List Addr}{C:Addr}{cells:List (Str×Addr)}{h':Heap}(I:Inv X pins σ H s)(f:∀b∈fp,Zjz X pins H b)
  (I':Inv (W4 X N' sc C cells s H fp) p' σ' H' s') (hs:Vv C s'.heap h'):Inv X pins σ H' { s' with heap:=h' }:=by
 have hC:s.heap.objs.size≤C:=I'.ok.above
 have B:=I'.base
 have ne:∀b o,s.heap.get? b=some o->b≠C:=λb o e=>Xn (X3 (Xv e) hC)
 obtain⟨m,⟨oC,_,_,hoC,_⟩,_⟩:=I'.loc
 refine I.call' (ch:=fp) (s':={ s' with heap:=h' }) I'.os ⟨λb o e n hb hx=>?_,λb o e n hb hx=>?_,B.free,λb o e hx=>?_,B.tups,B.frzs,B.tbls⟩ (λb ob e=>?_) I'.bare λb hb=>?_
 ·exact(hs.2 b (ne b o e)).trans (B.keep b o e n hb hx)
 ·obtain⟨sl,q⟩:=B.slot b o e n hb hx
  exact⟨sl,(hs.2 b (ne b o e)).trans q⟩
 ·obtain⟨o',q⟩:=B.there b o e hx
  exact⟨o',(hs.2 b (ne b o e)).trans q⟩
 ·have hfree:H' C=none:=I'.free
  refine(I'.hok b ob e).stay (λc w' hc q=>(hs.2 c ?_).trans q) (λ_ q=>q) λ_ _ q=>q
  rintro rfl
  rcases hc with rfl|hc
  ·rw[hfree]at e;cases e
  ·rw[hfree]at hc;cases hc
 ·obtain⟨_,f1,_,f3,f4,f5⟩:=f b hb
  exact⟨f3,f1,f4,f5⟩
theorem Zi0{Qf:Result->Xd->Prop}(S:CompScope X own caps N' sc)(hc:X.calm=true)
  (hg:∀C cells s₂ H₂ fp,PG (W4 X N' sc C cells s₂ H₂ fp) tg g) (ht:∀C cells s₂ H₂ fp,Zze (W4 X N' sc C cells s₂ H₂ fp) ifs tt) (he:∀C cells s₂ H₂ fp,PE (W4 X N' sc C cells s₂ H₂ fp) elt te)
  {pins:List (Addr×Obj)} {σ:St} {H:Hp} {s:Xd} {fp:List Addr} {it:Addr} {tn:Nat->Heap->Prop} {J:It} {Q:Hp->Prop} (I:Inv X pins σ H s) (T:Turn X.prog X.w X.K tg J fp it tn) (st:tn 0 s.heap) (f:∀b∈fp,Zjz X pins H b)
  (h:Z15 J g tt te (Zav own caps σ) s.heap.objs.size Q H)
  (fin:∀s' σ' H' p' C cells,Inv (W4 X N' sc C cells s H fp) p' σ' H' s'->C=s.heap.objs.size+1->Q H'->Qf (.ok .next) s') :
  XX (X7 X.prog X.w) X.A (newFunctionEnv sc X.env.globals (Zii X.env sc.names []) [] X.env.qual none .none (some X.env)) (λcenv s₄=>
   cenv.locals=s.heap.objs.size+1∧codeAny (X7 X.prog X.w) X.A (.compStart (.ListComp elt [⟨tg,iter,ifs,0⟩] sc pos) 0 (.ref it) (.ref s.heap.objs.size) { cenv with scope:=relabel sc X.env }) Qf s₄) X.xe
    { s with heap:=s.heap.push { cls:=.type "list",data:=.seq #[] } }:=by
 have hf:∀y∈sc.names,y.2= .free->∃c,X.env.cells.lookup y.1=some c:=λy hy e=>by
  obtain⟨n,k⟩:=y
  have e':k= .free:=e
  subst e'
  exact I.ok.has n (S.fr hy)
 have hcl:∀n c,(n,c)∈Zii X.env sc.names []->(n,QK)∈sc.names∧X.env.cells.lookup n=some c:=λn c m=>(Zjj sc.names [] hf n c m).elim (λz=>nomatch z) id
 have hap:=Zf7 I.ok.inj sc.names [] hf S.nn (λ_ z=>nomatch z) (λ_ z=>nomatch z) .nil
 have I0:=Zqe (cl:=Zii X.env sc.names []) S I f (λb hb=>let⟨o,e,_⟩:=T.obj _ _ st b hb;⟨o,e⟩) hcl (λn m=>Zkf sc.names [] n m) hap
 refine Zir ?_
 rw[show({ s with heap:=s.heap.push { cls:=.type "list",data:=.seq #[] } }:Xd).heap.objs.size=s.heap.objs.size+1 from QX ..]
 refine⟨rfl,?_⟩
 dsimp only
 generalize hs0:({ s with heap:=Bm ((s.heap.push { cls:=.type "list",data:=.seq #[] }).push { cls:=.type "dict",data:=.dict #[] }) sc.names }:Xd)=s0 at I0⊢
 have st0:tn 0 s0.heap:=T.keep _ _ _ st λb hb o e=>by
  rw[←hs0]
  exact Ud _ _ _ _ (Xi _ (Xi _ e))
 generalize hcells:JN (s.heap.objs.size+1+1) sc.names (Zii X.env sc.names [])=cells at I0⊢
 -- the loop
 obtain⟨W,⟨m0,w0⟩,turn⟩:=h
 have loop:codeAny (X7 X.prog X.w) X.A (.compLoop (.ListComp elt [⟨tg,iter,ifs,0⟩] sc pos) 0 (.ref it) (.ref s.heap.objs.size) (W4 X N' sc (s.heap.objs.size+1) cells s H fp).env) Qf s0:=by
  generalize hX':W4 X N' sc (s.heap.objs.size+1) cells s H fp=X' at I0⊢
  have hg':=hg (s.heap.objs.size+1) cells s H fp
  have ht':=ht (s.heap.objs.size+1) cells s H fp
  have he':=he (s.heap.objs.size+1) cells s H fp
  have fin':=λs' σ' H' p' (z:Inv (W4 X N' sc (s.heap.objs.size+1) cells s H fp) p' σ' H' s')=>fin s' σ' H' p' _ _ z rfl
  rw[hX']at hg' ht' he' fin'
  have hxe:X'.xe= λ_ _=>False:=by rw[←hX'];rfl
  have hpr:X'.prog=X.prog:=by rw[←hX'];rfl
  have hw:X'.w=X.w:=by rw[←hX'];rfl
  have hK:X'.K=X.K:=by rw[←hX'];rfl
  have hA:X'.A=X.A:=by rw[←hX'];rfl
  have hcm:X'.calm=true:=by rw[←hX'];exact hc
  have hex:X'.ex=fp:=by rw[←hX'];rfl
  have hpn:X'.pn=[]:=by rw[←hX'];rfl
  have stat:∀{H':Hp},(∀b∈fp,H' b=none)->∀b∈fp,Zjz X' [] H' b:=λhn b hb=>by
   have e1:=I0.ok.exf b (by rw[hex];exact hb)
   have e2:=I0.ok.exfs b (by rw[hex];exact hb)
   exact⟨hn b hb,e1.1,e2,.inl (by rw[hex];exact hb),e1.2,λp hp=>by rw[hpn]at hp;exact nomatch hp⟩
  have frD:∀b∈fp,(upd H s.heap.objs.size (.lst [])) b=none:=λb hb=>by
   obtain⟨o,e,_⟩:=T.obj _ _ st b hb
   rw[Zr (Xn (Xv e))]
   exact(f b hb).1
  have T':Turn X'.prog X'.w X'.K tg J fp it tn:=by rw[hpr,hw,hK];exact T
  rw[←hpr,←hw,←hA]
  refine Zmr (λn s'=>∃i σ' H',Inv X' [] σ' H' s'∧tn i s'.heap∧(∀b∈fp,H' b=none)∧W i n σ' H') ?_ m0 ⟨0,_,_,I0,st0,frD,w0⟩
  rintro n s3 ⟨i,σ3,H3,I3,st3,fr3,w3⟩
  rcases turn i n σ3 H3 w3 with⟨stop,qn⟩|⟨go,step⟩
  ·refine Zy3 (T'.done X' rfl rfl rfl hcm i [] s3 σ3 H3 _ I3 (stat fr3) st3 stop) λr s4 qz9=>?_
   obtain⟨hr,I4⟩:=qz9
   subst hr
   exact fin' s4 σ3 H3 [] I4 qn
  ·refine Zy3 (T'.item X' rfl rfl rfl hcm i [] s3 σ3 H3 _ I3 (stat fr3) st3 go) λr s4 qz9=>?_
   obtain⟨u,hr,h4⟩:=qz9
   subst hr
   refine Zy3 h4 λ_ s5 qz9=>?_
   obtain⟨x,H5,I5,r5,y5,st5,fr5⟩:=qz9
   have I5':=I5.pinned (stat fr5) (T.obj _ _ st5)
   have hgg:=hg' _ s5 σ3 H5 x u _ I5' r5 (step x H5 y5)
   rw[hxe]at hgg
   refine Zy3 hgg λ_ s6 qz9=>?_
   obtain⟨σ6,H6,I6,q6⟩:=qz9
   have htt:=ht' _ s6 σ6 H6 _ I6 q6
   rw[hxe]at htt
   refine Zy3 htt λok s7 qz9=>?_
   obtain⟨H7,I7,q7⟩:=qz9
   have again:∀{σ7:St} {H7:Hp} {s7:Xd} {m:Nat},Inv X' ([] ++ Zlo fp s5.heap) σ7 H7 s7->W (i+1) m σ7 H7->m<n->∃m,m<n∧∃i σ' H',Inv X' [] σ' H' s7∧tn i s7.heap∧(∀b∈fp,H' b=none)∧W i m σ' H':=fun{σ7 H7 s7 m} I7 w7 hm=>by
    refine⟨m,hm,i+1,σ7,H7,I7.unpinned,T.keep _ _ _ st5 λb hb o e=>(I7.pin (b,o) (XF _ (XF _ (Zd3 hb e)))).1,λb hb=>?_,w7⟩
    obtain⟨o,e,d⟩:=T.obj _ _ st5 b hb
    exact(I7.pin (b,o) (XF _ (XF _ (Zd3 hb e)))).2.1
   cases ok with
   | false=>
    obtain⟨m',hm,w7⟩:=q7
    rw[if_neg Xx]
    exact again I7 w7 hm
   | true=>
    rw[if_pos rfl]
    have hee:=he' _ s7 σ6 H7 _ I7 q7
    rw[hxe]at hee
    refine Zy3 hee λy s8 qz9=>?_
    obtain⟨vy,H8,I8,r8,ys,hD,hlen,m',hm,w8⟩:=qz9
    have hap:=Zl5 (X:=X') _ s8 σ6 H8 (.ref s.heap.objs.size) [vy] (.ref s.heap.objs.size) [y] (λ_ H'=>W (i+1) m' σ6 H') I8 rfl (.cons r8 .nil) ⟨_,ys,vy,rfl,rfl,hD,hlen,w8⟩
    rw[hxe]at hap
    refine Zy3 hap λz s9 qz9=>?_
    obtain⟨_,H9,I9,_,w9⟩:=qz9
    exact again I9 w9 hm
 exact codeAny_compStart_list loop (T.self _ 0 _ _ _ st0 loop)
theorem Z1y(S:CompScope X own caps N' sc)(hc:X.calm=true)(hi:PI X tg iter wi)
  (hg:∀C cells s₂ H₂ fp,PG (W4 X N' sc C cells s₂ H₂ fp) tg g) (ht:∀C cells s₂ H₂ fp,Zze (W4 X N' sc C cells s₂ H₂ fp) ifs tt) (he:∀C cells s₂ H₂ fp,PE (W4 X N' sc C cells s₂ H₂ fp) elt te)
  (hs:∀x,Bu iter X.env x=pure x:=by intro _;rfl):PE X (.ListComp elt [⟨tg,iter,ifs,0⟩] sc pos) (Zyz own caps wi g tt te):=by
 intro pins s σ H Q I h
 rw[eval_ListComp]
 have hf:∀y∈sc.names,y.2= .free->∃c,X.env.cells.lookup y.1=some c:=λy hy e=>by
  obtain⟨n,k⟩:=y
  have e':k= .free:=e
  subst e'
  exact I.ok.has n (S.fr hy)
 refine wpAny_comprehension_free (use:=none) rfl hs (Zeg hf) S.kind (λy hy e=>by obtain⟨n,k⟩:=y;have e':k= .local:=e;subst e';exact S.lk hy) ?_
 refine thn (hi pins s σ H _ I h) λv s1 h1=>thn h1 λitv s2 h2=>?_
 obtain⟨it,fp,tn,J,H2,e,I2,T,st2,f2,q⟩:=h2
 subst e
 refine UJ ?_
 refine thn (Zi0 (iter:=iter) (pos:=pos) (Qf:=compPost (X7 X.prog X.w) X.A X.xe none (EP X pins σ Q) (.ref s2.heap.objs.size) (s2.heap.objs.size+1)) S hc hg ht he I2 T st2 f2 (q s2.heap.objs.size I2.fresh) ?_) λcenv s4 ⟨hl,hr⟩=>?_
 ·intro s' σ' H' p' C cells I' eC q'
  subst eC
  obtain⟨m,hn,_⟩:=id I'.loc
  exact⟨m,hn,λh' hs'=>⟨.ref s2.heap.objs.size,H',Zof I2 f2 I' hs',rfl,q'⟩⟩
 ·rw[←hl]at hr
  exact hr
end
section
variable {X:Cx}{own:List Str}{caps:List Nat}{N':List Str}{sc:V5}{tg elt iter:Expr}{ifs:List Expr}{pos:Pos}{wi:TI}{g:TG}{tt:TT}{te:TE}
theorem Zpw{i:Nat}{y:Str}{py spos:Pos}(hN:X.N.Nodup)(hy:X.N[i]? =some y)(hx:Loc X.env.scope y)(S:CompScope X own caps N' sc)(hc:X.calm=true)(hi:PI X tg iter wi)
  (hg:∀C cells s₂ H₂ fp,PG (W4 X N' sc C cells s₂ H₂ fp) tg g) (ht:∀C cells s₂ H₂ fp,Zze (W4 X N' sc C cells s₂ H₂ fp) ifs tt) (he:∀C cells s₂ H₂ fp,PE (W4 X N' sc C cells s₂ H₂ fp) elt te)
  (hsw:Ve (.ListComp elt [⟨tg,iter,ifs,0⟩] sc pos) (some (.Name y py)) spos.line X.env=pure true:=by rfl)
  (hs:∀x,Bu iter X.env x=pure x:=by intro _;rfl) (hf:X.fn y=true∨X.env.scope.names.lookup y=some .local:=by first|exact .inl rfl|exact .inr rfl|assumption) :
  PS X (.Assign [.Name y py] (.ListComp elt [⟨tg,iter,ifs,0⟩] sc pos) spos) (Z6f (Zyz own caps wi g tt te) (Zsm i)):=by
 intro pins s σ H D I h
 have hfr:∀y∈sc.names,y.2= .free->∃c,X.env.cells.lookup y.1=some c:=λy hy e=>by
  obtain⟨n,k⟩:=y
  have e':k= .free:=e
  subst e'
  exact I.ok.has n (S.fr hy)
 rw[exec_Assign_Name_used _ _ _ _ hsw]
 refine Xe (wpAny_standAt (Xe ?_))
 show XX _ X.A (do let _←comprehension (.ListComp elt [⟨tg,iter,ifs,0⟩] sc pos) sc X.env _ (newList []) false (eval iter X.env) (some (Vx (.Name y py) X.env))) _ _ s
 refine Xe (QD (wpAny_comprehension_free (use:=some (Vx (.Name y py) X.env)) (Q:=λ_ s'=>SP X pins D .next s') rfl hs (Zeg hfr) S.kind (λy hy e=>by obtain⟨n,k⟩:=y;have e':k= .local:=e;subst e';exact S.lk hy) ?_) (λ_ s' hq=>X8 (X8 hq)) λ_ _ e=>e)
 refine thn (hi pins s σ H _ I h) λv s1 h1=>thn h1 λitv s2 h2=>?_
 obtain⟨it,fp,tn,J,H2,e,I2,T,st2,f2,q⟩:=h2
 subst e
 refine UJ ?_
 refine thn (Zi0 (iter:=iter) (pos:=pos) (Qf:=compPost (X7 X.prog X.w) X.A X.xe (some (Vx (.Name y py) X.env)) (λ_ s'=>SP X pins D .next s') (.ref s2.heap.objs.size) (s2.heap.objs.size+1)) S hc hg ht he I2 T st2 f2 (q s2.heap.objs.size I2.fresh) ?_) λcenv s4 ⟨hl,hr⟩=>?_
 ·intro s' σ' H' p' C cells I' eC q'
  subst eC
  obtain⟨m,hn,_⟩:=id I'.loc
  have I3:Inv X pins σ H' s':=Zof I2 f2 I' (.refl ..)
  show XX _ X.A (Vx (.Name y py) X.env (.ref s2.heap.objs.size)) _ _ s'
  refine wpAny_assign_Name (Zmk (v:=.ref s2.heap.objs.size) I3 hN hy hx rfl (λs5 I5 hsb=>?_) hf)
  have hC:s2.heap.objs.size<s2.heap.objs.size+1:=BJ _
  have ltL:X.env.locals<s2.heap.objs.size:=I2.lt
  have ltC:∀x c,X.env.cells.lookup x=some c->c<s2.heap.objs.size:=λx c e=>by
   obtain⟨w',z⟩:=I2.cell x c e
   exact z.lt
  refine⟨m,?_,λh' hs'=>⟨σ.set i (some (.ref s2.heap.objs.size)),H',?_,q'⟩⟩
  ·obtain⟨a,hsa,ha⟩:=hsb
   refine hn.sameBut hsa ?_
   rcases ha with ha|ha
   ·rw[ha];exact XM (V6 ltL hC)
   ·exact XM (V6 (ltC _ _ ha) hC)
  ·refine I5.turned (t':=s5.toks) (it:=s2.heap.objs.size+1) (λb o hb e=>(hs'.2 b hb).trans e) I'.free (XM (V6 ltL hC)) (.inr (QF I2.sz (U0 hC))) (λx c e=>Xn (V6 (ltC x c e) hC)) λp hp=>?_
   obtain⟨e,_⟩:=I2.pin p hp
   exact Xn (V6 (Xv e) hC)
 ·rw[←hl]at hr
  exact hr
end
section
variable (n:Nat)(D:Addr)(Pv:Nat->List V->St->Hp->Prop)
variable {n D Pv}
end
mutual
inductive Is(H:Hp)(L:Addr->Prop):V->Xa->Prop where
 | non:Is H L .non .none
 | bl (b:Bool):Is H L (.bl b) (.bool b)
 | int (i:Int):Is H L (.int i) (.int i)
 | str (x:Str):Is H L (.str x) (.str x)
 | lst {a:Addr} {xs:List V} {ds:List Xa}:L a->H a=some (.lst xs)->IsAll H L xs ds->Is H L (.ref a) (.list ds)
 | tup {a:Addr} {xs:List V} {ds:List Xa}:H a=some (.tup xs)->IsAll H L xs ds->Is H L (.ref a) (.tuple ds)
inductive IsAll(H:Hp)(L:Addr->Prop):List V->List Xa->Prop where
 | nil:IsAll H L [] []
 | cons {x:V} {xs:List V} {d:Xa} {ds:List Xa}:Is H L x d->IsAll H L xs ds->IsAll H L (x :: xs) (d :: ds)
end
section
variable {H H':Hp}{L L':Addr->Prop}
theorem IsAll.ind{Q:List V->List Xa->Prop}(n:Q [] [])(c:∀{x:V} {xs:List V} {d:Xa} {ds:List Xa},Is H L x d->IsAll H L xs ds->Q xs ds->Q (x :: xs) (d :: ds)):∀{xs ds},IsAll H L xs ds->Q xs ds:=λh=>
 IsAll.rec (motive_1:=λ_ _ _=>True) (motive_2:=λxs ds _=>Q xs ds) trivial (λ_=>trivial) (λ_=>trivial) (λ_=>trivial) (λ_ _ _ _=>trivial) (λ_ _ _=>trivial) n (λp q _ r=>c p q r) h
theorem IsAll.length{xs:List V}{ds:List Xa}(h:IsAll H L xs ds):xs.length=ds.length:=IsAll.ind (Q:=λxs ds=>xs.length=ds.length) rfl (λ_ _ r=>congrArg (·+1) r) h
theorem IsAll.set{xs:List V}{ds:List Xa}{x:V}{d:Xa}(i:Nat)(h:IsAll H L xs ds)(k:Is H L x d):IsAll H L (xs.set i x) (ds.set i d) :=
 IsAll.ind (Q:=λxs ds=>∀i,IsAll H L (xs.set i x) (ds.set i d)) (λ_=>.nil) (λh q r i=>Nat.casesOn i (.cons k q) λi=>.cons h (r i)) h i
end
section
variable {X:Cx}{pins:List (Addr×Obj)}{σ:St}{H:Hp}{s:Xd}{L L':Addr->Prop}
end
noncomputable abbrev Shp(d:Xa):Prop:=VP d=true
section
variable {X:Cx}
end
mutual
noncomputable def Wo:Xa->Bool
 | .none=>true
 | .int _=>true
 | .str _=>true
 | .list ds=>Zak ds
 | .tuple ds=>Zak ds
 | _=>false
noncomputable def Zak:List Xa->Bool
 | []=>true
 | d :: ds=>Wo d&&Zak ds
end
mutual
theorem Znj:∀(d e:Xa),Wo d=true->Wo e=true->(Q7 d e=true↔d=e)
 | .none,e,_,he=>by cases e<;>simp_all [Q7,Wo]
 | .int i,e,_,he=>by cases e<;>simp_all [Q7,Wo]
 | .str i,e,_,he=>by cases e<;>simp_all [Q7,Wo]
 | .list ds,e,hd,he=>by
  cases e with
  | list es=>
   rw[Wo]at hd he
   rw[Q7,QH.injEq]
   exact Zfw ds es hd he
  | _=>simp_all [Q7,Wo]
 | .tuple ds,e,hd,he=>by
  cases e with
  | tuple es=>
   rw[Wo]at hd he
   rw[Q7,PyData.tuple.injEq]
   exact Zfw ds es hd he
  | _=>simp_all [Q7,Wo]
 | .bool b,e,hd,_=>by simp[Wo]at hd
 | .dict b,e,hd,_=>by simp[Wo]at hd
theorem Zfw:∀(ds es:List Xa),Zak ds=true->Zak es=true->(Uj ds es=true↔ds=es)
 | [],[],_,_=>by simp[Uj]
 | [],_ :: _,_,_=>by simp[Uj]
 | _ :: _,[],_,_=>by simp[Uj]
 | d :: ds,e :: es,hd,he=>by
  rw[Zak,XN]at hd he
  rw[Uj,XN,Znj d e hd.1 he.1,Zfw ds es hd.2 he.2,List.cons.injEq]
end
theorem Z3x{d e:Xa}(h:Wo d=true)(k:Wo e=true)(q:d=e):Q7 d e=true:=(Znj d e h k).mpr q
theorem Z2q{d e:Xa}(h:Wo d=true)(k:Wo e=true)(q:d≠e):Q7 d e=false:=Uq.mpr λz=>q ((Znj d e h k).mp z)
noncomputable def fr(a b:Int):Xa:=.tuple [.int a,.int b]
theorem Zfa{t b:Int}(hb:b≠0):0<(JL t b:Int):=by
 have:=Int.gcd_pos_of_ne_zero_right t hb
 omega
theorem Je{t g:Int}(hg:0<g):t.fdiv g=t/g:=Int.fdiv_eq_ediv_of_nonneg t (by omega)
theorem Zdl{t g:Int}(hg:0<g)(h:g∣t):t.fdiv (-g)= -(t/g):=by
 obtain⟨k,rfl⟩:=h
 rw[Int.mul_ediv_cancel_left _ (by omega)]
 have e:g*k=(-k)*(-g):=by rw[Int.neg_mul_neg,Int.mul_comm]
 rw[e,Int.mul_fdiv_cancel _ (by omega)]
noncomputable def shr(t b:Int):Int:=if b<0 then -(JL t b:Int)else(JL t b:Int)
theorem Zyv{t b:Int}(hb:b≠0):t.fdiv (shr t b)=(Xu t b).num:=by
 have hg:=Zfa (t:=t) hb
 have hd:(JL t b:Int)∣t:=Int.gcd_dvd_left ..
 rw[Rat.num_divInt,Int.gcd_comm b t]
 unfold shr
 by_cases h:b<0
 ·rw[if_pos h,Zdl hg hd,Int.sign_eq_neg_one_of_neg h,Int.neg_one_mul,Int.neg_ediv_of_dvd hd]
 ·rw[if_neg h,Je hg,Int.sign_eq_one_of_pos (by omega),Int.one_mul]
theorem Z1e{t b:Int}(hb:b≠0):b.fdiv (shr t b)=((Xu t b).den:Int):=by
 have hg:=Zfa (t:=t) hb
 have hd:(JL t b:Int)∣b:=Int.gcd_dvd_right ..
 rw[Rat.den_divInt,if_neg hb,Int.gcd_comm b t]
 unfold shr
 by_cases h:b<0
 ·have e:(b.natAbs:Int)= -b:=by omega
  rw[if_pos h,Zdl hg hd,Int.natCast_ediv,e,Int.neg_ediv_of_dvd hd]
 ·have e:(b.natAbs:Int)=b:=by omega
  rw[if_neg h,Je hg,Int.natCast_ediv,e]
theorem Zxv{t b:Int}(hb:b≠0):shr t b≠0:=by
 have hg:=Zfa (t:=t) hb
 unfold shr
 split<;>omega
theorem Zyn{n:Nat}{t b:Int}(hb:b≠0)(h:Bt n b):Bt n (shr t b):=by
 have h1:Bt n (JL t b:Int):=by
  refine Bt.of_le h ?_
  have:=Int.gcd_le_natAbs_right t hb
  omega
 unfold shr
 split
 ·exact h1.neg
 ·exact h1
theorem Zi5{n:Nat}{t b:Int}(hb:b≠0)(h:Bt n t):Bt n (Xu t b).num:=by
 rw[Rat.num_divInt]
 refine Bt.of_le h ?_
 refine QF (Vi _ _) ?_
 rw[Int.natAbs_mul]
 have:b.sign.natAbs≤1:=by
  rw[Int.natAbs_sign]
  split<;>omega
 calc b.sign.natAbs*t.natAbs≤1*t.natAbs:=Nat.mul_le_mul_right _ this
  _=t.natAbs:=Nat.one_mul _
theorem Zqu{n:Nat}{t b:Int}(hb:b≠0)(h:Bt n b):Bt n ((Xu t b).den:Int):=by
 rw[Rat.den_divInt,if_neg hb]
 refine Bt.of_le h ?_
 show((b.natAbs/b.gcd t:Nat):Int).natAbs≤_
 rw[Uh]
 exact Nat.div_le_self _ _
theorem Zte(q:Rat):(q.den:Int)≠0:=by
 have:=q.den_pos
 omega
theorem Zah(q:Rat):(0:Int)<(q.den:Int):=by
 have:=q.den_pos
 omega
theorem Zn8(q r:Rat):Xu (q.num*(r.den:Int)+r.num*(q.den:Int)) ((q.den:Int)*(r.den:Int))=q+r:=by
 rw[Rat.add_def',←Int.natCast_mul,Rat.divInt_ofNat]
theorem Ztg(q r:Rat):Xu (q.num*(r.den:Int)-r.num*(q.den:Int)) ((q.den:Int)*(r.den:Int))=q-r:=by
 rw[Rat.sub_def',←Int.natCast_mul,Rat.divInt_ofNat]
theorem Zqz(q r:Rat):q.num*(r.den:Int)<r.num*(q.den:Int)↔q<r:=(Rat.lt_iff q r).symm
noncomputable def frD(q:Rat):Xa:=fr q.num (q.den:Int)
noncomputable def BQ(n:Nat)(q:Rat):Prop:=Bt n q.num∧Bt n (q.den:Int)
theorem BQ.zero:BQ 1 0:=⟨by unfold Bt;decide,by unfold Bt;decide⟩
section
variable {X:Cx}{K:Xb}{a b o e:Expr}{ta tb tl to:TE}{pos:Pos}
theorem Zv2(hK:X.K=K):IxR X (Z95 K):=hK▸Zs3
theorem Z1g(hK:X.K=K):IxR X (rIx K):=hK▸Z2w
theorem Zwd(hK:X.K=K):SlR X (Ycv K):=hK▸Zy2
noncomputable def Yc9(K:Xb):List V->Hp->VK->Prop:=λxs H Q=>∃p ys,xs=[.ref p]∧(SqL K H p ys∨SqT K H p ys)∧Q (.int ys.length) H
theorem Zt1(hK:X.K=K):Zd9 X (.builtin "len") (Yc9 K):=by subst hK;exact Zld
noncomputable def Yeb(K:Xb)(ta:TE):TT:=λσ H Q=>ta σ H λx H'=>∃k,Yat K x H' k∧Q k H'
theorem Zy1(hK:X.K=K)(ha:PE X a ta)(he:∀whole,isTrue a X.env whole=(do let v←whole;standAt a.pos;holding [v] (truthy v))):PT X a (Yeb K ta):=by subst hK;exact Zwi ha he
theorem Zwt{tg l:Expr}(hK:X.K=K)(hl:PE X l tl):PI X tg l (Z2r K tl):=by subst hK;exact Zzc hl
theorem Z46(hK:X.K=K):OpR X (Bg .In) (rIn K false):=by subst hK;exact Zsf
theorem Zsu(hK:X.K=K):OpR X (Bg .NotIn) (rIn K true):=by subst hK;exact Zmb
end
theorem Ys{H:Hp}{p:Addr}(h:H p=none)(o:HO):Same H (upd H p o):=λb u q=>by rw[Zr (Yu q h)];exact q
noncomputable def But(p:Addr)(H H':Hp):Prop:=∀b o,b≠p->H b=some o->H' b=some o
theorem But.upd(p:Addr)(H:Hp)(o:HO):But p H (upd H p o):=λb u n e=>by rw[Zr n];exact e
noncomputable def Pl(H:Hp)(p:Addr)(n:Nat):Prop:=∃a b c:Int,H p=some (.lst [.int a,.int b,.int c])∧0≤c∧c≤n
theorem Pl.at{H:Hp}{p:Addr}{n:Nat}(h:Pl H p n):∃xs,H p=some (.lst xs):=by
 obtain⟨a,b,c,e,h1,h2⟩:=h
 exact⟨_,e⟩
namespace B
theorem boot_abs:Qc "abs"=some (.builtin "abs"):=by decide +kernel
theorem boot_len:Qc "len"=some (.builtin "len"):=by decide +kernel
theorem boot_max:Qc "max"=some (.builtin "max"):=by decide +kernel
theorem boot_min:Qc "min"=some (.builtin "min"):=by decide +kernel
theorem boot_isinstance:Qc "isinstance"=some (.builtin "isinstance"):=by decide +kernel
theorem boot_sum:Qc "sum"=some (.builtin "sum"):=by decide +kernel
theorem boot_sorted:Qc "sorted"=some (.builtin "sorted"):=by decide +kernel
theorem boot_int:Qc "int"=some (.type "int"):=by decide +kernel
theorem boot_bool:Qc "bool"=some (.type "bool"):=by decide +kernel
theorem boot_range:Qc "range"=some (.type "range"):=by decide +kernel
theorem boot_zip:Qc "zip"=some (.type "zip"):=by decide +kernel
theorem boot_enumerate:Qc "enumerate"=some (.type "enumerate"):=by decide +kernel
end B
theorem Zgw{a b:Int}(hb:0<b):a.fmod b=a%b:=Int.fmod_eq_emod_of_nonneg a (by omega)
theorem Zvz{x y:Int}(hx:0≤x)(hy:0<y):JL y (x.fmod y)=JL x y:=by
 rw[Zgw hy,Int.gcd_comm x y]
 have e:=Int.emod_add_mul_ediv x y
 conv=>rhs;rw[←e]
 rw[Int.gcd_add_mul_left_right]
theorem Zyb:(2:Nat)≤Xq:=by decide
theorem Zvk(q:Rat):Xu q.num (q.den:Int)=q:=Rat.num_divInt_den q
theorem BQ.n{n:Nat}{q:Rat}(h:BQ n q):Bt n q.num:=h.1
theorem BQ.d{n:Nat}{q:Rat}(h:BQ n q):Bt n (q.den:Int):=h.2
theorem Yed(q:Rat):(((q.den:Int)):Rat)≠0:=by
 intro z
 exact Zte q (Rat.intCast_eq_zero_iff.mp z)
theorem Yet(q:Rat):((q.num:Int):Rat)=q*(((q.den:Int)):Rat):=by
 have h:=Zvk q
 rw[Qq]at h
 have d:=Yed q
 conv=>rhs;lhs;rw[←h]
 grind
variable {G:Xb}
noncomputable def KS(G:Xb)(a:Addr)(ns:List Int):Prop:=∃(o:Obj) (its:Array Xc) (n:Nat),G.lookup a=some o∧o.cls= .type "list"∧o.dict=none∧o.data= .seq its n∧its.size≤Xq∧Vals (ns.map V.int) its.toList
theorem KS.sq{G:Xb}{H:Hp}{a:Addr}{ns:List Int}(h:KS G a ns):SqL G H a (ns.map V.int):=.inr h
noncomputable def exD(x:Str):Xa:=.dict [(.str x,.none)]
noncomputable def fnD(x:Str):Xa:=.dict [(.str x,.bool true)]
noncomputable def Zlf:Xa->Bool| .dict ((_,.bool _) :: _)=>true|_=>false
noncomputable def Vm(G:Xb)(x:Str)(C:Addr):Prop:=Qe G XD x=some (some (.ref C))
structure Zcj(G:Xb)(C:Addr):Prop where
 ga:Bq G (.ref C) "__getattribute__"=some (some (.builtin "BaseException.__getattribute__"))
 gt:Bq G (.ref C) "__getattr__"=some none
 cl:Bq G (.ref C) "__class__"=some (some (.builtin "object.__class__"))
 isB:Be G (.ref C) (.type "BaseException")=some true
 isO:Be G (.ref C) (.type "object")=some true
 isC:(PySem.W.clsIn G C).isSome=true
 k1:Qh G (.ref C) (.type "int")=some false
 k2:Qh G (.ref C) (.type "bool")=some false
 k3:Qh G (.ref C) (.type "str")=some false
 k4:Qh G (.ref C) (.type "list")=some false
 k5:Qh G (.ref C) (.type "tuple")=some false
noncomputable def ExO(C a:Addr)(h:Heap):Prop:=∃o vs,h.get? a=some o∧o.cls= .ref C∧o.data= .fields vs
inductive ImO where
 | tup (xs:List V)
 | ext (φ:Heap->Prop)
noncomputable def ImO.ho:ImO->HO
 | .tup xs=>.tup xs
 | .ext φ=>.ext φ
inductive MuO where
 | lst (xs:List V)
 | dK (kvs:List (Key×V))
 | dT (kvs:List (List Key×V))
noncomputable def MuO.ho:MuO->HO
 | .lst xs=>.lst xs
 | .dK kvs=>.dK kvs
 | .dT kvs=>.dT kvs
noncomputable def Ycp:Key->Xa
 | .inl i=>.int i
 | .inr x=>.str x
noncomputable def Yev(ks:List Key):Xa:=.tuple (ks.map Ycp)
noncomputable abbrev KY:=Sum Key (List Key)
noncomputable def kyD:KY->Xa
 | .inl k=>Ycp k
 | .inr ks=>Yev ks
noncomputable def MuO.dic(t:Bool)(ks:List KY)(xs:List V):MuO->Prop
 | .lst _=>False
 | .dK kvs=>t=false∧ks=kvs.map (λp=>.inl p.1)∧xs=kvs.map (·.2)
 | .dT kvs=>t=true∧ks=kvs.map (λp=>.inr p.1)∧xs=kvs.map (·.2)
noncomputable def dcD(t:Bool)(ks:List KY)(ds:List Xa):Xa:=.dict ((.none,.bool t) :: (ks.map kyD).zip ds)
theorem ImO.nm{H:Hp}{a:Addr}{x:ImO}{y:MuO}(h:H a=some x.ho)(h':H a=some y.ho):False:=by
 rw[h]at h'
 cases x<;>cases y<;>cases h'
theorem ImO.nl{H:Hp}{a:Addr}{x:ImO}{ys:List V}(h:H a=some x.ho)(h':H a=some (.lst ys)):False:=by
 rw[h]at h'
 cases x<;>cases h'
mutual
inductive Da(G:Xb)(H:Hp)(L:Addr->Prop):V->Xa->Prop where
 | non:Da G H L .non .none
 | bl (b:Bool):Da G H L (.bl b) (.bool b)
 | int (i:Int):Da G H L (.int i) (.int i)
 | str (x:Str):Da G H L (.str x) (.str x)
 | lst {a:Addr} {xs:List V} {ds:List Xa}:L a->Rd H a (.lst xs)->Das G H L xs ds->Da G H L (.ref a) (.list ds)
 | tup {a:Addr} {xs:List V} {ds:List Xa}:H a=some (.tup xs)->Das G H L xs ds->Da G H L (.ref a) (.tuple ds)
 | scr {a:Addr} {ns:List Int}:KS G a ns->Da G H L (.ref a) (.list (ns.map Xo))
 | exc {a C:Addr} {x:Str}:Zcj G C->Vm G x C->H a=some (.ext (ExO C a))->Da G H L (.ref a) (exD x)
 | fn {a:Addr} {x:Str}:Vm G x a->Da G H L (.ref a) (fnD x)
 | dic {a:Addr} {o:MuO} {t:Bool} {ks:List KY} {xs:List V} {ds:List Xa}:L a->Rd H a o.ho->o.dic t ks xs->Das G H L xs ds->Da G H L (.ref a) (dcD t ks ds)
inductive Das(G:Xb)(H:Hp)(L:Addr->Prop):List V->List Xa->Prop where
 | nil:Das G H L [] []
 | cons {x:V} {xs:List V} {d:Xa} {ds:List Xa}:Da G H L x d->Das G H L xs ds->Das G H L (x :: xs) (d :: ds)
end
section
variable {H H':Hp}{L L':Addr->Prop}
theorem Da.both{P:V->Xa->Prop}{Q:List V->List Xa->Prop}(c1:P .non .none)(c2:∀b,P (.bl b) (.bool b))(c3:∀i,P (.int i) (.int i))(c4:∀x,P (.str x) (.str x))
  (c5:∀{a:Addr} {xs:List V} {ds:List Xa},L a->Rd H a (.lst xs)->Q xs ds->P (.ref a) (.list ds)) (c6:∀{a:Addr} {xs:List V} {ds:List Xa},H a=some (.tup xs)->Q xs ds->P (.ref a) (.tuple ds))
  (c7:∀{a:Addr} {ns:List Int},KS G a ns->P (.ref a) (.list (ns.map Xo))) (c8:∀{a C:Addr} {x:Str},Zcj G C->Vm G x C->H a=some (.ext (ExO C a))->P (.ref a) (exD x)) (c9:∀{a:Addr} {x:Str},Vm G x a->P (.ref a) (fnD x))
  (c10:∀{a:Addr} {o:MuO} {t:Bool} {ks:List KY} {xs:List V} {ds:List Xa},L a->Rd H a o.ho->o.dic t ks xs->Q xs ds->P (.ref a) (dcD t ks ds)) (n:Q [] []) (c:∀{x:V} {xs:List V} {d:Xa} {ds:List Xa},P x d->Q xs ds->Q (x :: xs) (d :: ds)):(∀{v d},Da G H L v d->P v d)∧∀{xs ds},Das G H L xs ds->Q xs ds :=
 ⟨λh=>Da.rec (motive_1:=λv d _=>P v d) (motive_2:=λxs ds _=>Q xs ds) c1 c2 c3 c4 (λp e _ r=>c5 p e r) (λe _ r=>c6 e r) (λk=>c7 k) (λk l m=>c8 k l m) (λk=>c9 k) (λp e k _ r=>c10 p e k r) n (λ_ _ p q=>c p q) h,
   λh=>Das.rec (motive_1:=λv d _=>P v d) (motive_2:=λxs ds _=>Q xs ds) c1 c2 c3 c4 (λp e _ r=>c5 p e r) (λe _ r=>c6 e r) (λk=>c7 k) (λk l m=>c8 k l m) (λk=>c9 k) (λp e k _ r=>c10 p e k r) n (λ_ _ p q=>c p q) h⟩
theorem Das.ind{Q:List V->List Xa->Prop}(n:Q [] [])(c:∀{x:V} {xs:List V} {d:Xa} {ds:List Xa},Da G H L x d->Das G H L xs ds->Q xs ds->Q (x :: xs) (d :: ds)):∀{xs ds},Das G H L xs ds->Q xs ds:=λh=>
 Das.rec (motive_1:=λ_ _ _=>True) (motive_2:=λxs ds _=>Q xs ds) trivial (λ_=>trivial) (λ_=>trivial) (λ_=>trivial) (λ_ _ _ _=>trivial) (λ_ _ _=>trivial) (λ_=>trivial) (λ_ _ _=>trivial) (λ_=>trivial) (λ_ _ _ _ _=>trivial) n (λp q _ r=>c p q r) h
theorem Da.frame2(hl:∀a (xs:MuO),L a->Rd H a xs.ho->L' a∧Rd H' a xs.ho)(ht:∀a (xs:ImO),H a=some xs.ho->H' a=some xs.ho):(∀{v:V} {d:Xa},Da G H L v d->Da G H' L' v d)∧∀{xs:List V} {ds:List Xa},Das G H L xs ds->Das G H' L' xs ds :=
 Da.both .non .bl .int .str (fun{_ xs _} p e r=>.lst (hl _ (.lst xs) p e).1 (hl _ (.lst xs) p e).2 r) (fun{_ xs _} e r=>.tup (ht _ (.tup xs) e) r) .scr (λc n e=>.exc c n (ht _ (.ext _) e)) .fn (λp e k r=>.dic (hl _ _ p e).1 (hl _ _ p e).2 k r) .nil .cons
theorem Da.frame(hl:∀a (xs:MuO),L a->Rd H a xs.ho->L' a∧Rd H' a xs.ho)(ht:∀a (xs:ImO),H a=some xs.ho->H' a=some xs.ho){v:V}{d:Xa}(h:Da G H L v d):Da G H' L' v d:=(Da.frame2 hl ht).1 h
theorem Das.frame(hl:∀a (xs:MuO),L a->Rd H a xs.ho->L' a∧Rd H' a xs.ho)(ht:∀a (xs:ImO),H a=some xs.ho->H' a=some xs.ho){xs:List V}{ds:List Xa}(h:Das G H L xs ds):Das G H' L' xs ds:=(Da.frame2 hl ht).2 h
theorem Rd.same{a:Addr}{u:HO}(s:Same H H')(h:Rd H a u):Rd H' a u:=h.imp (s _ _) λ⟨o,h⟩=>⟨o,s _ _ h⟩
theorem Rd.some{a:Addr}{u:HO}(h:Rd H a u):H a≠Option.none:=by
 rcases h with h|⟨o,h⟩<;>rw[h]<;>intro z<;>cases z
theorem Da.same(h:Same H H'){v:V}{d:Xa}(x:Da G H L v d):Da G H' L v d:=x.frame (λa xs p e=>⟨p,e.same h⟩) λa xs e=>h _ _ e
theorem Das.same(h:Same H H'){v:List V}{d:List Xa}(x:Das G H L v d):Das G H' L v d:=x.frame (λa xs p e=>⟨p,e.same h⟩) λa xs e=>h _ _ e
theorem Da.wide(h:∀a,L a->H a≠none->L' a){v:V}{d:Xa}(x:Da G H L v d):Da G H L' v d:=x.frame (λa xs p e=>⟨h a p e.some,e⟩) λa xs e=>e
theorem Das.wide(h:∀a,L a->H a≠none->L' a){v:List V}{d:List Xa}(x:Das G H L v d):Das G H L' v d:=x.frame (λa xs p e=>⟨h a p e.some,e⟩) λa xs e=>e
theorem Das.length{xs:List V}{ds:List Xa}(h:Das G H L xs ds):xs.length=ds.length:=Das.ind (Q:=λxs ds=>xs.length=ds.length) rfl (λ_ _ r=>congrArg (·+1) r) h
theorem Das.append{xs ys:List V}{ds es:List Xa}(h:Das G H L xs ds)(k:Das G H L ys es):Das G H L (xs ++ ys) (ds ++ es):=Das.ind (Q:=λxs ds=>Das G H L (xs ++ ys) (ds ++ es)) k (λh _ r=>.cons h r) h
theorem Das.get{xs:List V}{ds:List Xa}{i:Nat}{d:Xa}(h:Das G H L xs ds):ds[i]? =some d->∃x,xs[i]? =some x∧Da G H L x d :=
 Das.ind (Q:=λxs ds=>∀i,ds[i]? =some d->∃x,xs[i]? =some x∧Da G H L x d) (λ_ e=>(Option.some_ne_none _ (e.symm.trans Um)).elim) (fun{x _ _ _} h _ r i=>Nat.casesOn i (λe=>⟨x,rfl,Qy e▸h⟩) λi e=>r i e) h i
theorem Das.get'{xs:List V}{ds:List Xa}{i:Nat}{x:V}(h:Das G H L xs ds):xs[i]? =some x->∃d,ds[i]? =some d∧Da G H L x d :=
 Das.ind (Q:=λxs ds=>∀i,xs[i]? =some x->∃d,ds[i]? =some d∧Da G H L x d) (λ_ e=>(Option.some_ne_none _ (e.symm.trans Um)).elim) (fun{_ _ d _} h _ r i=>Nat.casesOn i (λe=>⟨d,rfl,Qy e▸h⟩) λi e=>r i e) h i
theorem Das.take{xs:List V}{ds:List Xa}(n:Nat)(h:Das G H L xs ds):Das G H L (xs.take n) (ds.take n) :=
 Das.ind (Q:=λxs ds=>∀n,Das G H L (xs.take n) (ds.take n)) (λn=>by rw[List.take_nil,List.take_nil];exact .nil) (λh _ r n=>Nat.casesOn n .nil λn=>.cons h (r n)) h n
theorem Das.drop{xs:List V}{ds:List Xa}(n:Nat)(h:Das G H L xs ds):Das G H L (xs.drop n) (ds.drop n) :=
 Das.ind (Q:=λxs ds=>∀n,Das G H L (xs.drop n) (ds.drop n)) (λn=>by rw[List.drop_nil,List.drop_nil];exact .nil) (λh q r n=>Nat.casesOn n (.cons h q) λn=>r n) h n
theorem Das.ints(ns:List Int):Das G H L (ns.map V.int) (ns.map Xo):=by
 induction ns with
 | nil=>exact .nil
 | cons n ns ih=>exact .cons (.int n) ih
theorem Das.int_inv{xs:List V}{ns:List Int}(h:Das G H L xs (ns.map Xo)):xs=ns.map V.int:=by
 induction ns generalizing xs with
 | nil=>cases h;rfl
 | cons n ns ih=>
  rw[Ql]at h
  cases h with
  | cons h r=>cases h;rw[ih r];rfl
end
theorem Zpo{h:Heap}(ns:List Int){us:List Xc}(v:Vals (ns.map V.int) us):∃as,ReadsAll h us (ns.map Xo) as:=by
 induction ns generalizing us with
 | nil=>cases v;exact⟨_,.nil⟩
 | cons n ns ih=>
  rw[Ql]at v
  cases v with
  | cons r rs=>
   obtain⟨t,e⟩:=(show∃t,_=Uu n t from r)
   subst e
   obtain⟨bs,k'⟩:=ih rs
   exact⟨_,.cons (.int n t) k'⟩
section
variable {X:Cx}{pins:List (Addr×Obj)}{σ:St}{H:Hp}{s:Xd}{L L':Addr->Prop}
theorem Da.reads2(hG:X.K=G)(I:Inv X pins σ H s):(∀{v:V} {d:Xa},Da G H L v d->∀u,RelV v u->d.canLay0=true->∃as,Reads s.heap u d as)∧∀{xs:List V} {ds:List Xa},Das G H L xs ds->∀us,Vals xs us->JC ds=true->∃as,ReadsAll s.heap us ds as:=by
 refine Da.both ?_ ?_ ?_ ?_ ?_ ?_ ?_ ?_ ?_ ?_ ?_ ?_
 ·intro u r _
  cases(show _=Q0 from r)
  exact⟨_,.none⟩
 ·intro b u r _
  cases(show _=Value.bool b from r)
  exact⟨_,.bool b⟩
 ·intro i u r _
  obtain⟨t,e⟩:=(show∃t,_=Uu i t from r)
  subst e
  exact⟨_,.int i t⟩
 ·intro x u r _
  obtain⟨t,e⟩:=(show∃t,_=Value.str x t from r)
  subst e
  exact⟨_,.str x t⟩
 ·intro a xs ds _ e q u r hcl
  cases(show _=Qu a from r)
  obtain⟨_,its,n,vs,h1⟩:=(show ObjOk X.prog X.w H s.heap a (.lst xs)from e.ok I.hok)
  rw[JV]at hcl
  obtain⟨as,k⟩:=q _ vs hcl
  exact⟨_,Reads.list h1 rfl rfl k⟩
 ·intro a xs ds e q u r hcl
  cases(show _=Qu a from r)
  obtain⟨_,its,vs,o,ho,hc,n,hd⟩:=(show ObjOk X.prog X.w H s.heap a (.tup xs)from I.hok a _ e)
  rw[JV]at hcl
  obtain⟨as,k⟩:=q _ vs hcl
  exact⟨_,Reads.tuple ho hc hd k⟩
 ·intro a ns k u r _
  cases(show _=Qu a from r)
  subst hG
  obtain⟨its,vs,⟨o,n,ho,hc,hd,hs⟩,_⟩:=I.list (k.sq (H:=H))
  obtain⟨as,q⟩:=Zpo ns vs
  exact⟨_,Reads.list ho hc hs q⟩
 ·intro a C x _ _ e u r hc
  rw[exD,JV]at hc
  cases hc
 ·intro a x _ u r hc
  rw[fnD,JV]at hc
  cases hc
 ·intro a o t ks xs ds _ _ _ _ u r hc
  rw[dcD,JV]at hc
  cases hc
 ·intro us v _
  cases v
  exact⟨_,.nil⟩
 ·intro x xs d ds h q us v hc
  cases v with
  | cons r rs=>
   rw[JC,XN]at hc
   obtain⟨as,k⟩:=h _ r hc.1
   obtain⟨bs,k'⟩:=q _ rs hc.2
   exact⟨_,.cons k k'⟩
theorem Da.reads(hG:X.K=G)(I:Inv X pins σ H s){v:V}{d:Xa}{u:Xc}(h:Da G H L v d)(r:RelV v u)(c:d.canLay0=true):∃as,Reads s.heap u d as:=(Da.reads2 hG I).1 h u r c
theorem Das.reads(hG:X.K=G)(I:Inv X pins σ H s){xs:List V}{ds:List Xa}{us:List Xc}(h:Das G H L xs ds)(r:Vals xs us)(c:JC ds=true):∃as,ReadsAll s.heap us ds as:=(Da.reads2 hG I).2 h us r c
end
inductive OT where
 | fz (d:Xa)
 | nd (ts:List OT)
 | tp (ts:List OT)
 | dc (t:Bool) (ks:List KY) (ds:List Xa)
mutual
noncomputable def OT.data:OT->Xa
 | .fz d=>d
 | .nd ts=>.list (OT.datas ts)
 | .tp ts=>.tuple (OT.datas ts)
 | .dc t ks ds=>dcD t ks ds
noncomputable def OT.datas:List OT->List Xa
 | []=>[]
 | t :: ts=>t.data :: OT.datas ts
end
theorem OT.datas_map:∀(ts:List OT),OT.datas ts=ts.map OT.data
 | []=>rfl
 | t :: ts=>by rw[OT.datas,OT.datas_map ts];rfl
@[simp] theorem OT.data_fz(d:Xa):(OT.fz d).data=d:=by rw[OT.data]
@[simp] theorem OT.data_nd(ts:List OT):(OT.nd ts).data= .list (ts.map OT.data):=by rw[OT.data,OT.datas_map]
@[simp] theorem OT.data_tp(ts:List OT):(OT.tp ts).data= .tuple (ts.map OT.data):=by rw[OT.data,OT.datas_map]
theorem OT.data_dc(t:Bool)(ks:List KY)(ds:List Xa):(OT.dc t ks ds).data=dcD t ks ds:=by rw[OT.data]
@[simp] theorem OT.map_fz(ds:List Xa):(ds.map OT.fz).map OT.data=ds:=by
 rw[Qp]
 exact(Xy λd _=>OT.data_fz d).trans (List.map_id _)
mutual
inductive Own(G:Xb)(H:Hp)(L:Addr->Prop):V->OT->List Addr->Prop where
 | fz {v:V} {d:Xa}:Da G H L v d->Own G H L v (.fz d) []
 | nd {a:Addr} {xs:List V} {ts:List OT} {bs:List Addr}:H a=some (.lst xs)->Owns G H L xs ts bs->Own G H L (.ref a) (.nd ts) (a :: bs)
 | tp {a:Addr} {xs:List V} {ts:List OT} {bs:List Addr}:H a=some (.tup xs)->Owns G H L xs ts bs->Own G H L (.ref a) (.tp ts) bs
 | dc {a:Addr} {o:MuO} {t:Bool} {ks:List KY} {xs:List V} {ds:List Xa}:H a=some o.ho->o.dic t ks xs->Das G H L xs ds->Own G H L (.ref a) (.dc t ks ds) [a]
inductive Owns(G:Xb)(H:Hp)(L:Addr->Prop):List V->List OT->List Addr->Prop where
 | nil:Owns G H L [] [] []
 | cons {x:V} {xs:List V} {t:OT} {ts:List OT} {as bs:List Addr}:Own G H L x t as->Owns G H L xs ts bs->Owns G H L (x :: xs) (t :: ts) (as ++ bs)
end
section
variable {H H':Hp}{L L':Addr->Prop}
theorem Own.both{P:V->OT->List Addr->Prop}{Q:List V->List OT->List Addr->Prop}(c1:∀{v:V} {d:Xa},Da G H L v d->P v (.fz d) [])(c2:∀{a:Addr} {xs:List V} {ts:List OT} {bs:List Addr},H a=some (.lst xs)->Q xs ts bs->P (.ref a) (.nd ts) (a :: bs))
  (c3:∀{a:Addr} {xs:List V} {ts:List OT} {bs:List Addr},H a=some (.tup xs)->Q xs ts bs->P (.ref a) (.tp ts) bs) (c4:∀{a:Addr} {o:MuO} {t:Bool} {ks:List KY} {xs:List V} {ds:List Xa},H a=some o.ho->o.dic t ks xs->Das G H L xs ds->P (.ref a) (.dc t ks ds) [a]) (n:Q [] [] []) (c:∀{x:V} {xs:List V} {t:OT} {ts:List OT} {as bs:List Addr},P x t as->Q xs ts bs->Q (x :: xs) (t :: ts) (as ++ bs)) :
  (∀ {v t as},Own G H L v t as->P v t as)∧∀{xs ts as},Owns G H L xs ts as->Q xs ts as :=
 ⟨λh=>Own.rec (motive_1:=λv t as _=>P v t as) (motive_2:=λxs ts as _=>Q xs ts as) c1 (λe _ r=>c2 e r) (λe _ r=>c3 e r) (λe k r=>c4 e k r) n (λ_ _ p q=>c p q) h,
   λh=>Owns.rec (motive_1:=λv t as _=>P v t as) (motive_2:=λxs ts as _=>Q xs ts as) c1 (λe _ r=>c2 e r) (λe _ r=>c3 e r) (λe k r=>c4 e k r) n (λ_ _ p q=>c p q) h⟩
theorem Own.frame2(hl:∀a (xs:MuO),L a->Rd H a xs.ho->L' a∧Rd H' a xs.ho)(ht:∀a (xs:ImO),H a=some xs.ho->H' a=some xs.ho) :
  (∀ {v:V} {t:OT} {as:List Addr},Own G H L v t as->(∀a∈as,∀xs:MuO,H a=some xs.ho->H' a=some xs.ho)->Own G H' L' v t as)∧∀{xs:List V} {ts:List OT} {as:List Addr},Owns G H L xs ts as->(∀a∈as,∀xs:MuO,H a=some xs.ho->H' a=some xs.ho)->Owns G H' L' xs ts as :=
 Own.both (λh _=>.fz (h.frame hl ht)) (fun{_ xs _ _} e r ha=>.nd (ha _ (.head _) (.lst xs) e) (r λa m=>ha a (.tail _ m))) (fun{_ xs _ _} e r ha=>.tp (ht _ (.tup xs) e) (r ha)) (λe k r ha=>.dc (ha _ (.head _) _ e) k (r.frame hl ht)) (λ_=>.nil) (λh r ha=>.cons (h λa m=>ha a (Q9 _ m)) (r λa m=>ha a (XF _ m)))
theorem Own.frame(hl:∀a (xs:MuO),L a->Rd H a xs.ho->L' a∧Rd H' a xs.ho)(ht:∀a (xs:ImO),H a=some xs.ho->H' a=some xs.ho){v:V}{t:OT}{as:List Addr}(ha:∀a∈as,∀xs:MuO,H a=some xs.ho->H' a=some xs.ho)(h:Own G H L v t as):Own G H' L' v t as:=(Own.frame2 hl ht).1 h ha
theorem Owns.frame(hl:∀a (xs:MuO),L a->Rd H a xs.ho->L' a∧Rd H' a xs.ho)(ht:∀a (xs:ImO),H a=some xs.ho->H' a=some xs.ho){xs:List V}{ts:List OT}{as:List Addr}(ha:∀a∈as,∀xs:MuO,H a=some xs.ho->H' a=some xs.ho)(h:Owns G H L xs ts as):Owns G H' L' xs ts as:=(Own.frame2 hl ht).2 h ha
theorem Own.same(h:Same H H'){v:V}{t:OT}{as:List Addr}(x:Own G H L v t as):Own G H' L v t as:=x.frame (λa xs p e=>⟨p,e.same h⟩) (λa xs e=>h _ _ e) λa _ xs e=>h _ _ e
theorem Own.wide(h:∀a,L a->H a≠none->L' a){v:V}{t:OT}{as:List Addr}(x:Own G H L v t as):Own G H L' v t as:=x.frame (λa xs p e=>⟨h a p e.some,e⟩) (λa xs e=>e) λa _ xs e=>e
theorem Owns.wide(h:∀a,L a->H a≠none->L' a){v:List V}{t:List OT}{as:List Addr}(x:Owns G H L v t as):Owns G H L' v t as:=x.frame (λa xs p e=>⟨h a p e.some,e⟩) (λa xs e=>e) λa _ xs e=>e
theorem Owns.same(h:Same H H'){v:List V}{t:List OT}{as:List Addr}(x:Owns G H L v t as):Owns G H' L v t as:=x.frame (λa xs p e=>⟨p,e.same h⟩) (λa xs e=>h _ _ e) λa _ xs e=>h _ _ e
theorem Own.da2(h:∀a,L a->H a≠none->L' a):(∀{v:V} {t:OT} {as:List Addr},Own G H L v t as->(∀a∈as,L' a)->Da G H L' v t.data)∧∀{v:List V} {t:List OT} {as:List Addr},Owns G H L v t as->(∀a∈as,L' a)->Das G H L' v (OT.datas t) :=
 Own.both (λk _=>by rw[OT.data_fz];exact k.wide h) (λe r ha=>by rw[OT.data];exact .lst (ha _ (.head _)) (.inl e) (r λa m=>ha a (.tail _ m))) (λe r ha=>by rw[OT.data];exact .tup e (r ha)) (λe k r ha=>by rw[OT.data];exact .dic (ha _ (.head _)) (.inl e) k (r.wide h)) (λ_=>.nil) (λk r ha=>.cons (k λa m=>ha a (Q9 _ m)) (r λa m=>ha a (XF _ m)))
theorem Own.da(h:∀a,L a->H a≠none->L' a){v:V}{t:OT}{as:List Addr}(ha:∀a∈as,L' a)(k:Own G H L v t as):Da G H L' v t.data:=(Own.da2 h).1 k ha
theorem Owns.das(h:∀a,L a->H a≠none->L' a){v:List V}{t:List OT}{as:List Addr}(ha:∀a∈as,L' a)(k:Owns G H L v t as):Das G H L' v (OT.datas t):=(Own.da2 h).2 k ha
theorem Own.some2:(∀{v:V} {t:OT} {as:List Addr},Own G H L v t as->∀a∈as,∃xs:MuO,H a=some xs.ho)∧∀{v:List V} {t:List OT} {as:List Addr},Owns G H L v t as->∀a∈as,∃xs:MuO,H a=some xs.ho :=
 Own.both (λ_ _ m=>nomatch m) (fun{_ xs _ _} e r a m=>(Xl.mp m).elim (λq=>⟨.lst xs,q▸e⟩) (r a)) (λ_ r=>r) (fun{_ o _ _ _ _} e _ _ a m=>⟨o,XC.mp m▸e⟩) (λ_ m=>nomatch m) (λk r a m=>(QC.mp m).elim (k a) (r a))
theorem Own.some{v:V}{t:OT}{as:List Addr}(h:Own G H L v t as):∀a∈as,∃xs:MuO,H a=some xs.ho:=Own.some2.1 h
theorem Owns.some{v:List V}{t:List OT}{as:List Addr}(h:Owns G H L v t as):∀a∈as,∃xs:MuO,H a=some xs.ho:=Own.some2.2 h
theorem Owns.length{xs:List V}{ts:List OT}{as:List Addr}(h:Owns G H L xs ts as):xs.length=ts.length:=(Own.both (P:=λ_ _ _=>True) (Q:=λxs ts _=>xs.length=ts.length) (λ_=>trivial) (λ_ _=>trivial) (λ_ _=>trivial) (λ_ _ _=>trivial) rfl (λ_ r=>congrArg (·+1) r)).2 h
theorem Das.owns{xs:List V}{ds:List Xa}(h:Das G H L xs ds):Owns G H L xs (ds.map OT.fz) []:=Das.ind (Q:=λxs ds=>Owns G H L xs (ds.map OT.fz) []) .nil (λh _ r=>.cons (.fz h) r) h
end
variable {G:Xb}
noncomputable abbrev Zg:=List (Option OT)
noncomputable abbrev Fp:=Nat->List Addr
set_option genInjectivity false in
structure MC(G:Xb) where
 H₀:Hp
 as₀:Addr->Prop
 L:Addr->Prop
 σ₀:St
noncomputable def Foot(fp:Fp)(a:Addr):Prop:=∃i,a∈fp i
noncomputable def Lf(C:MC G)(fp:Fp)(ex:Addr->Prop)(a:Addr):Prop:=¬Foot fp a∧¬ex a∧(C.L a∨C.H₀ a=none)
structure Rel(C:MC G)(io:List Nat)(H:Hp)(σ:St)(δ:Zg)(fp:Fp)(ex:Addr->Prop):Prop where
 len:σ.length=δ.length
 own:∀(i:Nat) (t:OT),δ[i]? =some (some t)->∃v,σ[i]? =some (some v)∧Own G H (Lf C fp ex) v t (fp i)
 emp:∀i:Nat,(∀t,δ[i]? ≠some (some t))->fp i=[]
 nd:∀i,(fp i).Nodup
 dj:∀i j a,a∈fp i->a∈fp j->i=j
 dx:∀i a,a∈fp i->¬ex a
 xa:∀a,ex a->H a≠none
 fr:∀b o,C.H₀ b=some o->¬C.as₀ b->H b=some o
 al:∀b,H b=none->C.H₀ b=none
 new:∀i a,a∈fp i->(i∈io∧C.as₀ a)∨C.H₀ a=none
 io:∀i∈io,σ[i]? =C.σ₀[i]?
structure Stp(p:Bool)(H:Hp)(δ:Zg)(fp:Fp)(H':Hp)(δ':Zg)(fp':Fp):Prop where
 keep:∀b o,H b=some o->(p=true∨¬Foot fp b)->H' b=some o
 env:p=true->δ'=δ∧fp'=fp
 grow:∀a,Foot fp' a->Foot fp a∨H a=none
 al:∀b,H' b=none->H b=none
section
variable {C:MC G}{io:List Nat}{H H' H'':Hp}{σ:St}{δ δ' δ'':Zg}{fp fp' fp'':Fp}{ex ex':Addr->Prop}{p p' c:Bool}{v:V}{d:Xa}{r:OT}{new:List Addr}
theorem Rel.foot(R:Rel C io H σ δ fp ex){a:Addr}(h:Foot fp a):∃xs:MuO,H a=some xs.ho:=by
 obtain⟨i,h⟩:=h
 by_cases q:∃t,δ[i]? =some (some t)
 ·obtain⟨t,q⟩:=q
  obtain⟨v,_,o⟩:=R.own i t q
  exact o.some a h
 ·rw[R.emp i (λt z=>q ⟨t,z⟩)]at h
  exact nomatch h
theorem Rel.footSome(R:Rel C io H σ δ fp ex){a:Addr}(h:H a=none):¬Foot fp a:=λz=>by
 obtain⟨xs,e⟩:=R.foot z
 rw[h]at e
 cases e
theorem Stp.refl(p:Bool)(H:Hp)(δ:Zg)(fp:Fp):Stp p H δ fp H δ fp:=⟨λ_ _ h _=>h,λ_=>⟨rfl,rfl⟩,λ_ h=>.inl h,λ_ h=>h⟩
theorem Stp.same(h:Same H H')(hn:∀b,H' b=none->H b=none):Stp p H δ fp H' δ fp:=⟨λ_ _ q _=>h _ _ q,λ_=>⟨rfl,rfl⟩,λ_ h=>.inl h,hn⟩
theorem Same.al(h:Same H H'):∀b,H' b=none->H b=none:=λ_ q=>h.free q
theorem Stp.trans(a:Stp p H δ fp H' δ' fp')(b:Stp p' H' δ' fp' H'' δ'' fp''):Stp (p&&p') H δ fp H'' δ'' fp'' where
 keep:=λx o e h=>by
  rcases h with h|h
  ·rw[XN]at h
   exact b.keep x o (a.keep x o e (.inl h.1)) (.inl h.2)
  ·refine b.keep x o (a.keep x o e (.inr h)) (.inr λz=>?_)
   rcases a.grow x z with z|z
   ·exact h z
   ·rw[e]at z;cases z
 env:=λh=>by
  rw[XN]at h
  obtain⟨e1,e2⟩:=a.env h.1
  obtain⟨e3,e4⟩:=b.env h.2
  exact⟨e3.trans e1,e4.trans e2⟩
 grow:=λx h=>by
  rcases b.grow x h with h|h
  ·exact a.grow x h
  ·exact .inr (a.al x h)
 al:=λx h=>a.al x (b.al x h)
theorem Rel.frameL(R:Rel C io H σ δ fp ex)(S:Stp p H δ fp H' δ' fp')(hc:p=true∨c=true)(hx:∀a,ex' a->ex a∨H a=none) :
  (∀ a (xs:MuO),(c=true->Lf C fp ex a)->Rd H a xs.ho->(c=true->Lf C fp' ex' a)∧Rd H' a xs.ho)∧(∀a (xs:ImO),H a=some xs.ho->H' a=some xs.ho):=by
 have nf:∀a,Foot fp a->∃xs:MuO,H a=some xs.ho:=λa h=>R.foot h
 refine⟨λa xs l q=>⟨λhc'=>?_,?_⟩,λa xs q=>S.keep a _ q (.inr λz=>?_)⟩
 ·obtain⟨l1,l2,l3⟩:=l hc'
  refine⟨λz=>?_,λz=>?_,l3⟩
  ·rcases S.grow a z with z|z
   ·exact l1 z
   ·exact q.some z
  ·rcases hx a z with z|z
   ·exact l2 z
   ·exact q.some z
 ·have hk:p=true∨¬Foot fp a:=by
   rcases hc with h|h
   ·exact .inl h
   ·exact .inr (l h).1
  rcases q with q|⟨o,q⟩
  ·exact .inl (S.keep a _ q hk)
  ·exact .inr ⟨o,S.keep a _ q hk⟩
 ·obtain⟨ys,e⟩:=nf a z
  exact ImO.nm q e
theorem Rel.own_step(R:Rel C io H σ δ fp ex)(S:Stp p H δ fp H' δ' fp')(hc:p=true∨c=true)(hx:∀a,ex' a->ex a∨H a=none)(hn:∀a∈new,ex a)
  (x:Own G H (λa=>c=true->Lf C fp ex a) v r new):Own G H' (λa=>c=true->Lf C fp' ex' a) v r new :=
 x.frame (R.frameL S hc hx).1 (R.frameL S hc hx).2 λa m xs e=>S.keep a _ e (.inr λ⟨i,z⟩=>R.dx i a z (hn a m))
theorem Rel.owns_step(R:Rel C io H σ δ fp ex)(S:Stp p H δ fp H' δ' fp')(hc:p=true∨c=true)(hx:∀a,ex' a->ex a∨H a=none)(hn:∀a∈new,ex a){vs:List V}{rs:List OT}
  (x:Owns G H (λa=>c=true->Lf C fp ex a) vs rs new):Owns G H' (λa=>c=true->Lf C fp' ex' a) vs rs new :=
 x.frame (R.frameL S hc hx).1 (R.frameL S hc hx).2 λa m xs e=>S.keep a _ e (.inr λ⟨i,z⟩=>R.dx i a z (hn a m))
theorem Rel.drop(R:Rel C io H σ δ fp ex)(h:∀a,ex' a->ex a):Rel C io H σ δ fp ex' :=
 ⟨R.len,λi t e=>by
  obtain⟨v,e1,o⟩:=R.own i t e
  exact⟨v,e1,o.wide λa l _=>⟨l.1,λz=>l.2.1 (h a z),l.2.2⟩⟩,R.emp,R.nd,R.dj,λi a m z=>R.dx i a m (h a z),λa z=>R.xa a (h a z),R.fr,R.al,R.new,R.io⟩
theorem Rel.made(R:Rel C io H σ δ fp ex)(s:Same H H')(hn:∀a∈new,H a=none∧H' a≠none):Rel C io H' σ δ fp (λa=>ex a∨a∈new) :=
 ⟨R.len,λi t e=>by
  obtain⟨v,e1,o⟩:=R.own i t e
  refine⟨v,e1,(o.wide λa l q=>⟨l.1,λz=>?_,l.2.2⟩).same s⟩
  rcases z with z|z
  ·exact l.2.1 z
  ·exact q (hn a z).1,R.emp,R.nd,R.dj,λi a m z=>by
   rcases z with z|z
   ·exact R.dx i a m z
   ·exact R.footSome (hn a z).1 ⟨i,m⟩,λa z=>by
   rcases z with z|z
   ·intro q;exact R.xa a z (s.free q)
   ·exact(hn a z).2,λb o e n=>s _ _ (R.fr b o e n),λb q=>R.al b (s.free q),R.new,R.io⟩
end
noncomputable abbrev MEt:=Zg->(OT->Zg->Prop)->Prop
noncomputable abbrev MAt:=Zg->(List OT->Zg->Prop)->Prop
noncomputable abbrev MTt:=Zg->(Bool->Zg->Prop)->Prop
noncomputable abbrev exu(ex:Addr->Prop)(new:List Addr):Addr->Prop:=λa=>ex a∨a∈new
structure RE(C:MC G)(io:List Nat)(p c:Bool)(H:Hp)(σ:St)(δ:Zg)(fp:Fp)(ex:Addr->Prop)(H':Hp)(v:V)(r:OT)(δ':Zg)(fp':Fp)(new:List Addr):Prop where
 rel:Rel C io H' σ δ' fp' (exu ex new)
 stp:Stp p H δ fp H' δ' fp'
 own:Own G H' (λa=>c=true->Lf C fp' (exu ex new) a) v r new
 nd:new.Nodup
 fresh:∀a∈new,H a=none
structure RA(C:MC G)(io:List Nat)(p c:Bool)(H:Hp)(σ:St)(δ:Zg)(fp:Fp)(ex:Addr->Prop)(H':Hp)(v:List V)(r:List OT)(δ':Zg)(fp':Fp)(new:List Addr):Prop where
 rel:Rel C io H' σ δ' fp' (exu ex new)
 stp:Stp p H δ fp H' δ' fp'
 own:Owns G H' (λa=>c=true->Lf C fp' (exu ex new) a) v r new
 nd:new.Nodup
 fresh:∀a∈new,H a=none
noncomputable def SE(G:Xb)(io:List Nat)(p c:Bool)(t:TE)(m:MEt):Prop:=∀(C:MC G) (H:Hp) (σ:St) (δ:Zg) (fp:Fp) (ex:Addr->Prop) (K:OT->Zg->Prop) (Q:VK),Rel C io H σ δ fp ex->m δ K ->
 (∀ H' v r δ' fp' new,RE C io p c H σ δ fp ex H' v r δ' fp' new->K r δ'->Q v H')->t σ H Q
noncomputable def SA(G:Xb)(io:List Nat)(p c:Bool)(t:TA)(m:MAt):Prop:=∀(C:MC G) (H:Hp) (σ:St) (δ:Zg) (fp:Fp) (ex:Addr->Prop) (K:List OT->Zg->Prop) (Q:List V->Hp->Prop),Rel C io H σ δ fp ex->m δ K ->
 (∀ H' v r δ' fp' new,RA C io p c H σ δ fp ex H' v r δ' fp' new->K r δ'->Q v H')->t σ H Q
noncomputable def STt(G:Xb)(io:List Nat)(p:Bool)(t:TT)(m:MTt):Prop:=∀(C:MC G) (H:Hp) (σ:St) (δ:Zg) (fp:Fp) (ex:Addr->Prop) (K:Bool->Zg->Prop) (Q:Bool->Hp->Prop),Rel C io H σ δ fp ex->m δ K ->
 (∀ H' b δ' fp',Rel C io H' σ δ' fp' ex->Stp p H δ fp H' δ' fp'->K b δ'->Q b H')->t σ H Q
noncomputable def ME(X:Cx)(io:List Nat)(p c:Bool)(e:Expr)(m:MEt):Prop:=∃t,PE X e t∧SE X.K io p c t m
noncomputable def MA(X:Cx)(io:List Nat)(p c:Bool)(e:List Expr)(m:MAt):Prop:=∃t,PA X e t∧SA X.K io p c t m
noncomputable def MT(X:Cx)(io:List Nat)(p:Bool)(e:Expr)(m:MTt):Prop:=∃t,PT X e t∧STt X.K io p t m
noncomputable def MW(X:Cx)(io:List Nat)(p:Bool)(e:Expr)(m:MTt):Prop:=∃t,PW X e t∧STt X.K io p t m
section
variable {C:MC G}{io:List Nat}{H H' H'':Hp}{σ:St}{δ δ' δ'':Zg}{fp fp' fp'':Fp}{ex ex':Addr->Prop}{p p' c:Bool}{v:V}{d:Xa}{r:OT}{vs:List V}{rs:List OT}{new:List Addr}
theorem Rel.newOk(R:Rel C io H σ δ fp ex){a:Addr}(h:H a=none):¬Foot fp a∧¬ex a∧C.H₀ a=none:=⟨R.footSome h,λz=>R.xa a z h,R.al a h⟩
theorem RE.da(R:RE C io p c H σ δ fp ex H' v r δ' fp' new)(R0:Rel C io H σ δ fp ex):Da G H' (λa=>c=true->Lf C fp' ex a) v r.data:=by
 refine R.own.da (λa l _ h=>?_) (λa m _=>?_)
 ·exact⟨(l h).1,λz=>(l h).2.1 (.inl z),(l h).2.2⟩
 ·refine⟨λqz9=>?_,(R0.newOk (R.fresh a m)).2.1,.inr (R0.newOk (R.fresh a m)).2.2⟩
  obtain⟨i,z⟩:=qz9
  exact R.rel.dx i a z (.inr m)
theorem RA.das(R:RA C io p c H σ δ fp ex H' vs rs δ' fp' new)(R0:Rel C io H σ δ fp ex):Das G H' (λa=>c=true->Lf C fp' ex a) vs (OT.datas rs):=by
 refine R.own.das (λa l _ h=>?_) (λa m _=>?_)
 ·exact⟨(l h).1,λz=>(l h).2.1 (.inl z),(l h).2.2⟩
 ·refine⟨λqz9=>?_,(R0.newOk (R.fresh a m)).2.1,.inr (R0.newOk (R.fresh a m)).2.2⟩
  obtain⟨i,z⟩:=qz9
  exact R.rel.dx i a z (.inr m)
theorem RE.base(R:RE C io p c H σ δ fp ex H' v r δ' fp' new):Rel C io H' σ δ' fp' ex:=R.rel.drop λa z=>.inl z
theorem RA.base(R:RA C io p c H σ δ fp ex H' vs rs δ' fp' new):Rel C io H' σ δ' fp' ex:=R.rel.drop λa z=>.inl z
theorem Zbv{a:Addr}:exu ex [] a↔ex a:=by simp[exu]
theorem RE.fz(R:Rel C io H' σ δ' fp' ex)(S:Stp p H δ fp H' δ' fp')(h:Da G H' (λa=>c=true->Lf C fp' ex a) v d):RE C io p c H σ δ fp ex H' v (.fz d) δ' fp' [] :=
 ⟨R.drop λa z=>Zbv.mp z,S,.fz (h.wide λa l _ hc=>⟨(l hc).1,λz=>(l hc).2.1 (Zbv.mp z),(l hc).2.2⟩),.nil,λa m=>nomatch m⟩
theorem RE.tree{H1:Hp}(R0:Rel C io H σ δ fp ex)(R:Rel C io H1 σ δ' fp' ex)(S:Stp p H δ fp H1 δ' fp')(s:Same H1 H')(hn:∀a∈new,H1 a=none)(nd:new.Nodup)
  (o:Own G H' (λa=>((c=true->Lf C fp' ex a)∨H1 a=none)∧a∉new) v r new):RE C io p c H σ δ fp ex H' v r δ' fp' new:=by
 refine⟨R.made s λa m=>⟨hn a m,λz=>?_⟩,?_,o.wide λa l q hc=>?_,nd,λa m=>S.al a (hn a m)⟩
 ·obtain⟨xs,e⟩:=o.some a m
  rw[z]at e;cases e
 ·have:=S.trans (p':=true) (Stp.same (p:=true) (δ:=δ') (fp:=fp') s s.al)
  rwa[VH]at this
 ·rcases l.1 with l1|l1
  ·exact⟨(l1 hc).1,λz=>z.elim (l1 hc).2.1 l.2,(l1 hc).2.2⟩
  ·exact⟨R.footSome l1,λz=>z.elim (λz=>R.xa a z l1) l.2,.inr (R.al a l1)⟩
end
inductive ScD:V->Xa->Prop where
 | non:ScD .non .none
 | bl (b:Bool):ScD (.bl b) (.bool b)
 | int (i:Int):ScD (.int i) (.int i)
 | str (x:Str):ScD (.str x) (.str x)
theorem ScD.da{H:Hp}{L:Addr->Prop}{v:V}{d:Xa}(h:ScD v d):Da G H L v d:=by
 cases h
 ·exact .non
 ·exact .bl _
 ·exact .int _
 ·exact .str _
section
variable {X:Cx}{io:List Nat}{p p' c c':Bool}{e a b:Expr}{m ma mb:MEt}{es:List Expr}
noncomputable def Z8p(i:Nat):MEt:=λδ K=>match δ[i]? with|some (some (.fz d))=>K (.fz d) δ|_=>False
noncomputable def Z8i(i:Nat):MEt:=λδ K=>match δ[i]? with|some (some t)=>K (.fz t.data) δ|_=>False
noncomputable def mC(d:Xa):MEt:=λδ K=>K (.fz d) δ
theorem mv(i:Nat){x:Str}{pos:Pos}(hN:X.N[i]? =some x:=by rfl)(hv:Vis X.env.scope x:=by first|exact Qo rfl|exact Qg (Qo rfl)|exact Qg (Qg rfl))(hd:(x==("__debug__" : Str))=false:=by decide)
  (hcd:(x==("__classdict__" : Str))=false:=by decide):ME X io true true (.Name x pos) (Z8p i):=by
 refine⟨_,pv i hN hv hd hcd,λC H σ δ fp ex K Q R h k=>?_⟩
 unfold Z8p at h
 split at h
 ·rename_i d hd
  obtain⟨v,e,o⟩:=R.own i _ hd
  refine⟨v,e,k H v _ δ fp [] (.fz R (.refl _ _ _ _) ?_) h⟩
  generalize fp i=as at o
  cases o with
  | fz q=>exact q.wide λa l _ _=>l
 ·exact h.elim
theorem mo(i:Nat){x:Str}{pos:Pos}(hN:X.N[i]? =some x:=by rfl)(hv:Vis X.env.scope x:=by first|exact Qo rfl|exact Qg (Qo rfl)|exact Qg (Qg rfl))(hd:(x==("__debug__" : Str))=false:=by decide)
  (hcd:(x==("__classdict__" : Str))=false:=by decide):ME X io true false (.Name x pos) (Z8i i):=by
 refine⟨_,pv i hN hv hd hcd,λC H σ δ fp ex K Q R h k=>?_⟩
 unfold Z8i at h
 split at h
 ·rename_i d hd
  obtain⟨v,e,o⟩:=R.own i _ hd
  exact⟨v,e,k H v _ δ fp [] (.fz R (.refl _ _ _ _) (o.da (λa _ _ z=>(nomatch z)) λa _ z=>(nomatch z))) h⟩
 ·exact h.elim
theorem Zjs{t:V}{d:Xa}(h:PE X e (tC t))(s:ScD t d):ME X io true true e (mC d) :=
 ⟨_,h,λC H σ δ fp ex K Q R h k=>k H t _ δ fp [] (.fz R (.refl _ _ _ _) s.da) h⟩
theorem Z6o{i j pos}:ME X io true true (.Constant (.int i) j pos) (mC (.int i)):=Zjs Z2p (.int i)
theorem Zsp{b j pos}:ME X io true true (.Constant (.bool b) j pos) (mC (.bool b)):=Zjs Ya1 (.bl b)
theorem Zid{j pos}:ME X io true true (.Constant .none j pos) (mC .none):=Zjs Z6y .non
theorem Zht{x j pos}:ME X io true true (.Constant (.str x) j pos) (mC (.str x)):=Zjs Z7a (.str x)
theorem SE.two{ta tb:TE}(ha:SE G io p c ta ma)(hb:SE G io p' c' tb mb)(hc:p'=true∨c=true){C:MC G}{H:Hp}{σ:St}{δ:Zg}{fp:Fp}{ex:Addr->Prop}{K:OT->OT->Zg->Prop}{Q:V->V->Hp->Prop}
  (R:Rel C io H σ δ fp ex) (h:ma δ λx δ1=>mb δ1 λy δ2=>K x y δ2)
  (k:∀H' x y u v δ' fp',Rel C io H' σ δ' fp' ex->Stp (p&&p') H δ fp H' δ' fp'->Da G H' (λa=>(c&&c')=true->Lf C fp' ex a) x u.data->Da G H' (λa=>(c&&c')=true->Lf C fp' ex a) y v.data->K u v δ'->Q x y H') :
  ta σ H λx H1=>tb σ H1 λy H2=>Q x y H2:=by
 refine ha C H σ δ fp ex _ _ R h λH1 x u δ1 fp1 new1 r1 h1=>?_
 refine hb C H1 σ δ1 fp1 (exu ex new1) _ _ r1.rel h1 λH2 y v δ2 fp2 new2 r2 h2=>?_
 have o1:=r1.rel.own_step (ex':=exu (exu ex new1) new2) r2.stp (c:=c) hc (λa z=>z.imp id λz=>r2.fresh a z) (λa m=>.inr m) r1.own
 have R2:Rel C io H2 σ δ2 fp2 ex:=r2.rel.drop λa z=>.inl (.inl z)
 have q1:Da G H2 (λa=>c=true->Lf C fp2 ex a) x u.data:=by
  refine o1.da (λa l _ z=>?_) (λa m z=>?_)
  ·exact⟨(l z).1,λw=>(l z).2.1 (.inl (.inl w)),(l z).2.2⟩
  ·have:=R.newOk (r1.fresh a m)
   refine⟨λqz9=>?_,this.2.1,.inr this.2.2⟩
   obtain⟨i,w⟩:=qz9
   exact r2.rel.dx i a w (.inl (.inr m))
 have q2:=r2.da r1.rel
 refine k H2 x y u v δ2 fp2 R2 (r1.stp.trans r2.stp) (q1.wide λa l _ z=>l (by rw[XN]at z;exact z.1)) (q2.wide λa l _ z=>?_) h2
 have l:=l (by rw[XN]at z;exact z.2)
 exact⟨l.1,λw=>l.2.1 (.inl w),l.2.2⟩
noncomputable def P2s(G:Xb)(r:R2)(rp:Xa->Xa->(Xa->Prop)->Prop):Prop:=∀(H:Hp) (L:Addr->Prop) (x y:V) (d e:Xa) (k:Xa->Prop) (Q:VK),Da G H L x d->Da G H L y e->rp d e k->(∀v d',ScD v d'->k d'->Q v H)->r x y H Q
noncomputable def P2(G:Xb)(r:R2)(rp:Xa->Xa->(OT->Prop)->Prop):Prop:=∀(H:Hp) (L:Addr->Prop) (x y:V) (d e:Xa) (k:OT->Prop) (Q:VK),Da G H L x d->Da G H L y e->rp d e k ->
 (∀ H' v o new,Same H H'->Own G H' (λa=>(L a∨H a=none)∧a∉new) v o new->new.Nodup->(∀a∈new,H a=none)->k o->Q v H')->r x y H Q
noncomputable def Zmu(rp:Xa->Xa->(Xa->Prop)->Prop)(ma mb:MEt):MEt:=λδ K=>ma δ λx δ1=>mb δ1 λy δ2=>rp x.data y.data λd=>K (.fz d) δ2
noncomputable def Z7z(rp:Xa->Xa->(OT->Prop)->Prop)(ma mb:MEt):MEt:=λδ K=>ma δ λx δ1=>mb δ1 λy δ2=>rp x.data y.data λd=>K d δ2
theorem Z0x{r:R2}{rp}{ta tb:TE}(P:P2s G r rp)(ha:SE G io p c ta ma)(hb:SE G io p' c' tb mb)(hc:p'=true∨c=true):SE G io (p&&p') true (tOp r ta tb) (Zmu rp ma mb):=by
 intro C H σ δ fp ex K Q R h k
 refine SE.two (K:=λx y δ2=>rp x.data y.data λd=>K (.fz d) δ2) (Q:=λx y H2=>r x y H2 Q) ha hb hc R h λH' x y u v δ' fp' R' S q1 q2 h'=>?_
 exact P H' _ x y _ _ _ _ q1 q2 h' λw d' sc h''=>k H' w _ δ' fp' [] (.fz R' S sc.da) h''
theorem Ycz{r:R2}{rp}{ta tb:TE}(P:P2 G r rp)(ha:SE G io p c ta ma)(hb:SE G io p' c' tb mb)(hc:p'=true∨c=true):SE G io (p&&p') (c&&c') (tOp r ta tb) (Z7z rp ma mb):=by
 intro C H σ δ fp ex K Q R h k
 refine SE.two (K:=λx y δ2=>rp x.data y.data λd=>K d δ2) (Q:=λx y H2=>r x y H2 Q) ha hb hc R h λH' x y u v δ' fp' R' S q1 q2 h'=>?_
 exact P H' _ x y _ _ _ _ q1 q2 h' λH2 w o new s ow nd hn h''=>k H2 w o δ' fp' new (RE.tree R R' S s hn nd ow) h''
theorem Zh0{op:Operator}{r:R2}{rp}{pos:Pos}(ho:OpR X (BV op) r)(P:P2s X.K r rp)(ha:ME X io p c a ma)(hb:ME X io p' c' b mb)(hc:p'=true∨c=true:=by first|exact Qo rfl|exact Qg rfl):ME X io (p&&p') true (.BinOp a op b pos) (Zmu rp ma mb):=by
 obtain⟨_,A,sa⟩:=ha
 obtain⟨_,B,sb⟩:=hb
 exact⟨_,Zz9 ho A B,Z0x P sa sb hc⟩
theorem Z71{op:Operator}{r:R2}{rp}{pos:Pos}(ho:OpR X (BV op) r)(P:P2 X.K r rp)(ha:ME X io p c a ma)(hb:ME X io p' c' b mb)(hc:p'=true∨c=true:=by first|exact Qo rfl|exact Qg rfl):ME X io (p&&p') (c&&c') (.BinOp a op b pos) (Z7z rp ma mb):=by
 obtain⟨_,A,sa⟩:=ha
 obtain⟨_,B,sb⟩:=hb
 exact⟨_,Zz9 ho A B,Ycz P sa sb hc⟩
theorem Zs6{op:CmpOp}{r:R2}{rp}{pos:Pos}(ho:OpR X (Bg op) r)(P:P2s X.K r rp)(ha:ME X io p c a ma)(hb:ME X io p' c' b mb)(hc:p'=true∨c=true:=by first|exact Qo rfl|exact Qg rfl)(hm:V2 op b=false):ME X io (p&&p') true (.Compare a [op] [b] pos) (Zmu rp ma mb):=by
 obtain⟨_,A,sa⟩:=ha
 obtain⟨_,B,sb⟩:=hb
 exact⟨_,Zz2 ho A B hm,Z0x P sa sb hc⟩
theorem Yd6{r:R2}{rp}{pos:Pos}(ho:IxR X r)(P:P2 X.K r rp)(ha:ME X io p c a ma)(hb:ME X io p' c' b mb)(hc:p'=true∨c=true:=by first|exact Qo rfl|exact Qg rfl)(hs:Zj9 b):ME X io (p&&p') (c&&c') (.Subscript a b pos) (Z7z rp ma mb):=by
 obtain⟨_,A,sa⟩:=ha
 obtain⟨_,B,sb⟩:=hb
 exact⟨_,Z6t ho A B hs,Ycz P sa sb hc⟩
noncomputable def kB(K:Bool->Zg->Prop):OT->Zg->Prop:=λo δ=>match o with| .fz (.bool b)=>K b δ|_=>False
theorem Z8z{t:TE}(h:SE G io p c t m):STt G io p (Z2v t) (λδ K=>m δ (kB K)):=by
 intro C H σ δ fp ex K Q R h' k
 refine h C H σ δ fp ex _ _ R h' λH' v r δ' fp' new r1 h1=>?_
 cases r with
 | nd ts=>exact h1.elim
 | tp ts=>exact h1.elim
 | dc _ _ _=>exact h1.elim
 | fz d=>
  cases d with
  | bool b=>
   cases r1.own with
   | fz q=>
    cases q
    exact⟨b,rfl,k H' b δ' fp' r1.base r1.stp h1⟩
  | _=>exact h1.elim
theorem Zc5{op:CmpOp}{r:R2}{rp}{pos:Pos}(ho:OpR X (Bg op) r)(P:P2s X.K r rp)(ha:ME X io p c a ma)(hb:ME X io p' c' b mb)(hc:p'=true∨c=true:=by first|exact Qo rfl|exact Qg rfl)(hm:V2 op b=false) :
  MT X io (p&&p') (.Compare a [op] [b] pos) (λδ K=>Zmu rp ma mb δ (kB K)):=by
 obtain⟨_,A,sa⟩:=ha
 obtain⟨_,B,sb⟩:=hb
 exact⟨_,Z0w ho A B hm,Z8z (Z0x P sa sb hc)⟩
end
variable {G:Xb}
section
variable {X:Cx}{io:List Nat}{p p' p'' c c':Bool}{e a b:Expr}{m ma mb:MEt}{es rest:List Expr}{ta tb:MTt}{pos:Pos}
noncomputable def Yc5(t:MTt):MTt:=λδ K=>t δ λb δ'=>K (!b) δ'
noncomputable def Ybt(t u:MTt):MTt:=λδ K=>t δ λb δ'=>if b=true then u δ' K else K false δ'
noncomputable def mOr(t u:MTt):MTt:=λδ K=>t δ λb δ'=>if b=true then K true δ' else u δ' K
theorem Z6h(h:MT X io p a ta):MT X io p (.UnaryOp .Not a pos) (Yc5 ta):=by
 obtain⟨_,A,sa⟩:=h
 exact⟨_,Z3l A,λC H σ δ fp ex K Q R h k=>sa C H σ δ fp ex _ _ R h λH' b δ' fp' R' S h'=>k H' (!b) δ' fp' R' S h'⟩
theorem Ztn(h:MT X io p a ta):MW X io p (.BoolOp .And [a] pos) ta:=by
 obtain⟨_,A,sa⟩:=h
 exact⟨_,Zzs A,sa⟩
theorem Zo6(h:MT X io p a ta):MW X io p (.BoolOp .Or [a] pos) ta:=by
 obtain⟨_,A,sa⟩:=h
 exact⟨_,Z4c A,sa⟩
theorem Stp.andL{H H':Hp}{δ δ':Zg}{fp fp':Fp}(S:Stp p H δ fp H' δ' fp'):Stp (p&&p') H δ fp H' δ' fp':=by
 have:=S.trans (Stp.refl p' H' δ' fp')
 exact this
theorem Zx5(h:MT X io p a ta)(g:MW X io p' (.BoolOp .And (b :: rest) pos) tb):MW X io (p&&p') (.BoolOp .And (a :: b :: rest) pos) (Ybt ta tb):=by
 obtain⟨_,A,sa⟩:=h
 obtain⟨_,B,sb⟩:=g
 exact⟨_,Z2t A B,λC H σ δ fp ex K Q R h k=>sa C H σ δ fp ex _ _ R h λH' b δ' fp' R' S h'=>by
  cases b with
  | true=>
   rw[if_pos rfl]at h'⊢
   exact sb C H' σ δ' fp' ex _ _ R' h' λH2 b2 δ2 fp2 R2 S2 h2=>k H2 b2 δ2 fp2 R2 (S.trans S2) h2
  | false=>
   rw[if_neg Xx]at h'⊢
   exact k H' false δ' fp' R' S.andL h'⟩
theorem Zm6(h:MT X io p a ta)(g:MW X io p' (.BoolOp .Or (b :: rest) pos) tb):MW X io (p&&p') (.BoolOp .Or (a :: b :: rest) pos) (mOr ta tb):=by
 obtain⟨_,A,sa⟩:=h
 obtain⟨_,B,sb⟩:=g
 exact⟨_,Z87 A B,λC H σ δ fp ex K Q R h k=>sa C H σ δ fp ex _ _ R h λH' b δ' fp' R' S h'=>by
  cases b with
  | true=>
   rw[if_pos rfl]at h'⊢
   exact k H' true δ' fp' R' S.andL h'
  | false=>
   rw[if_neg Xx]at h'⊢
   exact sb C H' σ δ' fp' ex _ _ R' h' λH2 b2 δ2 fp2 R2 S2 h2=>k H2 b2 δ2 fp2 R2 (S.trans S2) h2⟩
theorem MW.mt(h:MW X io p e ta):MT X io p e ta:=by
 obtain⟨_,A,sa⟩:=h
 exact⟨_,A.pt,sa⟩
noncomputable def Zvl:Xa->Option Bool
 | .none=>some false
 | .bool b=>some b
 | .int i=>some (i !=0)
 | .list ds=>some (!ds.isEmpty)
 | .tuple ds=>some (!ds.isEmpty)
 | _=>none
noncomputable def Yc1(m:MEt):MTt:=λδ K=>m δ λr δ'=>match Zvl r.data with|some b=>K b δ'|none=>False
theorem Das.isEmpty{H:Hp}{L:Addr->Prop}{xs:List V}{ds:List Xa}(h:Das G H L xs ds):xs.isEmpty=ds.isEmpty:=by cases h<;>rfl
theorem Zge(ha:ME X io p c a ma)(he:∀whole,isTrue a X.env whole=(do let v←whole;standAt a.pos;holding [v] (truthy v))):MT X io p a (Yc1 ma):=by
 obtain⟨_,A,sa⟩:=ha
 exact⟨_,Zy1 rfl A he,λC H σ δ fp ex K' Q R h k=>sa C H σ δ fp ex _ _ R h λH' v r δ' fp' new r1 h1=>by
  have q:=r1.da R
  generalize r.data=d at q h1
  cases q with
  | non=>exact⟨_,rfl,k H' _ δ' fp' r1.base r1.stp h1⟩
  | bl b=>exact⟨_,rfl,k H' _ δ' fp' r1.base r1.stp h1⟩
  | int b=>exact⟨_,rfl,k H' _ δ' fp' r1.base r1.stp h1⟩
  | str x=>exact h1.elim
  | lst _ e q=>exact⟨_,.inl ⟨_,.inl e,rfl⟩,k H' _ δ' fp' r1.base r1.stp (by rw[q.isEmpty];exact h1)⟩
  | tup e q=>exact⟨_,.inr (.inl ⟨_,.inl (.inl e),rfl⟩),k H' _ δ' fp' r1.base r1.stp (by rw[q.isEmpty];exact h1)⟩
  | scr q=>exact⟨_,.inl ⟨_,q.sq,rfl⟩,k H' _ δ' fp' r1.base r1.stp (by simpa [Zvl]using h1)⟩
  | exc _ _ _=>exact h1.elim
  | fn _=>exact h1.elim
  | dic _ _ _ _=>exact h1.elim⟩
noncomputable def asB(d:Xa)(k:Bool->Prop):Prop:=match d with| .bool b=>k b|_=>False
noncomputable def Z34(a b:MEt):MEt:=λδ K=>a δ λx δ1=>asB x.data λc=>if c=true then b δ1 K else K (.fz (.bool false)) δ1
noncomputable def Z7p(a:MEt):MEt:=λδ K=>a δ λx δ1=>asB x.data λc=>K (.fz (.bool (!c))) δ1
noncomputable def mIf(t:MTt)(a b:MEt):MEt:=λδ K=>t δ λc δ1=>if c=true then a δ1 K else b δ1 K
theorem Da.boolInv{H:Hp}{L:Addr->Prop}{v:V}{d:Xa}{k:Bool->Prop}(q:Da G H L v d)(h:asB d k):∃b,v= .bl b∧k b:=by
 cases q with
 | bl b=>exact⟨b,rfl,h⟩
 | _=>exact h.elim
theorem RE.step{C:MC G}{H H1 H2:Hp}{σ:St}{δ δ1 δ2:Zg}{fp fp1 fp2:Fp}{ex:Addr->Prop}{v:V}{r:OT}{new:List Addr}(S:Stp p H δ fp H1 δ1 fp1)(R:RE C io p' c H1 σ δ1 fp1 ex H2 v r δ2 fp2 new) :
  RE C io (p&&p') c H σ δ fp ex H2 v r δ2 fp2 new:=⟨R.rel,S.trans R.stp,R.own,R.nd,λa m=>S.al a (R.fresh a m)⟩
theorem Z0z{op}(h:ME X io p c a ma):ME X io p c (.BoolOp op [a] pos) ma:=by
 obtain⟨_,A,sa⟩:=h
 exact⟨_,Z4n A,sa⟩
theorem Z18(ha:ME X io p c a ma)(hb:ME X io p' c' (.BoolOp .And (b :: rest) pos) mb):ME X io (p&&p') c' (.BoolOp .And (a :: b :: rest) pos) (Z34 ma mb):=by
 obtain⟨_,A,sa⟩:=ha
 obtain⟨_,B,sb⟩:=hb
 exact⟨_,Z39 A B,λC H σ δ fp ex K Q R h k=>sa C H σ δ fp ex _ _ R h λH' v r δ' fp' new r1 h1=>by
  obtain⟨b,rfl,h1⟩:=(r1.da R).boolInv h1
  refine⟨b,rfl,?_⟩
  cases b with
  | true=>
   rw[if_pos rfl]at h1⊢
   exact sb C H' σ δ' fp' ex _ _ r1.base h1 λH2 w r2 δ2 fp2 new2 R2 h2=>k H2 w r2 δ2 fp2 new2 (R2.step r1.stp) h2
  | false=>
   rw[if_neg Xx]at h1⊢
   exact k H' _ _ δ' fp' [] (RE.fz r1.base r1.stp.andL (.bl false)) h1⟩
theorem Ybl(ha:ME X io p c a ma):ME X io p true (.UnaryOp .Not a pos) (Z7p ma):=by
 obtain⟨_,A,sa⟩:=ha
 exact⟨_,Z3t A,λC H σ δ fp ex K Q R h k=>sa C H σ δ fp ex _ _ R h λH' v r δ' fp' new r1 h1=>by
  obtain⟨b,rfl,h1⟩:=(r1.da R).boolInv h1
  exact⟨b,rfl,k H' _ _ δ' fp' [] (RE.fz r1.base r1.stp (.bl _)) h1⟩⟩
theorem Stp.cast{p p':Bool}{H H':Hp}{δ δ':Zg}{fp fp':Fp}(h:p'=true->p=true)(S:Stp p H δ fp H' δ' fp'):Stp p' H δ fp H' δ' fp' :=
 ⟨λb o e q=>S.keep b o e (q.imp h id),λq=>S.env (h q),S.grow,S.al⟩
theorem RE.cast{C:MC G}{H H1:Hp}{σ:St}{δ δ1:Zg}{fp fp1:Fp}{ex:Addr->Prop}{v:V}{r:OT}{new:List Addr}(hp:p'=true->p=true)(hc:c'=true->c=true)(R:RE C io p c H σ δ fp ex H1 v r δ1 fp1 new) :
  RE C io p' c' H σ δ fp ex H1 v r δ1 fp1 new:=⟨R.rel,R.stp.cast hp,R.own.wide λa l _ z=>l (hc z),R.nd,R.fresh⟩
theorem Yfd{t:Expr}(ht:MT X io p t ta)(ha:ME X io p' c a ma)(hb:ME X io p'' c' b mb):ME X io (p&&(p'&&p'')) (c&&c') (.IfExp t a b pos) (mIf ta ma mb):=by
 obtain⟨_,T,st⟩:=ht
 obtain⟨_,A,sa⟩:=ha
 obtain⟨_,B,sb⟩:=hb
 exact⟨_,Zvr T A B,λC H σ δ fp ex K Q R h k=>st C H σ δ fp ex _ _ R h λH' b δ' fp' R' S h'=>by
  cases b with
  | true=>
   rw[if_pos rfl]at h'⊢
   exact sa C H' σ δ' fp' ex _ _ R' h' λH2 w r2 δ2 fp2 new2 R2 h2=>k H2 w r2 δ2 fp2 new2 ((R2.step S).cast (λz=>by simp at z;simp[z]) (λz=>by simp at z;exact z.1)) h2
  | false=>
   rw[if_neg Xx]at h'⊢
   exact sb C H' σ δ' fp' ex _ _ R' h' λH2 w r2 δ2 fp2 new2 R2 h2=>k H2 w r2 δ2 fp2 new2 ((R2.step S).cast (λz=>by simp at z;simp[z]) (λz=>by simp at z;exact z.2)) h2⟩
end
section
variable {X:Cx}{io:List Nat}{p p' p'' c c':Bool}{e a b:Expr}{m ma mb:MEt}{es rest:List Expr}{mr:MAt}{pos:Pos}
noncomputable def Ydq:MAt:=λδ K=>K [] δ
noncomputable def Z6a(m:MEt)(mr:MAt):MAt:=λδ K=>m δ λr δ1=>mr δ1 λrs δ2=>K (r :: rs) δ2
theorem Z33:MA X io true true [] Ydq:=⟨_,Zgo,λC H σ δ fp ex K Q R h k=>k H [] [] δ fp [] ⟨R.drop λa z=>Zbv.mp z,.refl _ _ _ _,.nil,.nil,λa m=>nomatch m⟩ h⟩
theorem Z1r(ha:ME X io p c e m)(hr:MA X io p' c' es mr)(hc:p'=true∨c=true)(hs:Xh (e :: es) X.env=(false,eval e X.env) :: Xh es X.env:=by rfl):MA X io (p&&p') (c&&c') (e :: es) (Z6a m mr):=by
 obtain⟨tA,A,sa⟩:=ha
 obtain⟨tB,B,sb⟩:=hr
 refine⟨_,Y5 A B hs,λC H σ δ fp ex K Q R h k=>?_⟩
 refine sa C H σ δ fp ex _ _ R h λH1 x u δ1 fp1 new1 r1 h1=>?_
 refine sb C H1 σ δ1 fp1 (exu ex new1) _ _ r1.rel h1 λH2 ys us δ2 fp2 new2 r2 h2=>?_
 have o1:=r1.rel.own_step (ex':=exu (exu ex new1) new2) r2.stp (c:=c) hc (λa z=>z.imp id λz=>r2.fresh a z) (λa m=>.inr m) r1.own
 have eqx:∀a,exu ex (new1 ++ new2) a->exu (exu ex new1) new2 a:=λa z=>by
  rcases z with z|z
  ·exact .inl (.inl z)
  ·rcases QC.mp z with z|z
   ·exact .inl (.inr z)
   ·exact .inr z
 refine k H2 (x :: ys) (u :: us) δ2 fp2 (new1 ++ new2) ⟨r2.rel.drop eqx,r1.stp.trans r2.stp,.cons (o1.wide λa l _ z=>?_) (r2.own.wide λa l _ z=>?_),?_,?_⟩ h2
 ·have l:=l (by rw[XN]at z;exact z.1)
  exact⟨l.1,λw=>l.2.1 (eqx a w),l.2.2⟩
 ·have l:=l (by rw[XN]at z;exact z.2)
  exact⟨l.1,λw=>l.2.1 (eqx a w),l.2.2⟩
 ·refine QQ.mpr ⟨r1.nd,r2.nd,λa m b m' z=>?_⟩
  subst z
  obtain⟨xs,e⟩:=r1.own.some a m
  rw[r2.fresh a m']at e
  cases e
 ·intro a m
  rcases QC.mp m with m|m
  ·exact r1.fresh a m
  ·exact r1.stp.al a (r2.fresh a m)
noncomputable def Ydd(m:MAt):MEt:=λδ K=>m δ λrs δ'=>rs.length≤Xq∧K (.fz (.tuple (OT.datas rs))) δ'
noncomputable def Ycu(m:MAt):MEt:=λδ K=>m δ λrs δ'=>rs.length≤Xq∧K (.nd rs) δ'
theorem Z9k{x1}(h:MA X io p c es mr):ME X io p c (.Tuple es x1 pos) (Ydd mr):=by
 obtain⟨tA,A,sa⟩:=h
 refine⟨_,Zxa A,λC H σ δ fp ex K Q R h k=>?_⟩
 refine sa C H σ δ fp ex _ _ R h λH1 vs rs δ1 fp1 new1 r1 h1=>⟨by rw[r1.own.length];exact h1.1,λq hq=>?_⟩
 have s:=Ys hq (.tup vs)
 have R1:=r1.base
 have S:=r1.stp.trans (p':=true) (Stp.same (p:=true) (δ:=δ1) (fp:=fp1) s s.al)
 rw[VH]at S
 refine k _ _ _ δ1 fp1 [] (.fz ?_ S (.tup Z1 ((r1.das R).same s))) h1.2
 exact(R1.made (new:=[]) s λa m=>nomatch m).drop λa z=>.inl z
theorem Z98(h:MA X io p c es mr):ME X io p c (.List es pos) (Ycu mr):=by
 obtain⟨tA,A,sa⟩:=h
 refine⟨_,Zx2 A,λC H σ δ fp ex K Q R h k=>?_⟩
 refine sa C H σ δ fp ex _ _ R h λH1 vs rs δ1 fp1 new1 r1 h1=>⟨by rw[r1.own.length];exact h1.1,λq hq=>?_⟩
 have s:=Ys hq (.lst vs)
 have S:=r1.stp.trans (p':=true) (Stp.same (p:=true) (δ:=δ1) (fp:=fp1) s s.al)
 rw[VH]at S
 have hqn:q∉new1:=λm=>by
  obtain⟨xs,e⟩:=r1.own.some q m
  rw[hq]at e;cases e
 have R2:=(r1.rel.made (new:=[q]) s λa m=>by
  rcases XC.mp m with rfl
  exact⟨hq,by rw[Z1];intro z;cases z⟩)
 have eqx:∀a,exu ex (q :: new1) a->exu (exu ex new1) [q] a:=λa z=>by
  rcases z with z|z
  ·exact .inl (.inl z)
  ·rcases Xl.mp z with z|z
   ·exact .inr (XC.mpr z)
   ·exact .inl (.inr z)
 refine k _ _ _ δ1 fp1 (q :: new1) ⟨R2.drop eqx,S,.nd Z1 ((r1.own.wide λa l w z=>?_).same s),Qs.mpr ⟨hqn,r1.nd⟩,λa m=>?_⟩ h1.2
 ·have l:=l z
  refine⟨l.1,λy=>?_,l.2.2⟩
  rcases eqx a y with y|y
  ·exact l.2.1 y
  ·rcases XC.mp y with rfl
   exact w hq
 ·rcases Xl.mp m with rfl|m
  ·exact r1.stp.al _ hq
  ·exact r1.fresh a m
end
variable {G:Xb}
noncomputable def spD(G:Xb)(S:List Xa->(OT->Prop)->Prop):Sp:=λvs H Q _=>∃L ds k,Das G H L vs ds∧S ds k∧
 ∀r v H' new,k r->Same H H'->Own G H' (λa=>(L a∨H a=none)∧a∉new) v r new->new.Nodup->(∀a∈new,H a=none)->Q v H'
noncomputable def spI(G:Xb)(S:OT->List Xa->(OT->OT->Prop)->Prop):Sp:=λvs H Q _=>∃L v0 t0 as vs' ds k,vs=v0 :: vs'∧Own G H L v0 t0 as∧as.Nodup∧(∀a∈as,¬L a)∧Das G H L vs' ds∧S t0 ds k∧
 ∀r t' v H' new as',k r t'->(∀b o,H b=some o->b∉as->H' b=some o)->(∀b,H' b=none->H b=none) ->
  Own G H' (λa=>(L a∨H a=none)∧a∉new∧a∉as') v r new->Own G H' (λa=>(L a∨H a=none)∧a∉new∧a∉as') v0 t' as'->(as' ++ new).Nodup->(∀a∈new,H a=none)->(∀a∈as',a∈as∨H a=none)->Q v H'
section
variable {X:Cx}{io:List Nat}{p p' p'' c c':Bool}{e a b:Expr}{m ma mb:MEt}{es rest:List Expr}{mr:MAt}{pos:Pos}
variable {CX:CXT}{k:Nat}{f:Addr}{fd:Xp}{ps:List Str}{E:XK}{x:Str}{pp:Pos}
noncomputable def Zu2(S:List Xa->(OT->Prop)->Prop)(mr:MAt):MEt:=λδ K=>mr δ λrs δ1=>S (OT.datas rs) λr=>K r δ1
theorem Z3v{S}{t:TA}(sa:SA G io p c t mr):SE G io p c (Zue (spD G S) [] E t) (Zu2 S mr):=by
 intro C H σ δ fp ex K Q R h kk
 refine sa C H σ δ fp ex _ _ R h λH1 vs rs δ1 fp1 new1 r1 h1=>?_
 rw[QL]
 refine⟨_,_,_,r1.das R,h1,λr v H' new kr s o nd hn=>?_⟩
 exact kk H' v r δ1 fp1 new (RE.tree R r1.base r1.stp s hn nd o) kr
theorem Z3h{S}(F:FnOk X.prog X.w X.K X.mg X.base CX k f fd ps (spD X.K S))(hr:Room k X.A)(hg:Gl X x)(hm:X.mg x=some (.ref f))(hk:QW X.K (.ref f)=true)(hb:Binds X.K fd ps [])(hx:Zgh CX X E)
  (ha:MA X io p c (e :: es) mr) (hdb:(x==("__debug__" : Str))=false:=by decide) (he:Xh (e :: es) X.env=(false,eval e X.env) :: Xh es X.env:=by rfl) (hpl:(Q6 pos (Xh es X.env)).any (·.1)=false:=by rfl) :
  ME X io p c (.Call (.Name x pp) (e :: es) [] pos) (Zu2 S mr):=by
 obtain⟨_,A,sa⟩:=ha
 exact⟨_,Znz F hr hg hm hk hb .nil hx A hdb he hpl,Z3v sa⟩
theorem Z86(hg:Gl X x)(hm:X.mg x=some (.ref f))(hc:Vm X.K x f)(hdb:(x==("__debug__" : Str))=false:=by decide):ME X io true true (.Name x pos) (mC (fnD x)) :=
 ⟨_,Za5 (v:=.ref f) hg hm rfl hdb,λC H σ δ fp ex K Q R h k=>k H (.ref f) _ δ fp [] (.fz R (.refl _ _ _ _) (.fn hc)) h⟩
noncomputable def Z4q(i:Nat)(f:Addr)(sp:Sp)(E:XK)(t:TA):TE:=λσ H Q=>σ[i]? =some (some (.ref f))∧Zue sp [] E t σ H Q
theorem Zwz{sp:Sp}{t:TA}{i:Nat}(F:FnOk X.prog X.w X.K X.mg X.base CX k f fd ps sp)(hr:Room k X.A)(hN:X.N[i]? =some x)(hv:Vis X.env.scope x)(hk:QW X.K (.ref f)=true)(hb:Binds X.K fd ps [])(hx:Zgh CX X E)
  (ha:PA X (e :: es) t) (hdb:(x==("__debug__" : Str))=false:=by decide) (hcd:(x==("__classdict__" : Str))=false:=by decide) (he:Xh (e :: es) X.env=(false,eval e X.env) :: Xh es X.env:=by rfl) (hpl:(Q6 pos (Xh es X.env)).any (·.1)=false:=by rfl) :
  PE X (.Call (.Name x pp) (e :: es) [] pos) (Z4q i f sp E t):=by
 intro pins s σ H Q I h
 obtain⟨e0,h⟩:=h
 refine Ba (thn (Zxm hN hv hdb hcd pins s σ H (λv H'=>v= .ref f∧H'=H) I ⟨_,e0,rfl,rfl⟩) λu s0 q=>?_)
 obtain⟨v,H0,I0,r0,e1,e2⟩:=q
 subst e1 e2
 cases(show u=Qu f from r0)
 refine V0 (h₀:=X.base) I0.ok.mod.kin hk (thn (ha pos pins s0 σ H0 _ I0 h) λus s1 q=>?_) he hpl
 obtain⟨vs,H1,I1,r,q⟩:=q
 exact⟨I1.kIn,Zw7 F hr hb .nil hx I1 r q⟩
noncomputable def Zxs(i:Nat)(y:Str)(S:List Xa->(OT->Prop)->Prop)(mr:MAt):MEt:=λδ K=>δ[i]? =some (some (.fz (fnD y)))∧Zu2 S mr δ K
theorem Da.fnInv{H:Hp}{L:Addr->Prop}{v:V}{y:Str}{f:Addr}(q:Da G H L v (fnD y))(hf:Vm G y f):v= .ref f:=by
 generalize ed:fnD y=d at q
 cases q with
 | fn h=>
  unfold fnD at ed
  injection ed with ed
  injection ed with ed _
  injection ed with ed _
  injection ed with ed
  subst ed
  have:=h.symm.trans hf
  injection this with this
  injection this with this
  injection this with this
  rw[this]
 | exc _ _ _=>unfold fnD exD at ed;cases ed
 | _=>unfold fnD at ed;cases ed
theorem Zrz{S}{i:Nat}{y:Str}(F:FnOk X.prog X.w X.K X.mg X.base CX k f fd ps (spD X.K S))(hr:Room k X.A)(hc:Vm X.K y f)(hk:QW X.K (.ref f)=true)(hb:Binds X.K fd ps [])(hx:Zgh CX X E)
  (ha:MA X io p c (e :: es) mr) (hN:X.N[i]? =some x:=by rfl) (hv:Vis X.env.scope x:=by first|exact Qo rfl|exact Qg (Qo rfl)|exact Qg (Qg rfl)) (hdb:(x==("__debug__" : Str))=false:=by decide) (hcd:(x==("__classdict__" : Str))=false:=by decide)
  (he:Xh (e :: es) X.env=(false,eval e X.env) :: Xh es X.env:=by rfl) (hpl:(Q6 pos (Xh es X.env)).any (·.1)=false:=by rfl):ME X io p c (.Call (.Name x pp) (e :: es) [] pos) (Zxs i y S mr):=by
 obtain⟨_,A,sa⟩:=ha
 refine⟨_,Zwz F hr hN hv hk hb hx A hdb hcd he hpl,λC H σ δ fp ex K Q R h kk=>?_⟩
 obtain⟨h0,h⟩:=h
 obtain⟨v,e1,o⟩:=R.own i _ h0
 generalize fp i=as at o
 cases o with
 | fz q=>
  rw[q.fnInv hc]at e1
  exact⟨e1,Z3v sa C H σ δ fp ex K Q R h kk⟩
noncomputable def Zk8(i:Nat)(S:OT->List Xa->(OT->OT->Prop)->Prop)(mr:MAt):MEt:=λδ K=>match δ[i]? with
 | some (some _)=>mr δ λrs δ1=>match δ1[i]? with
  | some (some t)=>S t (OT.datas rs) λr t'=>K r (δ1.set i (some t'))
  | _=>False
 | _=>False
noncomputable def fpu(fp:Fp)(i:Nat)(as:List Addr):Fp:=λj=>if j=i then as else fp j
theorem Zx{fp:Fp}{i:Nat}{as:List Addr}:fpu fp i as i=as:=if_pos rfl
theorem Yh{fp:Fp}{i j:Nat}{as:List Addr}(h:j≠i):fpu fp i as j=fp j:=if_neg h
theorem Foot.of_u{fp:Fp}{i:Nat}{as:List Addr}{a:Addr}(h:Foot (fpu fp i as) a):a∈as∨∃j,j≠i∧a∈fp j:=by
 obtain⟨j,h⟩:=h
 by_cases e:j=i
 ·subst e;rw[Zx]at h;exact .inl h
 ·rw[Yh e]at h;exact .inr ⟨j,e,h⟩
theorem Rel.change{C:MC G}{H H':Hp}{σ:St}{δ:Zg}{fp:Fp}{ex:Addr->Prop}{i:Nat}{t t':OT}{v:V}{as' new:List Addr}(R:Rel C io H σ δ fp ex)(hi:δ[i]? =some (some t))(hv:σ[i]? =some (some v))
  (keep:∀b o,H b=some o->b∉fp i->H' b=some o) (al:∀b,H' b=none->H b=none) (o:Own G H' (Lf C (fpu fp i as') (exu ex new)) v t' as') (nd:as'.Nodup) (new':∀a∈as',a∈fp i∨H a=none)
  (hn:∀a∈new,H a=none∧H' a≠none∧a∉as') :
  Rel C io H' σ (δ.set i (some t')) (fpu fp i as') (exu ex new)∧Stp false H δ fp H' (δ.set i (some t')) (fpu fp i as'):=by
 have hil:i<δ.length:=(Xk.mp hi).1
 have apart:∀j a,j≠i->a∈fp j->a∉as':=λj a e m z=>by
  rcases new' a z with z|z
  ·exact e (R.dj j i a m z)
  ·exact R.footSome z ⟨j,m⟩
 constructor
 ·refine⟨by rw[Bb];exact R.len,λj t'' e=>?_,λj h=>?_,λj=>?_,λj k a h1 h2=>?_,λj a h z=>?_,λa z w=>z.elim (λz=>R.xa a z (al a w)) (λz=>(hn a z).2.1 w),λb ob e n=>?_,λb z=>R.al b (al b z),λj a h=>?_,R.io⟩
  ·by_cases ej:j=i
   ·subst ej
    rw[Qi hil]at e
    cases e
    exact⟨v,hv,by rw[Zx];exact o⟩
   ·rw[X4 (JM ej)]at e
    obtain⟨w,e1,o1⟩:=R.own j t'' e
    refine⟨w,e1,?_⟩
    rw[Yh ej]
    refine o1.frame (λa xs l q=>?_) (λa xs q=>keep a _ q λz=>?_) λa m xs q=>keep a _ q λz=>ej (R.dj j i a m z)
    ·have na:a∉fp i:=λz=>l.1 ⟨i,z⟩
     refine⟨⟨λz=>?_,λz=>z.elim l.2.1 λz=>q.some (hn a z).1,l.2.2⟩,?_⟩
     ·rcases z.of_u with z|⟨k,_,z⟩
      ·rcases new' a z with z|z
       ·exact na z
       ·exact q.some z
      ·exact l.1 ⟨k,z⟩
     ·rcases q with q|⟨u,q⟩
      ·exact .inl (keep a _ q na)
      ·exact .inr ⟨u,keep a _ q na⟩
    ·obtain⟨ys,e⟩:=R.foot ⟨i,z⟩
     exact ImO.nm q e
  ·by_cases ej:j=i
   ·subst ej
    exact absurd (Qi hil) (h t')
   ·rw[Yh ej]
    refine R.emp j λt'' z=>h t'' ?_
    rw[X4 (JM ej)]
    exact z
  ·by_cases ej:j=i
   ·subst ej;rw[Zx];exact nd
   ·rw[Yh ej];exact R.nd j
  ·by_cases ej:j=i
   ·subst ej
    rw[Zx]at h1
    by_cases ek:k=j
    ·exact ek.symm
    ·rw[Yh ek]at h2
     exact absurd h1 (apart k a ek h2)
   ·rw[Yh ej]at h1
    by_cases ek:k=i
    ·subst ek
     rw[Zx]at h2
     exact absurd h2 (apart j a ej h1)
    ·rw[Yh ek]at h2
     exact R.dj j k a h1 h2
  ·by_cases ej:j=i
   ·subst ej
    rw[Zx]at h
    rcases z with z|z
    ·rcases new' a h with w|w
     ·exact R.dx _ a w z
     ·exact R.xa a z w
    ·exact(hn a z).2.2 h
   ·rw[Yh ej]at h
    rcases z with z|z
    ·exact R.dx j a h z
    ·exact R.footSome (hn a z).1 ⟨j,h⟩
  ·refine keep b ob (R.fr b ob e n) λz=>?_
   rcases R.new i b z with w|w
   ·exact n w.2
   ·rw[e]at w;cases w
  ·by_cases ej:j=i
   ·subst ej
    rw[Zx]at h
    rcases new' a h with w|w
    ·exact R.new _ a w
    ·exact .inr (R.al a w)
   ·rw[Yh ej]at h
    exact R.new j a h
 ·refine⟨λb ob e q=>keep b ob e λz=>(q.resolve_left (by decide)) ⟨i,z⟩,λz=>(nomatch z),λa z=>?_,al⟩
  rcases z.of_u with z|⟨j,_,z⟩
  ·exact(new' a z).imp (λw=>⟨i,w⟩) id
  ·exact .inl ⟨j,z⟩
theorem Z4d{S}{i:Nat}{t:TA}(sa:SA G io p true t mr):SE G io false true (Zue (spI G S) [] E (Zuu (Z8m i) t)) (Zk8 i S mr):=by
 intro C H σ δ fp ex K Q R h kk
 unfold Zk8 at h
 split at h
 case h_2=>exact h.elim
 rename_i t0 hi0
 obtain⟨v0,hv,_⟩:=R.own i t0 hi0
 refine⟨v0,hv,?_⟩
 refine sa C H σ δ fp ex _ _ R h λH1 vs rs δ1 fp1 new1 r1 h1=>?_
 show spI G S ((v0 :: vs) ++ []) H1 Q E
 rw[QL]
 split at h1
 case h_2=>exact h1.elim
 rename_i t1 hi1
 have R1:=r1.base
 obtain⟨v1,hv1,o1⟩:=R1.own i t1 hi1
 rw[hv]at hv1
 cases hv1
 refine⟨Lf C fp1 ex,v0,t1,fp1 i,vs,_,_,rfl,o1,R1.nd i,λa m l=>l.1 ⟨i,m⟩,(r1.das R).wide λa l _=>l rfl,h1,?_⟩
 intro r t' v H' new as' kr keep al orr ot nd hn ha
 have nd2:=QQ.mp nd
 have lw:∀a,((Lf C fp1 ex a∨H1 a=none)∧a∉new∧a∉as')->H' a≠none->Lf C (fpu fp1 i as') (exu ex new) a:=λa l _=>by
  have hf:¬Foot (fpu fp1 i as') a:=λz=>by
   rcases z.of_u with z|⟨j,_,z⟩
   ·exact l.2.2 z
   ·rcases l.1 with l1|l1
    ·exact l1.1 ⟨j,z⟩
    ·exact R1.footSome l1 ⟨j,z⟩
  rcases l.1 with l1|l1
  ·exact⟨hf,λz=>z.elim l1.2.1 l.2.1,l1.2.2⟩
  ·have:=R1.newOk l1
   exact⟨hf,λz=>z.elim this.2.1 l.2.1,.inr this.2.2⟩
 have hnn:∀a∈new,H' a≠none:=λa m z=>by
  obtain⟨xs,e⟩:=orr.some a m
  rw[z]at e;cases e
 obtain⟨R2,S2⟩:=R1.change (new:=new) hi1 hv keep al (ot.wide lw) nd2.1 ha (λa m=>⟨hn a m,hnn a m,λz=>nd2.2.2 a z a m rfl⟩)
 refine kk H' v r _ _ new ⟨R2,?_,orr.wide λa l q _=>lw a l q,nd2.2.1,λa m=>r1.stp.al a (hn a m)⟩ kr
 exact(r1.stp.trans S2).cast λz=>nomatch z
theorem Yp{S}{i:Nat}{y:Str}{py:Pos}(F:FnOk X.prog X.w X.K X.mg X.base CX k f fd ps (spI X.K S))(hr:Room k X.A)(hg:Gl X x)(hm:X.mg x=some (.ref f))(hk:QW X.K (.ref f)=true)(hb:Binds X.K fd ps [])(hx:Zgh CX X E)
  (ha:MA X io p true es mr) (hN:X.N[i]? =some y:=by rfl) (hv:Vis X.env.scope y:=by first|exact Qo rfl|exact Qg (Qo rfl)|exact Qg (Qg rfl)) (hd:(y==("__debug__" : Str))=false:=by decide)
  (hcd:(y==("__classdict__" : Str))=false:=by decide)
  (hdb:(x==("__debug__" : Str))=false:=by decide) (he:Xh (.Name y py :: es) X.env=(false,eval (.Name y py) X.env) :: Xh es X.env:=by rfl) (hpl:(Q6 pos (Xh es X.env)).any (·.1)=false:=by rfl) :
  ME X io false true (.Call (.Name x pp) (.Name y py :: es) [] pos) (Zk8 i S mr):=by
 obtain⟨_,A,sa⟩:=ha
 exact⟨_,Znz F hr hg hm hk hb .nil hx (Y5 (pv i hN hv hd hcd) A he) hdb he hpl,Z4d sa⟩
noncomputable def PNs(G:Xb)(r:List V->Hp->VK->Prop)(rp:List Xa->(Xa->Prop)->Prop):Prop:=∀(H:Hp) (L:Addr->Prop) (xs:List V) (ds:List Xa) (k:Xa->Prop) (Q:VK),Das G H L xs ds->rp ds k->(∀v d',ScD v d'->k d'->Q v H)->r xs H Q
noncomputable def PN(G:Xb)(r:List V->Hp->VK->Prop)(rp:List Xa->(OT->Prop)->Prop):Prop:=∀(H:Hp) (L:Addr->Prop) (xs:List V) (ds:List Xa) (k:OT->Prop) (Q:VK),Das G H L xs ds->rp ds k ->
 (∀ H' v o new,Same H H'->Own G H' (λa=>(L a∨H a=none)∧a∉new) v o new->new.Nodup->(∀a∈new,H a=none)->k o->Q v H')->r xs H Q
noncomputable def Z76(rp:List Xa->(Xa->Prop)->Prop)(mr:MAt):MEt:=λδ K=>mr δ λrs δ1=>rp (OT.datas rs) λd=>K (.fz d) δ1
noncomputable def mBl(rp:List Xa->(OT->Prop)->Prop)(mr:MAt):MEt:=λδ K=>mr δ λrs δ1=>rp (OT.datas rs) λo=>K o δ1
theorem Ydc{r rp}{t:TA}(P:PNs G r rp)(sa:SA G io p c t mr):SE G io p true (tCB r t) (Z76 rp mr):=λC H σ δ fp ex K Q R h kk=>
 sa C H σ δ fp ex _ _ R h λH1 vs rs δ1 fp1 new1 r1 h1=>P H1 _ vs _ _ _ (r1.das R) h1 λv d' sc h2=>kk H1 v _ δ1 fp1 [] (.fz r1.base r1.stp sc.da) h2
theorem sBl{r rp}{t:TA}(P:PN G r rp)(sa:SA G io p c t mr):SE G io p c (tCB r t) (mBl rp mr):=λC H σ δ fp ex K Q R h kk=>
 sa C H σ δ fp ex _ _ R h λH1 vs rs δ1 fp1 new1 r1 h1=>P H1 _ vs _ _ _ (r1.das R) h1 λH' v o new s ow nd hn h2=>kk H' v o δ1 fp1 new (RE.tree R r1.base r1.stp s hn nd ow) h2
variable {id T:String}{r:List V->Hp->VK->Prop}
theorem Zl3{rp}(P:PNs X.K r rp)(hc:Zd9 X (.builtin id) r)(hg:Gl X x)(hm:X.mg x=none)(hv:Qc x=some (.builtin id))(ha:MA X io p c (e :: es) mr)(hn:x≠"__name__" :=by decide)(hdb:(x==("__debug__" : Str))=false:=by decide)
  (he:Xh (e :: es) X.env=(false,eval e X.env) :: Xh es X.env:=by rfl) (hpl:(Q6 pos (Xh es X.env)).any (·.1)=false:=by rfl):ME X io p true (.Call (.Name x pp) (e :: es) [] pos) (Z76 rp mr):=by
 obtain⟨_,A,sa⟩:=ha
 exact⟨_,Zfb hc hg hm hv A hn hdb he hpl,Ydc P sa⟩
theorem Yeu{rp}(P:PN X.K r rp)(hc:Zd9 X (.builtin id) r)(hg:Gl X x)(hm:X.mg x=none)(hv:Qc x=some (.builtin id))(ha:MA X io p c (e :: es) mr)(hn:x≠"__name__" :=by decide)(hdb:(x==("__debug__" : Str))=false:=by decide)
  (he:Xh (e :: es) X.env=(false,eval e X.env) :: Xh es X.env:=by rfl) (hpl:(Q6 pos (Xh es X.env)).any (·.1)=false:=by rfl):ME X io p c (.Call (.Name x pp) (e :: es) [] pos) (mBl rp mr):=by
 obtain⟨_,A,sa⟩:=ha
 exact⟨_,Zfb hc hg hm hv A hn hdb he hpl,sBl P sa⟩
theorem Zq4{rp}(P:PNs X.K r rp)(hc:Zd9 X (.type T) r)(hg:Gl X x)(hm:X.mg x=none)(hv:Qc x=some (.type T))(ha:MA X io p c (e :: es) mr)(hn:x≠"__name__" :=by decide)(hdb:(x==("__debug__" : Str))=false:=by decide)
  (he:Xh (e :: es) X.env=(false,eval e X.env) :: Xh es X.env:=by rfl) (hpl:(Q6 pos (Xh es X.env)).any (·.1)=false:=by rfl):ME X io p true (.Call (.Name x pp) (e :: es) [] pos) (Z76 rp mr):=by
 obtain⟨_,A,sa⟩:=ha
 exact⟨_,Zsh hc hg hm hv A hn hdb he hpl,Ydc P sa⟩
end
variable {G:Xb}
mutual
noncomputable def Zb3:Xa->Bool
 | .none=>true
 | .bool _=>true
 | .int _=>true
 | .str _=>true
 | .tuple ds=>Zlv ds
 | .list _=>false
 | .dict _=>false
noncomputable def Zlv:List Xa->Bool
 | []=>true
 | d :: ds=>Zb3 d&&Zlv ds
end
theorem Da.flat2{H:Hp}{L L':Addr->Prop}:(∀{v:V} {d:Xa},Da G H L v d->Zb3 d=true->Da G H L' v d)∧∀{v:List V} {d:List Xa},Das G H L v d->Zlv d=true->Das G H L' v d :=
 Da.both (λ_=>.non) (λb _=>.bl b) (λi _=>.int i) (λx _=>.str x) (λ_ _ _ h=>by rw[Zb3]at h;cases h) (λe r h=>.tup e (r (by rw[Zb3]at h;exact h))) (λk _=>.scr k) (λc n e _=>.exc c n e) (λk _=>.fn k) (λ_ _ _ _ h=>by rw[dcD,Zb3]at h;cases h) (λ_=>.nil)
  (λk r h=>by rw[Zlv,XN]at h;exact .cons (k h.1) (r h.2))
theorem Da.flat{H:Hp}{L L':Addr->Prop}{v:V}{d:Xa}(h:Da G H L v d)(f:Zb3 d=true):Da G H L' v d:=Da.flat2.1 h f
set_option genInjectivity false in
structure Zgt where
 nx:Zg->Prop
 rt:OT->Zg->Prop
 bk:Zg->Prop:=λ_=>False
 ct:Zg->Prop:=λ_=>False
noncomputable abbrev MSt:=Zgt->Zg->Prop
noncomputable abbrev Kp(H:Hp)(fp:Fp)(H':Hp)(fp':Fp):Prop:=Stp false H [] fp H' [] fp'
theorem Stp.kp{p:Bool}{H H':Hp}{δ δ':Zg}{fp fp':Fp}(S:Stp p H δ fp H' δ' fp'):Kp H fp H' fp':=⟨λb o e q=>S.keep b o e (.inr (q.resolve_left (by decide))),λz=>(nomatch z),S.grow,S.al⟩
theorem Kp.trans{H H1 H2:Hp}{fp fp1 fp2:Fp}(a:Kp H fp H1 fp1)(b:Kp H1 fp1 H2 fp2):Kp H fp H2 fp2:=Stp.trans a b
theorem Kp.refl(H:Hp)(fp:Fp):Kp H fp H fp:=Stp.refl _ _ _ _
structure RelEnds(C:MC G)(io:List Nat)(ex:Addr->Prop)(H:Hp)(fp:Fp)(D:Zgt)(D':Ends):Prop where
 nx:∀H' σ' δ' fp',Rel C io H' σ' δ' fp' ex->Kp H fp H' fp'->D.nx δ'->D'.nx σ' H'
 bk:∀H' σ' δ' fp',Rel C io H' σ' δ' fp' ex->Kp H fp H' fp'->D.bk δ'->D'.bk σ' H'
 ct:∀H' σ' δ' fp',Rel C io H' σ' δ' fp' ex->Kp H fp H' fp'->D.ct δ'->D'.ct σ' H'
 rt:∀H' σ' v r δ' fp' new,Rel C io H' σ' δ' fp' (exu ex new)->Own G H' (Lf C fp' (exu ex new)) v r new->new.Nodup->(∀a∈new,C.H₀ a=none)->D.rt r δ'->D'.rt v H'
theorem RelEnds.shift{C:MC G}{io:List Nat}{ex:Addr->Prop}{H H1:Hp}{fp fp1:Fp}{D:Zgt}{D':Ends}(E:RelEnds C io ex H fp D D')(k:Kp H fp H1 fp1):RelEnds C io ex H1 fp1 D D' :=
 ⟨λH' σ' δ' fp' R q=>E.nx H' σ' δ' fp' R (k.trans q),λH' σ' δ' fp' R q=>E.bk H' σ' δ' fp' R (k.trans q),λH' σ' δ' fp' R q=>E.ct H' σ' δ' fp' R (k.trans q),E.rt⟩
noncomputable def SS(G:Xb)(io:List Nat)(t:TS)(m:MSt):Prop:=∀(C:MC G) (H:Hp) (σ:St) (δ:Zg) (fp:Fp) (ex:Addr->Prop) (D:Zgt) (D':Ends),Rel C io H σ δ fp ex->m D δ->RelEnds C io ex H fp D D'->t D' σ H
noncomputable def MS(X:Cx)(io:List Nat)(st:Stmt)(m:MSt):Prop:=∃t,PS X st t∧SS X.K io t m
noncomputable def MSs(X:Cx)(io:List Nat)(st:List Stmt)(m:MSt):Prop:=∃t,PSs X st t∧SS X.K io t m
section
variable {X:Cx}{io:List Nat}{p p' p'' c c':Bool}{e a b:Expr}{m ma mb:MEt}{es rest:List Expr}{mr:MAt}{pos:Pos}{st:Stmt}{sts:List Stmt}{u w:MSt}{mt:MTt}
noncomputable def Z5m:MSt:=λD δ=>D.nx δ
noncomputable def Ye7(w:MSt)(D:Zgt)(δ:Zg):Prop:=w D δ
noncomputable def Yaq(u w:MSt):MSt:=λD δ=>u { D with nx:=Ye7 w D } δ
theorem Z1u:MSs X io [] Z5m:=⟨_,Zzj,λC H σ δ fp ex D D' R h E=>E.nx H σ δ fp R (.refl _ _) h⟩
theorem Zi(h:MS X io st u):MSs X io [st] u:=by
 obtain⟨_,A,s⟩:=h
 exact⟨_,Z1q A,s⟩
theorem Zvm(h:MS X io st u)(g:MSs X io sts w):MSs X io (st :: sts) (Yaq u w):=by
 obtain⟨_,A,s⟩:=h
 obtain⟨tb,B,s'⟩:=g
 exact⟨_,Zvn A B,λC H σ δ fp ex D D' R h E=>s C H σ δ fp ex _ _ R h ⟨λH1 σ1 δ1 fp1 R1 k1 h1=>s' C H1 σ1 δ1 fp1 ex D D' R1 h1 (E.shift k1),E.bk,E.ct,E.rt⟩⟩
noncomputable def Z68:MSt:=λ_ _=>False
theorem Zu4:MS X io st Z68:=⟨_,Zwl,λC H σ δ fp ex D D' R h E=>h.elim⟩
noncomputable def Z63(m:MEt):MSt:=λD δ=>m δ λ_ δ'=>D.nx δ'
theorem Zf9(he:ME X io p c e m)(hs:Ve e none pos.line X.env=pure false:=by rfl):MS X io (.Expr e pos) (Z63 m):=by
 obtain⟨_,A,s⟩:=he
 exact⟨_,Ztt A hs,λC H σ δ fp ex D D' R h E=>s C H σ δ fp ex _ _ R h λH' v r δ' fp' new r1 h1=>E.nx H' σ δ' fp' r1.base r1.stp.kp h1⟩
noncomputable def Ydr(m:MEt):MSt:=λD δ=>m δ λr δ'=>D.rt r δ'
theorem Z30(he:ME X io p true e m):MS X io (.Return (some e) pos) (Ydr m):=by
 obtain⟨_,A,s⟩:=he
 exact⟨_,Zw6 A,λC H σ δ fp ex D D' R h E=>s C H σ δ fp ex _ _ R h λH' v r δ' fp' new r1 h1=>E.rt H' σ v r δ' fp' new r1.rel (r1.own.wide λa l _=>l rfl) r1.nd (λa m=>(R.newOk (r1.fresh a m)).2.2) h1⟩
noncomputable def Zvs(i:Nat):MSt:=λD δ=>match δ[i]? with|some (some t)=>D.rt t (δ.set i none)|_=>False
theorem Rel.take{C:MC G}{H:Hp}{σ:St}{δ:Zg}{fp:Fp}{ex:Addr->Prop}{i:Nat}{t:OT}(R:Rel C io H σ δ fp ex)(hi:δ[i]? =some (some t)):Rel C io H σ (δ.set i none) (fpu fp i []) (exu ex (fp i)):=by
 have hil:i<δ.length:=(Xk.mp hi).1
 have get:∀j (t':OT),(δ.set i none)[j]? =some (some t')->j≠i∧δ[j]? =some (some t'):=λj t' e=>by
  by_cases ej:j=i
  ·subst ej;rw[Qi hil]at e;cases e
  ·rw[X4 (JM ej)]at e;exact⟨ej,e⟩
 have sub:∀j a,a∈fpu fp i [] j->j≠i∧a∈fp j:=λj a m=>by
  by_cases ej:j=i
  ·subst ej;rw[Zx]at m;exact nomatch m
  ·rw[Yh ej]at m;exact⟨ej,m⟩
 have lw:∀a,Lf C fp ex a->Lf C (fpu fp i []) (exu ex (fp i)) a:=λa l=>⟨λ⟨j,z⟩=>l.1 ⟨j,(sub j a z).2⟩,λz=>z.elim l.2.1 λz=>l.1 ⟨i,z⟩,l.2.2⟩
 refine⟨by rw[Bb];exact R.len,λj t' e=>?_,λj h=>?_,λj=>?_,λj k a h1 h2=>R.dj j k a (sub j a h1).2 (sub k a h2).2,λj a h z=>?_,λa z w=>?_,R.fr,R.al,λj a h=>R.new j a (sub j a h).2,R.io⟩
 ·obtain⟨ej,e⟩:=get j t' e
  obtain⟨w,e1,o⟩:=R.own j t' e
  exact⟨w,e1,by rw[Yh ej];exact o.wide λa l _=>lw a l⟩
 ·by_cases ej:j=i
  ·subst ej;rw[Zx]
  ·rw[Yh ej]
   exact R.emp j λt' z=>h t' (by rw[X4 (JM ej)];exact z)
 ·by_cases ej:j=i
  ·subst ej;rw[Zx];exact .nil
  ·rw[Yh ej];exact R.nd j
 ·obtain⟨ej,h⟩:=sub j a h
  rcases z with z|z
  ·exact R.dx j a h z
  ·exact ej (R.dj j i a h z)
 ·rcases z with z|z
  ·exact R.xa a z w
  ·exact R.footSome w ⟨i,z⟩
theorem Zc3(i:Nat){x:Str}{px:Pos}(hio:i∉io:=by decide)(hN:X.N[i]? =some x:=by rfl)(hv:Vis X.env.scope x:=by first|exact Qo rfl|exact Qg (Qo rfl)|exact Qg (Qg rfl))(hd:(x==("__debug__" : Str))=false:=by decide)
  (hcd:(x==("__classdict__" : Str))=false:=by decide):MS X io (.Return (some (.Name x px)) pos) (Zvs i):=by
 refine⟨_,Zw6 (pv i hN hv hd hcd),λC H σ δ fp ex D D' R h E=>?_⟩
 unfold Zvs at h
 split at h
 case h_2=>exact h.elim
 rename_i t hi
 obtain⟨v,e,o⟩:=R.own i t hi
 have lw:∀a,Lf C fp ex a->H a≠none->Lf C (fpu fp i []) (exu ex (fp i)) a:=λa l _=>⟨λz=>by
  rcases z.of_u with z|⟨j,_,z⟩
  ·exact nomatch z
  ·exact l.1 ⟨j,z⟩,λz=>z.elim l.2.1 λz=>l.1 ⟨i,z⟩,l.2.2⟩
 have hn:∀a∈fp i,C.H₀ a=none:=λa m=>by
  rcases R.new i a m with z|z
  ·exact absurd z.1 hio
  ·exact z
 exact⟨v,e,E.rt H σ v t _ _ (fp i) (R.take hi) (o.wide lw) (R.nd i) hn h⟩
noncomputable def Ydi(t:MTt)(u w:MSt):MSt:=λD δ=>t δ λb δ'=>if b=true then u D δ' else w D δ'
theorem Z83{cnd:Expr}{ss ss':List Stmt}(hc:MT X io p cnd mt)(ha:MSs X io ss u)(hb:MSs X io ss' w):MS X io (.If cnd ss ss' pos) (Ydi mt u w):=by
 obtain⟨_,T,s⟩:=hc
 obtain⟨_,A,sa⟩:=ha
 obtain⟨_,B,sb⟩:=hb
 exact⟨_,Yao T A B,λC H σ δ fp ex D D' R h E=>s C H σ δ fp ex _ _ R h λH' b δ' fp' R' S h'=>by
  cases b with
  | true=>
   rw[if_pos rfl]at h'⊢
   exact sa C H' σ δ' fp' ex D D' R' h' (E.shift S.kp)
  | false=>
   rw[if_neg Xx]at h'⊢
   exact sb C H' σ δ' fp' ex D D' R' h' (E.shift S.kp)⟩
theorem Rel.put{C:MC G}{H:Hp}{σ:St}{δ:Zg}{fp:Fp}{ex:Addr->Prop}{i:Nat}{v:V}{r:OT}{new:List Addr}(R:Rel C io H σ δ fp (exu ex new))(hio:i∉io)(o:Own G H (Lf C fp (exu ex new)) v r new)(nd:new.Nodup)
  (hn:∀a∈new,C.H₀ a=none∧¬ex a):∃fp',Rel C io H (σ.set i (some v)) (δ.set i (some r)) fp' ex∧∀a,Foot fp' a->Foot fp a∨a∈new:=by
 by_cases hil:i<δ.length
 case neg=>
  refine⟨fp,?_,λa h=>.inl h⟩
  have hl:=R.len
  rw[List.set_eq_of_length_le (show δ.length≤i by omega),List.set_eq_of_length_le (show σ.length≤i by omega)]
  exact R.drop λa z=>.inl z
 have hsl:i<σ.length:=by rw[R.len];exact hil
 have sub:∀a,Foot (fpu fp i new) a->Foot fp a∨a∈new:=λa z=>by
  rcases z.of_u with z|⟨j,_,z⟩
  ·exact .inr z
  ·exact .inl ⟨j,z⟩
 have lw:∀a,Lf C fp (exu ex new) a->Lf C (fpu fp i new) ex a:=λa l=>⟨λz=>(sub a z).elim l.1 λz=>l.2.1 (.inr z),λz=>l.2.1 (.inl z),l.2.2⟩
 refine⟨fpu fp i new,⟨by rw[Bb,Bb];exact R.len,λj t' e=>?_,λj h=>?_,λj=>?_,λj k a h1 h2=>?_,λj a h z=>?_,λa z=>R.xa a (.inl z),R.fr,R.al,λj a h=>?_,λj hj=>?_⟩,sub⟩
 ·by_cases ej:j=i
  ·subst ej
   rw[Qi hil]at e
   cases e
   exact⟨v,Qi hsl,by rw[Zx];exact o.wide λa l _=>lw a l⟩
  ·rw[X4 (JM ej)]at e
   obtain⟨w,e1,o1⟩:=R.own j t' e
   exact⟨w,by rw[X4 (JM ej)];exact e1,by rw[Yh ej];exact o1.wide λa l _=>lw a l⟩
 ·by_cases ej:j=i
  ·subst ej;exact absurd (Qi hil) (h r)
  ·rw[Yh ej]
   exact R.emp j λt' z=>h t' (by rw[X4 (JM ej)];exact z)
 ·by_cases ej:j=i
  ·subst ej;rw[Zx];exact nd
  ·rw[Yh ej];exact R.nd j
 ·by_cases ej:j=i
  ·subst ej
   rw[Zx]at h1
   by_cases ek:k=j
   ·exact ek.symm
   ·rw[Yh ek]at h2
    exact absurd (.inr h1) (R.dx k a h2)
  ·rw[Yh ej]at h1
   by_cases ek:k=i
   ·subst ek
    rw[Zx]at h2
    exact absurd (.inr h2) (R.dx j a h1)
   ·rw[Yh ek]at h2
    exact R.dj j k a h1 h2
 ·by_cases ej:j=i
  ·subst ej
   rw[Zx]at h
   exact(hn a h).2 z
  ·rw[Yh ej]at h
   exact R.dx j a h (.inl z)
 ·by_cases ej:j=i
  ·subst ej
   rw[Zx]at h
   exact .inr (hn a h).1
  ·rw[Yh ej]at h
   exact R.new j a h
 ·have ej:j≠i:=λz=>hio (z▸hj)
  rw[X4 (JM ej)]
  exact R.io j hj
theorem RE.put{C:MC G}{H H':Hp}{σ:St}{δ δ':Zg}{fp fp':Fp}{ex:Addr->Prop}{i:Nat}{v:V}{r:OT}{new:List Addr}(R:RE C io p true H σ δ fp ex H' v r δ' fp' new)(R0:Rel C io H σ δ fp ex)(hio:i∉io) :
  ∃fp2,Rel C io H' (σ.set i (some v)) (δ'.set i (some r)) fp2 ex∧Kp H fp H' fp2:=by
 obtain⟨fp2,R2,g⟩:=R.rel.put hio (R.own.wide λa l _=>l rfl) R.nd λa m=>⟨(R0.newOk (R.fresh a m)).2.2,(R0.newOk (R.fresh a m)).2.1⟩
 refine⟨fp2,R2,λb o e q=>R.stp.keep b o e (.inr (q.resolve_left (by decide))),λz=>(nomatch z),λa z=>?_,R.stp.al⟩
 rcases g a z with z|z
 ·exact R.stp.grow a z
 ·exact .inr (R.fresh a z)
theorem RE.fzc{C:MC G}{H H':Hp}{σ:St}{δ δ':Zg}{fp fp':Fp}{ex:Addr->Prop}{v:V}{r:OT}{new:List Addr}(R:RE C io p c H σ δ fp ex H' v r δ' fp' new)(R0:Rel C io H σ δ fp ex) :
  RE C io p c H σ δ fp ex H' v (.fz r.data) δ' fp' []:=.fz R.base R.stp (R.da R0)
theorem RE.fzs{C:MC G}{H H':Hp}{σ:St}{δ δ':Zg}{fp fp':Fp}{ex:Addr->Prop}{v:V}{r:OT}{new:List Addr}(R:RE C io p c H σ δ fp ex H' v r δ' fp' new)(R0:Rel C io H σ δ fp ex)(h:Zb3 r.data=true) :
  RE C io p true H σ δ fp ex H' v (.fz r.data) δ' fp' []:=.fz R.base R.stp ((R.da R0).flat h)
noncomputable def Z2h(i:Nat)(m:MEt):MSt:=λD δ=>m δ λr δ'=>D.nx (δ'.set i (some (.fz r.data)))
noncomputable def Zpx(i:Nat)(m:MEt):MSt:=λD δ=>m δ λr δ'=>D.nx (δ'.set i (some r))
section
variable {i:Nat}{x:Str}{px:Pos}
theorem Yb8{t:TE}(s:SE G io p true t m)(hio:i∉io):SS G io (Z6f t (Zsm i)) (Z2h i m):=λC H σ δ fp ex D D' R h E=>s C H σ δ fp ex _ _ R h λH' v r δ' fp' new r1 h1=>by
 obtain⟨fp2,R2,k2⟩:=(r1.fzc R).put R hio
 exact E.nx H' _ _ fp2 R2 k2 h1
theorem Z26{t:TE}(s:SE G io p true t m)(hio:i∉io):SS G io (Z6f t (Zsm i)) (Zpx i m):=λC H σ δ fp ex D D' R h E=>s C H σ δ fp ex _ _ R h λH' v r δ' fp' new r1 h1=>by
 obtain⟨fp2,R2,k2⟩:=r1.put R hio
 exact E.nx H' _ _ fp2 R2 k2 h1
theorem Zsn(hN:X.N.Nodup)(hi:X.N[i]? =some x)(hx:Loc X.env.scope x)(he:ME X io p true e m)(hio:i∉io:=by decide)(hs:Ve e (some (.Name x px)) pos.line X.env=pure false:=by rfl)(hf:X.fn x=true∨X.env.scope.names.lookup x=some .local:=by first|exact .inl rfl|exact .inr rfl|assumption) :
  MS X io (.Assign [.Name x px] e pos) (Z2h i m):=by
 obtain⟨_,A,s⟩:=he
 exact⟨_,Zxx hN hi hx A hs hf,Yb8 s hio⟩
theorem Zy5(hN:X.N.Nodup)(hi:X.N[i]? =some x)(hx:Loc X.env.scope x)(he:ME X io p true e m)(hio:i∉io:=by decide)(hs:Ve e (some (.Name x px)) pos.line X.env=pure false:=by rfl)(hf:X.fn x=true∨X.env.scope.names.lookup x=some .local:=by first|exact .inl rfl|exact .inr rfl|assumption) :
  MS X io (.Assign [.Name x px] e pos) (Zpx i m):=by
 obtain⟨_,A,s⟩:=he
 exact⟨_,Zxx hN hi hx A hs hf,Z26 s hio⟩
end
noncomputable def Zw5(t:MTt)(u:MSt):MSt:=λD δ=>∃W:Nat->Zg->Prop,(∃n,W n δ)∧∀n δ,W n δ->t δ λb δ'=>if b=true then∃N:Zg->Prop,(∀δ',N δ'->∃n',n'<n∧W n' δ')∧u { D with nx:=N,ct:=N,bk:=D.nx } δ' else D.nx δ'
theorem Zpa{cnd:Expr}{ss:List Stmt}(hp:PassesOwn (X7 X.prog X.w) X.A X.env X.xe)(hc:MT X io p cnd mt)(ha:MSs X io ss u):MS X io (.While cnd ss [] pos) (Zw5 mt u):=by
 obtain⟨_,T,s⟩:=hc
 obtain⟨_,A,sa⟩:=ha
 refine⟨_,Zvf hp T A,λC H σ δ fp ex D D' R h E=>?_⟩
 obtain⟨W,⟨n0,w0⟩,turn⟩:=h
 refine⟨λn σ' H'=>∃δ' fp',Rel C io H' σ' δ' fp' ex∧Kp H fp H' fp'∧W n δ',⟨n0,δ,fp,R,.refl _ _,w0⟩,?_⟩
 rintro n σ1 H1 ⟨δ1,fp1,R1,k1,w1⟩
 refine s C H1 σ1 δ1 fp1 ex _ _ R1 (turn n δ1 w1) λH2 b δ2 fp2 R2 S2 h2=>?_
 have k2:=k1.trans S2.kp
 cases b with
 | true=>
  rw[if_pos rfl]at h2⊢
  obtain⟨N,hN,h2⟩:=h2
  refine⟨λσ' H'=>∃δ' fp',Rel C io H' σ' δ' fp' ex∧Kp H fp H' fp'∧N δ',λσ' H' ⟨δ',fp',R',k',n'⟩=>?_,?_⟩
  ·obtain⟨n1,hn1,w1⟩:=hN δ' n'
   exact⟨n1,hn1,δ',fp',R',k',w1⟩
  ·refine sa C H2 σ1 δ2 fp2 ex _ _ R2 h2 ⟨λH' σ' δ' fp' R' k' n'=>⟨δ',fp',R',k2.trans k',n'⟩,λH' σ' δ' fp' R' k' n'=>E.nx H' σ' δ' fp' R' (k2.trans k') n',λH' σ' δ' fp' R' k' n'=>⟨δ',fp',R',k2.trans k',n'⟩,E.rt⟩
 | false=>
  rw[if_neg Xx]at h2⊢
  exact E.nx H2 σ1 δ2 fp2 R2 k2 h2
end
variable {G:Xb}
noncomputable def Ziz(N:List Str)(ds:List Xa):Zg:=ds.map (λd=>some (.fz d)) ++ Xz (N.length-ds.length) none
noncomputable def Zhq(N:List Str)(t:OT)(ds:List Xa):Zg:=some t :: (ds.map (λd=>some (.fz d)) ++ Xz (N.length-(ds.length+1)) none)
section
variable {H:Hp}{L:Addr->Prop}{vs:List V}{ds:List Xa}{N:List Str}
theorem Zmf{i:Nat}{t:OT}{n:Nat}(h:(ds.map (λd=>some (.fz d)) ++ Xz n none:Zg)[i]? =some (some t)):∃d,ds[i]? =some d∧t= .fz d:=by
 rw[List.getElem?_append]at h
 split at h
 ·rw[Xm]at h
  cases e:ds[i]? with
  | none=>rw[e]at h;cases h
  | some d=>rw[e]at h;cases h;exact⟨d,rfl,rfl⟩
 ·rw[Vn]at h
  split at h
  ·cases h
  ·cases h
theorem Rel.entry(h:Das G H L vs ds):Rel (G:=G) ⟨H,λ_=>False,L,V3 N vs⟩ [] H (V3 N vs) (Ziz N ds) (λ_=>[]) (λ_=>False):=by
 refine⟨?_,λi t e=>?_,λ_ _=>rfl,λ_=>.nil,λi j a m=>(nomatch m),λi a m=>(nomatch m),λa z=>z.elim,λb o e _=>e,λb e=>e,λi a m=>(nomatch m),λi m=>nomatch m⟩
 ·unfold V3 Ziz
  simp[h.length]
 ·obtain⟨d,e',rfl⟩:=Zmf e
  obtain⟨x,e1,q⟩:=h.get e'
  refine⟨x,?_,.fz (q.wide λa l _=>⟨λ⟨j,z⟩=>(nomatch z),λz=>z,.inl l⟩)⟩
  unfold L2.V3
  rw[Vg (by rw[Xg];exact(Xk.mp e1).1),Xm,e1]
  rfl
variable {P:X6}{w:Qt}{K:Xb}{mg:Str->Option Xc}{base:Heap}
noncomputable def Zy0(k:OT->Prop):Zgt:={ nx:=λ_=>k (.fz .none),rt:=λr _=>k r }
theorem Fun.okD{x qual:Str}{st:Stmt}{f:Addr}{fd:Xp}{N ps:List Str}{n:Nat}{S:List Xa->(OT->Prop)->Prop}(F:Fun K x qual st f fd)(Sc:Zo N ps (Zj st))(len:∀ds k,S ds k->ds.length=ps.length)
  (hbody:∀(cdv:Xc) (A:Qk) (outer:List Env) (s:Xd) (H:Hp) (E:XK),Room n (A.deeper (Vw qual (Zj st) s.heap.objs.size f cdv)) ->
   ∃m,MSs (Zox CX0 P w K mg base N qual (Zj st) f cdv A outer s H E).nox [] (Jf st) m∧∀ds k,S ds k->m (Zy0 k) (Ziz N ds)):FnOk P w K mg base CX0 (n+1) f fd ps (spD K S):=by
 refine F.ok Sc (λvs H Q E h=>?_) (λcdv A outer s H vs Q E hr h=>?_)
 ·obtain⟨L,ds,k,h1,h2,_⟩:=h
  rw[h1.length]
  exact len ds k h2
 ·obtain⟨L,ds,k,h1,h2,h3⟩:=h
  obtain⟨m,⟨t,A1,s1⟩,q⟩:=hbody cdv A outer s H E hr
  refine⟨t,A1,s1 ⟨H,λ_=>False,L,V3 N vs⟩ H _ _ _ _ (Zy0 k) _ (Rel.entry h1) (q ds k h2) ⟨λH' σ' δ' fp' R _ hk=>?_,λ_ _ _ _ _ _ z=>z.elim,λ_ _ _ _ _ _ z=>z.elim,λH' σ' v r δ' fp' new R o nd hn hk=>?_⟩⟩
  ·exact h3 _ .non H' [] hk (λb o e=>R.fr b o e id) (.fz .non) .nil λa m=>nomatch m
  ·refine h3 r v H' new hk (λb o e=>R.fr b o e id) (o.wide λa l _=>⟨?_,λz=>l.2.1 (.inr z)⟩) nd hn
   exact l.2.2
theorem Rel.entryI{v0:V}{t0:OT}{as:List Addr}(o:Own G H L v0 t0 as)(nd:as.Nodup)(hL:∀a∈as,¬L a)(h:Das G H L vs ds) :
  Rel (G:=G) ⟨H,λa=>a∈as,L,V3 N (v0 :: vs)⟩ [0] H (V3 N (v0 :: vs)) (Zhq N t0 ds) (λi=>if i=0 then as else[]) (λ_=>False):=by
 have lw:∀a,L a->H a≠none->Lf (G:=G) ⟨H,λa=>a∈as,L,L2.V3 N (v0 :: vs)⟩ (λi=>if i=0 then as else[]) (λ_=>False) a:=λa l _=>⟨λq91=>by
  obtain⟨i,z⟩:=q91
  dsimp only at z
  split at z
  ·exact hL a z l
  ·exact(nomatch z),λz=>z,.inl l⟩
 have sub:∀i a,a∈(if i=0 then as else[])->i=0∧a∈as:=λi a m=>by
  split at m
  ·exact⟨by assumption,m⟩
  ·exact nomatch m
 refine⟨?_,λi t e=>?_,λi h=>?_,λi=>?_,λi j a m m'=>(sub i a m).1.trans (sub j a m').1.symm,λi a m z=>z,λa z=>z.elim,λb o e _=>e,λb e=>e,λi a m=>.inl ⟨by rw[(sub i a m).1];exact XC.mpr rfl,(sub i a m).2⟩,λi _=>rfl⟩
 ·unfold L2.V3 L2.Zhq
  simp[h.length]
 ·cases i with
  | zero=>
   have e':t0=t:=by
    unfold L2.Zhq at e
    simpa using e
   subst e'
   exact⟨v0,rfl,o.wide lw⟩
  | succ i=>
   have e':(ds.map (λd=>some (.fz d)) ++ Xz (N.length-(ds.length+1)) none:Zg)[i]? =some (some t):=e
   obtain⟨d,e2,rfl⟩:=Zmf e'
   obtain⟨x,e1,q⟩:=h.get e2
   refine⟨x,?_,.fz (q.wide lw)⟩
   show(vs.map some ++ _)[i]? =_
   rw[Vg (by rw[Xg];exact(Xk.mp e1).1),Xm,e1]
   rfl
 ·split
  ·subst i
   exact absurd rfl (h t0)
  ·rfl
 ·split
  ·exact nd
  ·exact .nil
noncomputable def Zqa(k:OT->OT->Prop):Zgt:={ nx:=λδ=>match δ[0]? with|some (some t)=>k (.fz .none) t|_=>False,rt:=λr δ=>match δ[0]? with|some (some t)=>k r t|_=>False }
theorem Fun.okI{x qual:Str}{st:Stmt}{f:Addr}{fd:Xp}{N ps:List Str}{n:Nat}{S:OT->List Xa->(OT->OT->Prop)->Prop}(F:Fun K x qual st f fd)(Sc:Zo N ps (Zj st))(len:∀t ds k,S t ds k->ds.length+1=ps.length)
  (hbody:∀(cdv:Xc) (A:Qk) (outer:List Env) (s:Xd) (H:Hp) (E:XK),Room n (A.deeper (Vw qual (Zj st) s.heap.objs.size f cdv)) ->
   ∃m,MSs (Zox CX0 P w K mg base N qual (Zj st) f cdv A outer s H E).nox [0] (Jf st) m∧∀t ds k,S t ds k->m (Zqa k) (Zhq N t ds)):FnOk P w K mg base CX0 (n+1) f fd ps (spI K S):=by
 refine F.ok Sc (λvs H Q E h=>?_) (λcdv A outer s H vs Q E hr h=>?_)
 ·obtain⟨L,v0,t0,as,vs',ds,k,rfl,_,_,_,h1,h2,_⟩:=h
  rw[Bw,h1.length]
  exact len t0 ds k h2
 ·obtain⟨L,v0,t0,as,vs',ds,k,rfl,o0,nd0,hL,h1,h2,h3⟩:=h
  obtain⟨m,⟨t,A1,s1⟩,q⟩:=hbody cdv A outer s H E hr
  have fin:∀H' σ' v r δ' fp' new,Rel (G:=K) ⟨H,λa=>a∈as,L,L2.V3 N (v0 :: vs')⟩ [0] H' σ' δ' fp' (exu (λ_=>False) new)->Own K H' (Lf (G:=K) ⟨H,λa=>a∈as,L,L2.V3 N (v0 :: vs')⟩ fp' (exu (λ_=>False) new)) v r new->new.Nodup->(∀a∈new,H a=none) ->
    (match δ'[0]? with|some (some t)=>k r t|_=>False)->Q v H':=by
   intro H' σ' v r δ' fp' new R o nd hn hk
   split at hk
   case h_2=>exact hk.elim
   rename_i t' e'
   obtain⟨u,eu,ou⟩:=R.own 0 t' e'
   have hio:=R.io 0 (by simp)
   rw[eu]at hio
   have:u=v0:=by
    have e2:(L2.V3 N (v0 :: vs'))[0]? =some (some v0):=rfl
    have hio':some (some u)=(L2.V3 N (v0 :: vs'))[0]?:=hio
    rw[e2]at hio'
    cases hio';rfl
   subst this
   refine h3 r t' v H' new (fp' 0) hk (λb ob e nb=>R.fr b ob e nb) (λb e=>R.al b e) (o.wide λa l _=>⟨l.2.2,λz=>l.2.1 (.inr z),λz=>l.1 ⟨0,z⟩⟩) (ou.wide λa l _=>⟨l.2.2,λz=>l.2.1 (.inr z),λz=>l.1 ⟨0,z⟩⟩) ?_ hn λa m=>?_
   ·exact QQ.mpr ⟨R.nd 0,nd,λa m b m' z=>by subst z;exact R.dx 0 a m (.inr m')⟩
   ·rcases R.new 0 a m with z|z
    ·exact .inl z.2
    ·exact .inr z
  refine⟨t,A1,s1 ⟨H,λa=>a∈as,L,L2.V3 N (v0 :: vs')⟩ H _ _ _ _ (Zqa k) _ (Rel.entryI o0 nd0 hL h1) (q t0 ds k h2) ⟨λH' σ' δ' fp' R _ hk=>?_,λ_ _ _ _ _ _ z=>z.elim,λ_ _ _ _ _ _ z=>z.elim,λH' σ' v r δ' fp' new R o nd hn hk=>fin H' σ' v r δ' fp' new R o nd hn hk⟩⟩
  exact fin H' σ' .non (.fz .none) δ' fp' [] (R.drop λa z=>Zbv.mp z) (.fz .non) .nil (λa m=>nomatch m) hk
end
noncomputable abbrev MGt:=Xa->Zg->(Zg->Prop)->Prop
noncomputable abbrev Zrw:=List Xa->Zg->(Zg->Prop)->Prop
noncomputable def SG(G:Xb)(io:List Nat)(c:Bool)(t:TG)(g:MGt):Prop:=∀(C:MC G) (H:Hp) (σ:St) (δ:Zg) (fp:Fp) (ex:Addr->Prop) (v:V) (d:Xa) (k:Zg->Prop) (Q:St->Hp->Prop),Rel C io H σ δ fp ex->Da G H (λa=>c=true->Lf C fp ex a) v d->g d δ k ->
 (∀ σ' δ' fp',Rel C io H σ' δ' fp' ex->Kp H fp H fp'->k δ'->Q σ' H)->t v σ H Q
noncomputable def SGs(G:Xb)(io:List Nat)(c:Bool)(t:TGs)(g:Zrw):Prop:=∀(C:MC G) (H:Hp) (σ:St) (δ:Zg) (fp:Fp) (ex:Addr->Prop) (v:List V) (d:List Xa) (k:Zg->Prop) (Q:St->Hp->Prop),Rel C io H σ δ fp ex->Das G H (λa=>c=true->Lf C fp ex a) v d->g d δ k ->
 (∀ σ' δ' fp',Rel C io H σ' δ' fp' ex->Kp H fp H fp'->k δ'->Q σ' H)->t v σ H Q
noncomputable def MG(X:Cx)(io:List Nat)(c:Bool)(tg:Expr)(g:MGt):Prop:=∃t,PG X tg t∧SG X.K io c t g
noncomputable def MGs(X:Cx)(io:List Nat)(c:Bool)(tg:List Expr)(g:Zrw):Prop:=∃t,PGs X tg t∧SGs X.K io c t g
section
variable {X:Cx}{io:List Nat}{c:Bool}{pos:Pos}{i:Nat}{x:Str}
noncomputable def dName(i:Nat):MGt:=λd δ k=>k (δ.set i (some (.fz d)))
noncomputable def Zxb(i:Nat):MGt:=λd δ k=>Zb3 d=true∧k (δ.set i (some (.fz d)))
theorem Rel.putD{C:MC G}{H:Hp}{σ:St}{δ:Zg}{fp:Fp}{ex:Addr->Prop}{v:V}{d:Xa}(R:Rel C io H σ δ fp ex)(hio:i∉io)(q:Da G H (Lf C fp ex) v d) :
  ∃fp',Rel C io H (σ.set i (some v)) (δ.set i (some (.fz d))) fp' ex∧Kp H fp H fp':=by
 obtain⟨fp',R',g⟩:=(R.drop λa z=>Zbv.mp z).put (new:=[]) hio (.fz (q.wide λa l _=>⟨l.1,λz=>l.2.1 (Zbv.mp z),l.2.2⟩)) .nil (λa m=>nomatch m)
 exact⟨fp',R',λb o e _=>e,λz=>(nomatch z),λa z=>(g a z).imp id λz=>(nomatch z),λb e=>e⟩
theorem Z0a(hN:X.N.Nodup)(hi:X.N[i]? =some x:=by rfl)(hx:Loc X.env.scope x:=by first|exact Qo rfl|exact Qg rfl)(hio:i∉io:=by decide)(hf:X.fn x=true∨X.env.scope.names.lookup x=some .local:=by first|exact .inl rfl|exact .inr rfl|assumption):MG X io true (.Name x pos) (dName i) :=
 ⟨_,Zqt hN hi hx hf,λC H σ δ fp ex v d k Q R q h kk=>by
  obtain⟨fp',R',k'⟩:=R.putD hio (q.wide λa l _=>l rfl)
  exact kk _ _ fp' R' k' h⟩
theorem Zot(hN:X.N.Nodup)(hi:X.N[i]? =some x:=by rfl)(hx:Loc X.env.scope x:=by first|exact Qo rfl|exact Qg rfl)(hio:i∉io:=by decide)(hf:X.fn x=true∨X.env.scope.names.lookup x=some .local:=by first|exact .inl rfl|exact .inr rfl|assumption):MG X io c (.Name x pos) (Zxb i) :=
 ⟨_,Zqt hN hi hx hf,λC H σ δ fp ex v d k Q R q h kk=>by
  obtain⟨fp',R',k'⟩:=R.putD hio (q.flat h.1)
  exact kk _ _ fp' R' k' h.2⟩
noncomputable def Ydj:Zrw:=λds δ k=>ds=[]∧k δ
noncomputable def Zy4(g:MGt)(gs:Zrw):Zrw:=λds δ k=>match ds with|d :: r=>g d δ λδ'=>gs r δ' k|[]=>False
theorem Zrl:MGs X io c [] Ydj:=⟨_,Z0n,λC H σ δ fp ex v d k Q R q h kk=>by
 obtain⟨rfl,h⟩:=h
 cases q
 exact⟨rfl,kk σ δ fp R (.refl _ _) h⟩⟩
theorem Rel.kp_das{C:MC G}{H H':Hp}{σ:St}{δ:Zg}{fp fp':Fp}{ex:Addr->Prop}{vs:List V}{ds:List Xa}(R:Rel C io H σ δ fp ex)(S:Kp H fp H' fp')(h:Das G H (Lf C fp ex) vs ds):Das G H' (Lf C fp' ex) vs ds:=by
 have S':Stp false H δ fp H' δ fp':=⟨S.keep,λz=>(nomatch z),S.grow,S.al⟩
 obtain⟨f1,f2⟩:=R.frameL (c:=true) (ex':=ex) S' (.inr rfl) λa z=>.inl z
 exact h.frame (λa xs l q=>⟨(f1 a xs (λ_=>l) q).1 rfl,(f1 a xs (λ_=>l) q).2⟩) f2
theorem Zpb{e:Expr}{es:List Expr}{g:MGt}{gs:Zrw}(h1:MG X io true e g)(h2:MGs X io true es gs)
  (hs:(QT (e :: es) X.env).map (·.2)=Vx e X.env :: (QT es X.env).map (·.2):=by rfl):MGs X io true (e :: es) (Zy4 g gs):=by
 obtain⟨_,A,s⟩:=h1
 obtain⟨_,B,s'⟩:=h2
 exact⟨_,Zo3 A B hs,λC H σ δ fp ex v d k Q R q h kk=>by
  cases q with
  | nil=>exact h.elim
  | cons q qs=>
   refine⟨_,_,rfl,s C H σ δ fp ex _ _ _ _ R q h λσ1 δ1 fp1 R1 k1 h1=>?_⟩
   exact s' C H σ1 δ1 fp1 ex _ _ _ _ R1 ((R.kp_das k1 (qs.wide λa l _=>l rfl)).wide λa l _ _=>l) h1 λσ2 δ2 fp2 R2 k2 h2=>kk σ2 δ2 fp2 R2 (k1.trans k2) h2⟩
theorem Zlq{e:Expr}{es:List Expr}{g:MGt}{gs:Zrw}(h1:MG X io false e g)(h2:MGs X io false es gs)
  (hs:(QT (e :: es) X.env).map (·.2)=Vx e X.env :: (QT es X.env).map (·.2):=by rfl):MGs X io false (e :: es) (Zy4 g gs):=by
 obtain⟨_,A,s⟩:=h1
 obtain⟨_,B,s'⟩:=h2
 exact⟨_,Zo3 A B hs,λC H σ δ fp ex v d k Q R q h kk=>by
  cases q with
  | nil=>exact h.elim
  | cons q qs=>
   refine⟨_,_,rfl,s C H σ δ fp ex _ _ _ _ R (q.wide λa _ _ z=>nomatch z) h λσ1 δ1 fp1 R1 k1 h1=>?_⟩
   exact s' C H σ1 δ1 fp1 ex _ _ _ _ R1 (qs.wide λa _ _ z=>nomatch z) h1 λσ2 δ2 fp2 R2 k2 h2=>kk σ2 δ2 fp2 R2 (k1.trans k2) h2⟩
noncomputable def dTup(n:Nat)(gs:Zrw):MGt:=λd δ k=>match d with| .tuple ds=>ds.length=n∧gs ds δ k|_=>False
theorem Zyi{es:List Expr}{k:Nat}{gs:Zrw}{n:Nat}(hc:X.calm=true)(h:MGs X io c es gs)
  (hn:(QT es X.env).length=n:=by rfl) (hst:(QT es X.env).findIdx? (·.1)=none:=by rfl):MG X io c (.Tuple es k pos) (dTup n gs):=by
 obtain⟨_,A,s⟩:=h
 exact⟨_,Z37 hc A hn hst,λC H σ δ fp ex v d k Q R q h kk=>by
  cases q with
  | tup e qs=>exact⟨_,_,rfl,.inl (.inl e),by rw[qs.length];exact h.1,s C H σ δ fp ex _ _ _ _ R qs h.2 kk⟩
  | _=>exact h.elim⟩
end
variable {G:Xb}
noncomputable def IterOk(C:MC G)(fp:Fp)(ex:Addr->Prop)(H1:Hp)(c:Bool)(J:It)(ds:List Xa):Prop:=∀H':Hp,(∀b o,H1 b=some o->(c=false∨¬Foot fp b)->H' b=some o)->∀i:Nat,
 (∀ d,ds[i]? =some d->J.go i H'∧∀x H'',J.yld i H' x H''->Same H' H''∧Da G H'' (λa=>c=true->(Lf C fp ex a∧H1 a≠none)) x d)∧(ds[i]? =none->J.stop i H')
noncomputable abbrev MIt:=Zg->(List Xa->Zg->Prop)->Prop
noncomputable def SI(G:Xb)(io:List Nat)(p c:Bool)(t:TI)(m:MIt):Prop:=∀(C:MC G) (H:Hp) (σ:St) (δ:Zg) (fp:Fp) (ex:Addr->Prop) (K:List Xa->Zg->Prop) (Q:It->Hp->Prop),Rel C io H σ δ fp ex->m δ K ->
 (∀ J H1 ds δ1 fp1,Rel C io H1 σ δ1 fp1 ex->Stp p H δ fp H1 δ1 fp1->IterOk C fp1 ex H1 c J ds->K ds δ1->Q J H1)->t σ H Q
noncomputable def MI(X:Cx)(io:List Nat)(p c:Bool)(tg iter:Expr)(m:MIt):Prop:=∃t,PI X tg iter t∧SI X.K io p c t m
section
variable {X:Cx}{io:List Nat}{p c:Bool}{e a b tg:Expr}{m:MEt}{mr:MAt}{K:Xb}
noncomputable def iL(m:MEt):MIt:=λδ K=>m δ λr δ'=>match r.data with| .list ds=>K ds δ'|_=>False
theorem Rel.kept{C:MC G}{H H':Hp}{σ:St}{δ:Zg}{fp:Fp}{ex:Addr->Prop}(R:Rel C io H σ δ fp ex)(kp:∀b o,H b=some o->(c=false∨¬Foot fp b)->H' b=some o) :
  (∀ a (xs:MuO),(c=true->Lf C fp ex a)->Rd H a xs.ho->(c=true->(Lf C fp ex a∧H a≠none))∧Rd H' a xs.ho)∧(∀a (xs:ImO),H a=some xs.ho->H' a=some xs.ho):=by
 refine⟨λa xs l q=>⟨λhc=>⟨l hc,q.some⟩,?_⟩,λa xs q=>kp a _ q (.inr λz=>?_)⟩
 ·have hk:c=false∨¬Foot fp a:=by
   cases c with
   | false=>exact .inl rfl
   | true=>exact .inr (l rfl).1
  rcases q with q|⟨o,q⟩
  ·exact .inl (kp a _ q hk)
  ·exact .inr ⟨o,kp a _ q hk⟩
 ·obtain⟨ys,e⟩:=R.foot z
  exact ImO.nm q e
theorem Zzf(h:ME X io p c e m):MI X io p c tg e (iL m):=by
 obtain⟨_,A,s⟩:=h
 exact⟨_,Zwt rfl A,λC H σ δ fp ex K' Q R h kk=>s C H σ δ fp ex _ _ R h λH1 v r δ1 fp1 new r1 h1=>by
  have q:=r1.da R
  generalize r.data=d at q h1
  cases q with
  | lst l e qs=>
   refine⟨_,rfl,⟨_,.inl e⟩,kk _ H1 _ δ1 fp1 r1.base r1.stp (λH' kp i=>?_) h1⟩
   obtain⟨f1,f2⟩:=r1.base.kept kp
   have e':=(f1 _ (.lst _) l e).2
   have qs':=qs.frame f1 f2
   refine⟨λd hd=>?_,λhd=>?_⟩
   ·obtain⟨x,hx,qx⟩:=qs'.get hd
    refine⟨⟨_,x,.inl e',hx⟩,λy H'' hy=>?_⟩
    obtain⟨rfl,hy⟩:=hy
    have:=hy _ (.inl e')
    rw[hx]at this
    cases this
    exact⟨Same.refl _,qx⟩
   ·exact⟨_,.inl e',by rw[qs'.length];exact QR.mp hd⟩
  | scr ks=>
   refine⟨_,rfl,⟨_,ks.sq⟩,kk _ H1 _ δ1 fp1 r1.base r1.stp (λH' kp i=>?_) h1⟩
   refine⟨λd hd=>?_,λhd=>?_⟩
   ·obtain⟨x,hx,qx⟩:=(Das.ints (G:=X.K) (H:=H') (L:=λa=>c=true->(Lf C fp1 ex a∧H1 a≠none)) _).get hd
    refine⟨⟨_,x,ks.sq,hx⟩,λy H'' hy=>?_⟩
    obtain⟨rfl,hy⟩:=hy
    have:=hy _ ks.sq
    rw[hx]at this
    cases this
    exact⟨Same.refl _,qx⟩
   ·refine⟨_,ks.sq,?_⟩
    have:=QR.mp hd
    simpa using this
  | _=>exact h1.elim⟩
noncomputable def Zd4(lo:Int)(n:Nat):List Xa:=(Xj n).map λ(i:Nat)=>Xo (lo+(i:Int))
@[simp] theorem Y0(lo:Int)(n:Nat):(Zd4 lo n).length=n:=by simp[Zd4]
theorem Wh{lo:Int}{n i:Nat}{d:Xa}(h:(Zd4 lo n)[i]? =some d):i<n∧d= .int (lo+i):=by
 have hi:i<n:=by
  have:=(Xk.mp h).1
  simpa using this
 unfold Zd4 at h
 rw[Xm,QB hi]at h
 cases h
 exact⟨hi,rfl⟩
theorem Zov{C:MC G}{fp:Fp}{ex:Addr->Prop}{H1:Hp}{lo:Int}{n:Nat}:IterOk C fp ex H1 true (Itr lo n) (Zd4 lo n):=λH' _ i=>by
 refine⟨λd hd=>?_,λhd=>?_⟩
 ·obtain⟨hi,rfl⟩:=Wh hd
  refine⟨hi,λx H'' hy=>?_⟩
  obtain⟨rfl,rfl⟩:=hy
  exact⟨Same.refl _,.int _⟩
 ·have:=QR.mp hd
  show n≤i
  simpa using this
noncomputable def iR1(mr:MAt):MIt:=λδ K=>mr δ λrs δ'=>match OT.datas rs with|[.int j]=>(-(2^62)≤j∧j<2^62)∧K (Zd4 0 j.toNat) δ'|_=>False
noncomputable def iR2(mr:MAt):MIt:=λδ K=>mr δ λrs δ'=>match OT.datas rs with|[.int i,.int j]=>(-(2^62)≤i∧i<2^62∧-(2^62)≤j∧j<2^62)∧K (Zd4 i (j-i).toNat) δ'|_=>False
theorem Zw{p' pos:Pos}(hg:Gl X "range")(hm:X.mg "range"=none)(ha:MA X io p c [a] mr)(hs:Xh [a] X.env=[(false,eval a X.env)]:=by rfl):MI X io p true tg (.Call (.Name "range" p') [a] [] pos) (iR1 mr):=by
 obtain⟨_,A,s⟩:=ha
 exact⟨_,Zub hg hm A hs,λC H σ δ fp ex K' Q R h kk=>s C H σ δ fp ex _ _ R h λH1 vs rs δ1 fp1 new r1 h1=>by
  have q:=r1.das R
  generalize OT.datas rs=d at q h1
  split at h1
  case h_2=>exact h1.elim
  cases q with
  | cons q1 q2=>
   cases q1
   cases q2
   exact⟨_,rfl,h1.1.1,h1.1.2,kk _ H1 _ δ1 fp1 r1.base r1.stp Zov h1.2⟩⟩
theorem Zkz{p' pos:Pos}(hg:Gl X "range")(hm:X.mg "range"=none)(ha:MA X io p c [a,b] mr)(hs:Xh [a,b] X.env=[(false,eval a X.env),(false,eval b X.env)]:=by rfl)(hs2:Xh [b] X.env=[(false,eval b X.env)]:=by rfl):MI X io p true tg (.Call (.Name "range" p') [a,b] [] pos) (iR2 mr):=by
 obtain⟨_,A,s⟩:=ha
 exact⟨_,Zrk hg hm A hs hs2,λC H σ δ fp ex K' Q R h kk=>s C H σ δ fp ex _ _ R h λH1 vs rs δ1 fp1 new r1 h1=>by
  have q:=r1.das R
  generalize OT.datas rs=d at q h1
  split at h1
  case h_2=>exact h1.elim
  cases q with
  | cons q1 q2=>
   cases q1
   cases q2 with
   | cons q2 q3=>
    cases q2
    cases q3
    exact⟨_,_,rfl,h1.1,kk _ H1 _ δ1 fp1 r1.base r1.stp Zov h1.2⟩⟩
theorem IterOk.at{C:MC G}{fp fp':Fp}{ex:Addr->Prop}{H1 H' H'':Hp}{J:It}{ds:List Xa}{x:V}{d:Xa}(g:∀a,Foot fp' a->Foot fp a∨H1 a=none)(h:Da G H'' (λa=>true=true->(Lf C fp ex a∧H1 a≠none)) x d):Da G H'' (λa=>true=true->Lf C fp' ex a) x d :=
 h.wide λa l _ z=>⟨λw=>(g a w).elim (l z).1.1 (l z).2,(l z).1.2.1,(l z).1.2.2⟩
noncomputable def Z92(ds:List Xa)(g:MGt)(u:MSt)(D:Zgt)(δ1:Zg):Prop:=∃I:Nat->Zg->Prop,I 0 δ1∧(∀(i:Nat) (d:Xa) (δ':Zg),ds[i]? =some d->I i δ'->g d δ' λδ2=>u { D with nx:=I (i+1),ct:=I (i+1),bk:=D.nx } δ2)∧∀δ',I ds.length δ'->D.nx δ'
noncomputable def Ybz(mi:MIt)(g:MGt)(u:MSt):MSt:=λD δ=>mi δ λds δ1=>Z92 ds g u D δ1
theorem Rel.mk0{C:MC G}{H H':Hp}{σ:St}{δ:Zg}{fp:Fp}{ex:Addr->Prop}(R:Rel C io H σ δ fp ex)(s:Same H H'):Rel C io H' σ δ fp ex:=(R.made (new:=[]) s λa m=>nomatch m).drop λa z=>.inl z
theorem Z40{iter:Expr}{body:List Stmt}{mi:MIt}{g:MGt}{u:MSt}{pos:Pos}(hp:PassesOwn (X7 X.prog X.w) X.A X.env X.xe)(hc:X.calm=true)(hi:MI X io p true tg iter mi)(hg:MG X io true tg g)(hb:MSs X io body u)
  (hs:∀x,Bu iter X.env x=pure x:=by intro _;rfl):MS X io (.For tg iter body [] pos) (Ybz mi g u):=by
 obtain⟨_,A,s⟩:=hi
 obtain⟨_,G,sg⟩:=hg
 obtain⟨_,B,sb⟩:=hb
 refine⟨_,Z27 hp hc A G B hs,λC H σ δ fp ex D D' R h E=>s C H σ δ fp ex _ _ R h λJ H1 ds δ1 fp1 R1 S1 it h1=>?_⟩
 obtain⟨I,h0,turn,fin⟩:=h1
 refine⟨λi n σ' H'=>n=ds.length-i∧i≤ds.length∧∃δ' fp',Rel C io H' σ' δ' fp' ex∧Kp H1 fp1 H' fp'∧I i δ',⟨ds.length,rfl,Bh _,δ1,fp1,R1,.refl _ _,h0⟩,?_⟩
 rintro i n σ2 H2 ⟨rfl,hle,δ2,fp2,R2,k2,i2⟩
 have itk:=it H2 (λb o e q=>k2.keep b o e (.inr (q.resolve_left (by decide)))) i
 by_cases hlt:i<ds.length
 ·have hd:ds[i]? =some ds[i]:=XJ hlt
  obtain⟨go,yl⟩:=itk.1 _ hd
  refine .inr ⟨go,λσ' H'=>∃δ' fp',Rel C io H' σ' δ' fp' ex∧Kp H1 fp1 H' fp'∧I (i+1) δ',λσ' H' ⟨δ',fp',R',k',i'⟩=>⟨ds.length-(i+1),by omega,rfl,hlt,δ',fp',R',k',i'⟩,λx H3 hy=>?_⟩
  obtain⟨s3,q3⟩:=yl x H3 hy
  have R3:=R2.mk0 s3
  have k3:Kp H1 fp1 H3 fp2:=k2.trans ⟨λb o e _=>s3 _ _ e,λz=>(nomatch z),λa z=>.inl z,s3.al⟩
  refine sg C H3 σ2 δ2 fp2 ex x _ _ _ R3 (IterOk.at (H':=H2) (J:=J) (ds:=ds) k2.grow q3) (turn i _ δ2 hd i2) λσ4 δ4 fp4 R4 k4 h4=>?_
  have k5:=k3.trans k4
  refine sb C H3 σ4 δ4 fp4 ex _ _ R4 h4 ⟨λH' σ' δ' fp' R' k' n'=>⟨δ',fp',R',k5.trans k',n'⟩,λH' σ' δ' fp' R' k' n'=>E.nx H' σ' δ' fp' R' (S1.kp.trans (k5.trans k')) n',λH' σ' δ' fp' R' k' n'=>⟨δ',fp',R',k5.trans k',n'⟩,E.rt⟩
 ·have e:i=ds.length:=by omega
  subst e
  exact .inl ⟨itk.2 (by simp),E.nx H2 σ2 δ2 fp2 R2 (S1.kp.trans k2) (fin δ2 i2)⟩
end
noncomputable def gM(G:Xb)(io:List Nat)(c:Bool)(g:MGt):TG:=λv σ H Q=>∃(C:MC G) (δ:Zg) (fp:Fp) (ex:Addr->Prop) (d:Xa) (k:Zg->Prop),Rel C io H σ δ fp ex∧Da G H (λa=>c=true->Lf C fp ex a) v d∧g d δ k∧
 ∀σ' δ' fp',Rel C io H σ' δ' fp' ex->Kp H fp H fp'->k δ'->Q σ' H
noncomputable def tM(G:Xb)(io:List Nat)(p c:Bool)(m:MEt):TE:=λσ H Q=>∃(C:MC G) (δ:Zg) (fp:Fp) (ex:Addr->Prop) (K:OT->Zg->Prop),Rel C io H σ δ fp ex∧m δ K∧∀H' v r δ' fp' new,RE C io p c H σ δ fp ex H' v r δ' fp' new->K r δ'->Q v H'
noncomputable def ttM(G:Xb)(io:List Nat)(p:Bool)(m:MTt):TT:=λσ H Q=>∃(C:MC G) (δ:Zg) (fp:Fp) (ex:Addr->Prop) (K:Bool->Zg->Prop),Rel C io H σ δ fp ex∧m δ K∧∀H' b δ' fp',Rel C io H' σ δ' fp' ex->Stp p H δ fp H' δ' fp'->K b δ'->Q b H'
noncomputable def MIfs(X:Cx)(io:List Nat)(p:Bool)(ifs:List Expr)(m:MTt):Prop:=∃t,Zze X ifs t∧STt X.K io p t m
section
variable {X:Cx}{io:List Nat}{p c:Bool}{e tg:Expr}{m:MEt}{mt:MTt}{g:MGt}{ifs:List Expr}
theorem MG.canon(h:MG X io c tg g):PG X tg (gM X.K io c g):=by
 obtain⟨t,A,s⟩:=h
 rintro pins sh σ H v u Q I r ⟨C,δ,fp,ex,d,k,R,q,h,kk⟩
 exact A pins sh σ H v u Q I r (s C H σ δ fp ex v d k Q R q h kk)
theorem ME.canon(h:ME X io p c e m):PE X e (tM X.K io p c m):=by
 obtain⟨t,A,s⟩:=h
 rintro pins sh σ H Q I ⟨C,δ,fp,ex,K,R,h,kk⟩
 exact A pins sh σ H Q I (s C H σ δ fp ex K Q R h kk)
theorem MIfs.canon(h:MIfs X io p ifs mt):Zze X ifs (ttM X.K io p mt):=by
 obtain⟨t,A,s⟩:=h
 rintro pins sh σ H Q I ⟨C,δ,fp,ex,K,R,h,kk⟩
 exact A pins sh σ H Q I (s C H σ δ fp ex K Q R h kk)
noncomputable def Z6u:MTt:=λδ K=>K true δ
theorem Zac:MIfs X io true [] Z6u:=⟨_,Zzh,λC H σ δ fp ex K Q R h kk=>kk H true δ fp R (.refl _ _ _ _) h⟩
theorem Zka{cnd:Expr}(h:MT X io p cnd mt):MIfs X io p [cnd] mt:=by
 obtain⟨_,A,s⟩:=h
 exact⟨_,Z06 A,s⟩
end
variable {G:Xb}
noncomputable def blk(n:Nat)(caps:List Nat)(δ:Zg):Zg:=Xz n none ++ caps.map λi=>(δ[i]?).getD none
noncomputable def J6(n:Nat)(caps:List Nat)(fp:Fp):Fp:=λk=>if k<n then[]else match caps[k-n]? with|some i=>fp i|none=>[]
noncomputable def Zc8(n:Nat)(caps:List Nat):List Nat:=(Xj caps.length).map (·+n)
noncomputable def Zxi(C:MC G)(H1:Hp)(fp:Fp)(σ0:St):MC G:=⟨H1,Foot fp,λa=>(C.L a∨C.H₀ a=none)∧¬Foot fp a,σ0⟩
noncomputable def Zgu(ex:Addr->Prop)(D:Addr)(fp fpb:Fp)(a:Addr):Prop:=ex a∨a=D∨(Foot fp a∧¬Foot fpb a)
section
variable {C:MC G}{io:List Nat}{H1 H':Hp}{σ:St}{δ:Zg}{fp:Fp}{ex:Addr->Prop}{own:List Str}{caps:List Nat}{D:Addr}{n:Nat}
theorem Zd5{k:Nat}{a:Addr}(h:a∈J6 n caps fp k):∃i,n≤k∧caps[k-n]? =some i∧a∈fp i:=by
 unfold J6 at h
 split at h
 ·exact nomatch h
 ·split at h
  ·rename_i i e
   exact⟨i,by omega,e,h⟩
  ·exact nomatch h
theorem Zvx{j i:Nat}(h:caps[j]? =some i):J6 n caps fp (n+j)=fp i:=by
 unfold J6
 rw[if_neg (by omega),show n+j-n=j by omega,h]
theorem Z5j{k:Nat}{t:OT}(h:(blk n caps δ)[k]? =some (some t)):∃i,n≤k∧caps[k-n]? =some i∧δ[i]? =some (some t):=by
 unfold blk at h
 rw[List.getElem?_append]at h
 split at h
 ·rw[Vn]at h
  split at h<;>cases h
 ·rename_i hk
  rw[VB]at hk h
  rw[Xm]at h
  cases e:caps[k-n]? with
  | none=>rw[e]at h;cases h
  | some i=>
   rw[e]at h
   refine⟨i,by omega,rfl,?_⟩
   simp only[Option.map_some]at h
   cases e2:δ[i]? with
   | none=>rw[e2]at h;cases h
   | some o=>
    rw[e2]at h
    simpa using h
theorem Rel.block(R:Rel C io H1 σ δ fp ex)(nd:caps.Nodup)(hD:H1 D=none) :
  Rel (Zxi C H1 fp (Zav own caps σ)) (Zc8 own.length caps) (upd H1 D (.lst [])) (Zav own caps σ) (blk own.length caps δ) (J6 own.length caps fp) (Zgu ex D fp (J6 own.length caps fp)):=by
 have s:=Ys hD (.lst [])
 have sub:∀a,Foot (J6 own.length caps fp) a->Foot fp a:=λa q91=>by
  obtain⟨k,z⟩:=q91
  obtain⟨i,_,_,z⟩:=Zd5 z
  exact⟨i,z⟩
 have neD:∀a,H1 a≠none->a≠D:=λa h z=>h (z▸hD)
 refine⟨by unfold Zav blk;simp,λk t e=>?_,λk h=>?_,λk=>?_,λk l a h1 h2=>?_,λk a h z=>?_,λa z=>?_,λb o e _=>s _ _ e,λb e=>s.free e,λk a h=>?_,λk _=>rfl⟩
 ·obtain⟨i,hk,e1,e2⟩:=Z5j e
  obtain⟨v,e3,o⟩:=R.own i t e2
  refine⟨v,?_,?_⟩
  ·unfold Zav
   rw[Bk (by simpa using hk),Xg,Xm,e1]
   simp[e3]
  ·have ef:J6 own.length caps fp k=fp i:=by
    have:=Zvx (n:=own.length) (fp:=fp) e1
    rwa[show own.length+(k-own.length)=k by omega]at this
   rw[ef]
   refine(o.wide λa l q=>⟨λz=>l.1 (sub a z),λz=>?_,.inl ⟨l.2.2,l.1⟩⟩).same s
   rcases z with z|z|z
   ·exact l.2.1 z
   ·exact neD a q z
   ·exact l.1 z.1
 ·unfold J6
  split
  ·rfl
  ·split
   ·rename_i i e1
    refine R.emp i λt z=>h t ?_
    unfold blk
    rw[Bk (by rw[VB];omega),VB,Xm,e1]
    simp[z]
   ·rfl
 ·unfold J6
  split
  ·exact .nil
  ·split
   ·exact R.nd _
   ·exact .nil
 ·obtain⟨i,hk,e1,m1⟩:=Zd5 h1
  obtain⟨j,hl,e2,m2⟩:=Zd5 h2
  have:=R.dj i j a m1 m2
  subst this
  have hlt:=(Xk.mp e1).1
  have:=(List.getElem?_inj hlt nd).mp (e1.trans e2.symm)
  omega
 ·obtain⟨i,hk,e1,m⟩:=Zd5 h
  rcases z with z|z|z
  ·exact R.dx i a m z
  ·exact R.footSome (z▸hD) ⟨i,m⟩
  ·exact z.2 ⟨k,h⟩
 ·rcases z with z|z|z
  ·intro q;exact R.xa a z (s.free q)
  ·subst z;rw[Z1];intro q;cases q
  ·obtain⟨xs,e⟩:=R.foot z.1
   rw[s _ _ e];intro q;cases q
 ·obtain⟨i,hk,e1,m⟩:=Zd5 h
  refine .inl ⟨?_,⟨i,m⟩⟩
  have:=(Xk.mp e1).1
  exact XQ.mpr ⟨k-own.length,by simpa using this,by omega⟩
theorem Z3q{σ0:St}{fp':Fp}{ex':Addr->Prop}{a:Addr}(hx:∀a,ex a->ex' a)(l:Lf (Zxi C H1 fp σ0) fp' ex' a):Lf C fp ex a∨H1 a=none:=by
 obtain⟨l1,l2,l3⟩:=l
 rcases l3 with l3|l3
 ·exact .inl ⟨l3.2,λz=>l2 (hx a z),l3.1⟩
 ·exact .inr l3
theorem Rel.poke(R:Rel C io H' σ δ fp ex){xs ys:List V}(hx:ex D)(hD:H' D=some (.lst xs))(h0:C.H₀ D=none):Rel C io (upd H' D (.lst ys)) σ δ fp ex:=by
 have nf:¬Foot fp D:=λ⟨i,z⟩=>R.dx i D z hx
 have kp:∀b o,b≠D->H' b=some o->upd H' D (.lst ys) b=some o:=λb o n e=>by rw[Zr n];exact e
 refine⟨R.len,λi t e=>?_,R.emp,R.nd,R.dj,R.dx,λa z=>?_,λb o e n=>?_,λb e=>?_,R.new,R.io⟩
 ·obtain⟨v,e1,o⟩:=R.own i t e
  refine⟨v,e1,o.frame (λa zs l q=>⟨l,?_⟩) (λa zs q=>kp a _ (λz=>?_) q) λa m zs q=>kp a _ (λz=>nf ⟨i,z▸m⟩) q⟩
  ·have na:a≠D:=λz=>l.2.1 (z▸hx)
   rcases q with q|⟨u,q⟩
   ·exact .inl (kp a _ na q)
   ·exact .inr ⟨u,kp a _ na q⟩
  ·exact ImO.nl q (z▸hD)
 ·by_cases e:a=D
  ·subst e;rw[Z1];intro q;cases q
  ·rw[Zr e];exact R.xa a z
 ·refine kp b o (λz=>?_) (R.fr b o e n)
  rw[z,h0]at e;cases e
 ·refine R.al b ?_
  by_cases q:b=D
  ·subst q;rw[Z1]at e;cases e
  ·rwa[Zr q]at e
theorem Owns.poke{L:Addr->Prop}{xs ys zs:List V}{rs:List OT}{as:List Addr}(o:Owns G H' L zs rs as)(hD:H' D=Bf (HO.lst xs))(hL:¬L D)(hn:D∉as):Owns G (upd H' D (.lst ys)) L zs rs as:=by
 refine o.frame (λa zs l q=>⟨l,?_⟩) (λa zs q=>?_) λa m zs q=>?_
 ·have na:a≠D:=λz=>hL (z▸l)
  rcases q with q|⟨u,q⟩
  ·exact .inl (by rw[Zr na];exact q)
  ·exact .inr ⟨u,by rw[Zr na];exact q⟩
 ·rw[Zr (λz=>ImO.nl q (z▸hD))];exact q
 ·have na:a≠D:=λz=>hn (by rw[←z];exact m)
  rw[Zr na];exact q
theorem Owns.snoc{L:Addr->Prop}{xs:List V}{rs:List OT}{as bs:List Addr}{x:V}{r:OT}(h:Owns G H' L xs rs as)(k:Own G H' L x r bs):Owns G H' L (xs ++ [x]) (rs ++ [r]) (as ++ bs) :=
 Owns.rec (motive_1:=λ_ _ _ _=>True) (motive_2:=λxs rs as _=>Owns G H' L (xs ++ [x]) (rs ++ [r]) (as ++ bs)) (λ_=>trivial) (λ_ _ _=>trivial) (λ_ _ _=>trivial) (λ_ _ _=>trivial) (by have:=Owns.cons k .nil;rwa[QL]at this) (λk _ _ ih=>by rw[Vb];exact .cons k ih) h
end
structure Zxl(C:MC G)(H1:Hp)(fp1:Fp)(ex:Addr->Prop)(n:Nat)(caps:List Nat)(σ0:St)(D:Addr)(pb:Bool)(H':Hp)(σ':St)(δ':Zg)(fp':Fp)(ys:List V)(rs:List OT)(new:List Addr):Prop where
 keep:∀b o,H1 b=some o->(pb=true∨¬Foot (J6 n caps fp1) b)->H' b=some o
 al:∀b,H' b=none->H1 b=none
 dat:H' D=some (.lst ys)
 rel:Rel (Zxi C H1 fp1 σ0) (Zc8 n caps) H' σ' δ' fp' (exu (Zgu ex D fp1 (J6 n caps fp1)) new)
 grow:∀a,Foot fp' a->Foot (J6 n caps fp1) a∨H1 a=none
 own:Owns G H' (λa=>true=true->Lf (Zxi C H1 fp1 σ0) fp' (exu (Zgu ex D fp1 (J6 n caps fp1)) new) a) ys rs new
 nd:new.Nodup
 fresh:∀a∈new,H1 a=none∧a≠D
section
variable {io:List Nat}{p c pt pe ci:Bool}{g:MGt}{mt:MTt}{me:MEt}{own:List Str}{caps:List Nat}
theorem Zqx{C:MC G}{H1:Hp}{σ:St}{δ1:Zg}{fp1:Fp}{ex:Addr->Prop}{J:It}{ds:List Xa}{D:Addr}{Qf:Hp->Prop}(I:Nat->List OT->Zg->Prop)(R1:Rel C io H1 σ δ1 fp1 ex)
  (it:∀H':Hp,(∀b o,H1 b=some o->((pt&&pe)=true∨¬Foot (J6 own.length caps fp1) b)->H' b=some o)->∀i:Nat,(∀d,ds[i]? =some d->J.go i H'∧∀x H'',J.yld i H' x H''->Same H' H''∧Da G H'' (λa=>ci=true->(Lf C fp1 ex a∧H1 a≠none)) x d)∧(ds[i]? =none->J.stop i H'))
  (nd:caps.Nodup) (hD:H1 D=none) (hz:ds.length≤Xq) (h0:I 0 [] (blk own.length caps δ1))
  (turn:∀(i:Nat) (d:Xa) (rs:List OT) (δ':Zg),ds[i]? =some d->I i rs δ'->g d δ' λδ2=>mt δ2 λb δ3=>if b=true then me δ3 λr δ4=>I (i+1) (rs ++ [r]) δ4 else I (i+1) rs δ3)
  (fin:∀H' σ' δ' fp' ys rs new,Zxl C H1 fp1 ex own.length caps (Zav own caps σ) D (pt&&pe) H' σ' δ' fp' ys rs new->I ds.length rs δ'->Qf H') :
  Z15 J (gM G (Zc8 own.length caps) ci g) (ttM G (Zc8 own.length caps) pt mt) (tM G (Zc8 own.length caps) pe true me) (Zav own caps σ) D Qf H1:=by
 have hx:Zgu ex D fp1 (J6 own.length caps fp1) D:=.inr (.inl rfl)
 refine⟨λi n σ' H'=>n=ds.length-i∧i≤ds.length∧∃rs ys new δ' fp',Zxl C H1 fp1 ex own.length caps (Zav own caps σ) D (pt&&pe) H' σ' δ' fp' ys rs new∧ys.length≤i∧I i rs δ',⟨ds.length,rfl,Bh _,[],[],[],_,_,⟨λb o e _=>Ys hD _ _ _ e,(Ys hD _).al,Z1,?_,λa z=>.inl z,.nil,.nil,λa m=>(nomatch m)⟩,Qn _,h0⟩,?_⟩
 ·exact(R1.block nd hD).drop λa z=>Zbv.mp z
 rintro i n σ2 H2 ⟨rfl,hle,rs,ys,new,δ2,fp2,B,hl,i2⟩
 have subB:∀b,Foot (J6 own.length caps fp1) b->Foot fp1 b:=λb q92=>by
  obtain⟨k,z⟩:=q92
  obtain⟨i,_,_,z⟩:=Zd5 z
  exact⟨i,z⟩
 have itk:=it H2 B.keep i
 by_cases hlt:i<ds.length
 case neg=>
  have e:i=ds.length:=by omega
  subst e
  exact .inl ⟨itk.2 (by simp),fin H2 σ2 δ2 fp2 ys rs new B i2⟩
 have hd:ds[i]? =some ds[i]:=XJ hlt
 obtain⟨go,yl⟩:=itk.1 _ hd
 refine .inr ⟨go,λx H3 hy=>?_⟩
 obtain⟨s3,q3⟩:=yl x H3 hy
 have R3:=B.rel.mk0 s3
 have D3:H3 D=some (.lst ys):=s3 _ _ B.dat
 -- the item,clean in the block
 have q3':Da G H3 (λa=>ci=true->Lf (Zxi C H1 fp1 (Zav own caps σ)) fp2 (exu (Zgu ex D fp1 (J6 own.length caps fp1)) new) a) x ds[i]:=by
  refine q3.wide λa l _ z=>?_
  obtain⟨⟨l1,l2,l3⟩,l4⟩:=l z
  refine⟨λw=>?_,λw=>?_,.inl ⟨l3,l1⟩⟩
  ·rcases B.grow a w with w|w
   ·exact l1 (subB a w)
   ·exact l4 w
  ·rcases w with(w|w|w)|w
   ·exact l2 w
   ·subst w;exact l4 hD
   ·exact l1 w.1
   ·exact l4 (B.fresh a w).1
 refine⟨_,δ2,fp2,_,_,_,R3,q3',turn i _ rs δ2 hd i2,λσ4 δ4 fp4 R4 k4 h4=>?_⟩
 refine⟨_,δ4,fp4,_,_,R4,h4,λH5 b δ5 fp5 R5 S5 h5=>?_⟩
 -- the state behind the test
 have keep5:∀b o,H1 b=some o->((pt&&pe)=true∨¬Foot (J6 own.length caps fp1) b)->H5 b=some o:=λb o e q=>by
  refine S5.keep b o (s3 _ _ (B.keep b o e q)) ?_
  rcases q with q|q
  ·rw[XN]at q;exact .inl q.1
  ·refine .inr λz=>?_
   rcases k4.grow b z with z|z
   ·rcases B.grow b z with z|z
    ·exact q z
    ·rw[e]at z;cases z
   ·rw[s3 _ _ (B.keep b o e (.inr q))]at z;cases z
 have al5:∀b,H5 b=none->H1 b=none:=λb e=>B.al b (s3.al b (S5.al b e))
 have grow4:∀a,Foot fp4 a->Foot (J6 own.length caps fp1) a∨H1 a=none:=λa z=>by
  rcases k4.grow a z with z|z
  ·exact B.grow a z
  ·exact .inr (B.al a (s3.al a z))
 have grow5:∀a,Foot fp5 a->Foot (J6 own.length caps fp1) a∨H1 a=none:=λa z=>by
  rcases S5.grow a z with z|z
  ·exact grow4 a z
  ·exact .inr (B.al a (s3.al a z))
 have D5:H5 D=some (.lst ys):=S5.keep D _ D3 (.inr λ⟨k,z⟩=>R4.dx k D z (.inl hx))
 have own3:=B.own.same s3
 -- the items so far behind the target and the test
 have own4:Owns G H3 (λa=>true=true->Lf (Zxi C H1 fp1 (Zav own caps σ)) fp4 (exu (Zgu ex D fp1 (J6 own.length caps fp1)) new) a) ys rs new:=by
  refine own3.wide λa l q z=>?_
  obtain⟨l1,l2,l3⟩:=l z
  exact⟨λw=>(k4.grow a w).elim l1 q,l2,l3⟩
 have own5:=R4.owns_step (ex':=exu (Zgu ex D fp1 (J6 own.length caps fp1)) new) S5 (c:=true) (.inr rfl) (λa z=>.inl z) (λa m=>.inr m) own4
 dsimp only at h5⊢
 cases b with
 | false=>
  rw[if_neg Xx]at h5⊢
  exact⟨ds.length-(i+1),by omega,rfl,hlt,rs,ys,new,δ5,fp5,⟨keep5,al5,D5,R5,grow5,own5,B.nd,B.fresh⟩,by omega,h5⟩
 | true=>
  rw[if_pos rfl]at h5⊢
  refine⟨_,δ5,fp5,_,_,R5,h5,λH6 v r δ6 fp6 nr r6 h6=>?_⟩
  have D6:H6 D=some (.lst ys):=r6.stp.keep D _ D5 (.inr λ⟨k,z⟩=>R5.dx k D z (.inl hx))
  have hDnr:D∉nr:=λz=>by
   have:=r6.fresh D z
   rw[D5]at this;cases this
  have own6:=R5.owns_step (ex':=exu (exu (Zgu ex D fp1 (J6 own.length caps fp1)) new) nr) r6.stp (c:=true) (.inr rfl) (λa z=>z.imp id λz=>r6.fresh a z) (λa m=>.inr m) own5
  have eqx:∀a,exu (Zgu ex D fp1 (J6 own.length caps fp1)) (new ++ nr) a->exu (exu (Zgu ex D fp1 (J6 own.length caps fp1)) new) nr a:=λa z=>by
   rcases z with z|z
   ·exact .inl (.inl z)
   ·rcases QC.mp z with z|z
    ·exact .inl (.inr z)
    ·exact .inr z
  have lw:∀a,(true=true->Lf (Zxi C H1 fp1 (Zav own caps σ)) fp6 (exu (exu (Zgu ex D fp1 (J6 own.length caps fp1)) new) nr) a)->H6 a≠none->(true=true->Lf (Zxi C H1 fp1 (Zav own caps σ)) fp6 (exu (Zgu ex D fp1 (J6 own.length caps fp1)) (new ++ nr)) a) :=
   λa l _ z=>⟨(l z).1,λw=>(l z).2.1 (eqx a w),(l z).2.2⟩
  have ownA:=(own6.snoc r6.own).wide lw
  refine⟨ys,D6,by omega,ds.length-(i+1),by omega,rfl,hlt,rs ++ [r],ys ++ [v],new ++ nr,δ6,fp6,⟨λb o e q=>?_,λb e=>?_,Z1,?_,λa z=>?_,?_,?_,λa m=>?_⟩,by rw[Qx];show ys.length+1≤i+1;omega,h6⟩
  ·have nD:b≠D:=λz=>by rw[z,hD]at e;cases e
   rw[Zr nD]
   refine r6.stp.keep b o (keep5 b o e q) ?_
   rcases q with q|q
   ·rw[XN]at q;exact .inl q.2
   ·refine .inr λz=>?_
    rcases grow5 b z with z|z
    ·exact q z
    ·rw[e]at z;cases z
  ·by_cases q:b=D
   ·subst q;rw[Z1]at e;cases e
   ·rw[Zr q]at e
    exact al5 b (r6.stp.al b e)
  ·exact(r6.rel.drop eqx).poke (.inl hx) D6 hD
  ·rcases r6.stp.grow a z with z|z
   ·exact grow5 a z
   ·exact .inr (al5 a z)
  ·exact ownA.poke D6 (λz=>(z rfl).2.1 (.inl hx)) (λm=>by
    rcases QC.mp m with m|m
    ·exact(B.fresh D m).2 rfl
    ·exact hDnr m)
  ·refine QQ.mpr ⟨B.nd,r6.nd,λa m b m' z=>?_⟩
   subst z
   obtain⟨xs,e⟩:=own5.some a m
   rw[r6.fresh a m']at e;cases e
  ·rcases QC.mp m with m|m
   ·exact B.fresh a m
   ·exact⟨al5 a (r6.fresh a m),λz=>hDnr (z▸m)⟩
end
variable {G:Xb}
section
variable {X:Cx}{io:List Nat}{p p' c pt pe ci:Bool}{g:MGt}{mt:MTt}{me m:MEt}{mi:MIt}{own:List Str}{caps:List Nat}{e:Expr}
noncomputable def Z3f(m:MEt):MEt:=λδ K=>m δ λr δ'=>Zb3 r.data=true∧K (.fz r.data) δ'
theorem Zxe(h:ME X io p c e m):ME X io p true e (Z3f m):=by
 obtain⟨_,A,s⟩:=h
 exact⟨_,A,λC H σ δ fp ex K Q R h k=>s C H σ δ fp ex _ _ R h λH' v r δ' fp' new r1 h1=>k H' v _ δ' fp' [] (r1.fzs R h1.1) h1.2⟩
noncomputable def Z6b(n:Nat)(caps:List Nat)(ds:List Xa)(g:MGt)(mt:MTt)(me:MEt)(δ1:Zg)(K:OT->Zg->Prop):Prop:=ds.length≤Xq∧∃I:Nat->List OT->Zg->Prop,I 0 [] (blk n caps δ1)∧
 (∀ (i:Nat) (d:Xa) (rs:List OT) (δ':Zg),ds[i]? =some d->I i rs δ'->g d δ' λδ2=>mt δ2 λb δ3=>if b=true then me δ3 λr δ4=>I (i+1) (rs ++ [r]) δ4 else I (i+1) rs δ3)∧
 ∀rs δ',I ds.length rs δ'->K (.nd rs) δ1
noncomputable def Zio(n:Nat)(caps:List Nat)(mi:MIt)(g:MGt)(mt:MTt)(me:MEt):MEt:=λδ K=>mi δ λds δ1=>Z6b n caps ds g mt me δ1 K
theorem Zz4{wi:TI}(si:SI G io p ci wi mi)(nd:caps.Nodup)(hp:(pt&&pe)=true) :
  SE G io p true (Zyz own caps wi (gM G (Zc8 own.length caps) ci g) (ttM G (Zc8 own.length caps) pt mt) (tM G (Zc8 own.length caps) pe true me)) (Zio own.length caps mi g mt me):=by
 intro C H σ δ fp ex K Q R h k
 refine si C H σ δ fp ex _ _ R h λJ H1 ds δ1 fp1 R1 S1 it h1 D hD=>?_
 obtain⟨hz,I,h0,turn,fin⟩:=h1
 refine Zqx I R1 (λH' kp=>it H' λb o e _=>kp b o e (.inl hp)) nd hD hz h0 turn λH' σ' δ' fp' ys rs new B i'=>?_
 have s:Same H1 H':=λb o e=>B.keep b o e (.inl hp)
 refine k H' (.ref D) (.nd rs) δ1 fp1 (D :: new) (RE.tree R R1 S1 s (λa m=>?_) (Qs.mpr ⟨λm=>(B.fresh D m).2 rfl,B.nd⟩) (.nd B.dat (B.own.wide λa l _=>?_))) (fin rs δ' i')
 ·rcases Xl.mp m with rfl|m
  ·exact hD
  ·exact(B.fresh a m).1
 ·refine⟨?_,λm=>?_⟩
  ·rcases Z3q (λa z=>.inl (.inl z)) (l rfl)with z|z
   ·exact .inl λ_=>z
   ·exact .inr z
  ·rcases Xl.mp m with z|z
   ·exact(l rfl).2.1 (.inl (.inr (.inl z)))
   ·exact(l rfl).2.1 (.inr z)
variable {N':List Str}{sc:V5}{tg elt iter:Expr}{ifs:List Expr}{pos:Pos}
theorem Zb9(S:CompScope X own caps N' sc)(hc:X.calm=true)(nd:caps.Nodup)(hi:MI X io p ci tg iter mi)
  (hg:∀C cells s₂ H₂ fp,MG (W4 X N' sc C cells s₂ H₂ fp) (Zc8 own.length caps) ci tg g) (ht:∀C cells s₂ H₂ fp,MIfs (W4 X N' sc C cells s₂ H₂ fp) (Zc8 own.length caps) pt ifs mt) (he:∀C cells s₂ H₂ fp,ME (W4 X N' sc C cells s₂ H₂ fp) (Zc8 own.length caps) pe true elt me)
  (hp:(pt&&pe)=true:=by rfl) (hs:∀x,Bu iter X.env x=pure x:=by intro _;rfl):ME X io p true (.ListComp elt [⟨tg,iter,ifs,0⟩] sc pos) (Zio own.length caps mi g mt me):=by
 obtain⟨_,A,si⟩:=hi
 exact⟨_,Z1y S hc A (λC cells s₂ H₂ fp=>(hg C cells s₂ H₂ fp).canon) (λC cells s₂ H₂ fp=>(ht C cells s₂ H₂ fp).canon) (λC cells s₂ H₂ fp=>(he C cells s₂ H₂ fp).canon) hs,Zz4 si nd hp⟩
section
variable {i:Nat}{y:Str}{py spos:Pos}
theorem Zd8(own':Bool)(hN:X.N.Nodup)(hy:X.N[i]? =some y)(hx:Loc X.env.scope y)(S:CompScope X own caps N' sc)(hc:X.calm=true)(nd:caps.Nodup)(hi:MI X io p ci tg iter mi)
  (hg:∀C cells s₂ H₂ fp,MG (W4 X N' sc C cells s₂ H₂ fp) (Zc8 own.length caps) ci tg g) (ht:∀C cells s₂ H₂ fp,MIfs (W4 X N' sc C cells s₂ H₂ fp) (Zc8 own.length caps) pt ifs mt) (he:∀C cells s₂ H₂ fp,ME (W4 X N' sc C cells s₂ H₂ fp) (Zc8 own.length caps) pe true elt me)
  (hp:(pt&&pe)=true:=by rfl) (hio:i∉io:=by decide)
  (hsw:Ve (.ListComp elt [⟨tg,iter,ifs,0⟩] sc pos) (some (.Name y py)) spos.line X.env=pure true:=by rfl)
  (hs:∀x,Bu iter X.env x=pure x:=by intro _;rfl) (hf:X.fn y=true∨X.env.scope.names.lookup y=some .local:=by first|exact .inl rfl|exact .inr rfl|assumption) :
  MS X io (.Assign [.Name y py] (.ListComp elt [⟨tg,iter,ifs,0⟩] sc pos) spos) (if own'=true then Zpx i (Zio own.length caps mi g mt me)else Z2h i (Zio own.length caps mi g mt me)):=by
 obtain⟨_,A,si⟩:=hi
 refine⟨_,Zpw (g:=gM X.K (Zc8 own.length caps) ci g) (tt:=ttM X.K (Zc8 own.length caps) pt mt) (te:=tM X.K (Zc8 own.length caps) pe true me) hN hy hx S hc A (λC cells s₂ H₂ fp=>(hg C cells s₂ H₂ fp).canon) (λC cells s₂ H₂ fp=>(ht C cells s₂ H₂ fp).canon) (λC cells s₂ H₂ fp=>(he C cells s₂ H₂ fp).canon) hsw hs hf,?_⟩
 cases own'
 ·exact Yb8 (Zz4 si nd hp) hio
 ·exact Z26 (Zz4 si nd hp) hio
end
end
variable {G:Xb}
section
variable {X:Cx}{pins:List (Addr×Obj)}{σ:St}{H:Hp}{s:Xd}{l:Addr}{xs:List V}
noncomputable def Z67(K:Xb):R2:=λx y H Q=>∃l b xs zs,x= .ref l∧y= .ref b∧SqL K H l xs∧SqL K H b zs∧xs.length+zs.length≤Xq∧∀p,H p=none->Q (.ref p) (upd H p (.lst (xs ++ zs)))
theorem Inv.lstQ{K:Xb}(hK:X.K=K)(I:Inv X pins σ H s)(hH:SqL K H l xs):∃(its:List Xc) (n:Nat),Vals xs its∧xs.length=its.length∧∃o,s.heap.get? l=some o∧o.cls= .type "list"∧o.dict=none∧o.data= .seq its.toArray n:=by
 subst hK
 obtain⟨its,r,⟨o,n,e,h1,h2,h3⟩,_⟩:=I.list hH
 exact⟨its,n,r,r.length,o,e,h1,h2,h3⟩
theorem Zj0{K:Xb}(hK:X.K=K):OpR X (BV .Add) (Z67 K):=by
 intro pins s σ H x y v u Q I rx ry h
 obtain⟨l,b,xs,zs,rfl,rfl,hH,hB,hz,q⟩:=h
 cases rx
 cases ry
 obtain⟨its,n,r,hl,⟨cls,dd,data,sl⟩,ho,hc,_,hd⟩:=I.lstQ hK hH
 obtain⟨its2,n2,r2,hl2,⟨cls2,dd2,data2,sl2⟩,ho2,hc2,_,hd2⟩:=I.lstQ hK hB
 simp only at hc hd hc2 hd2
 subst hc hd hc2 hd2
 have ea:its.toArray ++ its2.toArray=(its ++ its2).toArray:=by simp
 refine concat_meets ⟨_,ho,rfl⟩ ⟨_,ho2,rfl⟩ noFill_list_add seq_list_add PySem.F.slot_list_add PySem.F.entry_list_add (PySem.F.args_list_add_2 _ _) (list_addW l b its.toArray its2.toArray n n2 dd dd2 sl sl2 (by simp only[XR];omega)) ⟨ho,ho2,?_⟩
 rw[ea]
 exact⟨.ref _,_,I.lnew (t':=s.toks) (r.append r2) (by rw[Qx];omega),rfl,q _ I.fresh⟩
end
noncomputable def asI(d:Xa)(k:Int->Prop):Prop:=match d with| .int i=>k i|_=>False
noncomputable def asL(d:Xa)(k:List Xa->Prop):Prop:=match d with| .list ds=>k ds|_=>False
section
variable {H:Hp}{L:Addr->Prop}{v:V}{d:Xa}
theorem Da.intInv{k:Int->Prop}(q:Da G H L v d)(h:asI d k):∃i,v= .int i∧k i:=by
 cases q with
 | int b=>exact⟨b,rfl,h⟩
 | _=>exact h.elim
theorem Da.lstInv{k:List Xa->Prop}(q:Da G H L v d)(h:asL d k):∃a xs ds,v= .ref a∧SqL G H a xs∧Das G H L xs ds∧k ds:=by
 cases q with
 | lst l e r=>exact⟨_,_,_,rfl,.inl e,r,h⟩
 | scr s=>exact⟨_,_,_,rfl,s.sq,.ints _,h⟩
 | _=>exact h.elim
end
noncomputable def d2I(C:Int->Int->Prop)(g:Int->Int->Xa):Xa->Xa->(Xa->Prop)->Prop:=λd e k=>asI d λi=>asI e λj=>C i j∧k (g i j)
noncomputable def Zuk(g:Int->Int->Xa):Xa->Xa->(Xa->Prop)->Prop:=λd e k=>asI d λi=>asI e λj=>k (g i j)
theorem Zqk{C:Int->Int->Prop}{f:Int->Int->Int}:P2s G (rI C λi j=>.int (f i j)) (d2I C λi j=>.int (f i j)):=λH L x y d e k Q hx hy h kk=>by
 obtain⟨i,rfl,h⟩:=hx.intInv h
 obtain⟨j,rfl,h⟩:=hy.intInv h
 exact⟨i,j,rfl,rfl,h.1,kk _ _ (.int _) h.2⟩
structure MulOk(i j:Int):Prop where
 ok:IntMulOk i j
structure Ybw(i j:Int):Prop where
 ok:DivOk i j
structure Z8k(i j:Int):Prop where
 ok:Z2i i j
theorem Z6v{f:Int->Int->Int}:P2s G (rI IntMulOk λi j=>.int (f i j)) (d2I MulOk λi j=>.int (f i j)):=λH L x y d e k Q hx hy h kk=>by
 obtain⟨i,rfl,h⟩:=hx.intInv h
 obtain⟨j,rfl,h⟩:=hy.intInv h
 exact⟨i,j,rfl,rfl,h.1.ok,kk _ _ (.int _) h.2⟩
theorem Z41{f:Int->Int->Int}:P2s G (rI DivOk λi j=>.int (f i j)) (d2I Ybw λi j=>.int (f i j)):=λH L x y d e k Q hx hy h kk=>by
 obtain⟨i,rfl,h⟩:=hx.intInv h
 obtain⟨j,rfl,h⟩:=hy.intInv h
 exact⟨i,j,rfl,rfl,h.1.ok,kk _ _ (.int _) h.2⟩
theorem Zye{f:Int->Int->Int}:P2s G (rI Z2i λi j=>.int (f i j)) (d2I Z8k λi j=>.int (f i j)):=λH L x y d e k Q hx hy h kk=>by
 obtain⟨i,rfl,h⟩:=hx.intInv h
 obtain⟨j,rfl,h⟩:=hy.intInv h
 exact⟨i,j,rfl,rfl,h.1.ok,kk _ _ (.int _) h.2⟩
theorem Zjf{f:Int->Int->Int}:P2s G (rI0 λi j=>.int (f i j)) (Zuk λi j=>.int (f i j)):=λH L x y d e k Q hx hy h kk=>by
 obtain⟨i,rfl,h⟩:=hx.intInv h
 obtain⟨j,rfl,h⟩:=hy.intInv h
 exact⟨i,j,rfl,rfl,kk _ _ (.int _) h⟩
theorem Zlt{f:Int->Int->Bool}:P2s G (rI0 λi j=>.bl (f i j)) (Zuk λi j=>.bool (f i j)):=λH L x y d e k Q hx hy h kk=>by
 obtain⟨i,rfl,h⟩:=hx.intInv h
 obtain⟨j,rfl,h⟩:=hy.intInv h
 exact⟨i,j,rfl,rfl,kk _ _ (.bl _) h⟩
section
variable {X:Cx}
noncomputable def Yb9(K:Xb):R2:=λx y H Q=>∃(L L':Addr->Prop) (d e:Xa),Da K H L x d∧Da K H L' y e∧Shp d∧Shp e∧Q (.bl (Q7 d e)) H
noncomputable def Ydo(K:Xb):R2:=λx y H Q=>∃(L L':Addr->Prop) (d e:Xa),Da K H L x d∧Da K H L' y e∧Shp d∧Shp e∧Q (.bl (!Q7 d e)) H
theorem Zoj(hu:X.A.units+64<cLine):OpR X (Bg .Eq) (Yb9 X.K):=by
 intro pins s σ H x y v u Q I rx ry h
 obtain⟨L,L',d,e,h1,h2,s1,s2,q⟩:=h
 obtain⟨as,k1⟩:=h1.reads rfl I rx (Vr s1)
 obtain⟨bs,k2⟩:=h2.reads rfl I ry (Vr s2)
 exact eq_dataH k1 k2 s1 s2 hu ⟨.bl _,H,I,rfl,q⟩
theorem Z7j(hu:X.A.units+64<cLine):OpR X (Bg .NotEq) (Ydo X.K):=by
 intro pins s σ H x y v u Q I rx ry h
 obtain⟨L,L',d,e,h1,h2,s1,s2,q⟩:=h
 obtain⟨as,k1⟩:=h1.reads rfl I rx (Vr s1)
 obtain⟨bs,k2⟩:=h2.reads rfl I ry (Vr s2)
 exact ne_dataH k1 k2 s1 s2 hu ⟨.bl _,H,I,rfl,q⟩
end
structure Z6g(d:Xa):Prop where
 ok:Shp d
noncomputable def dEq:Xa->Xa->(Xa->Prop)->Prop:=λd e k=>Z6g d∧Z6g e∧k (.bool (Q7 d e))
noncomputable def dNe:Xa->Xa->(Xa->Prop)->Prop:=λd e k=>Z6g d∧Z6g e∧k (.bool (!Q7 d e))
theorem Zv7:P2s G (Yb9 G) dEq:=λH L x y d e k Q hx hy h kk=>⟨L,L,d,e,hx,hy,h.1.ok,h.2.1.ok,kk _ _ (.bl _) h.2.2⟩
theorem Z91:P2s G (Ydo G) dNe:=λH L x y d e k Q hx hy h kk=>⟨L,L,d,e,hx,hy,h.1.ok,h.2.1.ok,kk _ _ (.bl _) h.2.2⟩
noncomputable def Zel:Xa->Bool
 | .none=>true
 | _=>false
theorem Da.isNone{H:Hp}{L:Addr->Prop}{v:V}{d:Xa}(h:Da G H L v d):decide (v= .non)=Zel d:=by
 cases h<;>rfl
noncomputable def Ydm:Xa->Xa->(Xa->Prop)->Prop:=λd e k=>e= .none∧k (.bool (Zel d))
noncomputable def Z4z:Xa->Xa->(Xa->Prop)->Prop:=λd e k=>e= .none∧k (.bool (!Zel d))
theorem Z4k:P2s G (λx y H Q=>y= .non∧Q (.bl (decide (x= .non))) H) Ydm:=λH L x y d e k Q hx hy h kk=>by
 obtain⟨rfl,h⟩:=h
 cases hy
 exact⟨rfl,by rw[hx.isNone];exact kk _ _ (.bl _) h⟩
theorem Znc:P2s G (λx y H Q=>y= .non∧Q (.bl (!decide (x= .non))) H) Z4z:=λH L x y d e k Q hx hy h kk=>by
 obtain⟨rfl,h⟩:=h
 cases hy
 exact⟨rfl,by rw[hx.isNone];exact kk _ _ (.bl _) h⟩
noncomputable def scD:Xa->Bool
 | .none=>true
 | .bool _=>true
 | .int _=>true
 | .str _=>true
 | _=>false
noncomputable def eqS:Xa->Xa->Bool
 | .none,.none=>true
 | .bool a,.bool b=>a==b
 | .bool a,.int b=>(if a then 1 else 0)==b
 | .int a,.bool b=>a==(if b then 1 else 0)
 | .int a,.int b=>a==b
 | .str a,.str b=>a==b
 | _,_=>false
noncomputable def memS(d:Xa)(ds:List Xa):Bool:=ds.any λe=>eqS e d
theorem Da.toSc{H:Hp}{L:Addr->Prop}{v:V}{d:Xa}(h:Da G H L v d)(s:scD d=true):ScD v d:=by
 cases h with
 | non=>exact .non
 | bl b=>exact .bl b
 | int i=>exact .int i
 | str x=>exact .str x
 | _=>cases s
theorem Da.sc{H:Hp}{L:Addr->Prop}{v:V}{d:Xa}(h:Da G H L v d)(s:scD d=true):Zho v=true:=by
 cases h.toSc s<;>rfl
theorem Das.sc{H:Hp}{L:Addr->Prop}{vs:List V}{ds:List Xa}(h:Das G H L vs ds):ds.all scD=true->vs.all Zho=true :=
 Das.ind (Q:=λvs ds=>ds.all scD=true->vs.all Zho=true) (λ_=>rfl) (λh _ r s=>by
  rw[Ur,XN]at s
  rw[Ur,h.sc s.1,r s.2];rfl) h
theorem Da.eqS{H:Hp}{L:Addr->Prop}{v u:V}{d e:Xa}(h:Da G H L v d)(g:Da G H L u e)(s:scD d=true)(t:scD e=true):eqV v u=L2.eqS d e:=by
 cases h.toSc s<;>cases g.toSc t<;>rfl
theorem Das.memS{H:Hp}{L:Addr->Prop}{v:V}{d:Xa}(h:Da G H L v d)(s:scD d=true){vs:List V}{ds:List Xa}(g:Das G H L vs ds):ds.all scD=true->inV v vs=L2.memS d ds :=
 Das.ind (Q:=λvs ds=>ds.all scD=true->inV v vs=L2.memS d ds) (λ_=>rfl) (λg _ r t=>by
  rw[Ur,XN]at t
  have:=r t.2
  unfold inV L2.memS at*
  rw[List.any_cons,List.any_cons,this,g.eqS h t.1 s]) g
noncomputable def dIn(neg:Bool):Xa->Xa->(Xa->Prop)->Prop:=λd e k=>scD d=true∧match e with
 | .list ds=>ds.all scD=true∧k (.bool (if neg then !memS d ds else memS d ds))
 | .tuple ds=>ds.all scD=true∧k (.bool (if neg then !memS d ds else memS d ds))
 | _=>False
theorem Z25{neg:Bool}:P2s G (rIn G neg) (dIn neg):=λH L x y d e k Q hx hy h kk=>by
 obtain⟨s,h⟩:=h
 cases hy with
 | lst l e r=>exact⟨_,_,rfl,.inl (.inl e),hx.sc s,r.sc h.1,by rw[Das.memS hx s r h.1];exact kk _ _ (.bl _) h.2⟩
 | tup e r=>exact⟨_,_,rfl,.inr (.inl (.inl e)),hx.sc s,r.sc h.1,by rw[Das.memS hx s r h.1];exact kk _ _ (.bl _) h.2⟩
 | scr ks=>exact⟨_,_,rfl,.inl ks.sq,hx.sc s,(Das.ints (G:=G) (H:=H) (L:=L) _).sc h.1,by rw[Das.memS hx s (Das.ints (G:=G) (H:=H) (L:=L) _) h.1];exact kk _ _ (.bl _) h.2⟩
 | _=>exact h.elim
noncomputable def ixD(d e:Xa):Option Xa:=match d,e with
 | .list ds,.int i=>atI ds i
 | .tuple ds,.int i=>atI ds i
 | _,_=>none
noncomputable def dIx:Xa->Xa->(OT->Prop)->Prop:=λd e k=>match ixD d e with|some x=>k (.fz x)|none=>False
theorem Das.atI{H:Hp}{L:Addr->Prop}{xs:List V}{ds:List Xa}{i:Int}{d:Xa}(h:Das G H L xs ds)(e:L2.atI ds i=some d):∃x,L2.atI xs i=some x∧Da G H L x d:=by
 unfold L2.atI at*
 rw[h.length]
 cases q:ixN ds.length i with
 | none=>rw[q]at e;cases e
 | some j=>
  rw[q]at e
  exact h.get e
theorem Ybe:P2 G (rIx G) dIx:=λH L x y d e k Q hx hy h kk=>by
 unfold dIx at h
 split at h
 case h_2=>exact h.elim
 rename_i z ez
 have fin:∀v,Da G H L v z->Q v H:=λv q=>kk H v (.fz z) [] (Same.refl _) (.fz (q.wide λa l _=>⟨.inl l,λm=>nomatch m⟩)) .nil (λa m=>nomatch m) h
 cases hx with
 | lst l e1 r=>
  cases hy with
  | int i=>
   obtain⟨v,e2,q⟩:=r.atI (show L2.atI _ i=some z from ez)
   exact .inl ⟨_,_,i,v,rfl,rfl,.inl e1,e2,fin v q⟩
  | _=>cases ez
 | tup e1 r=>
  cases hy with
  | int i=>
   obtain⟨v,e2,q⟩:=r.atI (show L2.atI _ i=some z from ez)
   exact .inr (.inl ⟨_,_,i,v,rfl,rfl,.inl (.inl e1),e2,fin v q⟩)
  | _=>cases ez
 | scr ks=>
  cases hy with
  | int i=>
   obtain⟨v,e2,q⟩:=(Das.ints (G:=G) (H:=H) (L:=L) _).atI (show L2.atI _ i=some z from ez)
   exact .inl ⟨_,_,i,v,rfl,rfl,ks.sq,e2,fin v q⟩
  | _=>cases ez
 | _=>cases ez
theorem Own.list{H:Hp}{L:Addr->Prop}{p:Addr}{xs:List V}{ds:List Xa}(hp:H p=none)(h:Das G H L xs ds):Own G (upd H p (.lst xs)) (λa=>(L a∨H a=none)∧a∉[p]) (.ref p) (.nd (ds.map OT.fz)) [p] :=
 .nd Z1 (((h.wide λa l q=>⟨.inl l,λm=>q (by rw[XC.mp m];exact hp)⟩).same (Ys hp _)).owns)
theorem Zks{H:Hp}{p:Addr}(hp:H p=none):∀a∈[p],H a=none:=λa m=>by rw[XC.mp m];exact hp
theorem Zn7(p:Addr):[p].Nodup:=Qs.mpr ⟨λm=>(nomatch m),.nil⟩
noncomputable def dCat:Xa->Xa->(OT->Prop)->Prop:=λd e k=>asL d λds=>asL e λes=>ds.length+es.length≤Xq∧k (.nd ((ds ++ es).map OT.fz))
theorem Zos:P2 G (Z67 G) dCat:=λH L x y d e k Q hx hy h kk=>by
 obtain⟨a,xs,ds,rfl,e1,r1,h⟩:=hx.lstInv h
 obtain⟨b,ys,es,rfl,e2,r2,h⟩:=hy.lstInv h
 exact⟨a,b,xs,ys,rfl,rfl,e1,e2,by rw[r1.length,r2.length];exact h.1,λp hp=>kk _ _ _ [p] (Ys hp _) (Own.list hp (r1.append r2)) (Zn7 p) (Zks hp) h.2⟩
noncomputable def n1(k:Xa->Prop)(ds:List Xa):Prop:=match ds with|[d]=>k d|_=>False
noncomputable def n2(k:Xa->Xa->Prop)(ds:List Xa):Prop:=match ds with|[d,e]=>k d e|_=>False
theorem Das.one{H:Hp}{L:Addr->Prop}{vs:List V}{ds:List Xa}{k:Xa->Prop}(q:Das G H L vs ds)(h:n1 k ds):∃v d,vs=[v]∧ds=[d]∧Da G H L v d∧k d:=by
 cases q with
 | nil=>exact h.elim
 | cons q r=>
  cases r with
  | nil=>exact⟨_,_,rfl,rfl,q,h⟩
  | cons _ _=>exact h.elim
theorem Das.two{H:Hp}{L:Addr->Prop}{vs:List V}{ds:List Xa}{k:Xa->Xa->Prop}(q:Das G H L vs ds)(h:n2 k ds):∃v u d e,vs=[v,u]∧ds=[d,e]∧Da G H L v d∧Da G H L u e∧k d e:=by
 cases q with
 | nil=>exact h.elim
 | cons q r=>
  cases r with
  | nil=>exact h.elim
  | cons q' r'=>
   cases r' with
   | nil=>exact⟨_,_,_,_,rfl,rfl,q,q',h⟩
   | cons _ _=>exact h.elim
noncomputable def Zwp:Xa->Option Nat
 | .list ds=>some ds.length
 | .tuple ds=>some ds.length
 | _=>none
noncomputable def Ycq:List Xa->(Xa->Prop)->Prop:=λds k=>n1 (λd=>match Zwp d with|some n=>k (.int n)|none=>False) ds
theorem Z35:PNs G (Yc9 G) Ycq:=λH L xs ds k Q hx h kk=>by
 obtain⟨v,d,rfl,rfl,q,h⟩:=hx.one h
 cases q with
 | lst l e r=>exact⟨_,_,rfl,.inl (.inl e),by rw[r.length];exact kk _ _ (.int _) h⟩
 | tup e r=>exact⟨_,_,rfl,.inr (.inl (.inl e)),by rw[r.length];exact kk _ _ (.int _) h⟩
 | scr ks=>exact⟨_,_,rfl,.inl ks.sq,by rw[(Das.ints (G:=G) (H:=H) (L:=L) _).length];exact kk _ _ (.int _) h⟩
 | _=>exact h.elim
noncomputable def Yco:List Xa->(Xa->Prop)->Prop:=λds k=>n1 (λd=>asI d λi=>k (.int (if i<0 then -i else i))) ds
theorem Zs2:PNs G (λxs H Q=>∃i,xs=[.int i]∧Q (.int (if i<0 then -i else i)) H) Yco:=λH L xs ds k Q hx h kk=>by
 obtain⟨v,d,rfl,rfl,q,h⟩:=hx.one h
 obtain⟨i,rfl,h⟩:=q.intInv h
 exact⟨i,rfl,kk _ _ (.int _) h⟩
noncomputable def Ycn:List Xa->(Xa->Prop)->Prop:=λds k=>n2 (λd e=>asI d λi=>asI e λj=>k (.int (if j<i then j else i))) ds
theorem Zud:PNs G (λxs H Q=>∃i j,xs=[.int i,.int j]∧Q (.int (if j<i then j else i)) H) Ycn:=λH L xs ds k Q hx h kk=>by
 obtain⟨v,u,d,e,rfl,rfl,q,q',h⟩:=hx.two h
 obtain⟨i,rfl,h⟩:=q.intInv h
 obtain⟨j,rfl,h⟩:=q'.intInv h
 exact⟨i,j,rfl,kk _ _ (.int _) h⟩
noncomputable def Yb6:List Xa->(Xa->Prop)->Prop:=λds k=>n1 (λd=>match d with| .int i=>k (.int i)| .bool b=>k (.int (if b then 1 else 0))|_=>False) ds
theorem Zli:PNs G (λxs H Q=>(∃i,xs=[.int i]∧Q (.int i) H)∨∃k,xs=[.bl k]∧Q (.int (if k then 1 else 0)) H) Yb6:=λH L xs ds k Q hx h kk=>by
 obtain⟨v,d,rfl,rfl,q,h⟩:=hx.one h
 cases q with
 | int i=>exact .inl ⟨i,rfl,kk _ _ (.int _) h⟩
 | bl b=>exact .inr ⟨b,rfl,kk _ _ (.int _) h⟩
 | _=>exact h.elim
noncomputable def Zw2:Xa->Option (List Xa)
 | .list ds=>some ds
 | .tuple ds=>some ds
 | _=>none
section
variable {X:Cx}{io:List Nat}{p c:Bool}{a:Expr}{ma:MEt}{pos:Pos}
noncomputable def Yb2(m:MEt):MEt:=λδ K=>m δ λr δ'=>asI r.data λi=>K (.fz (.int (-i))) δ'
theorem Yac(ha:ME X io p c a ma):ME X io p true (.UnaryOp .USub a pos) (Yb2 ma):=by
 obtain⟨_,A,s⟩:=ha
 exact⟨_,Z9d Z5b A,λC H σ δ fp ex K Q R h k=>s C H σ δ fp ex _ _ R h λH' v r δ' fp' new r1 h1=>by
  obtain⟨i,rfl,h1⟩:=(r1.da R).intInv h1
  exact⟨i,rfl,k H' _ _ δ' fp' [] (.fz r1.base r1.stp (.int _)) h1⟩⟩
noncomputable def Zum(T:String):Xa->Bool
 | .none=>false
 | .bool _=>T=="bool"||T=="int"
 | .int _=>T=="int"
 | .str _=>T=="str"
 | .list _=>T=="list"
 | .tuple _=>T=="tuple"
 | .dict _=>false
noncomputable def Ycj(T:String)(m:MEt):MEt:=λδ K=>m δ λr δ'=>Zlf r.data=false∧K (.fz (.bool (Zum T r.data))) δ'
end
section
variable {prog:X6}{w:Qt}{A:Qk}{E:Xc->Xd->Prop}{h:Heap}{g:Array GenState}{d:Drawn}{t:Nat}{os:OsState}{a C:Addr}{o:Obj}{K:Xb}
theorem Zzp(M:Model)(hx:h.get? a=some o)(hc:o.cls= .ref C):QS M h (typeOf (.ref a)) (.ref C):=hc▸(QS.ld hx).andThen .now
theorem Zvi{R:Result->Xd->Prop}(X:K.In h)(Z:Zcj K C)(hx:h.get? a=some o)(hc:o.cls= .ref C)(hq:R (.ok (.ret (.ref C))) ⟨h,g,d,t,os⟩) :
  codeAny (X7 prog w) A (.call (.builtin "getset_descriptor.__get__") ⟨[.builtin "object.__class__",.ref a,.ref C],[]⟩) R ⟨h,g,d,t,os⟩:=by
 have L1:QS (X7 prog w) h (isSubtype (.ref C) (.type (".".intercalate ("object.__class__".cutAt '.').dropLast))) true:=by
  rw[F.owner_object_class]
  exact PySem.W.looks_subIn X Z.isO
 have T5:(⟨h,g,d,t,os⟩:Xd).TypeIs (.builtin "object.__class__") "getset_descriptor" :=F.typeOf_object_class
 refine codeAny_call_builtin F.slot_gs_get.plain F.entry_gs_get (F.slot_gs_get.check _ _ _ _ _ _ _ _ T5 (F.args_gs_get _ _ _) ?_)
 repeat (any_goals (first|assumption|(with_reducible refine Bs hx ?_;rw[hc])|(with_reducible refine Xe (QS.at L1 ?_))|(with_reducible refine QS.at L1 ?_)|wp_step))
 refine⟨Code.quiet_builtin _ (by decide +kernel),codeAny_builtin F.entry_object_class ?_⟩
 repeat (any_goals (first|assumption|(with_reducible refine Bs hx ?_;rw[hc])|wp_step))
theorem Zp2{tk:Tok}{Q:Fin->Xd->Prop}(X:K.In h)(Z:Zcj K C)(hx:h.get? a=some o)(hc:o.cls= .ref C)(hq:Q (.done (.ret (.ref C))) ⟨h,g,d,t,os⟩) :
  XX (X7 prog w) A (Builtin.«object.__getattribute__» ⟨[.ref a,.str "__class__" tk],[]⟩) Q E ⟨h,g,d,t,os⟩:=by
 have T5:(⟨h,g,d,t,os⟩:Xd).TypeIs (.builtin "object.__class__") "getset_descriptor" :=F.typeOf_object_class
 have g5:=F.typeOf_object_class
 have g6:=F.slot_gs_get.lookup
 have g7:=F.slot_gs_set.lookup
 have L4:=UW (M:=X7 prog w) X Z.cl
 repeat (any_goals (first|assumption|(with_reducible refine Bs hx ?_;rw[hc])|(with_reducible refine Xe (QS.at L4 ?_))|(with_reducible refine QS.at L4 ?_)|wp_step))
 refine Zvi X Z hx hc ?_
 repeat (any_goals (first|assumption|wp_step))
theorem Zpu{M:Model}{nameV:Xc}{Q:Unit->Xd->Prop}(X:K.In h)(Z:Zcj K C)(hx:h.get? a=some o)(hc:o.cls= .ref C)(hq:Q () ⟨h,g,d,t,os⟩) :
  XX M A (checkBuiltinCall "BaseException.__getattribute__" ⟨[.ref a,nameV],[]⟩) Q E ⟨h,g,d,t,os⟩:=by
 have e1:builtinKind "BaseException.__getattribute__"=some .slot:=by decide +kernel
 have e2:splitId "BaseException.__getattribute__"=some ("BaseException","__getattribute__"):=by decide +kernel
 have L1:=PySem.W.looks_subIn (M:=M) X Z.isB
 have e3:=F.args_bexc_ga (.ref a) nameV
 simp only[checkBuiltinCall,e1,e2]
 refine Xe ?_
 unfold isInstance
 repeat (first|(with_reducible refine Bs hx ?_;rw[hc])|(with_reducible refine Xe (QS.at L1 ?_))|(with_reducible refine QS.at L1 ?_)|wp_step)
 exact hq
theorem Zq3{tk:Tok}{R:Result->Xd->Prop}(X:K.In h)(Z:Zcj K C)(hx:h.get? a=some o)(hc:o.cls= .ref C)(hq:R (.ok (.ret (.ref C))) ⟨h,g,d,t,os⟩) :
  codeAny (X7 prog w) A (.call (.builtin "BaseException.__getattribute__") ⟨[.ref a,.str "__class__" tk],[]⟩) R ⟨h,g,d,t,os⟩ :=
 codeAny_call_builtin F.excAttr_ValueError.ga.plain F.entry_bexc_ga (Zpu X Z hx hc (Zp2 X Z hx hc hq))
theorem Z0y{tk:Tok}{fill expr:Bool}{Q:Xc->Xd->Prop}(X:K.In h)(Z:Zcj K C)(hx:h.get? a=some o)(hc:o.cls= .ref C)(hq:Q (.ref C) ⟨h,g,d,t,os⟩) :
  XX (X7 prog w) A (getAttrBy (.ref a) (.str "__class__" tk) fill expr) Q E ⟨h,g,d,t,os⟩:=by
 have f3:=F.excAttr_ValueError.ga.bind (.ref a)
 have y0:(expr&&onTheHeap (Ul "BaseException.__getattribute__"))=false:=by cases expr<;>rfl
 have y2:(Ul "BaseException.__getattribute__"==Ul "object.__getattribute__")=false:=by decide +kernel
 have y1:(onTheHeap (Qu C)&&Ul "BaseException.__getattribute__"==Ul "object.__getattribute__")=false:=by rw[y2];rfl
 have L2:=UW (M:=X7 prog w) X Z.ga
 have L3:=UW (M:=X7 prog w) X Z.gt
 repeat (any_goals (first|assumption|(with_reducible refine Bs hx ?_;rw[hc])|(with_reducible refine QS.at L2 ?_)|(with_reducible refine QS.at L3 ?_)|(with_reducible refine Xe (QS.at L2 ?_))|(with_reducible refine Xe (QS.at L3 ?_))|wp_step))
 refine Zq3 X Z hx hc ?_
 repeat (any_goals (first|assumption|wp_step))
theorem Zrs{Q:Option Xc->Xd->Prop}(X:K.In h)(Z:Zcj K C)(hx:h.get? a=some o)(hc:o.cls= .ref C)(hq:Q (some (.ref C)) ⟨h,g,d,t+1,os⟩) :
  XX (X7 prog w) A (getAttr? (.ref a) "__class__") Q E ⟨h,g,d,t,os⟩:=by
 unfold getAttr? getAttrBy?
 repeat (any_goals (first|assumption|with_reducible apply Z0y X Z hx hc|wp_step))
end
theorem Zkn{K:Xb}{a C:Addr}(Z:Zcj K C):PySem.W.KitX K (.ref a) (.ref C) (λh=>∃o,h.get? a=some o∧o.cls= .ref C) where
 ty:=λM h _ p=>let⟨_,hx,hc⟩:=p;Zzp M hx hc
 it:=λM h X _=>by
  have z:=Z.isC
  unfold PySem.W.clsIn at z
  split at z
  ·rename_i ho
   intro A' Q' E' s' k q
   unfold isType loadHead
   exact Xe (wpAny_loadPart (k _ _ (X _ _ ho)) (X8 q))
  ·cases z
 ne:=λh tp dd its n sl X htp=>by
  have z:=Z.isC
  refine Uq.mpr λq=>?_
  have e:C=tp:=Qu.inj (beq_iff_eq.mp q)
  subst e
  unfold PySem.W.clsIn at z
  split at z
  ·rename_i ho
   have z:=(X _ _ ho).symm.trans htp
   cases z
  ·cases z
 ca:=fun{_ _ _ _ _ s} X p k=>by
  obtain⟨h,g,d,t,os⟩:=s
  obtain⟨_,hx,hc⟩:=p
  exact Zrs X Z hx hc k
variable {G:Xb}
noncomputable def tyD:Xa->String
 | .none=>"NoneType"
 | .bool _=>"bool"
 | .int _=>"int"
 | .str _=>"str"
 | .list _=>"list"
 | .tuple _=>"tuple"
 | .dict _=>"dict"
theorem Zx8{K:Xb}{T:String}{d:Xa}(h:T="int"∨T="bool"∨T="str"∨T="list"∨T="tuple")(hd:∀kvs,d≠ .dict kvs):Qh K (.type (tyD d)) (.type T)=some (Zum T d):=by
 rcases h with rfl|rfl|rfl|rfl|rfl<;>cases d<;>first|rfl|(exact absurd rfl (hd _))|(unfold Qh PySem.W.kitCls;rfl)|(simp only[tyD,Zum];decide +kernel)
noncomputable def Ybj(G:Xb):List V->Hp->VK->Prop:=λxs H Q=>∃(x:V) (T:String) (L:Addr->Prop) (d:Xa),xs=[x,.ty T]∧Da G H L x d∧Zlf d=false∧(T="int"∨T="bool"∨T="str"∨T="list"∨T="tuple")∧Q (.bl (Zum T d)) H
theorem Zqy{X:Cx}(hK:X.K=G):Zd9 X (.builtin "isinstance") (Ybj G):=by
 subst hK
 intro pins s σ H xs us Q I r h
 obtain⟨x,T,L,d,rfl,q,hf,hT,h⟩:=h
 obtain⟨u,w',rfl,r1,r2⟩:=vals2 r
 cases(show w'=Xc.type T from r2)
 have fin:∀tk:Nat,EP X pins σ Q (.bool (Zum T d)) { s with toks:=tk }:=λtk=>⟨.bl _,H,I.tok tk,rfl,h⟩
 cases q with
 | non=>exact Za4 I r1 .non (Zx8 (d:=.none) hT λ_ z=>by cases z) fin
 | bl b=>exact Za4 I r1 (.bl b) (Zx8 (d:=.bool b) hT λ_ z=>by cases z) fin
 | int b=>exact Za4 I r1 (.int b) (Zx8 (d:=.int b) hT λ_ z=>by cases z) fin
 | str b=>exact Za4 I r1 (.str b) (Zx8 (d:=.str b) hT λ_ z=>by cases z) fin
 | lst l e qs=>
  rename_i ds
  rcases e with e|⟨o,e⟩
  ·exact Za4 I r1 (.lst e) (Zx8 (d:=.list ds) hT λ_ z=>by cases z) fin
  ·exact Za4 I r1 (.frz e) (Zx8 (d:=.list ds) hT λ_ z=>by cases z) fin
 | tup e qs=>
  rename_i ds
  exact Za4 I r1 (.tup e) (Zx8 (d:=.tuple ds) hT λ_ z=>by cases z) fin
 | scr ks=>
  rename_i a ns
  cases(show u=Qu a from r1)
  obtain⟨its,vs,⟨o,n,ho,hc,hd,hs⟩,_⟩:=I.list (ks.sq (H:=H))
  exact QJ PySem.W.kitx_list I.kIn ⟨o,ho,hc⟩ (Zx8 (d:=.list (ns.map Xo)) hT λ_ z=>by cases z) (λz=>nomatch z) fin
 | exc Z hn e=>
  rename_i a C x
  cases(show u=Qu a from r1)
  obtain⟨⟨o,vs,ho,hc,_⟩,_,_⟩:=(show ObjOk X.prog X.w H s.heap a (.ext (ExO C a))from I.hok a _ e)
  refine QJ (Zkn Z) I.kIn ⟨o,ho,hc⟩ (b:=Zum T (exD x)) ?_ (λz=>nomatch z) fin
  rcases hT with rfl|rfl|rfl|rfl|rfl
  ·exact Z.k1
  ·exact Z.k2
  ·exact Z.k3
  ·exact Z.k4
  ·exact Z.k5
 | fn _=>cases hf
 | dic _ _ _ _=>unfold dcD Zlf at hf;cases hf
section
variable {X:Cx}{io:List Nat}{p c p' c':Bool}{a b e:Expr}{ma m:MEt}{pos pp p2:Pos}{K:Xb}
theorem Z29{T:Str}{T':String}(hT:T'="int"∨T'="bool"∨T'="str"∨T'="list"∨T'="tuple")(hg:Gl X "isinstance")(hm:X.mg "isinstance"=none)(hv:Qc "isinstance"=some (.builtin "isinstance"))
  (hg2:Gl X T) (hm2:X.mg T=none) (hv2:Qc T=some (.type T')) (ha:ME X io p c a ma) (hn:T≠"__name__" :=by decide) (hd:(T==("__debug__" : Str))=false:=by decide)
  (he:Xh [a,.Name T p2] X.env=(false,eval a X.env) :: Xh [.Name T p2] X.env:=by rfl) (he2:Xh [.Name T p2] X.env=(false,eval (.Name T p2) X.env) :: Xh [] X.env:=by rfl) (hpl:(Q6 pos (Xh [.Name T p2] X.env)).any (·.1)=false:=by rfl) :
  ME X io p true (.Call (.Name "isinstance" pp) [a,.Name T p2] [] pos) (Ycj T' ma):=by
 obtain⟨_,A,s⟩:=ha
 refine⟨_,Zfb (Zqy rfl) hg hm hv (Y5 A (Y5 (Zt0 (v:=.ty T') hg2 hm2 hv2 rfl hn hd) Zgo he2) he) (by decide) (by decide) he hpl,?_⟩
 intro C H σ δ fp ex K' Q R h k
 refine s C H σ δ fp ex _ _ R h λH' v r δ' fp' new r1 h1=>?_
 exact⟨v,T',_,_,rfl,r1.da R,h1.1,hT,k H' _ _ δ' fp' [] (.fz r1.base r1.stp (.bl _)) h1.2⟩
noncomputable abbrev MOt:=Zg->(Option Int->Zg->Prop)->Prop
noncomputable def MO(X:Cx)(io:List Nat)(p:Bool)(e:Option Expr)(m:MOt):Prop:=∃t,PO X e t∧∀(C:MC X.K) (H:Hp) (σ:St) (δ:Zg) (fp:Fp) (ex:Addr->Prop) (K:Option Int->Zg->Prop) (Q:Option Int->Hp->Prop),Rel C io H σ δ fp ex->m δ K ->
 (∀ H' b δ' fp',Rel C io H' σ δ' fp' ex->Stp p H δ fp H' δ' fp'->K b δ'->Q b H')->t σ H Q
noncomputable def Zqs:MOt:=λδ K=>K none δ
noncomputable def Z7n(m:MEt):MOt:=λδ K=>m δ λr δ'=>asI r.data λi=>K (some i) δ'
theorem Zs5:MO X io true none Zqs:=⟨_,Zzw,λC H σ δ fp ex K Q R h k=>k H none δ fp R (.refl _ _ _ _) h⟩
theorem Zs0(h:ME X io p c e m):MO X io p (some e) (Z7n m):=by
 obtain⟨_,A,s⟩:=h
 exact⟨_,Zzt A,λC H σ δ fp ex K Q R h k=>s C H σ δ fp ex _ _ R h λH' v r δ' fp' new r1 h1=>by
  obtain⟨i,rfl,h1⟩:=(r1.da R).intInv h1
  exact⟨i,rfl,k H' _ δ' fp' r1.base r1.stp h1⟩⟩
noncomputable def cutD(ds:List Xa)(lo hi:Option Int):List Xa:=(ds.drop (HT.sIx ds.length 0 lo)).take (HT.sIx ds.length ds.length hi-HT.sIx ds.length 0 lo)
theorem Das.cut{H:Hp}{L:Addr->Prop}{xs:List V}{ds:List Xa}(h:Das G H L xs ds)(lo hi:Option Int):Das G H L (Z2j xs lo hi) (cutD ds lo hi):=by
 unfold Z2j cutD
 rw[h.length]
 exact(h.drop _).take _
noncomputable def mSl(m:MEt)(ml mh:MOt):MEt:=λδ K=>m δ λr δ1=>ml δ1 λlo δ2=>mh δ2 λhi δ3=>asL r.data λds=>K (.nd ((cutD ds lo hi).map OT.fz)) δ3
theorem Z2x{lo hi:Option Expr}{ml mh:MOt}(ha:ME X io true c a ma)(hl:MO X io true lo ml)(hh:MO X io true hi mh):ME X io true c (.Subscript a (.Slice lo hi none p2) pos) (mSl ma ml mh):=by
 obtain⟨_,A,s⟩:=ha
 obtain⟨_,B,sl⟩:=hl
 obtain⟨_,D,sh⟩:=hh
 refine⟨_,Zww (Zwd rfl) A B D,?_⟩
 intro C H σ δ fp ex K' Q R h k
 refine s C H σ δ fp ex _ _ R h λH1 v r δ1 fp1 new r1 h1=>?_
 refine sl C H1 σ δ1 fp1 ex _ _ r1.base h1 λH2 l δ2 fp2 R2 S2 h2=>?_
 refine sh C H2 σ δ2 fp2 ex _ _ R2 h2 λH3 u δ3 fp3 R3 S3 h3=>?_
 have s2:Same H1 H2:=λb o e=>S2.keep b o e (.inl rfl)
 have s3:Same H2 H3:=λb o e=>S3.keep b o e (.inl rfl)
 obtain⟨e1,e2⟩:=r1.stp.env rfl
 obtain⟨e3,e4⟩:=S2.env rfl
 obtain⟨e5,e6⟩:=S3.env rfl
 have q:=((r1.da R).same s2).same s3
 obtain⟨a',xs,ds,rfl,e,qs,h3⟩:=q.lstInv h3
 refine⟨a',xs,rfl,e,λp hp=>?_⟩
 have S:=(r1.stp.trans S2).trans S3
 refine k _ _ _ δ3 fp3 [p] (RE.tree R R3 S (Ys hp _) (Zks hp) (Zn7 p) (Own.list hp ((qs.cut l u).wide λa l _=>?_))) h3
 rw[e6,e4]
 exact l
theorem Owns.set{H:Hp}{L:Addr->Prop}{x:V}{r:OT}(hr:Own G H L x r []):∀{xs:List V} {ts:List OT} {as:List Addr} (j:Nat),Owns G H L xs ts as->∃bs,Owns G H L (xs.set j x) (ts.set j r) bs∧bs.Sublist as
 | _,_,_,_,.nil=>⟨[],.nil,.refl _⟩
 | _,_,_,0,.cons k t=>⟨_,.cons hr t,by simp⟩
 | _,_,_,j+1,.cons (as:=as) k t=>by
  obtain⟨bs,o,s⟩:=Owns.set hr j t
  exact⟨as ++ bs,.cons k o,List.Sublist.append_left s as⟩
theorem Owns.get{H:Hp}{L:Addr->Prop}:∀{xs:List V} {ts:List OT} {as:List Addr} {j:Nat} {t:OT},Owns G H L xs ts as->ts[j]? =Bf t->∃x bs,xs[j]? =Bf x∧Own G H L x t bs∧bs.Sublist as
 | _,_,_,_,_,.nil,e=>by simp at e
 | _,_,_,0,_,.cons k _,e=>by simp at e;subst e;exact⟨_,_,rfl,k,List.sublist_append_left _ _⟩
 | _,_,_,j+1,t,.cons _ r,e=>by
  obtain⟨x,bs,h1,h2,h3⟩:=Owns.get (j:=j) (t:=t) r (by simpa using e)
  exact⟨x,bs,by simpa using h1,h2,h3.trans (List.sublist_append_right _ _)⟩
theorem Rel.top{C:MC G}{H:Hp}{σ:St}{δ:Zg}{fp:Fp}{ex:Addr->Prop}{i:Nat}{ts ts':List OT}{a':Addr}{xs ys:List V}{bs bs':List Addr}(R:Rel C io H σ δ fp ex)(hi:δ[i]? =some (some (.nd ts)))(hv:σ[i]? =some (some (.ref a')))
  (hf:fp i=a' :: bs) (hx:H a'=some (.lst xs)) (o:Owns G H (Lf C fp ex) ys ts' bs') (hs:bs'.Sublist bs) :
  Rel C io (upd H a' (.lst ys)) σ (δ.set i (some (.nd ts'))) (fpu fp i (a' :: bs')) ex∧Stp false H δ fp (upd H a' (.lst ys)) (δ.set i (some (.nd ts'))) (fpu fp i (a' :: bs')):=by
 have nd:=R.nd i
 rw[hf]at nd
 have hn:=Qs.mp nd
 have hm:a'∈fp i:=by rw[hf];exact .head _
 have ne':∀a,¬Foot fp a->a≠a':=λa h z=>h ⟨i,by rw[z];exact hm⟩
 have kp:∀b o,H b=some o->b≠a'->upd H a' (.lst ys) b=some o:=λb o e n=>by rw[Zr n];exact e
 have sub:∀a,a∈a' :: bs'->a∈fp i:=λa m=>by
  rw[hf]
  rcases Xl.mp m with rfl|m
  ·exact .head _
  ·exact .tail _ (hs.subset m)
 have o':Owns G (upd H a' (.lst ys)) (Lf C (fpu fp i (a' :: bs')) (exu ex [])) ys ts' bs':=by
  have f0:∀a,¬Foot fp a->¬Foot (fpu fp i (a' :: bs')) a:=λa h z=>by
   rcases z.of_u with z|⟨j,_,z⟩
   ·exact h ⟨i,sub a z⟩
   ·exact h ⟨j,z⟩
  have f1:∀a (zs:MuO),Lf C fp ex a->Rd H a zs.ho->Lf C (fpu fp i (a' :: bs')) (exu ex []) a∧Rd (upd H a' (.lst ys)) a zs.ho:=λa zs l q=>by
   refine⟨⟨f0 a l.1,λz=>l.2.1 (Zbv.mp z),l.2.2⟩,?_⟩
   rcases q with q|⟨u,q⟩
   ·exact .inl (kp a _ q (ne' a l.1))
   ·exact .inr ⟨u,kp a _ q (ne' a l.1)⟩
  have f2:∀a (zs:ImO),H a=some zs.ho->upd H a' (.lst ys) a=some zs.ho:=λa zs q=>kp a _ q λz=>ImO.nl q (z▸hx)
  exact o.frame f1 f2 λa m zs q=>kp a _ q λz=>hn.1 (hs.subset (z▸m))
 have key:=R.change (new:=[]) (as':=a' :: bs') (t':=.nd ts') (H':=upd H a' (.lst ys)) hi hv (λb o e nb=>kp b o e λz=>nb (by rw[z];exact hm)) (λb e=>by
   by_cases q:b=a'
   ·subst q;rw[Z1]at e;cases e
   ·rwa[Zr q]at e) (.nd Z1 o') (Qs.mpr ⟨λm=>hn.1 (hs.subset m),hn.2.sublist hs⟩) (λa m=>.inl (sub a m)) (λa m=>nomatch m)
 exact⟨key.1.drop λa z=>.inl z,key.2⟩
end
variable {G:Xb}
section
variable {X:Cx}{io:List Nat}{p c p' c':Bool}{a b e:Expr}{ma m mi mj:MEt}{pos pp p2 apos cpos px:Pos}{K:Xb}{i:Nat}{x:Str}
theorem Rel.ownNd{C:MC G}{H:Hp}{σ:St}{δ:Zg}{fp:Fp}{ex:Addr->Prop}{ts:List OT}(R:Rel C io H σ δ fp ex)(hi:δ[i]? =some (some (.nd ts))) :
  ∃a' xs bs,σ[i]? =some (some (.ref a'))∧H a'=some (.lst xs)∧Owns G H (Lf C fp ex) xs ts bs∧fp i=a' :: bs:=by
 obtain⟨v,e,o⟩:=R.own i _ hi
 generalize hf:fp i=as at o
 cases o with
 | nd h r=>exact⟨_,_,_,e,h,r,rfl⟩
noncomputable def Zki(i:Nat)(m:MEt):MSt:=λD δ=>match δ[i]? with
 | some (some (.nd _))=>m δ λr δ1=>match δ1[i]? with
  | some (some (.nd ts))=>ts.length<Xq∧D.nx (δ1.set i (some (.nd (ts ++ [.fz r.data]))))
  | _=>False
 | _=>False
theorem Zdv(i:Nat)(he:ME X io p true e m)(hN:X.N[i]? =some x:=by rfl)(hv:Vis X.env.scope x:=by first|exact Qo rfl|exact Qg (Qo rfl)|exact Qg (Qg rfl))(hd:(x==("__debug__" : Str))=false:=by decide)
  (hcd:(x==("__classdict__" : Str))=false:=by decide)
  (hbase:attributeBase (.Name x px) "append" X.env (eval (.Name x px) X.env)=eval (.Name x px) X.env:=by rfl)
  (hfew:((Q6 cpos (Xh [e] X.env)).all (λx=>!x.1)&&(backToKw cpos (keywordEach [] X.env)).all (λx=>x.1.isSome)
   &&decide ([e].length+([]:List Keyword).length+(if([]:List Keyword).isEmpty then 0 else 1)<30))=true:=by rfl)
  (hline:(apos.endLine==cpos.line)=true:=by rfl) (hs:Xh [e] X.env=(false,eval e X.env) :: Xh [] X.env:=by rfl) (hplain:(Q6 cpos (Xh [] X.env)).any (·.1)=false:=by rfl)
  (hsw:Ve (.Call (.Attribute (.Name x px) "append" apos) [e] [] cpos) none pos.line X.env=pure false:=by rfl) :
  MS X io (.Expr (.Call (.Attribute (.Name x px) "append" apos) [e] [] cpos) pos) (Zki i m):=by
 obtain⟨_,A,s⟩:=he
 refine⟨_,Ztt (Z96 PySem.F.plainAttrs_list PySem.F.slot_list_append PySem.F.type_list_append Zl5 (pv i hN hv hd hcd) (Y5 A Zgo hs) hbase hfew hline hs hplain) hsw,λC H σ δ fp ex D D' R h E=>?_⟩
 unfold Zki at h
 split at h
 case h_2=>exact h.elim
 rename_i ts0 hi0
 obtain⟨a',xs0,bs0,hv0,hx0,_,_⟩:=R.ownNd hi0
 refine⟨_,hv0,.inl ⟨rfl,xs0,.inl (.inl hx0)⟩,?_⟩
 refine s C H σ δ fp ex _ _ R h λH1 v r δ1 fp1 new r1 h1=>?_
 split at h1
 case h_2=>exact h1.elim
 rename_i ts1 hi1
 have R1:=r1.base
 obtain⟨a1,xs1,bs1,hv1,hx1,o1,hf1⟩:=R1.ownNd hi1
 rw[hv0]at hv1
 cases hv1
 have q:=(r1.da R).wide (L':=Lf C fp1 ex) λa l _=>l rfl
 refine⟨a',xs1,v,rfl,rfl,hx1,by rw[o1.length];exact h1.1,?_⟩
 have o2:=o1.snoc (.fz q)
 obtain⟨R2,S2⟩:=R1.top hi1 hv0 hf1 hx1 o2 (by simp)
 exact E.nx _ σ _ _ R2 (r1.stp.kp.trans S2.kp) h1.2
noncomputable def Yct(i:Nat)(m mi:MEt):MSt:=λD δ=>m δ λr δ1=>match δ1[i]? with
 | some (some (.nd ts))=>mi δ1 λn _=>asI n.data λk=>match ixN ts.length k with
  | some j=>D.nx (δ1.set i (some (.nd (ts.set j (.fz r.data)))))
  | none=>False
 | _=>False
noncomputable def Z3z(i:Nat)(m mi mj:MEt):MSt:=λD δ=>m δ λr δ1=>match δ1[i]? with
 | some (some (.nd ts))=>mi δ1 λn _=>asI n.data λk=>match ixN ts.length k with
  | some j=>match ts[j]? with
   | some (.nd us)=>mj δ1 λn' _=>asI n'.data λk'=>match ixN us.length k' with
    | some j'=>D.nx (δ1.set i (some (.nd (ts.set j (.nd (us.set j' (.fz r.data)))))))
    | none=>False
   | _=>False
  | none=>False
 | _=>False
theorem SE.pureAfter{t:TE}{C:MC G}{H:Hp}{σ:St}{δ:Zg}{fp:Fp}{ex:Addr->Prop}{K':OT->Zg->Prop}{Q:VK}(s:SE G io true c t m)(R:Rel C io H σ δ fp ex)(h:m δ K')(k:∀H' v r,Rel C io H' σ δ fp ex->Same H H'->Da G H' (λa=>c=true->Lf C fp ex a) v r.data->K' r δ->Q v H'):t σ H Q :=
 s C H σ δ fp ex _ _ R h λH1 v r δ1 fp1 new r1 h1=>by
  obtain⟨e1,e2⟩:=r1.stp.env rfl
  have q:=r1.da R
  have R1:=r1.base
  rw[e1]at R1 h1
  rw[e2]at R1 q
  exact k H1 v r R1 (λb o e=>r1.stp.keep b o e (.inl rfl)) q h1
theorem Z31(i:Nat)(he:ME X io p true e m)(hj:ME X io true c a mi)(hN:X.N[i]? =some x:=by rfl)(hv:Vis X.env.scope x:=by first|exact Qo rfl|exact Qg (Qo rfl)|exact Qg (Qg rfl))(hd:(x==("__debug__" : Str))=false:=by decide)
  (hcd:(x==("__classdict__" : Str))=false:=by decide)
  (hpg:∀{to ti:TE},PE X (.Name x px) to->PE X a ti->PG X (.Subscript (.Name x px) a pp) (Z8c to ti Zwy):=by intro _ _ A B;exact Zt8 A B set_list)
  (hs:swapsWithSole [.Subscript (.Name x px) a pp] e pos.line X.env=pure false:=by rfl) (hw:swappedStores [.Subscript (.Name x px) a pp] e X.env=pure none:=by rfl)
  (h1:(QT [.Subscript (.Name x px) a pp] X.env).map (·.2)=[Vx (.Subscript (.Name x px) a pp) X.env]:=by rfl):MS X io (.Assign [.Subscript (.Name x px) a pp] e pos) (Yct i m mi):=by
 obtain⟨_,A,s⟩:=he
 obtain⟨_,B,sj⟩:=hj
 refine⟨_,Zqm A (hpg (pv i hN hv hd hcd) B) hs hw h1,λC H σ δ fp ex D D' R h E=>?_⟩
 refine s C H σ δ fp ex _ _ R h λH1 v r δ1 fp1 new r1 h1=>?_
 have R1:=r1.base
 have q:=(r1.da R).wide (L':=Lf C fp1 ex) λa l _=>l rfl
 split at h1
 case h_2=>exact h1.elim
 rename_i ts hi
 obtain⟨a',_,_,hv0,_⟩:=R1.ownNd hi
 refine⟨_,hv0,?_⟩
 refine sj.pureAfter R1 h1 λH2 w n R2 s2 q2 h2=>?_
 obtain⟨k,rfl,h2⟩:=q2.intInv h2
 split at h2
 case h_2=>exact h2.elim
 rename_i j hj
 obtain⟨a2,xs,bs,hv2,hx,o,hf⟩:=R2.ownNd hi
 rw[hv0]at hv2
 cases hv2
 obtain⟨bs',o',hs'⟩:=Owns.set (.fz (q.same s2)) j o
 refine⟨a',xs,k,j,rfl,rfl,hx,by rw[o.length];exact hj,?_⟩
 obtain⟨R3,S3⟩:=R2.top hi hv0 hf hx o' hs'
 exact E.nx _ σ _ _ R3 (r1.stp.kp.trans (Kp.trans ⟨λb o e _=>s2 _ _ e,λz=>(nomatch z),λa z=>.inl z,s2.al⟩ S3.kp)) h2
theorem Owns.deep{H:Hp}{L:Addr->Prop}{b':Addr}{ws ws':List V}{us us':List OT}(hb:H b'=Bf (HO.lst ws))(hL:¬L b')(hc:∀cs,Owns G H L ws us cs->∃cs',Owns G H L ws' us' cs'∧cs'.Sublist cs) :
  ∀{xs:List V} {ts:List OT} {as:List Addr} {j:Nat},Owns G H L xs ts as->as.Nodup->xs[j]? =Bf (.ref b')->ts[j]? =Bf (.nd us)->∃as',Owns G (upd H b' (.lst ws')) L xs (ts.set j (.nd us')) as'∧as'.Sublist as∧b'∈as
 | _,_,_,_,.nil,_,e,_=>by simp at e
 | _,_,_,0,.cons (as:=as) (bs:=bs) k t,nd,e,e'=>by
  simp at e e'
  subst e e'
  have nd':=QQ.mp nd
  have kp:∀a o,a≠b'->H a=Bf o->upd H b' (.lst ws') a=Bf o:=λa o n q=>by rw[Zr n];exact q
  have f1:∀a (zs:MuO),L a->Rd H a zs.ho->L a∧Rd (upd H b' (.lst ws')) a zs.ho:=λa zs l q=>⟨l,by
   have na:a≠b':=λz=>hL (z▸l)
   rcases q with q|⟨u,q⟩
   ·exact .inl (kp a _ na q)
   ·exact .inr ⟨u,kp a _ na q⟩⟩
  have f2:∀a (zs:ImO),H a=Bf zs.ho->upd H b' (.lst ws') a=Bf zs.ho:=λa zs q=>kp a _ (λz=>ImO.nl q (z▸hb)) q
  cases k with
  | nd h r=>
   rename_i xs0 as0
   rw[hb]at h
   cases h
   have nd2:=Qs.mp nd'.1
   obtain⟨cs',o',s'⟩:=hc _ r
   refine⟨b' :: cs' ++ bs,.cons (.nd Z1 (o'.frame f1 f2 λa m zs q=>kp a _ (λz=>nd2.1 (s'.subset (z▸m))) q)) (t.frame f1 f2 λa m zs q=>kp a _ (λz=>nd'.2.2 b' (.head _) a m z.symm) q),List.Sublist.append_right (List.Sublist.cons₂ _ s') bs,Q9 _ (.head _)⟩
 | _,_,_,j+1,.cons (as:=as) (bs:=bs) k t,nd,e,e'=>by
  have nd':=QQ.mp nd
  obtain⟨as',o,s,m⟩:=Owns.deep hb hL hc (j:=j) t nd'.2.1 (by simpa using e) (by simpa using e')
  have nb:b'∉as:=λz=>nd'.2.2 b' z b' m rfl
  refine⟨as ++ as',.cons ?_ o,List.Sublist.append_left s as,XF _ m⟩
  have kp:∀a o,a≠b'->H a=Bf o->upd H b' (.lst ws') a=Bf o:=λa o n q=>by rw[Zr n];exact q
  refine k.frame (λa zs l q=>⟨l,?_⟩) (λa zs q=>kp a _ (λz=>ImO.nl q (z▸hb)) q) λa m' zs q=>kp a _ (λz=>nb (z▸m')) q
  have na:a≠b':=λz=>hL (z▸l)
  rcases q with q|⟨u,q⟩
  ·exact .inl (kp a _ na q)
  ·exact .inr ⟨u,kp a _ na q⟩
theorem Zbh(i:Nat)(he:ME X io p true e m)(hj:ME X io true c a mi)(hk:ME X io true c' b mj)(hPa:Zj9 a)(hN:X.N[i]? =some x:=by rfl)(hv:Vis X.env.scope x:=by first|exact Qo rfl|exact Qg (Qo rfl)|exact Qg (Qg rfl))(hd:(x==("__debug__" : Str))=false:=by decide)
  (hcd:(x==("__classdict__" : Str))=false:=by decide)
  (hpg:∀{to ti:TE},PE X (.Subscript (.Name x px) a pp) to->PE X b ti->PG X (.Subscript (.Subscript (.Name x px) a pp) b p2) (Z8c to ti Zwy):=by intro _ _ A B;exact Zt8 A B set_list)
  (hs:swapsWithSole [.Subscript (.Subscript (.Name x px) a pp) b p2] e pos.line X.env=pure false:=by rfl) (hw:swappedStores [.Subscript (.Subscript (.Name x px) a pp) b p2] e X.env=pure none:=by rfl)
  (h1:(QT [.Subscript (.Subscript (.Name x px) a pp) b p2] X.env).map (·.2)=[Vx (.Subscript (.Subscript (.Name x px) a pp) b p2) X.env]:=by rfl) :
  MS X io (.Assign [.Subscript (.Subscript (.Name x px) a pp) b p2] e pos) (Z3z i m mi mj):=by
 obtain⟨_,A,s⟩:=he
 obtain⟨_,B,sj⟩:=hj
 obtain⟨_,B2,sk⟩:=hk
 refine⟨_,Zqm A (hpg (Z6t (Zv2 rfl) (pv i hN hv hd hcd) B hPa) B2) hs hw h1,λC H σ δ fp ex D D' R h E=>?_⟩
 refine s C H σ δ fp ex _ _ R h λH1 v r δ1 fp1 new r1 h1=>?_
 have R1:=r1.base
 have q:=(r1.da R).wide (L':=Lf C fp1 ex) λa l _=>l rfl
 split at h1
 case h_2=>exact h1.elim
 rename_i ts hi
 obtain⟨a',_,_,hv0,_⟩:=R1.ownNd hi
 refine⟨_,hv0,?_⟩
 refine sj.pureAfter R1 h1 λH2 w n R2 s2 q2 h2=>?_
 obtain⟨k,rfl,h2⟩:=q2.intInv h2
 split at h2
 case h_2=>exact h2.elim
 rename_i j hj
 split at h2
 case h_2=>exact h2.elim
 rename_i us hus
 -- the row
 obtain⟨a2,xs2,bs2,hv2,hx2,o2,hf2⟩:=R2.ownNd hi
 rw[hv0]at hv2
 cases hv2
 obtain⟨xr,cr,hxr,orow,_⟩:=o2.get hus
 obtain⟨b',rfl⟩:∃b',xr=V.ref b':=by
  cases orow with
  | nd h r=>exact⟨_,rfl⟩
 refine⟨a',xs2,k,V.ref b',rfl,rfl,.inl (.inl hx2),?_,?_⟩
 ·unfold atI
  rw[o2.length,hj]
  exact hxr
 refine sk.pureAfter R2 h2 λH3 w' n' R3 s3 q3 h3=>?_
 obtain⟨k',rfl,h3⟩:=q3.intInv h3
 split at h3
 case h_2=>exact h3.elim
 rename_i j' hj'
 obtain⟨a3,xs3,bs3,hv3,hx3,o3,hf3⟩:=R3.ownNd hi
 rw[hv0]at hv3
 cases hv3
 have exs:xs3=xs2:=by
  have:=s3 _ _ hx2
  rw[hx3]at this
  cases this;rfl
 subst exs
 obtain⟨xr3,cr3,hxr3,orow3,hsub3⟩:=o3.get hus
 rw[hxr]at hxr3
 cases hxr3
 have nd3:=R3.nd i
 rw[hf3]at nd3
 have hn3:=Qs.mp nd3
 cases orow3 with
 | nd hb r3=>
  rename_i ws3 bs4
  have hbm:b'∈bs3:=hsub3.subset (.head _)
  have hbf:b'∈fp1 i:=by rw[hf3];exact .tail _ hbm
  have hLb:¬Lf C fp1 ex b':=λl=>l.1 ⟨i,hbf⟩
  obtain⟨as',oo,ss,_⟩:=Owns.deep (ws':=ws3.set j' v) (us':=us.set j' (.fz r.data)) hb hLb (λcs hcs=>Owns.set (.fz ((q.same s2).same s3)) j' hcs) o3 hn3.2 hxr hus
  refine⟨b',ws3,k',j',rfl,rfl,hb,by rw[r3.length];exact hj',?_⟩
  have hba:a'≠b':=λz=>hn3.1 (z▸hbm)
  -- the change
  have sub:∀a,a∈a' :: as'->a∈fp1 i:=λa m=>by
   rw[hf3]
   rcases Xl.mp m with rfl|m
   ·exact .head _
   ·exact .tail _ (ss.subset m)
  have kp:∀b o,H3 b=some o->b≠b'->upd H3 b' (.lst (ws3.set j' v)) b=some o:=λb o e n=>by rw[Zr n];exact e
  have lw:∀a,Lf C fp1 ex a->upd H3 b' (.lst (ws3.set j' v)) a≠none->Lf C (fpu fp1 i (a' :: as')) (exu ex []) a:=λa l _=>⟨λz=>by
   rcases z.of_u with z|⟨j,_,z⟩
   ·exact l.1 ⟨i,sub a z⟩
   ·exact l.1 ⟨j,z⟩,λz=>l.2.1 (Zbv.mp z),l.2.2⟩
  obtain⟨R4,S4⟩:=R3.change (new:=[]) (as':=a' :: as') (t':=.nd (ts.set j (.nd (us.set j' (.fz r.data))))) (H':=upd H3 b' (.lst (ws3.set j' v))) hi hv0 (λb o e nb=>kp b o e λz=>nb (by rw[z];exact hbf)) (λb e=>by
    by_cases q:b=b'
    ·subst q;rw[Z1]at e;cases e
    ·rwa[Zr q]at e) (.nd (by rw[Zr hba];exact hx3) (oo.wide lw)) (Qs.mpr ⟨λm=>hn3.1 (ss.subset m),hn3.2.sublist ss⟩) (λa m=>.inl (sub a m)) (λa m=>nomatch m)
  have k23:Kp H1 fp1 H3 fp1:=⟨λb o e _=>s3 _ _ (s2 _ _ e),λz=>(nomatch z),λa z=>.inl z,λb e=>s2.al b (s3.al b e)⟩
  exact E.nx _ σ _ _ (R4.drop λa z=>.inl z) (r1.stp.kp.trans (k23.trans S4.kp)) h3
end
variable {G:Xb}
mutual
noncomputable def Z1p:OT->Bool
 | .fz d=>Zb3 d
 | .nd ts=>Zsa ts
 | .tp ts=>Zsa ts
 | .dc _ _ _=>false
noncomputable def Zsa:List OT->Bool
 | []=>true
 | t :: ts=>Z1p t&&Zsa ts
end
section
variable {X:Cx}{io:List Nat}{p c:Bool}{e:Expr}{m:MEt}
theorem Rel.freeze{C:MC G}{H:Hp}{σ:St}{δ:Zg}{fp:Fp}{ex:Addr->Prop}{i:Nat}{t:OT}(R:Rel C io H σ δ fp ex)(hio:i∉io)(hi:δ[i]? =some (some t)):Rel C io H σ (δ.set i (some (.fz t.data))) (fpu fp i []) ex:=by
 have hil:i<δ.length:=(Xk.mp hi).1
 have sub:∀j a,a∈fpu fp i [] j->j≠i∧a∈fp j:=λj a m=>by
  by_cases ej:j=i
  ·subst ej;rw[Zx]at m;exact nomatch m
  ·rw[Yh ej]at m;exact⟨ej,m⟩
 have lw:∀a,Lf C fp ex a->Lf C (fpu fp i []) ex a:=λa l=>⟨λ⟨j,z⟩=>l.1 ⟨j,(sub j a z).2⟩,l.2.1,l.2.2⟩
 have ln:∀a∈fp i,Lf C (fpu fp i []) ex a:=λa m=>⟨λ⟨j,z⟩=>(sub j a z).1 (R.dj j i a (sub j a z).2 m),R.dx i a m,.inr (by
  rcases R.new i a m with z|z
  ·exact absurd z.1 hio
  ·exact z)⟩
 refine⟨by rw[Bb];exact R.len,λj t' e=>?_,λj h=>?_,λj=>?_,λj k a h1 h2=>R.dj j k a (sub j a h1).2 (sub k a h2).2,λj a h z=>R.dx j a (sub j a h).2 z,R.xa,R.fr,R.al,λj a h=>R.new j a (sub j a h).2,R.io⟩
 ·by_cases ej:j=i
  ·subst ej
   rw[Qi hil]at e
   cases e
   obtain⟨v,e1,o⟩:=R.own j t hi
   exact⟨v,e1,by rw[Zx];exact .fz (o.da (λa l _=>lw a l) ln)⟩
  ·rw[X4 (JM ej)]at e
   obtain⟨w,e1,o⟩:=R.own j t' e
   exact⟨w,e1,by rw[Yh ej];exact o.wide λa l _=>lw a l⟩
 ·by_cases ej:j=i
  ·subst ej;rw[Zx]
  ·rw[Yh ej]
   exact R.emp j λt' z=>h t' (by rw[X4 (JM ej)];exact z)
 ·by_cases ej:j=i
  ·subst ej;rw[Zx];exact .nil
  ·rw[Yh ej];exact R.nd j
noncomputable def Zkt(i:Nat)(u:MSt):MSt:=λD δ=>match δ[i]? with|some (some t)=>u D (δ.set i (some (.fz t.data)))|_=>False
theorem Zta{st:Stmt}{u:MSt}(i:Nat)(h:MS X io st u)(hio:i∉io:=by decide):MS X io st (Zkt i u):=by
 obtain⟨_,A,s⟩:=h
 exact⟨_,A,λC H σ δ fp ex D D' R h E=>by
  unfold Zkt at h
  split at h
  case h_2=>exact h.elim
  rename_i t hi
  refine s C H σ _ _ ex D D' (R.freeze hio hi) h (E.shift ⟨λb o e _=>e,λz=>(nomatch z),λa z=>?_,λb e=>e⟩)
  rcases z.of_u with z|⟨j,_,z⟩
  ·exact nomatch z
  ·exact .inl ⟨j,z⟩⟩
end
variable {G:Xb}
noncomputable def Z6x(ds:List Xa)(k:OT->Prop):Prop:=∃ns:List Int,ds=[.list (ns.map Xo)]∧ns.length≤63∧k (.fz (.bool true))
theorem Z32{H:Hp}{a:Addr}{ns:List Int}{E:XK}(hl:ns.length≤63)(h:SqL G H a (ns.map V.int)):spD G Z6x [.ref a] H (λv _=>v= .bl true) E:=by
 refine⟨λ_=>True,[.list (ns.map Xo)],λr=>r= .fz (.bool true),.cons ?_ .nil,⟨ns,rfl,hl,rfl⟩,λr v H' new kr s o _ _=>?_⟩
 ·rcases h with h|h
  ·exact .lst trivial h (.ints ns)
  ·exact .scr h
 ·subst kr
  cases o with
  | fz q=>cases q;rfl
section
variable {P:X6}{w:Qt}{mg:Str->Option Xc}{base:Heap}{CX:CXT}{n:Nat}{f:Addr}{fd:Xp}{ps:List Str}
theorem Da.ints_sq{H:Hp}{L:Addr->Prop}{v:V}{ns:List Int}(h:Da G H L v (.list (ns.map Xo))):∃a,v= .ref a∧SqL G H a (ns.map V.int):=by
 generalize e:QH (ns.map Xo)=d at h
 cases h with
 | lst l e1 r=>
  cases e
  rw[r.int_inv]at e1
  exact⟨_,rfl,.inl e1⟩
 | scr k=>
  rename_i a ms
  have e':=PyData.list.inj e
  have:ns=ms:=(List.map_inj_right (λ_ _ h=>by cases h;rfl)).mp e'
  subst this
  exact⟨_,rfl,k.sq⟩
 | _=>cases e
end
@[simp] theorem Zdd:OT.datas []=[]:=rfl
@[simp] theorem Za1(t:OT)(ts:List OT):OT.datas (t :: ts)=t.data :: OT.datas ts:=rfl
theorem Zmp{α:Type}{xs:List α}{i:Int}(h0:0≤i):atI xs i=xs[i.toNat]?:=by
 unfold atI ixN
 rw[if_pos h0]
 split
 ·rfl
 ·rename_i h
  symm
  exact QR.mpr (by omega)
theorem Zic{α:Type}{xs:List α}{i:Nat}:atI xs (i:Int)=xs[i]?:=by
 rw[Zmp (by omega),Q3]
@[simp] theorem Yex{α:Type}(x:α)(xs:List α):atI (x :: xs) 0=some x:=by
 rw[Zmp (by decide)];rfl
@[simp] theorem Ydu{α:Type}(x y:α)(xs:List α):atI (x :: y :: xs) 1=some y:=by
 rw[Zmp (by decide)];rfl
@[simp] theorem Yem{α:Type}(x y z:α)(xs:List α):atI (x :: y :: z :: xs) 2=some z:=by
 rw[Zmp (by decide)];rfl
@[simp] theorem Z73(ds:List Xa)(i:Int):ixD (.list ds) (.int i)=atI ds i:=rfl
@[simp] theorem Z8x(ds:List Xa)(i:Int):ixD (.tuple ds) (.int i)=atI ds i:=rfl
@[simp] theorem Z65(ds:List Xa):Zwp (.list ds)=some ds.length:=rfl
@[simp] theorem Z72(ds:List Xa):Zwp (.tuple ds)=some ds.length:=rfl
noncomputable def Zlh(r:List Rat):Xa:=.list (r.map frD)
noncomputable def tbD(T:List (List Rat)):Xa:=.list (T.map Zlh)
noncomputable def Ybp(r:List Rat):OT:=.nd (r.map λq=>.fz (frD q))
noncomputable def tbT(T:List (List Rat)):OT:=.nd (T.map Ybp)
@[simp] theorem Zri(r:List Rat):(Ybp r).data=Zlh r:=by
 unfold Ybp Zlh
 rw[OT.data_nd,Qp]
 rfl
@[simp] theorem Z77(T:List (List Rat)):(tbT T).data=tbD T:=by
 unfold tbT tbD
 rw[OT.data_nd,Qp]
 exact congrArg QH (Xy λr _=>Zri r)
noncomputable def dd(T:List (List Rat))(i j:Nat):Rat:=(T.getD i []).getD j 0
@[simp] theorem Z90(T:List (List Rat)):Zwp (tbD T)=some T.length:=by unfold tbD Zwp;simp
@[simp] theorem Z8g(r:List Rat):Zwp (Zlh r)=some r.length:=by unfold Zlh Zwp;simp
@[simp] theorem Z9p(q:Rat):Zb3 (frD q)=true:=by unfold frD fr;simp[Zb3,Zlv]
theorem Zs1{t b:Int}(ht:0≤t)(hb:0<b):0≤Xu t b:=Rat.divInt_nonneg ht (by omega)
theorem Zq9{n a:Nat}(h:a<n):ixN n (a:Int)=some a:=by
 unfold ixN
 rw[if_pos (by omega),if_pos (by omega)];simp
theorem Zl0:∀(r:List Rat),Zak (r.map frD)=true
 | []=>rfl
 | q :: r=>by
  show Zak (frD q :: r.map frD)=true
  rw[Zak,Zl0 r];rfl
theorem Zlm:∀(T:List (List Rat)),Zak (T.map Zlh)=true
 | []=>rfl
 | r :: T=>by
  show Zak (Zlh r :: T.map Zlh)=true
  rw[Zak,Zlm T,VH]
  unfold Zlh
  rw[Wo]
  exact Zl0 r
theorem Zv9(T:List (List Rat)):Wo (tbD T)=true:=by
 unfold tbD
 rw[Wo]
 exact Zlm T
theorem Zoo{d:Xa}(h:Wo d=true):Q7 d d=true:=Z3x h h rfl
structure Sh(n:Nat)(d:Xa):Prop where
 lay:JV d=true
 dep:PyData.depth d≤n
theorem Sh.shp{n:Nat}{d:Xa}(h:Sh n d)(hn:n≤64:=by decide):Z6g d:=⟨by
 show(JV d&&decide (PyData.depth d≤64))=true
 rw[h.lay,decide_eq_true (QF h.dep hn)];rfl⟩
theorem Zl4{n:Nat}:∀{ds:List Xa},(∀d∈ds,Sh n d)->JC ds=true∧PyData.depthAll ds≤n
 | [],_=>⟨by rw[JC],by rw[PyData.depthAll];exact Bh _⟩
 | d :: ds,h=>by
  obtain⟨h1,h2⟩:=Zl4 λe m=>h e (.tail _ m)
  have h3:=h d (.head _)
  refine⟨by rw[JC,h3.lay,h1];rfl,?_⟩
  rw[PyData.depthAll]
  exact Nat.max_le.mpr ⟨h3.dep,h2⟩
theorem Znb{n:Nat}{ds:List Xa}(h:∀d∈ds,Sh n d):Sh (n+1) (.list ds) :=
 ⟨by rw[JV];exact(Zl4 h).1,by rw[PyData.depth];exact VG (Zl4 h).2⟩
theorem Z5p{n:Nat}{ds:List Xa}(h:∀d∈ds,Sh n d):Sh (n+1) (.tuple ds) :=
 ⟨by rw[JV];exact(Zl4 h).1,by rw[PyData.depth];exact VG (Zl4 h).2⟩
theorem Zw9(i:Int):Sh 0 (.int i):=⟨rfl,Nat.le_of_eq rfl⟩
theorem Z9e(q:Rat):Sh 1 (frD q):=Z5p λd m=>by
 simp at m
 rcases m with rfl|rfl<;>exact Zw9 _
theorem Z3w(r:List Rat):Sh 2 (Zlh r):=Znb λd m=>by
 obtain⟨q,_,rfl⟩:=XQ.mp m
 exact Z9e q
theorem Yav(T:List (List Rat)):Sh 3 (tbD T):=Znb λd m=>by
 obtain⟨q,_,rfl⟩:=XQ.mp m
 exact Z3w q
section
variable {X:Cx}{pins:List (Addr×Obj)}{σ:St}{H:Hp}{s:Xd}
theorem Inv.turnTup{h':Heap}{ch:List Addr}{T:Addr}{xs:List V}{its:List Xc}(I:Inv X pins σ H s)(f:∀b∈ch,Zjz X pins H b)(k:∀b o,b∉ch->s.heap.get? b=some o->h'.get? b=some o)
  (th:∀b∈ch,∃o,h'.get? b=some o) (hT:s.heap.objs.size≤T) (hz:xs.length≤Xq) (r:Vals xs its) (ht:IsTup h' T its.toArray):Inv X pins σ (upd H T (.tup xs)) { s with heap:=h' }:=by
 have hn:H T=none:=I.hok.fresh hT
 have nch:∀b u,H b=some u->b∉ch:=λb u e z=>by rw[(f b z).1]at e;cases e
 have new:ObjOk X.prog X.w (upd H T (.tup xs)) h' T (.tup xs):=⟨hz,its,r,ht⟩
 refine I.call (ch:=ch) (g':=s.gens) (d':=s.drawn) (t':=s.toks) ⟨λb o e _ _ hc=>k b o hc e,λb o e _ _ hc=>⟨o.slots,k b o hc e⟩,λb o e n _=>?_,λb o e hc=>?_,λb ys e=>?_,λb o u e=>?_,λb ps e=>?_⟩ (λb u e=>?_) I.bare (λb hb=>?_)
 ·rw[Zr (λz=>by rw[z]at e;exact absurd (Xv e) (Nat.not_lt.mpr hT))];exact n
 ·exact⟨o,k b o hc e⟩
 ·rw[Zr (Yu e hn)];exact e
 ·rw[Zr (Yu e hn)];exact e
 ·exact⟨#[],by rw[Zr (Yu e hn),e];simp⟩
 ·by_cases hb:b=T
  ·subst hb;rw[Z1]at e;cases e;exact new
  ·rw[Zr hb]at e
   refine(I.hok b u e).stay (λc v hc q=>k c v ?_ q) (λc q=>by rw[Zr (Yu q hn)];exact q) λc ys q=>by rw[Zr (Yu q hn)];exact q
   rcases hc with rfl|hc
   ·exact nch _ _ e
   ·exact nch _ _ hc
 ·obtain⟨f0,f1,f2,f3,f4,f5⟩:=f b hb
  exact⟨f3,f1,f4,f5⟩
theorem Inv.turnAll{h':Heap}{ch:List Addr}(I:Inv X pins σ H s)(f:∀b∈ch,Zjz X pins H b)(k:∀b o,b∉ch->s.heap.get? b=some o->h'.get? b=some o):Inv X pins σ H { s with heap:=h' }:=by
 have nch:∀b u,H b=some u->b∉ch:=λb u e z=>by rw[(f b z).1]at e;cases e
 refine I.call (ch:=ch) (g':=s.gens) (d':=s.drawn) (t':=s.toks) ⟨λb o e _ _ hc=>k b o hc e,λb o e _ _ hc=>⟨o.slots,k b o hc e⟩,λb o e n _=>n,λb o e hc=>⟨o,k b o hc e⟩,λb ys e=>e,λb o u e=>e,λb ps e=>⟨#[],by rw[e];simp⟩⟩ (λb u e=>?_) I.bare (λb hb=>?_)
 ·refine(I.hok b u e).stay (λc v hc q=>k c v ?_ q) (λc q=>q) λc ys q=>q
  rcases hc with rfl|hc
  ·exact nch _ _ e
  ·exact nch _ _ hc
 ·obtain⟨f0,f1,f2,f3,f4,f5⟩:=f b hb
  exact⟨f3,f1,f4,f5⟩
end
variable {G:Xb}
section
variable {X:Cx}{io:List Nat}{p c:Bool}{e a b tg:Expr}{m:MEt}{mr:MAt}
theorem Rel.keptList{C:MC G}{H:Hp}{σ:St}{δ:Zg}{fp:Fp}{ex:Addr->Prop}{v:V}{ds:List Xa}(R:Rel C io H σ δ fp ex)(q:Da G H (λa=>c=true->Lf C fp ex a) v (.list ds)) :
  ∃a xs,v= .ref a∧∀H':Hp,(∀b o,H b=some o->(c=false∨¬Foot fp b)->H' b=some o)->SqL G H' a xs∧Das G H' (λa=>c=true->(Lf C fp ex a∧H a≠none)) xs ds:=by
 generalize hd:QH ds=d at q
 cases q with
 | lst l e r=>
  cases hd
  rename_i a0 xs0
  refine⟨a0,xs0,rfl,λH' kp=>?_⟩
  obtain⟨f1,f2⟩:=R.kept kp
  exact⟨.inl (f1 _ (.lst _) l e).2,r.frame f1 f2⟩
 | scr k=>
  rename_i a ns
  have:=PyData.list.inj hd
  subst this
  exact⟨a,_,rfl,λH' _=>⟨k.sq,.ints ns⟩⟩
 | _=>cases hd
noncomputable def Zn0(as bs:List Xa):List Xa:=(as.zip bs).map λx=>.tuple [x.1,x.2]
theorem Zvo{as bs:List Xa}{i:Nat}{d:Xa}(h:(Zn0 as bs)[i]? =some d):∃x y,as[i]? =some x∧bs[i]? =some y∧d= .tuple [x,y]:=by
 unfold Zn0 at h
 rw[Xm]at h
 cases e:(as.zip bs)[i]? with
 | none=>rw[e]at h;cases h
 | some z=>
  rw[e]at h
  cases h
  obtain⟨h1,h2⟩:=List.getElem?_zip_eq_some.mp e
  exact⟨z.1,z.2,h1,h2,rfl⟩
theorem Zqv{as bs:List Xa}{i:Nat}(h:(Zn0 as bs)[i]? =none):as.length≤i∨bs.length≤i:=by
 unfold Zn0 at h
 have:=QR.mp h
 simp at this
 omega
@[simp] theorem Z1t(as bs:List Xa):(Zn0 as bs).length=min as.length bs.length:=by simp[Zn0]
end
variable {G:Xb}
section
variable {X:Cx}{io:List Nat}{c1 c2 c3:Bool}{a b e:Expr}{ma mb mc:MEt}{pos:Pos}{f g:Int->Int->Bool}
end
theorem Zd7:∀{ns:List Int} {its:List Xc},Vals (ns.map V.int) its->∃xs:List (Int×Tok),its=xs.map (λp=>Uu p.1 p.2)∧xs.map (·.1)=ns
 | [],_,.nil=>⟨[],rfl,rfl⟩
 | n :: ns,_,.cons r rs=>by
  obtain⟨t,e⟩:=(show∃t,_=Uu n t from r)
  obtain⟨xs,h1,h2⟩:=Zd7 rs
  exact⟨(n,t) :: xs,by rw[e,h1];rfl,by rw[Ql,h2]⟩
noncomputable def Yc6(K:Xb):List V->Hp->VK->Prop:=λxs H Q=>∃(a:Addr) (ns:List Int),xs=[.ref a]∧SqL K H a (ns.map V.int)∧Q (.int ns.sum) H
theorem Zro{X:Cx}{K:Xb}(hK:X.K=K)(hc:X.calm=true):Zd9 X (.builtin "sum") (Yc6 K):=by
 subst hK
 intro pins s σ H xs us Q I r h
 obtain⟨a,ns,rfl,hs,q⟩:=h
 obtain⟨u,rfl,ru⟩:=vals1 r
 cases(show u=Qu a from ru)
 obtain⟨its,rv,pl,hz⟩:=I.list hs
 obtain⟨ps,rfl,e2⟩:=Zd7 rv
 refine sum_intListG (xs:=ps.toArray) (I.ok.hd hc) (by simpa [Ut]using pl.isList) λh' tk t' hk=>?_
 refine⟨.int ns.sum,H,I.kept (t':=tk) hk,⟨t',?_⟩,q⟩
 congr 1
 rw[preSum_eq,List.take_of_length_le (by simp)]
 show(ps.map (·.1)).sum=ns.sum
 rw[e2]
noncomputable def Ycy:List Xa->(Xa->Prop)->Prop:=λds k=>n1 (λd=>∃ns:List Int,d= .list (ns.map Xo)∧k (.int ns.sum)) ds
theorem Z38:PNs G (Yc6 G) Ycy:=λH L xs ds k Q hx h kk=>by
 obtain⟨v,d,rfl,rfl,q,ns,e,h'⟩:=hx.one h
 subst e
 obtain⟨a,rfl,hs⟩:=q.ints_sq
 exact⟨a,ns,rfl,hs,kk _ _ (.int _) h'⟩
section
variable {X:Cx}{io:List Nat}{p c:Bool}{a b e:Expr}{ma mb m:MEt}{pos pl:Pos}
noncomputable def Ycm(m mb:MEt):MEt:=λδ K=>m δ λr δ1=>mb δ1 λn _=>asI n.data λk=>(-(2^63)≤k∧k<2^63∧k.toNat≤Xq)∧K (.nd (Xz k.toNat (.fz r.data))) δ1
theorem Zoe{α:Type}(x:α):∀n:Nat,(Xz n [x]).flatten=Xz n x
 | 0=>rfl
 | n+1=>by rw[Bv,Vt,Zoe x n];rfl
theorem Das.rep{H:Hp}{L:Addr->Prop}{v:V}{d:Xa}(h:Da G H L v d):∀n:Nat,Das G H L (Xz n v) (Xz n d)
 | 0=>.nil
 | n+1=>.cons h (Das.rep h n)
theorem Ya4(ha:ME X io p true a m)(hb:ME X io true c b mb)(hs:Xh [a] X.env=(false,eval a X.env) :: Xh [] X.env:=by rfl):ME X io p true (.BinOp (.List [a] pl) .Mult b pos) (Ycm m mb):=by
 obtain⟨_,A,sa⟩:=ha
 obtain⟨_,B,sb⟩:=hb
 refine⟨_,Zz9 Z7d (Zx2 (Y5 A Zgo hs)) B,λC H σ δ fp ex K Q R h k=>?_⟩
 refine sa C H σ δ fp ex _ _ R h λH1 v r δ1 fp1 new r1 h1=>⟨(by show 1≤Xq;decide),λl hl=>?_⟩
 have R1:=r1.base
 have s1:=Ys hl (.lst [v])
 refine sb.pureAfter (R1.mk0 s1) h1 λH2 w n R2 s2 q2 h2=>?_
 obtain⟨i,rfl,h2⟩:=q2.intInv h2
 have q:=(((r1.da R).wide (L':=Lf C fp1 ex) λa l _=>l rfl).same s1).same s2
 refine⟨l,i,[v],rfl,rfl,s2 _ _ Z1,h2.1.1,h2.1.2.1,by show 1*i.toNat≤Xq;rw[Nat.one_mul];exact h2.1.2.2,λt ht=>?_⟩
 rw[Zoe]
 have S:Stp p H δ fp H2 δ1 fp1:=by
  have:=r1.stp.trans (p':=true) (Stp.same (p:=true) (δ:=δ1) (fp:=fp1) (s1.trans s2) (s1.trans s2).al)
  rwa[VH]at this
 refine k _ _ _ δ1 fp1 [t] (RE.tree R R2 S (Ys ht _) (Zks ht) (Zn7 t) ?_) h2.2
 have:=Own.list ht ((Das.rep q i.toNat).wide (L':=λa=>true=true->Lf C fp1 ex a) λa l _ _=>l)
 rwa[List.map_replicate]at this
end
theorem ObjOk.is{P:X6}{w:Qt}{H:Hp}{h:Heap}{a:Addr}{o:HO}(x:ObjOk P w H h a o):∃u,h.get? a=some u:=by
 cases o with
 | lst xs=>obtain⟨_,_,_,_,e⟩:=x;exact⟨_,e⟩
 | tup xs=>obtain⟨_,_,_,ob,e,_⟩:=x;exact⟨_,e⟩
 | dK kvs=>obtain⟨_,_,_,_,o,_,_,e,_⟩:=x;exact⟨_,e⟩
 | dT kvs=>obtain⟨_,_,_,_,o,_,_,e,_⟩:=x;exact⟨_,e⟩
 | set S n=>obtain⟨o,_,_,_,e,_⟩:=x;exact⟨_,e⟩
 | ins C dx fs=>obtain⟨_,_,_,e,_⟩:=x;exact⟨_,e⟩
 | own y=>obtain⟨_,e⟩:=x;exact⟨_,e⟩
 | xd fs=>obtain⟨_,⟨_,_,_,e,_⟩,_⟩:=x;exact⟨_,e⟩
 | rng lo hi=>obtain⟨_,_,_,e⟩:=x;exact⟨_,e⟩
 | frz ob u=>obtain⟨e,_⟩:=x;exact⟨_,e⟩
 | tbl ps=>exact⟨_,(show h.get? a=some _ from x)⟩
 | met f y=>exact⟨_,(show h.get? a=some _ from x)⟩
 | ext φ=>obtain⟨_,⟨_,e⟩,_⟩:=x;exact⟨_,e⟩
structure Uk(X:Cx)(pins:List (Addr×Obj))(H:Hp)(b:Addr):Prop where
 fr:H b=none
 new:X.s₀.heap.get? b=none
 loc:b≠X.env.locals
 cel:∀x c,X.env.cells.lookup x=some c->c≠b
 pin:∀p∈X.pn ++ pins,p.1≠b
section
variable {X:Cx}{pins:List (Addr×Obj)}{σ:St}{H H':Hp}{s:Xd}{h':Heap}{b a C:Addr}
theorem Inv.apart(I:Inv X pins σ H s)(hex:X.ex=[])(hb:s.heap.get? b=none)(hH:H' b=none):Uk X pins H' b:=by
 have ne:∀c o,s.heap.get? c=some o->c≠b:=λc o e z=>by rw[z,hb]at e;cases e
 refine⟨hH,?_,?_,λx c e=>?_,λp hp=>?_⟩
 ·cases q:X.s₀.heap.get? b with
  | none=>rfl
  | some o=>
   obtain⟨o',e⟩:=I.base.there b o q (by rw[hex];simp)
   rw[hb]at e;cases e
 ·obtain⟨m,⟨o,_,_,ho,_⟩,_⟩:=I.loc
  exact(ne _ _ ho).symm
 ·obtain⟨v,o,ho,_⟩:=I.cell x c e
  exact ne _ _ ho
 ·exact ne _ _ (I.pin p hp).1
theorem Inv.unheld(I:Inv X pins σ H s)(hb:s.heap.get? b=none):H b=none:=by
 cases q:H b with
 | none=>rfl
 | some u=>
  obtain⟨o,e⟩:=(I.hok b u q).is
  rw[hb]at e;cases e
theorem Inv.nofrs(I:Inv X pins σ H s)(hb:b≠X.env.locals)(hf:b∉X.fs):b∉frs X.stack:=λz=>(Xl.mp (I.stkSub b z)).elim hb hf
theorem Inv.flown{t':Nat}(I:Inv X pins σ H s){ch:List Addr}(hch:∀b∈ch,Uk X pins H b)(keep:∀b o,b∉frs X.stack->b∉ch->s.heap.get? b=some o->h'.get? b=some o)
  (slot:∀b o,b∈frs X.stack->s.heap.get? b=some o->∃sl,h'.get? b=some { o with slots:=sl }):Inv X pins σ H { s with heap:=h',toks:=t' }:=by
 have any:∀b o,b∉ch->s.heap.get? b=some o->∃sl,h'.get? b=some { o with slots:=sl }:=λb o n e=>by
  by_cases hb:b∈frs X.stack
  ·exact slot b o hb e
  ·exact⟨o.slots,keep b o hb n e⟩
 have neL:∀b o,X.s₀.heap.get? b=some o->b≠X.env.locals:=λb o e=>Xn (X3 (Xv e) I.ok.above)
 have neC:∀b o,X.s₀.heap.get? b=some o->b∉ch:=λb o e hb=>by
  have:=(hch b hb).new
  rw[this]at e;cases e
 have cellK:∀x c,X.env.cells.lookup x=some c->∀v,s.heap.IsCell c v->h'.IsCell c v:=λx c e v q91=>by
  obtain⟨o,ho,hd⟩:=q91
  obtain⟨sl,q⟩:=any c o (λz=>(hch c z).cel x c e rfl) ho
  exact⟨_,q,hd⟩
 have nL:X.env.locals∉ch:=λz=>(hch _ z).loc rfl
 refine⟨I.ok,I.os,I.bare,⟨λb o e n hb hx=>?_,λb o e n hb hx=>?_,I.base.free,λb o e hx=>?_,I.base.tups,I.base.frzs,I.base.tbls⟩,?_,λx c e=>?_,I.free,I.freeC,λp hp=>?_,λb u e=>?_,I.len⟩
 ·exact keep b o (I.nofrs (neL b o e) hb) (neC b o e) (I.base.keep b o e n hb hx)
 ·obtain⟨sl,e1⟩:=I.base.slot b o e n hb hx
  obtain⟨sl',e2⟩:=any b _ (neC b o e) e1
  exact⟨sl',e2⟩
 ·obtain⟨o',e1⟩:=I.base.there b o e hx
  obtain⟨sl,e2⟩:=any b o' (neC b o e) e1
  exact⟨_,e2⟩
 ·obtain⟨m,⟨o,es,ep,ho,r⟩,hl⟩:=I.loc
  obtain⟨sl,q⟩:=any _ o nL ho
  refine⟨m,⟨_,es,ep,q,r⟩,λi x v e1 e2 e3=>?_⟩
  obtain⟨u,rv,l⟩:=hl i x v e1 e2 e3
  refine⟨u,rv,?_⟩
  rcases l with l|⟨k,c,e,z⟩
  ·exact .inl l
  ·exact .inr ⟨k,c,e,cellK x c e _ z⟩
 ·obtain⟨v,z⟩:=I.cell x c e
  exact⟨v,cellK x c e v z⟩
 ·obtain⟨e,n,ne,nf,d⟩:=I.pin p hp
  exact⟨keep p.1 p.2 (I.nofrs ne nf) (λz=>(hch _ z).pin p hp rfl) e,n,ne,nf,d⟩
 ·refine(I.hok b u e).stay (λc v hc q=>keep c v (λz=>?_) (λz=>?_) q) (λ_ q=>q) λ_ _ q=>q
  ·have n:=I.stkFree c z
   rcases hc with rfl|hc
   ·rw[n]at e;cases e
   ·rw[n]at hc;cases hc
  ·have n:=(hch c z).fr
   rcases hc with rfl|hc
   ·rw[n]at e;cases e
   ·rw[n]at hc;cases hc
noncomputable def Fl(ap:Addr->Prop)(C a:Addr)(fl:Xc)(h:Heap):Prop:=∃a0 oe vs T oT ts,h.get? a=some oe∧(oe.cls= .ref C∧vs[0]? =some a0)∧oe.data= .fields vs∧vs[1]? =some (.ref T)∧T≠a∧h.get? T=some oT∧oT.data= .fields ts∧ts[3]? =some fl∧ap a∧ap T
noncomputable def Fl0(ap:Addr->Prop)(C a:Addr)(h:Heap):Prop:=∃a0 oe vs,h.get? a=some oe∧(oe.cls= .ref C∧vs[0]? =some a0)∧oe.data= .fields vs∧vs[1]? =some .none∧ap a
noncomputable def FlA(ap:Addr->Prop)(fl:Xc)(C a:Addr)(h:Heap):Prop:=Fl ap C a .none h∨Fl0 ap C a h∨Fl ap C a fl h
theorem Fl.imp{ap ap':Addr->Prop}{fl:Xc}{h:Heap}(f:∀b,ap b->ap' b)(x:Fl ap C a fl h):Fl ap' C a fl h:=by
 obtain⟨a0,oe,vs,T,oT,ts,h1,h2,h3,h4,h5,h6,h7,h8,h9,h10⟩:=x
 exact⟨a0,oe,vs,T,oT,ts,h1,h2,h3,h4,h5,h6,h7,h8,f _ h9,f _ h10⟩
theorem Fl.exO{ap:Addr->Prop}{fl:Xc}{h:Heap}(x:Fl ap C a fl h):ExO C a h:=by
 obtain⟨a0,oe,vs,T,oT,ts,h1,h2,h3,_⟩:=x
 exact⟨oe,vs,h1,h2.1,h3⟩
section
variable {M:Model}{A:Qk}{E:Xc->Xd->Prop}{Q:Unit->Xd->Prop}{ch:List Addr}
theorem Inv.hidFrames(I:Inv X pins σ H s):s.heap.FunFrames (Q5 s.heap (frs X.stack ++ ch)) X.stack :=
 PySem.W.funFrames_hide I.stack λenv he b hb=>Q9 _ (List.mem_filterMap.mpr ⟨env,he,hb⟩)
theorem Inv.flyTo(I:Inv X pins σ H s)(hch:∀b∈ch,Uk X pins H b)(k1:(Q5 s.heap (frs X.stack ++ ch)).StaysIn h')(k4:∀b o,s.heap.get? b=some o->(∀vs,o.data≠ .fields vs)->∃sl,h'.get? b=some { o with slots:=sl }) :
  Inv X pins σ H { s with heap:=h' } :=
 I.flown (t':=s.toks) hch (λb o hf hc e=>k1 b o (PySem.W.hideAll_get _ e λz=>(QC.mp z).elim hf hc)) λb o hb e=>by
  obtain⟨_,o',ho',hd⟩:=I.stack.mem hb
  rw[e]at ho';cases ho'
  exact k4 b o e hd
theorem Inv.flyT(I:Inv X pins σ H s)(hex:X.ex=[])(hch:∀b∈ch,Uk X pins H b){T:Addr}{oT:Obj}{ts:Array Xc}(k4:∀b o,s.heap.get? b=some o->(∀vs,o.data≠ .fields vs)->∃sl,h'.get? b=some { o with slots:=sl })
  (hT:(Q5 s.heap (frs X.stack ++ ch)).get? T=none) (h1:h'.get? T=some oT) (h2:oT.data= .fields ts):Uk X pins H T:=by
 by_cases hc:T∈ch
 ·exact hch T hc
 by_cases hf:T∈frs X.stack
 ·obtain⟨_,o',ho',hd⟩:=I.stack.mem hf
  obtain⟨sl,e⟩:=k4 T o' ho' hd
  rw[h1]at e
  cases e
  exact absurd h2 (hd ts)
 have hn:s.heap.get? T=none:=by
  cases q:s.heap.get? T with
  | none=>rfl
  | some o=>
   have:=PySem.W.hideAll_get (frs X.stack ++ ch) q λz=>(QC.mp z).elim hf hc
   rw[hT]at this;cases this
 exact I.apart hex hn (I.unheld hn)
theorem Zol(I:Inv X pins σ H s)(hex:X.ex=[])(hst:X.stack=X.env :: X.outer)(hf:X.env.frame=some X.env.locals)(hA:A.frames=some X.stack)(F:FlA (Uk X pins H) (UV X.env.locals) C a s.heap)
  (h:∀s',Inv X pins σ H s'->Fl (Uk X pins H) C a (UV X.env.locals) s'.heap->Q () s'):XX M A (noteFrame (.ref a) X.env) Q E s:=by
 rcases F with F|F|F
 ·obtain⟨a0,oe,vs,T,oT,ts,eA,cA,dA,v1,nT,eT,dT,t3,pA,pT⟩:=F
  have hch:∀b∈[a,T],Uk X pins H b:=λb hb=>by
   rcases Xl.mp hb with rfl|hb
   ·exact pA
   ·rw[XC.mp hb];exact pT
  have hen:(Q5 s.heap (frs X.stack ++ [a,T])).get? a=none:=Va _ (XF _ (.head _))
  have hTn:(Q5 s.heap (frs X.stack ++ [a,T])).get? T=none:=Va _ (XF _ (.tail _ (.head _)))
  have fr:=I.hidFrames (ch:=[a,T])
  refine wpAny_noteFrame_onW (base:=Q5 s.heap (frs X.stack ++ [a,T])) (outer:=X.outer) (hA.trans (by rw[hst])) (hst▸fr) hf ⟨oe,vs,T,oT,ts,eA,cA,dA,v1,hTn,nT,eT,dT,t3⟩ (λb o e=>VR _ e) hen λh' hN=>?_
  obtain⟨k1,_,⟨oe',vs',T',oT',ts',e1,e2,e3,e4,e5,e6,e7,e8,e9⟩,k4⟩:=hN
  exact h _ (I.flyTo hch k1 k4) ⟨a0,oe',vs',T',oT',ts',e1,e2,e3,e4,e6,e7,e8,e9,pA,I.flyT hex hch k4 e5 e7 e8⟩
 ·obtain⟨a0,oe,vs,eA,cA,dA,v1,pA⟩:=F
  have hch:∀b∈[a],Uk X pins H b:=λb hb=>by rw[XC.mp hb];exact pA
  have hen:(Q5 s.heap (frs X.stack ++ [a])).get? a=none:=Va _ (XF _ (.head _))
  have fr:=I.hidFrames (ch:=[a])
  unfold noteFrame
  simp only[hf]
  refine Xe (JF eA dA v1 ?_)
  rw[if_neg (by decide)]
  refine wpAny_entryW (base:=Q5 s.heap (frs X.stack ++ [a])) (outer:=X.outer) (hA.trans (by rw[hst])) (hst▸fr) hf eA (λb o e=>VR _ e) hen dA (Array.getElem?_eq_some_iff.mp v1).1 cA.2 λh' hN=>?_
  obtain⟨k1,_,⟨oe',vs',T',oT',ts',e1,e2,e3,e4,e5,e6,e7,e8,e9⟩,k4⟩:=hN
  exact h _ (I.flyTo hch k1 k4) ⟨a0,oe',vs',T',oT',ts',e1,⟨e2.1.trans cA.1,e2.2⟩,e3,e4,e6,e7,e8,e9,pA,I.flyT hex hch k4 e5 e7 e8⟩
 ·have F':=F
  obtain⟨a0,oe,vs,T,oT,ts,eA,cA,dA,v1,nT,eT,dT,t3,pA,pT⟩:=F
  unfold noteFrame
  simp only[hf]
  refine Xe (JF eA dA v1 ?_)
  rw[if_pos (by rfl)]
  refine Xe (JF eT dT t3 ?_)
  rw[if_pos (by simp)]
  exact X8 (h s I F')
theorem Zko(I:Inv X pins σ H s)(hex:X.ex=[]){fl:Xc}(F:Fl (Uk X pins H) C a fl s.heap)
  (h:∀s',Inv X pins σ H s'->Fl (Uk X pins H) C a .none s'.heap->Q () s'):XX M A (setFlight (.ref a) none) Q E s:=by
 obtain⟨a0,oe,vs,T,oT,ts,eA,cA,dA,v1,nT,eT,dT,t3,pA,pT⟩:=F
 have hch:∀b∈[a,T],Uk X pins H b:=λb hb=>by
  rcases Xl.mp hb with rfl|hb
  ·exact pA
  ·rw[XC.mp hb];exact pT
 have hTn:(Q5 s.heap (frs X.stack ++ [a,T])).get? T=none:=Va _ (XF _ (.tail _ (.head _)))
 refine wpAny_setFlight_noneW (base:=Q5 s.heap (frs X.stack ++ [a,T])) (l:=X.stack) (λb o e=>VR _ e) I.hidFrames ⟨oe,vs,T,oT,ts,eA,cA,dA,v1,hTn,nT,eT,dT,t3⟩ λh' k1 _ k3 k4'=>?_
 have k4:∀b o,s.heap.get? b=some o->(∀vs,o.data≠ .fields vs)->∃sl,h'.get? b=some { o with slots:=sl }:=λb o e n=>⟨o.slots,k4' b o e n⟩
 obtain⟨oe',vs',T',oT',ts',e1,e2,e3,e4,e5,e6,e7,e8,e9⟩:=k3
 exact h _ (I.flyTo hch k1 k4) ⟨a0,oe',vs',T',oT',ts',e1,e2,e3,e4,e6,e7,e8,e9,pA,I.flyT hex hch k4 e5 e7 e8⟩
theorem Zty(I:Inv X pins σ H s)(hex:X.ex=[])(hst:X.stack=X.env :: X.outer)(hf:X.env.frame=some X.env.locals)(hA:A.frames=some X.stack)(F:FlA (Uk X pins H) (UV X.env.locals) C a s.heap)
  (h:∀s',Inv X pins σ H s'->Fl (Uk X pins H) C a .none s'.heap->Q () s'):XX M A (leaving X.env (.ref a)) Q E s:=by
 unfold leaving
 exact Xe (Zol I hex hst hf hA F λs1 I1 F1=>Zko I1 hex F1 h)
end
end
noncomputable def Zj8(K:Xb)(C:Addr):Prop:=PySem.W.excIn K C [.type "ValueError",.type "Exception",.type "BaseException",.type "object"] "ValueError.__new__"=true
theorem Zq8{K:Xb}{h:Heap}{C:Addr}{bmB:List Xc}{newId:String}(X:K.In h)(q:PySem.W.excIn K C bmB newId=true) :
  ∃bm N nm qn bs hdct sn sub ab col dd k0 k1 k2 k3 k5 mN,h.get? C=some (excClassObj nm qn C N bs bm hdct sn sub ab col dd k0 k1 k2 k3 k5 newId)∧h.Ns N mN∧mN "__init__"=none∧OwnTail h bmB bm:=by
 unfold PySem.W.excIn at q
 split at q
 case h_2=>cases q
 rename_i dd cd sl ho
 split at q
 case h_2=>cases q
 rename_i C' bm k0 k1 k2 k3 n k5 hm hs
 simp only[XN,beq_iff_eq,Bool.not_eq_true']at q
 obtain⟨⟨⟨⟨⟨rfl,rfl⟩,e1⟩,e2⟩,e3⟩,e4⟩:=q
 obtain⟨nm,bs,mro,ns,qn,hd,sn,sub,ab,col,del⟩:=cd
 dsimp only at hm e1 e3 e4
 subst hm e1
 obtain⟨l⟩:=sl
 have e5:l=[k0,k1,k2,k3,some (.builtin n),k5]:=hs
 subst e5
 exact⟨bm,ns,nm,qn,bs,hd,sn,sub,ab,col,dd,k0,k1,k2,k3,k5,_,X _ _ ho,.of_isNs (PySem.W.isNs_of_in X e3),PySem.W.nsMap_none_of_in X e3 e4,PySem.W.tail_of_in X e2⟩
noncomputable abbrev MXt:=Zg->(Addr->Zg->Prop)->Prop
noncomputable def XW(X:Cx)(C:MC X.K)(io:List Nat)(pins:List (Addr×Obj))(ex:Addr->Prop)(H:Hp)(fp:Fp)(k:Addr->Zg->Prop)(e:Xc)(s':Xd):Prop :=
 ∃a cl σ' H' δ' fp',e= .ref a∧Inv X pins σ' H' s'∧FlA (Uk X pins H') (UV X.env.locals) cl a s'.heap∧Rel C io H' σ' δ' fp' ex∧Kp H fp H' fp'∧k cl δ'
noncomputable def XE(X:Cx)(io:List Nat)(e:Expr)(m:MXt):Prop:=∀(C:MC X.K) (pins:List (Addr×Obj)) (s:Xd) (σ:St) (H:Hp) (δ:Zg) (fp:Fp) (ex:Addr->Prop) (k:Addr->Zg->Prop),Inv X pins σ H s->Rel C io H σ δ fp ex->m δ k ->
 XX (X7 X.prog X.w) X.A (eval e X.env) (λ_ _=>False) (XW X C io pins ex H fp k) s
noncomputable def XS(X:Cx)(io:List Nat)(st:Stmt)(m:MXt):Prop:=∀(C:MC X.K) (pins:List (Addr×Obj)) (s:Xd) (σ:St) (H:Hp) (δ:Zg) (fp:Fp) (ex:Addr->Prop) (k:Addr->Zg->Prop),Inv X pins σ H s->Rel C io H σ δ fp ex->m δ k ->
 XX (X7 X.prog X.w) X.A (exec st X.env) (λ_ _=>False) (XW X C io pins ex H fp k) s
noncomputable def XSs(X:Cx)(io:List Nat)(sts:List Stmt)(m:MXt):Prop:=∀(C:MC X.K) (pins:List (Addr×Obj)) (s:Xd) (σ:St) (H:Hp) (δ:Zg) (fp:Fp) (ex:Addr->Prop) (k:Addr->Zg->Prop),Inv X pins σ H s->Rel C io H σ δ fp ex->m δ k ->
 XX (X7 X.prog X.w) X.A (execs sts X.env) (λ_ _=>False) (XW X C io pins ex H fp k) s
theorem XW.shift{X:Cx}{C:MC X.K}{io:List Nat}{pins:List (Addr×Obj)}{ex:Addr->Prop}{H H1:Hp}{fp fp1:Fp}{k:Addr->Zg->Prop}{e:Xc}{s:Xd}(q:Kp H fp H1 fp1)(h:XW X C io pins ex H1 fp1 k e s):XW X C io pins ex H fp k e s:=by
 obtain⟨a,cl,σ',H',δ',fp',e,I,F,R,K,hk⟩:=h
 exact⟨a,cl,σ',H',δ',fp',e,I,F,R,q.trans K,hk⟩
noncomputable def Zt3:MXt:=λ_ _=>False
noncomputable def Z9b(u:MSt)(w:MXt):MXt:=λδ k=>u { nx:=λδ'=>w δ' k,rt:=λ_ _=>False } δ
noncomputable def Ydp(t:MTt)(u w:MXt):MXt:=λδ k=>t δ λb δ'=>if b=true then u δ' k else w δ' k
noncomputable def Zqo(cl:Addr):MXt:=λδ k=>k cl δ
section
variable {X:Cx}{io:List Nat}{p c:Bool}{e:Expr}{es:List Expr}{mr:MAt}{m:MXt}{pos:Pos}{st:Stmt}{sts a b:List Stmt}{u:MSt}{w v:MXt}{mt:MTt}{i:Nat}{x:Str}
theorem Zt6:XSs X io sts Zt3:=λ_ _ _ _ _ _ _ _ _ _ _ h=>h.elim
theorem Zu0:XS X io st Zt3:=λ_ _ _ _ _ _ _ _ _ _ _ h=>h.elim
theorem Zoh(h:XS X io st w):XSs X io (st :: sts) w:=λC pins s σ H δ fp ex k I R hm=>wpAny_execs_cons (thn (h C pins s σ H δ fp ex k I R hm) λ_ _ z=>z.elim)
theorem Zwr(h:MS X io st u)(g:XSs X io sts w)(hx:X.xe= λ_ _=>False:=by rfl):XSs X io (st :: sts) (Z9b u w):=by
 obtain⟨t,A,sS⟩:=h
 intro C pins s σ H δ fp ex k I R hm
 refine wpAny_execs_cons (QD (A pins s σ H { nx:=λσ1 H1=>∃δ1 fp1,Rel C io H1 σ1 δ1 fp1 ex∧Kp H fp H1 fp1∧w δ1 k,rt:=λ_ _=>False } I
  (sS C H σ δ fp ex _ _ R hm ⟨λH' σ' δ' fp' R' k' h'=>⟨δ',fp',R',k',h'⟩,λ_ _ _ _ _ _ z=>z.elim,λ_ _ _ _ _ _ z=>z.elim,λ_ _ _ _ _ _ _ _ _ _ _ z=>z.elim⟩)) (λf s1 q=>?_) λe s1 q=>by rw[hx]at q;exact q.elim)
 cases f with
 | next=>
  obtain⟨σ1,H1,I1,δ1,fp1,R1,k1,h1⟩:=q
  exact QD (g C pins s1 σ1 H1 δ1 fp1 ex k I1 R1 h1) (λ_ _ z=>z) λe s2 z=>z.shift k1
 | ret v=>obtain⟨_,_,_,_,_,z⟩:=q;exact z.elim
 | brk=>obtain⟨_,_,_,z⟩:=q;exact z.elim
 | cont=>obtain⟨_,_,_,z⟩:=q;exact z.elim
theorem Zvb(ht:MT X io p e mt)(ha:XSs X io a w)(hb:XSs X io b v)(hx:X.xe= λ_ _=>False:=by rfl):XS X io (.If e a b pos) (Ydp mt w v):=by
 obtain⟨t,A,sT⟩:=ht
 intro C pins s σ H δ fp ex k I R hm
 refine wpAny_If (QD (A pins s σ H (λr H1=>∃δ1 fp1,Rel C io H1 σ δ1 fp1 ex∧Kp H fp H1 fp1∧if r=true then w δ1 k else v δ1 k) I
  (sT C H σ δ fp ex _ _ R hm λH' r δ' fp' R' S' h'=>⟨δ',fp',R',S'.kp,h'⟩)) (λr s1 q=>?_) λe s1 q=>by rw[hx]at q;exact q.elim)
 obtain⟨H1,I1,δ1,fp1,R1,k1,h1⟩:=q
 cases r with
 | true=>exact QD (ha C pins s1 σ H1 δ1 fp1 ex k I1 R1 h1) (λ_ _ z=>z) λe s2 z=>z.shift k1
 | false=>exact QD (hb C pins s1 σ H1 δ1 fp1 ex k I1 R1 h1) (λ_ _ z=>z) λe s2 z=>z.shift k1
theorem Zrh(he:XE X io e m)(hs:Ve e none pos.line X.env=pure false:=by rfl):XS X io (.Expr e pos) m:=λC pins s σ H δ fp ex k I R hm=>
 wpAny_Expr_any (thn (he C pins s σ H δ fp ex k I R hm) λ_ _ z=>z.elim) I.quiet hs
theorem Zxt(he:XE X io e m):XS X io (.Return (some e) pos) m:=λC pins s σ H δ fp ex k I R hm=>wpAny_Return_some (thn (he C pins s σ H δ fp ex k I R hm) λ_ _ z=>z.elim)
theorem Zod{pos':Pos}(he:XE X io e m)(hs:Ve e (some (.Name x pos')) pos.line X.env=pure false:=by rfl):XS X io (.Assign [.Name x pos'] e pos) m:=λC pins s σ H δ fp ex k I R hm=>
 wpAny_Assign_Name (thn (he C pins s σ H δ fp ex k I R hm) λ_ _ z=>z.elim) hs
theorem Zpg{C:Addr}{x j:Str}{jk:Nat}{np cpos pos kp:Pos}(hex:X.ex=[])(hh:X.A.handled=none)(hg:Gl X x)(hm:X.mg x=some (.ref C))(q:Zj8 X.K C)(hd:(x==("__debug__" : Str))=false:=by decide) :
  XS X io (.Raise (some (.Call (.Name x np) [.Constant (.str j) jk kp] [] cpos)) none pos) (Zqo C):=by
 intro M pins s σ H δ fp ex k I R hk
 obtain⟨tl,N,nm,qn,bs,hdct,sn,sub,ab,col,dd,k0,k1,k2,k3,k5,mN,hC,hN,hni,TL⟩:=Zq8 I.ok.mod.kin q
 refine wpAny_Raise_call_subT (C:=C) (nm:=nm) (q:=qn) (N:=N) (bs:=bs) (bm:=tl) (hdct:=hdct) (sn:=sn) (sub:=sub) (ab:=ab) (col:=col) (dd:=dd) (k0:=k0) (k1:=k1) (k2:=k2) (k3:=k3) (k5:=k5)
  V1 (mN:=mN) (TL.hasType V1.hasBase) hh rfl hni (Zfz I hg hm ⟨rfl,?_⟩ hd)
 refine Calls.evalArgs_plain ?_
 refine V7 ?_
 show XX _ _ (eval (.Constant (.str j) jk kp) X.env) _ _ _
 refine Calls.Constant_str ?_
 refine Calls.spliced_nil ?_
 have I1:=I.tok (s.toks+1)
 refine⟨rfl,by show 1≤Xq;decide,I1.bk _ _ hC,hN.keeps I1.bk,TL.keeps I1.bk,λh' e hx=>?_⟩
 obtain⟨t,e1,_,_⟩:=hx.there
 have I2:=I1.kept (t':=s.toks+1) hx.keeps
 exact⟨e,C,σ,H,δ,fp,rfl,I2,.inr (.inl ⟨_,_,_,e1,⟨rfl,rfl⟩,rfl,rfl,I1.apart hex hx.new (I1.unheld hx.new)⟩),R,.refl _ _,hk⟩
end
noncomputable def CX1(P:X6)(w:Qt):CXT:=λouter H s E e s'=>∃a C H',e= .ref a∧s'.os=s.os∧UL s'.gens∧Un (frs outer) [] H H' s.heap s'.heap∧HOk P w H' s'.heap∧Fl (λb=>H' b=none∧s.heap.get? b=none) C a .none s'.heap∧E (.ref C) none H'
noncomputable def spX(G:Xb)(S:List Xa->Addr->Prop):Sp:=λvs H Q E=>∃L ds cl,Das G H L vs ds∧S ds cl∧∀H',Same H H'->E (.ref cl) none H'
section
variable {P:X6}{w:Qt}{K:Xb}{mg:Str->Option Xc}{base:Heap}
theorem Fun.okX{x qual:Str}{st:Stmt}{f:Addr}{fd:Xp}{N ps:List Str}{n:Nat}{S:List Xa->Addr->Prop}(F:Fun K x qual st f fd)(Sc:Zo N ps (Zj st))(len:∀ds cl,S ds cl->ds.length=ps.length)
  (hbody:∀(cdv:Xc) (A:Qk) (outer:List Env) (s:Xd) (H:Hp) (E:XK),Room n (A.deeper (Vw qual (Zj st) s.heap.objs.size f cdv)) ->
   ∃m,XSs (Zox (CX1 P w) P w K mg base N qual (Zj st) f cdv A outer s H E).nox [] (Jf st) m∧∀ds cl,S ds cl->m (Ziz N ds) (λc _=>c=cl)):FnOk P w K mg base (CX1 P w) (n+1) f fd ps (spX K S):=by
 obtain⟨oc,od,kV,doc,pm,an,cdv,ct,osl,rfl,lk,hcd⟩:=F.ex
 refine Z4o lk hcd Sc (λvs H Q E h=>?_) λA outer s H vs Q E hr hsp=>?_
 ·obtain⟨L,ds,cl,h1,h2,_⟩:=h
  rw[h1.length]
  exact len ds cl h2
 obtain⟨L,ds,cl,h1,h2,h3⟩:=hsp
 obtain⟨m,hX,q⟩:=hbody cdv A outer s H E hr
 refine⟨λ_ σ' H'=>σ'=V3 N vs∧H'=H,λpins s1 σ1 H1 D I e=>?_,rfl,rfl⟩
 obtain⟨rfl,rfl⟩:=e
 refine QD (hX ⟨H1,λ_=>False,L,V3 N vs⟩ pins s1 _ _ _ _ _ (λc _=>c=cl) (I.wish _) (Rel.entry h1) (q ds cl h2)) (λ_ _ z=>z.elim) λe s' z=>?_
 obtain⟨a,cl',σ',H',δ',fp',rfl,I',F',R',K',rfl⟩:=z
 exact Zty I' rfl rfl rfl I'.ok.frames F' λs'' J FF=>⟨a,cl',H',rfl,J.os,J.bare,J.base,J.hok,FF.imp λb ap=>⟨ap.fr,ap.new⟩,h3 H' λb o e=>R'.fr b o e id⟩
end
theorem Rel.grown{G:Xb}{C:MC G}{io:List Nat}{H H':Hp}{σ:St}{δ:Zg}{fp:Fp}{ex:Addr->Prop}(R:Rel C io H σ δ fp ex)(s:Same H H'):Rel C io H' σ δ fp ex :=
 (R.made (new:=[]) s (λa m=>nomatch m)).drop λa z=>.inl z
noncomputable def Zxu(S:List Xa->Addr->Prop)(mr:MAt):MXt:=λδ k=>mr δ λrs δ1=>∃cl,S (OT.datas rs) cl∧k cl δ1
section
variable {X:Cx}{io:List Nat}{p c:Bool}{e:Expr}{es:List Expr}{mr:MAt}{pos pp:Pos}{k:Nat}{f:Addr}{fd:Xp}{ps:List Str}{x:Str}
theorem Zc4{S}(F:FnOk X.prog X.w X.K X.mg X.base (CX1 X.prog X.w) k f fd ps (spX X.K S))(hr:Room k X.A)(hg:Gl X x)(hm:X.mg x=some (.ref f))(hk:QW X.K (.ref f)=true)(hb:Binds X.K fd ps [])
  (ha:MA X io p c (e :: es) mr) (hex:X.ex=[]:=by rfl) (hx:X.xe= λ_ _=>False:=by rfl) (hdb:(x==("__debug__" : Str))=false:=by decide) (he:Xh (e :: es) X.env=(false,eval e X.env) :: Xh es X.env:=by rfl) (hpl:(Q6 pos (Xh es X.env)).any (·.1)=false:=by rfl) :
  XE X io (.Call (.Name x pp) (e :: es) [] pos) (Zxu S mr):=by
 obtain⟨t,A,sA⟩:=ha
 intro C pins s σ H δ fp ex kk I R hm'
 refine Ba (Zfz I hg hm ?_ hdb)
 refine V0 (h₀:=X.base) I.ok.mod.kin hk (QD (A pos pins s σ H (λvs H1=>∃δ1 fp1 L ds cl,Rel C io H1 σ δ1 fp1 ex∧Kp H fp H1 fp1∧Das X.K H1 L vs ds∧S ds cl∧kk cl δ1) I
  (sA C H σ δ fp ex _ _ R hm' λH1 vs rs δ1 fp1 new r1 h1=>let⟨cl,h2,h3⟩:=h1;⟨δ1,fp1,_,_,cl,r1.base,r1.stp.kp,r1.das R,h2,h3⟩)) (λus s1 ⟨vs,H1,I1,r,q⟩=>⟨I1.kIn,?_⟩) λe s1 z=>by rw[hx]at z;exact z.elim) he hpl
 obtain⟨δ1,fp1,L,ds,cl,R1,k1,hd,hS,hkk⟩:=q
 have hsp:spX X.K S vs H1 (λ_ _=>False) (λc _ H'=>c= .ref cl∧Same H1 H'):=⟨L,ds,cl,hd,hS,λH' s=>⟨rfl,s⟩⟩
 have hl:(us ++ []).length=ps.length:=by rw[QL,←r.length];exact F.len _ _ _ _ hsp
 have hB:=hb s1 us I1.kIn hl
 rw[QL]at hB
 refine wpAny_call (codeAny_mono (F.run X.A X.stack s1 H1 ⟨us,[]⟩ us vs _ _ hr I1.env0 hB r hsp) λres s' hq=>?_)
 cases res with
 | error e=>
  obtain⟨a,C',H',rfl,ho,bare,un,hok,FF,eC,same⟩:=hq
  cases eC
  have J:=I1.call' (ch:=[]) ho un hok bare λb z=>nomatch z
  exact⟨a,cl,σ,H',δ1,fp1,rfl,J,.inl (FF.imp λb z=>I1.apart hex z.2 z.1),R1.grown same,k1.trans (Stp.same same same.al),hkk⟩
 | ok fl=>
  cases fl with
  | ret u=>obtain⟨_,_,_,_,_,_,_,z⟩:=hq;exact z.elim
  | next=>exact Bj hq
  | brk=>exact Bj hq
  | cont=>exact Bj hq
end
section
variable {X:Cx}{pins:List (Addr×Obj)}{σ:St}{H:Hp}{s:Xd}{a C:Addr}
theorem Inv.track(I:Inv X pins σ H s)(A:Uk X pins H a){φ:Heap->Prop}(h1:φ s.heap)(h2:∃o,s.heap.get? a=some o)(h3:∀g1 g2:Heap,φ g1->(∀o,g1.get? a=some o->g2.get? a=some o)->φ g2):Inv X pins σ (upd H a (.ext φ)) s:=by
 have ne:∀b u,H b=some u->b≠a:=λb u e=>Yu e A.fr
 refine⟨I.ok,I.os,I.bare,⟨I.base.keep,I.base.slot,λb o e n hx=>?_,I.base.there,λb xs e=>?_,λb o u e=>?_,λb ps e=>?_⟩,I.loc,I.cell,?_,λx c e=>?_,λp hp=>?_,λb u e=>?_,I.len⟩
 ·rw[Zr (λz=>by rw[z,A.new]at e;cases e)];exact I.base.free b o e n hx
 ·have:=I.base.tups b xs e;rw[Zr (ne _ _ this)];exact this
 ·have:=I.base.frzs b o u e;rw[Zr (ne _ _ this)];exact this
 ·obtain⟨m,q⟩:=I.base.tbls b ps e;exact⟨m,by rw[Zr (ne _ _ q)];exact q⟩
 ·rw[Zr (JM A.loc)];exact I.free
 ·rw[Zr (A.cel x c e)];exact I.freeC x c e
 ·obtain⟨e,n,r⟩:=I.pin p hp
  exact⟨e,by rw[Zr (A.pin p hp)];exact n,r⟩
 ·by_cases hb:b=a
  ·subst hb;rw[Z1]at e;cases e;exact⟨h1,h2,h3⟩
  ·rw[Zr hb]at e
   exact(I.hok b u e).stay (λc v _ q=>q) (λc q=>by rw[Zr (ne _ _ q)];exact q) λc xs q=>by rw[Zr (ne _ _ q)];exact q
noncomputable abbrev Cx.suite(X:Cx)(a:Addr):Cx:={ X with A:=X.A.mark (some (.ref a)),calm:=false }
theorem Inv.suite(I:Inv X pins σ H s)(a:Addr):Inv (X.suite a) pins σ H s :=
 ⟨⟨I.ok.mod,I.ok.kind,I.ok.glob,I.ok.blt,I.ok.above,I.ok.inj,I.ok.has,I.ok.cab,λz=>(nomatch z),I.ok.frames,I.ok.stk,I.ok.exf,I.ok.bs,I.ok.bsz,I.ok.noex,I.ok.exfs,I.ok.funs,I.ok.frf⟩,I.os,I.bare,I.base,I.loc,I.cell,I.free,I.freeC,I.pin,I.hok,I.len⟩
theorem Inv.unsuite(ok:X.Ok)(I:Inv (X.suite a) pins σ H s):Inv X pins σ H s:=⟨ok,I.os,I.bare,I.base,I.loc,I.cell,I.free,I.freeC,I.pin,I.hok,I.len⟩
theorem name_goes{M:Model}{A:Qk}{E:Xc->Xd->Prop}{i:Nat}{x:Str}{pos:Pos}{Q:Unit->Xd->Prop}(I:Inv X pins σ H s)(hN:X.N.Nodup)(hi:X.N[i]? =some x)(hk:X.env.scope.names.lookup x=some .local)
  (h:∀s',Inv X pins (σ.set i none) H s'->Q () s'):XX M A (do bindName X.env x .none;unbindBehindTheSuite X.env x pos) Q E s:=by
 obtain⟨m,hn,hl⟩:=id I.loc
 have hcls:(X.env.scope.kind== .class||(X.env.scope.kind== .module&&X.env.locals !=X.env.globals))=false:=by rw[I.ok.kind];rfl
 refine wpAny_nameGoes_keeps hk hn hcls λh' u hn' hs=>?_
 obtain⟨oL,_,_,hoL,_⟩:=id hn
 have neL:∀b o,X.s₀.heap.get? b=some o->b≠X.env.locals:=λb o e=>Xn (X3 (Xv e) I.ok.above)
 refine h _ ⟨I.ok,I.os,I.bare,⟨λb o e n hb hx=>?_,λb o e n hb hx=>?_,I.base.free,λb o e hx=>?_,I.base.tups,I.base.frzs,I.base.tbls⟩,⟨_,hn',λj y v' e1 e2 e3=>?_⟩,λy c e=>?_,I.free,I.freeC,λp hp=>?_,λb ob e=>?_,by simpa using I.len⟩
 ·exact(hs.2 b (neL b o e)).trans (I.base.keep b o e n hb hx)
 ·obtain⟨sl,e1⟩:=I.base.slot b o e n hb hx
  exact⟨sl,(hs.2 b (neL b o e)).trans e1⟩
 ·obtain⟨o',e1⟩:=I.base.there b o e hx
  exact⟨o',(hs.2 b (neL b o e)).trans e1⟩
 ·by_cases hj:j=i
  ·subst hj
   have:j<σ.length:=by
    have z:=(Xk.mp e2).1
    simpa using z
   rw[Qi this]at e2
   cases e2
  ·rw[X4 (JM hj)]at e2
   obtain⟨u',r',q⟩:=hl j y v' e1 e2 e3
   refine⟨u',r',?_⟩
   rcases q with⟨k,e⟩|⟨k,c,e,z⟩
   ·refine .inl ⟨k,?_⟩
    have:y≠x:=λe=>hj (Zkv hN e1 (e▸hi))
    simp[this,e]
   ·exact .inr ⟨k,c,e,z.sameBut hs (I.cne y c e)⟩
 ·obtain⟨w',z⟩:=I.cell y c e
  exact⟨w',z.sameBut hs (I.cne y c e)⟩
 ·obtain⟨e,n,ne,nf,d⟩:=I.pin p hp
  exact⟨(hs.2 p.1 ne).trans e,n,ne,nf,d⟩
 ·refine(I.hok b ob e).stay (λc w' hc q=>(hs.2 c ?_).trans q) (λ_ q=>q) λ_ _ q=>q
  rintro rfl
  rcases hc with rfl|hc
  ·rw[I.free]at e;cases e
  ·rw[I.free]at hc;cases hc
end
theorem Rel.forget{G:Xb}{C:MC G}{io:List Nat}{H:Hp}{σ:St}{δ:Zg}{fp:Fp}{ex:Addr->Prop}{i:Nat}(R:Rel C io H σ δ fp ex)(hio:i∉io):∃fp',Rel C io H (σ.set i none) (δ.set i none) fp' ex∧Kp H fp H fp':=by
 have get:∀j (t':OT),(δ.set i none)[j]? =some (some t')->j≠i∧δ[j]? =some (some t'):=λj t' e=>by
  by_cases ej:j=i
  ·subst ej
   have hl:j<δ.length:=by simpa using(Xk.mp e).1
   rw[Qi hl]at e;cases e
  ·rw[X4 (JM ej)]at e;exact⟨ej,e⟩
 have sub:∀j a,a∈fpu fp i [] j->j≠i∧a∈fp j:=λj a m=>by
  by_cases ej:j=i
  ·subst ej;rw[Zx]at m;exact nomatch m
  ·rw[Yh ej]at m;exact⟨ej,m⟩
 have lw:∀a,Lf C fp ex a->Lf C (fpu fp i []) ex a:=λa l=>⟨λ⟨j,z⟩=>l.1 ⟨j,(sub j a z).2⟩,l.2⟩
 refine⟨fpu fp i [],⟨by rw[Bb,Bb];exact R.len,λj t' e=>?_,λj h=>?_,λj=>?_,λj k a h1 h2=>R.dj j k a (sub j a h1).2 (sub k a h2).2,λj a h z=>R.dx j a (sub j a h).2 z,R.xa,R.fr,R.al,λj a h=>R.new j a (sub j a h).2,λj h=>?_⟩,λb o e _=>e,λz=>(nomatch z),λa ⟨j,z⟩=>.inl ⟨j,(sub j a z).2⟩,λb e=>e⟩
 ·obtain⟨ej,e⟩:=get j t' e
  obtain⟨w,e1,o⟩:=R.own j t' e
  exact⟨w,by rw[X4 (JM ej)];exact e1,by rw[Yh ej];exact o.wide λa l _=>lw a l⟩
 ·by_cases ej:j=i
  ·subst ej;rw[Zx]
  ·rw[Yh ej]
   exact R.emp j λt' z=>h t' (by rw[X4 (JM ej)];exact z)
 ·by_cases ej:j=i
  ·subst ej;rw[Zx];exact .nil
  ·rw[Yh ej];exact R.nd j
 ·rw[X4 (λz=>hio (by rw[z];exact h))];exact R.io j h
theorem Zv0{K:Xb}{M:Model}{A:Qk}{E:Xc->Xd->Prop}{h:Heap}{g:Array GenState}{d:Drawn}{t:Nat}{os:OsState}{e C D:Addr}{oe:Obj}{Q:Bool->Xd->Prop}(X:K.In h)(q:Zj8 K D)
  (hs:Be K (.ref C) (.ref D)=some true) (he:h.get? e=some oe) (hc:oe.cls= .ref C) (hQ:Q true ⟨h,g,d,t,os⟩):XX M A (excMatches (.ref e) (.ref D)) Q E ⟨h,g,d,t,os⟩:=by
 obtain⟨bm,N,nm,qn,bs,hdct,sn,sub,ab,col,dd,k0,k1,k2,k3,k5,mN,hC,hN,hni,TL⟩:=Zq8 X q
 have L:=PySem.W.looks_subIn (M:=M) X hs
 have f:=tc_notTuple
 have hB:(Qu D :: bm).contains (.type "BaseException")=true:=by rw[List.contains_cons,TL.hasType V1.hasBase,Bool.or_true]
 unfold excMatches
 repeat (first|(with_reducible refine Bs he ?_;rw[hc])|with_reducible refine Bs hC ?_|(with_reducible refine Xe (QS.at L ?_))|(with_reducible refine QS.at L ?_)|(with_reducible refine wpAny_isSubtype_exc hC ?_;rw[hB])|wp_step)
 exact hQ
noncomputable def Yae(G:Xb)(Dc:Addr)(i:Nat)(u:MSt)(x:MXt)(h:MSt):MSt:=λD δ=>u D δ∨x δ λcl δ'=>∃xn,Vm G xn cl∧(Zcj G cl∧Be G (.ref cl) (.ref Dc)=some true)∧
 h { nx:=λδ2=>D.nx (δ2.set i none),rt:=λ_ _=>False } (δ'.set i (some (.fz (exD xn))))
section
variable {X:Cx}{io:List Nat}{i:Nat}{n y:Str}{Dc:Addr}{b₀:Stmt}{body suite:List Stmt}{pos hpos np:Pos}{u h:MSt}{x:MXt}
theorem Z23(hN:X.N.Nodup)(hi:X.N[i]? =some n)(hk:X.env.scope.names.lookup n=some .local)(hg:Gl X y)(hm:X.mg y=some (.ref Dc))(q:Zj8 X.K Dc)(hb:MSs X io body u)(hbx:XSs X io body x)(hs:∀a,MSs (X.suite a) io (b₀ :: suite) h)
  (hio:i∉io:=by decide) (hex:X.ex=[]:=by rfl) (hst:X.stack=X.env :: X.outer:=by rfl) (hf:X.env.frame=some X.env.locals:=by rfl) (hx:X.xe= λ_ _=>False:=by rfl) (hdb:(y==("__debug__" : Str))=false:=by decide) :
  MS X io (.Try body [.ExceptHandler (some (.Name y np)) (some n) (b₀ :: suite) hpos] [] [] pos) (Yae X.K Dc i u x h):=by
 refine⟨λD' σ H=>∃(C:MC X.K) (δ:Zg) (fp:Fp) (ex:Addr->Prop) (D:Zgt),Rel C io H σ δ fp ex∧Yae X.K Dc i u x h D δ∧RelEnds C io ex H fp D D',?_,λC H σ δ fp ex D D' R hm E=>⟨C,δ,fp,ex,D,R,hm,E⟩⟩
 intro pins s σ H D' I hq
 obtain⟨C,δ,fp,ex,D,R,hm',EE⟩:=hq
 rcases hm' with hu|hr
 ·obtain⟨tb,Ab,sb⟩:=hb
  refine wpAny_Try_except (QD (Ab pins s σ H D' I (sb C H σ δ fp ex D D' R hu EE)) (λf s1 z=>?_) λe s1 z=>by rw[hx]at z;exact z.elim)
  cases f with
  | next=>exact Uc z
  | ret v=>exact z
  | brk=>exact z
  | cont=>exact z
 refine wpAny_Try_except (QD (hbx C pins s σ H δ fp ex _ I R hr) (λ_ _ z=>z.elim) λe s1 z=>?_)
 obtain⟨a,cl,σ1,H1,δ1,fp1,rfl,I1,F1,R1,K1,xn,hxn,⟨Z,hsub⟩,hh⟩:=z
 refine Zol I1 hex hst hf I1.ok.frames F1 λs2 I2 F2=>Zko I2 hex F2 λs3 I3 F3=>?_
 refine wpAny_handleBy_cons (codeAny_handlers_test (Zfz (X:=X.suite a) (I3.suite a) hg hm ?_ hdb)) (by intro z;cases z)
 obtain⟨oe,vs,e1,e2,e3⟩:=F3.exO
 have KI:=I3.kIn
 obtain⟨g3,gg3,d3,t3,os3⟩:=s3
 refine Zv0 KI q hsub e1 e2 (codeAny_handlers_suite_as ?_)
 refine Zko I3 hex F3 λs4 I4 F4=>?_
 have ap:Uk X pins H1 a:=by obtain⟨_,_,_,_,_,_,_,_,_,_,_,_,_,_,z,_⟩:=F4;exact z
 have x4:=F4.exO
 have I5:Inv X pins σ1 (upd H1 a (.ext (ExO cl a))) s4:=I4.track ap x4 (let⟨o,_,e,_⟩:=x4;⟨o,e⟩) λg1 g2 ⟨o,vs,z1,z2⟩ k=>⟨o,vs,k o z1,z2⟩
 have sm:Same H1 (upd H1 a (.ext (ExO cl a))):=Ys ap.fr _
 have R5:=R1.grown sm
 obtain⟨fp2,R6,K6⟩:=RE.put (p:=true) (RE.fz (c:=true) R5 (Stp.refl true _ _ _) (.exc Z hxn Z1)) R5 hio
 refine Zj4 (X:=X.suite a) (v:=.ref a) (I5.suite a) hN hi (.inl hk) rfl (λs5 I6=>?_) (.inr hk)
 obtain⟨ts,As,ss⟩:=hs a
 refine QD (As pins s5 _ _ { nx:=λσ' H'=>∃δ' fp',Rel C io H' σ' δ' fp' ex∧Kp (upd H1 a (.ext (ExO cl a))) fp2 H' fp'∧D.nx (δ'.set i none),rt:=λ_ _=>False } I6
  (ss C _ _ _ fp2 ex _ _ R6 hh ⟨λH' σ' δ' fp' R' k' h'=>⟨δ',fp',R',k',h'⟩,λ_ _ _ _ _ _ z=>z.elim,λ_ _ _ _ _ _ z=>z.elim,λ_ _ _ _ _ _ _ _ _ _ _ z=>z.elim⟩)) (λf s6 z=>?_) λe s6 z=>by
   have z':X.xe e s6:=z
   rw[hx]at z'
   exact z'.elim
 cases f with
 | next=>
  obtain⟨σ7,H7,I7,δ7,fp7,R7,K7,h7⟩:=z
  obtain⟨fp8,R8,K8⟩:=R7.forget hio
  exact name_goes (I7.unsuite I4.ok) hN hi hk λs8 I8=>⟨_,_,I8,EE.nx H7 _ _ fp8 R8 (K1.trans ((Stp.same sm sm.al:Kp H1 fp1 _ fp1).trans (K6.trans (K7.trans K8)))) h7⟩
 | ret v=>obtain⟨_,_,_,_,_,w⟩:=z;exact w.elim
 | brk=>obtain⟨_,_,_,w⟩:=z;exact w.elim
 | cont=>obtain⟨_,_,_,w⟩:=z;exact w.elim
end
theorem Zxc(b:Bool)(k:Bool->Prop):asB (.bool b) k=k b:=rfl
theorem Da.exInv{G:Xb}{H:Hp}{L:Addr->Prop}{v:V}{x:Str}(q:Da G H L v (exD x)):∃a C,v= .ref a∧Zcj G C∧Vm G x C∧H a=some (.ext (ExO C a)):=by
 generalize e:exD x=d at q
 cases q with
 | exc Z n h=>
  have e':=e
  unfold exD at e'
  injection e' with e'
  injection e' with e' _
  injection e' with e' _
  injection e' with e'
  subst e'
  exact⟨_,_,rfl,Z,n,h⟩
 | _=>unfold exD at e;cases e
inductive ClsV:V->Xc->Prop where
 | own (D:Addr):ClsV (.ref D) (.ref D)
 | ty (T:String):ClsV (.ty T) (.type T)
theorem ClsV.val{v:V}{c u:Xc}(h:ClsV v c)(r:RelV v u):u=c:=by
 cases h with
 | own D=>exact r
 | ty T=>exact r
inductive ClsVs:List V->List Xc->Prop where
 | nil:ClsVs [] []
 | cons {v:V} {c:Xc} {vs:List V} {cs:List Xc}:ClsV v c->ClsVs vs cs->ClsVs (v :: vs) (c :: cs)
theorem ClsVs.vals{vs:List V}{cs us:List Xc}(h:ClsVs vs cs)(k:Vals vs us):us=cs:=by
 induction h generalizing us with
 | nil=>cases k;rfl
 | cons h t ih=>
  cases k with
  | cons r q=>rw[h.val r,ih q]
theorem ClsVs.length:∀{vs:List V} {cs:List Xc},ClsVs vs cs->vs.length=cs.length
 | _,_,.nil=>rfl
 | _,_,.cons _ t=>by simp[t.length]
noncomputable def Z9c(G:Xb):List V->Hp->VK->Prop:=λxs H Q=>∃a C v c b,xs=[.ref a,v]∧Zcj G C∧H a=some (.ext (ExO C a))∧ClsV v c∧Qh G (.ref C) c=some b∧Q (.bl b) H
noncomputable def Z3e(G:Xb):List V->Hp->VK->Prop:=λxs H Q=>∃a C p vs cs b,xs=[.ref a,.ref p]∧Zcj G C∧H a=some (.ext (ExO C a))∧H p=some (.tup vs)∧ClsVs vs cs∧Bp G (.ref C) cs=some b∧Q (.bl b) H
theorem Zs4{X:Cx}:Zd9 X (.builtin "isinstance") (Z9c X.K):=by
 intro pins s σ H xs us Q I r h
 obtain⟨a,C,v,c,b,rfl,Z,e,hc,hb,h⟩:=h
 obtain⟨u,w',rfl,r1,r2⟩:=vals2 r
 cases(show u=Qu a from r1)
 rw[hc.val r2]
 obtain⟨⟨o,vs,ho,hcl,_⟩,_,_⟩:=(show ObjOk X.prog X.w H s.heap a (.ext (ExO C a))from I.hok a _ e)
 exact QJ (Zkn Z) I.kIn ⟨o,ho,hcl⟩ hb (λz=>nomatch z) λtk=>⟨.bl _,H,I.tok tk,rfl,h⟩
theorem Zpq{X:Cx}:Zd9 X (.builtin "isinstance") (Z3e X.K):=by
 intro pins s σ H xs us Q I r h
 obtain⟨a,C,p,vs,cs,b,rfl,Z,e,ep,hc,hb,h⟩:=h
 obtain⟨u,w',rfl,r1,r2⟩:=vals2 r
 cases(show u=Qu a from r1)
 cases(show w'=Qu p from r2)
 obtain⟨⟨o,vs',ho,hcl,_⟩,_,_⟩:=(show ObjOk X.prog X.w H s.heap a (.ext (ExO C a))from I.hok a _ e)
 obtain⟨_,its,q,⟨⟨oc,od,oda,osl⟩,hp,hpc,n,hpd⟩⟩:=(show ObjOk X.prog X.w H s.heap p (.tup vs)from I.hok p _ ep)
 dsimp only at hpc hpd
 subst hpc hpd
 rw[hc.vals q]at hp
 exact PySem.W.kia_tup (Zkn Z) I.kIn ⟨o,ho,hcl⟩ hp hb (λz=>nomatch z) λtk=>⟨.bl _,H,I.tok tk,rfl,h⟩
noncomputable def Z7v(G:Xb)(c:Xc)(m:MEt):MEt:=λδ K=>m δ λr δ'=>∃x C b,r.data=exD x∧Vm G x C∧Qh G (.ref C) c=some b∧K (.fz (.bool b)) δ'
noncomputable def Zxp(G:Xb)(cs:List Xc)(m:MEt):MEt:=λδ K=>m δ λr δ'=>∃x C b,r.data=exD x∧Vm G x C∧Bp G (.ref C) cs=some b∧K (.fz (.bool b)) δ'
section
variable {X:Cx}{io:List Nat}{p c:Bool}{a b:Expr}{ma:MEt}{pos pp p2:Pos}
theorem Zxd{v:V}{cv:Xc}(hb:PE X b (tC v))(hv:ClsV v cv)(hg:Gl X "isinstance")(hm:X.mg "isinstance"=none)(hbv:Qc "isinstance"=some (.builtin "isinstance"))(ha:ME X io p c a ma)
  (he:Xh [a,b] X.env=(false,eval a X.env) :: Xh [b] X.env:=by rfl) (he2:Xh [b] X.env=(false,eval b X.env) :: Xh [] X.env:=by rfl) (hpl:(Q6 pos (Xh [b] X.env)).any (·.1)=false:=by rfl) :
  ME X io p true (.Call (.Name "isinstance" pp) [a,b] [] pos) (Z7v X.K cv ma):=by
 obtain⟨_,A,s⟩:=ha
 refine⟨_,Zfb Zs4 hg hm hbv (Y5 A (Y5 hb Zgo he2) he) (by decide) (by decide) he hpl,?_⟩
 intro C H σ δ fp ex K' Q R h k
 refine s C H σ δ fp ex _ _ R h λH' v r δ' fp' new r1 h1=>?_
 obtain⟨xn,Cx,bb,e,hn,hk,h2⟩:=h1
 have q:=r1.da R
 rw[e]at q
 obtain⟨a,C0,rfl,Z,hn0,eh⟩:=q.exInv
 have eC:C0=Cx:=by
  have:=hn0.symm.trans hn
  injection this with this;injection this with this;injection this
 subst eC
 exact⟨a,C0,_,cv,bb,rfl,Z,eh,hv,hk,k H' _ _ δ' fp' [] (.fz r1.base r1.stp (.bl _)) h2⟩
theorem Zz0{bs:List Expr}{x1}{t:TA}{vs:List V}{cs:List Xc}(hb:PA X bs t)(ht:∀σ H Q,Q vs H->t σ H Q)(hv:ClsVs vs cs)(hl:vs.length≤Xq)(hg:Gl X "isinstance")(hm:X.mg "isinstance"=none)(hbv:Qc "isinstance"=some (.builtin "isinstance"))(ha:ME X io p c a ma)
  (he:Xh [a,.Tuple bs x1 p2] X.env=(false,eval a X.env) :: Xh [.Tuple bs x1 p2] X.env:=by rfl) (he2:Xh [.Tuple bs x1 p2] X.env=(false,eval (.Tuple bs x1 p2) X.env) :: Xh [] X.env:=by rfl) (hpl:(Q6 pos (Xh [.Tuple bs x1 p2] X.env)).any (·.1)=false:=by rfl) :
  ME X io p true (.Call (.Name "isinstance" pp) [a,.Tuple bs x1 p2] [] pos) (Zxp X.K cs ma):=by
 obtain⟨_,A,s⟩:=ha
 refine⟨_,Zfb Zpq hg hm hbv (Y5 A (Y5 (Zxa hb) Zgo he2) he) (by decide) (by decide) he hpl,?_⟩
 intro C H σ δ fp ex K' Q R h k
 refine s C H σ δ fp ex _ _ R h λH' v r δ' fp' new r1 h1=>?_
 obtain⟨xn,Cx,bb,e,hn,hk,h2⟩:=h1
 have q:=r1.da R
 rw[e]at q
 obtain⟨a,C0,rfl,Z,hn0,eh⟩:=q.exInv
 have eC:C0=Cx:=by
  have:=hn0.symm.trans hn
  injection this with this;injection this with this;injection this
 subst eC
 refine ht _ _ _ ⟨hl,λtp hp=>?_⟩
 have sm:Same H' (upd H' tp (.tup vs)):=Ys hp _
 refine⟨a,C0,tp,vs,cs,bb,rfl,Z,sm _ _ eh,Z1,hv,hk,k _ _ _ δ' fp' [] (.fz (r1.base.grown sm) ?_ (.bl _)) h2⟩
 have z:=r1.stp.trans (p':=true) (Stp.same (p:=true) (δ:=δ') (fp:=fp') sm sm.al)
 rwa[VH]at z
end
end L2
namespace L2
open PySem PySem.Spec PyProof.Rows PySem.P
section
variable {prog:X6}{w:Qt}{A:Qk}{E:Xc->Xd->Prop}{s:Xd}{e t0 C:Addr}{o:Obj}{vs:Array Xc}{K:Xb}{m:Str}{tk:Tok}
structure Yen(s:Xd)(e C t0:Addr)(m:Str)(tk:Tok):Prop where
 ob:∃o vs,s.heap.get? e=some o∧o.cls= .ref C∧o.data= .fields vs∧vs[0]? =some (.ref t0)
 tx:s.heap.TupAt t0 [.str m tk]
end
section
variable {X:Cx}{C:Addr}{x j:Str}{jk:Nat}{np cpos pos kp p1:Pos}
end
end L2
namespace L2
open PySem PySem.Spec PyProof.Rows
variable {G:Xb}
theorem Rel.topN{io:List Nat}{C:MC G}{H:Hp}{σ:St}{δ:Zg}{fp:Fp}{ex:Addr->Prop}{i:Nat}{ts ts':List OT}{a':Addr}{xs ys:List V}{bs bs' new:List Addr}(R:Rel C io H σ δ fp (exu ex new))(hi:δ[i]? =some (some (.nd ts)))(hv:σ[i]? =some (some (.ref a')))
  (hf:fp i=a' :: bs) (hx:H a'=some (.lst xs)) (o:Owns G H (Lf C fp (exu ex new)) ys ts' bs') (hs:∀a∈bs',a∈bs∨a∈new) (ndb:(a' :: bs').Nodup) (hn:∀a∈new,C.H₀ a=none∧¬ex a) :
  Rel C io (upd H a' (.lst ys)) σ (δ.set i (some (.nd ts'))) (fpu fp i (a' :: bs')) ex∧∀a,Foot (fpu fp i (a' :: bs')) a->Foot fp a∨a∈new:=by
 have hil:i<δ.length:=(Xk.mp hi).1
 have hm:a'∈fp i:=by rw[hf];exact .head _
 have kp:∀b o,H b=some o->b≠a'->upd H a' (.lst ys) b=some o:=λb o e n=>by rw[Zr n];exact e
 have mem:∀a,a∈a' :: bs'->a∈fp i∨a∈new:=λa m=>by
  rw[hf]
  rcases Xl.mp m with rfl|m
  ·exact .inl (.head _)
  ·exact(hs a m).imp (λz=>.tail _ z) id
 have sub:∀a,Foot (fpu fp i (a' :: bs')) a->Foot fp a∨a∈new:=λa z=>by
  rcases z.of_u with z|⟨j,_,z⟩
  ·exact(mem a z).imp (λz=>⟨i,z⟩) id
  ·exact .inl ⟨j,z⟩
 have lw:∀a,Lf C fp (exu ex new) a->Lf C (fpu fp i (a' :: bs')) ex a:=λa l=>⟨λz=>(sub a z).elim l.1 λz=>l.2.1 (.inr z),λz=>l.2.1 (.inl z),l.2.2⟩
 have f1:∀a (zs:MuO),Lf C fp (exu ex new) a->Rd H a zs.ho->Lf C (fpu fp i (a' :: bs')) ex a∧Rd (upd H a' (.lst ys)) a zs.ho:=λa zs l q=>by
  have na:a≠a':=λz=>l.1 ⟨i,by rw[z];exact hm⟩
  refine⟨lw a l,?_⟩
  rcases q with q|⟨u,q⟩
  ·exact .inl (kp a _ q na)
  ·exact .inr ⟨u,kp a _ q na⟩
 have f2:∀a (zs:ImO),H a=some zs.ho->upd H a' (.lst ys) a=some zs.ho:=λa zs q=>kp a _ q λz=>ImO.nl q (z▸hx)
 have hn':=Qs.mp ndb
 refine⟨⟨by rw[Bb];exact R.len,λj t' e=>?_,λj h=>?_,λj=>?_,λj k a h1 h2=>?_,λj a h z=>?_,λa z=>?_,λb ob e nb=>?_,λb e=>?_,λj a h=>?_,R.io⟩,sub⟩
 ·by_cases ej:j=i
  ·subst ej
   rw[Qi hil]at e
   cases e
   exact⟨_,hv,by rw[Zx];exact .nd Z1 (o.frame f1 f2 λa m zs q=>kp a _ q λz=>hn'.1 (z▸m))⟩
  ·rw[X4 (JM ej)]at e
   obtain⟨w,e1,o1⟩:=R.own j t' e
   exact⟨w,e1,by rw[Yh ej];exact o1.frame f1 f2 λa m zs q=>kp a _ q λz=>ej (R.dj j i a m (z▸hm))⟩
 ·by_cases ej:j=i
  ·subst ej;exact absurd (Qi hil) (h _)
  ·rw[Yh ej]
   exact R.emp j λt' z=>h t' (by rw[X4 (JM ej)];exact z)
 ·by_cases ej:j=i
  ·subst ej;rw[Zx];exact ndb
  ·rw[Yh ej];exact R.nd j
 ·have one:∀k,k≠i->a∈a' :: bs'->a∈fp k->False:=λk ek m1 m2=>by
   rcases mem a m1 with z|z
   ·exact ek (R.dj k i a m2 z)
   ·exact R.dx k a m2 (.inr z)
  by_cases ej:j=i
  ·by_cases ek:k=i
   ·rw[ej,ek]
   ·rw[ej,Zx]at h1
    rw[Yh ek]at h2
    exact(one k ek h1 h2).elim
  ·rw[Yh ej]at h1
   by_cases ek:k=i
   ·rw[ek,Zx]at h2
    exact(one j ej h2 h1).elim
   ·rw[Yh ek]at h2
    exact R.dj j k a h1 h2
 ·by_cases ej:j=i
  ·rw[ej,Zx]at h
   rcases mem a h with m|m
   ·exact R.dx i a m (.inl z)
   ·exact(hn a m).2 z
  ·rw[Yh ej]at h
   exact R.dx j a h (.inl z)
 ·by_cases e:a=a'
  ·subst e;rw[Z1];intro q;cases q
  ·rw[Zr e];exact R.xa a (.inl z)
 ·refine kp b ob (R.fr b ob e nb) λz=>?_
  rcases R.new i a' hm with y|y
  ·exact nb (z▸y.2)
  ·rw[z,y]at e;cases e
 ·refine R.al b ?_
  by_cases q:b=a'
  ·subst q;rw[Z1]at e;cases e
  ·rwa[Zr q]at e
 ·by_cases ej:j=i
  ·rw[ej,Zx]at h
   rcases mem a h with m|m
   ·rw[ej];exact R.new i a m
   ·exact .inr (hn a m).1
  ·rw[Yh ej]at h
   exact R.new j a h
section
variable {X:Cx}{io:List Nat}{p c:Bool}{e:Expr}{m:MEt}{pos apos cpos px:Pos}{i:Nat}{x:Str}
end
noncomputable abbrev FE:=Zg->Option (OT×Zg)
noncomputable abbrev FA:=Zg->Option (List OT×Zg)
noncomputable abbrev FT:=Zg->Option (Bool×Zg)
noncomputable abbrev FI:=Zg->Option (List Xa×Zg)
noncomputable abbrev FO:=Zg->Option (Option Int×Zg)
noncomputable abbrev FG:=Xa->Zg->Option Zg
noncomputable abbrev FGs:=List Xa->Zg->Option Zg
noncomputable def o2{α:Type}(f:Zg->Option (α×Zg)):Zg->(α->Zg->Prop)->Prop:=λδ K=>∃r δ',f δ=some (r,δ')∧K r δ'
noncomputable def oG(g:FG):MGt:=λd δ k=>∃δ',g d δ=some δ'∧k δ'
noncomputable def oGs(g:FGs):Zrw:=λd δ k=>∃δ',g d δ=some δ'∧k δ'
section
variable {X:Cx}{io:List Nat}{p c:Bool}{e tg:Expr}{es:List Expr}{m m':MEt}{mr mr':MAt}{mt mt':MTt}{mi mi':MIt}{g g':MGt}{gs gs':Zrw}{mo mo':MOt}{st:Stmt}{sts:List Stmt}{u u':MSt}{eo:Option Expr}
theorem ME.weak(h:ME X io p c e m)(w:∀δ K,m' δ K->m δ K):ME X io p c e m':=let⟨t,A,s⟩:=h;⟨t,A,λC H σ δ fp ex K Q R h k=>s C H σ δ fp ex K Q R (w δ K h) k⟩
theorem MA.weak(h:MA X io p c es mr)(w:∀δ K,mr' δ K->mr δ K):MA X io p c es mr':=let⟨t,A,s⟩:=h;⟨t,A,λC H σ δ fp ex K Q R h k=>s C H σ δ fp ex K Q R (w δ K h) k⟩
theorem MT.weak(h:MT X io p e mt)(w:∀δ K,mt' δ K->mt δ K):MT X io p e mt':=let⟨t,A,s⟩:=h;⟨t,A,λC H σ δ fp ex K Q R h k=>s C H σ δ fp ex K Q R (w δ K h) k⟩
theorem MW.weak(h:MW X io p e mt)(w:∀δ K,mt' δ K->mt δ K):MW X io p e mt':=let⟨t,A,s⟩:=h;⟨t,A,λC H σ δ fp ex K Q R h k=>s C H σ δ fp ex K Q R (w δ K h) k⟩
theorem MIfs.weak(h:MIfs X io p es mt)(w:∀δ K,mt' δ K->mt δ K):MIfs X io p es mt':=let⟨t,A,s⟩:=h;⟨t,A,λC H σ δ fp ex K Q R h k=>s C H σ δ fp ex K Q R (w δ K h) k⟩
theorem MI.weak(h:MI X io p c tg e mi)(w:∀δ K,mi' δ K->mi δ K):MI X io p c tg e mi':=let⟨t,A,s⟩:=h;⟨t,A,λC H σ δ fp ex K Q R h k=>s C H σ δ fp ex K Q R (w δ K h) k⟩
theorem MO.weak(h:MO X io p eo mo)(w:∀δ K,mo' δ K->mo δ K):MO X io p eo mo':=let⟨t,A,s⟩:=h;⟨t,A,λC H σ δ fp ex K Q R h k=>s C H σ δ fp ex K Q R (w δ K h) k⟩
theorem MG.weak(h:MG X io c tg g)(w:∀d δ K,g' d δ K->g d δ K):MG X io c tg g':=let⟨t,A,s⟩:=h;⟨t,A,λC H σ δ fp ex v d k Q R q h kk=>s C H σ δ fp ex v d k Q R q (w d δ k h) kk⟩
theorem MGs.weak(h:MGs X io c es gs)(w:∀d δ K,gs' d δ K->gs d δ K):MGs X io c es gs':=let⟨t,A,s⟩:=h;⟨t,A,λC H σ δ fp ex v d k Q R q h kk=>s C H σ δ fp ex v d k Q R q (w d δ k h) kk⟩
theorem MS.weak(h:MS X io st u)(w:∀D δ,u' D δ->u D δ):MS X io st u':=let⟨t,A,s⟩:=h;⟨t,A,λC H σ δ fp ex D D' R h E=>s C H σ δ fp ex D D' R (w D δ h) E⟩
theorem MSs.weak(h:MSs X io sts u)(w:∀D δ,u' D δ->u D δ):MSs X io sts u':=let⟨t,A,s⟩:=h;⟨t,A,λC H σ δ fp ex D D' R h E=>s C H σ δ fp ex D D' R (w D δ h) E⟩
end
noncomputable def Zd(i:Nat):FE:=λδ=>match δ[i]? with|some (some (.fz d))=>some (.fz d,δ)|_=>none
noncomputable def Ze0(i:Nat):FE:=λδ=>match δ[i]? with|some (some t)=>some (.fz t.data,δ)|_=>none
noncomputable def fC(d:Xa):FE:=λδ=>some (.fz d,δ)
noncomputable def Zh(g:Xa->Xa->Option Xa)(a b:FE):FE:=λδ=>(a δ).bind λp=>(b p.2).bind λq=>(g p.1.data q.1.data).bind λd=>some (.fz d,q.2)
noncomputable def Z2(g:Xa->Xa->Option OT)(a b:FE):FE:=λδ=>(a δ).bind λp=>(b p.2).bind λq=>(g p.1.data q.1.data).bind λd=>some (d,q.2)
noncomputable def fUn(g:Xa->Option Xa)(a:FE):FE:=λδ=>(a δ).bind λp=>(g p.1.data).bind λd=>some (.fz d,p.2)
noncomputable def Zvt(a b:FE):FE:=λδ=>(a δ).bind λp=>match p.1.data with| .bool true=>b p.2| .bool false=>some (.fz (.bool false),p.2)|_=>none
noncomputable def fOr(a b:FE):FE:=λδ=>(a δ).bind λp=>match p.1.data with| .bool true=>some (.fz (.bool true),p.2)| .bool false=>b p.2|_=>none
noncomputable def fIf(t:FT)(a b:FE):FE:=λδ=>(t δ).bind λp=>if p.1=true then a p.2 else b p.2
noncomputable def tV(e:FE):FT:=λδ=>(e δ).bind λp=>match p.1 with| .fz (.bool b)=>some (b,p.2)|_=>none
noncomputable def tNo(t:FT):FT:=λδ=>(t δ).bind λp=>some (!p.1,p.2)
noncomputable def tAn(t u:FT):FT:=λδ=>(t δ).bind λp=>if p.1=true then u p.2 else some (false,p.2)
noncomputable def tO(t u:FT):FT:=λδ=>(t δ).bind λp=>if p.1=true then some (true,p.2)else u p.2
noncomputable def tD(e:FE):FT:=λδ=>(e δ).bind λp=>(Zvl p.1.data).bind λb=>some (b,p.2)
noncomputable def Zm:FA:=λδ=>some ([],δ)
noncomputable def Zc(e:FE)(a:FA):FA:=λδ=>(e δ).bind λp=>(a p.2).bind λq=>some (p.1 :: q.1,q.2)
noncomputable def Zkx(a:FA):FE:=λδ=>(a δ).bind λp=>if p.1.length≤Xq then some (.fz (.tuple (OT.datas p.1)),p.2)else none
noncomputable def Zdm(a:FA):FE:=λδ=>(a δ).bind λp=>if p.1.length≤Xq then some (.nd p.1,p.2)else none
noncomputable def Zp9(e:FE):FE:=λδ=>(e δ).bind λp=>if Zb3 p.1.data=true then some (.fz p.1.data,p.2)else none
noncomputable def Z60(e:FE):FE:=λδ=>(e δ).bind λp=>if Z1p p.1=true then some (p.1,p.2)else none
inductive RF where
 | ok (r:OT)
 | exn (c:Str)
 | bad
noncomputable abbrev FD:=List Xa->RF
noncomputable abbrev FIO:=OT->List Xa->Option (OT×OT)
noncomputable def Zv(F:FD)(a:FA):FE:=λδ=>(a δ).bind λp=>match F (OT.datas p.1)with| .ok r=>some (r,p.2)|_=>none
noncomputable def Z5(i:Nat)(F:FIO)(a:FA):FE:=λδ=>match δ[i]? with
 | some (some _)=>(a δ).bind λp=>match p.2[i]? with
  | some (some t)=>(F t (OT.datas p.1)).bind λq=>some (q.1,p.2.set i (some q.2))
  | _=>none
 | _=>none
noncomputable def Zce(g:List Xa->Option Xa)(a:FA):FE:=λδ=>(a δ).bind λp=>(g (OT.datas p.1)).bind λd=>some (.fz d,p.2)
noncomputable def fBl(g:List Xa->Option OT)(a:FA):FE:=λδ=>(a δ).bind λp=>(g (OT.datas p.1)).bind λd=>some (d,p.2)
noncomputable def Z8o(T:String)(e:FE):FE:=λδ=>(e δ).bind λp=>if Zlf p.1.data=true then none else some (.fz (.bool (Zum T p.1.data)),p.2)
noncomputable def oN:FO:=λδ=>some (none,δ)
noncomputable def oI(e:FE):FO:=λδ=>(e δ).bind λp=>match p.1.data with| .int i=>some (some i,p.2)|_=>none
noncomputable def fSl(e:FE)(lo hi:FO):FE:=λδ=>(e δ).bind λp=>(lo p.2).bind λq=>(hi q.2).bind λr=>match p.1.data with| .list ds=>some (.nd ((cutD ds q.1 r.1).map OT.fz),r.2)|_=>none
noncomputable def Zgs(e:FE):FI:=λδ=>(e δ).bind λp=>match p.1.data with| .list ds=>some (ds,p.2)|_=>none
noncomputable def iTp(e:FE):FI:=λδ=>(e δ).bind λp=>match p.1.data with| .tuple ds=>some (ds,p.2)|_=>none
noncomputable def rOk(j:Int):Bool:=decide (-(2^62)≤j)&&decide (j<2^62)
theorem Zfv{j:Int}(h:rOk j=true):-(2^62)≤j∧j<2^62:=by
 unfold rOk at h
 rw[XN]at h
 exact⟨of_decide_eq_true h.1,of_decide_eq_true h.2⟩
theorem Zo2{j:Int}(h0:-1000000≤j)(h1:j≤1000000):rOk j=true:=by
 unfold rOk
 rw[decide_eq_true (show -(2^62)≤j by omega),decide_eq_true (show j<2^62 by omega)];rfl
noncomputable def iRa(a:FA):FI:=λδ=>(a δ).bind λp=>match OT.datas p.1 with|[.int j]=>if rOk j=true then some (Zd4 0 j.toNat,p.2)else none|_=>none
noncomputable def iRb(a:FA):FI:=λδ=>(a δ).bind λp=>match OT.datas p.1 with|[.int i,.int j]=>if(rOk i&&rOk j)=true then some (Zd4 i (j-i).toNat,p.2)else none|_=>none
noncomputable def Z2u(a:FA):FI:=λδ=>(a δ).bind λp=>match OT.datas p.1 with|[.list as,.list bs]=>some (Zn0 as bs,p.2)|_=>none
noncomputable def gNm(i:Nat):FG:=λd δ=>some (δ.set i (some (.fz d)))
noncomputable def Zvu(i:Nat):FG:=λd δ=>if Zb3 d=true then some (δ.set i (some (.fz d)))else none
noncomputable def gNl:FGs:=λds δ=>match ds with|[]=>some δ|_=>none
noncomputable def gCn(g:FG)(gs:FGs):FGs:=λds δ=>match ds with|d :: r=>(g d δ).bind (gs r)|[]=>none
noncomputable def gTp(n:Nat)(gs:FGs):FG:=λd δ=>match d with| .tuple ds=>if ds.length=n then gs ds δ else none|_=>none
noncomputable def gLs(n:Nat)(gs:FGs):FG:=λd δ=>match d with| .list ds=>if ds.length=n then gs ds δ else none|_=>none
noncomputable def compLoop(g:FG)(t:FT)(e:FE):List Xa->Zg->Option (List OT×Zg)
 | [],δ=>some ([],δ)
 | d :: ds,δ=>(g d δ).bind λδ1=>(t δ1).bind λp=>if p.1=true then(e p.2).bind λq=>(compLoop g t e ds q.2).bind λz=>some (q.1 :: z.1,z.2)else compLoop g t e ds p.2
noncomputable def Y9(n:Nat)(caps:List Nat)(it:FI)(g:FG)(t:FT)(e:FE):FE:=λδ=>(it δ).bind λp=>if p.1.length≤Xq then(compLoop g t e p.1 (blk n caps p.2)).bind λz=>some (.nd z.1,p.2)else none
noncomputable def Zfg:FT:=λδ=>some (true,δ)
inductive RS where
 | nx (δ:Zg)
 | rt (r:OT) (δ:Zg)
 | bk (δ:Zg)
 | ct (δ:Zg)
 | ex (c:Str) (δ:Zg)
 | bad
noncomputable abbrev FS:=Zg->RS
noncomputable def RS.fits(D:Zgt):RS->Prop
 | .nx δ=>D.nx δ
 | .rt r δ=>D.rt r δ
 | .bk δ=>D.bk δ
 | .ct δ=>D.ct δ
 | _=>False
noncomputable def oS(f:FS):MSt:=λD δ=>(f δ).fits D
noncomputable def xS(K:Xb)(f:FS):MXt:=λδ k=>∃c C δ',f δ= .ex c δ'∧Vm K c C∧k C δ'
noncomputable def Zz(f g:FS):FS:=λδ=>match f δ with| .nx δ'=>g δ'|r=>r
noncomputable def fNx:FS:=λδ=>.nx δ
noncomputable def Ye9:FS:=λδ=>.bk δ
noncomputable def Ydw:FS:=λδ=>.ct δ
noncomputable def wE(e:FE)(k:OT->Zg->RS):FS:=λδ=>match e δ with|some (r,δ')=>k r δ'|none=>.bad
noncomputable def wX(F:FD)(a:FA)(k:OT->Zg->RS):FS:=λδ=>match a δ with
 | some (rs,δ1)=>match F (OT.datas rs)with
  | .ok r=>k r δ1
  | .exn c=>.ex c δ1
  | .bad=>.bad
 | none=>.bad
noncomputable def Zhj:OT->Zg->RS:=λ_ δ=>.nx δ
noncomputable def J0:OT->Zg->RS:=λr δ=>.rt r δ
noncomputable def Yaw:OT->Zg->RS:=λr δ=>if Zb3 r.data=true then .rt (.fz r.data) δ else .bad
noncomputable def Yt(i:Nat):OT->Zg->RS:=λr δ=>.nx (δ.set i (some (.fz r.data)))
noncomputable def Z9q(i:Nat):OT->Zg->RS:=λr δ=>if Zb3 r.data=true then .nx (δ.set i (some (.fz r.data)))else .bad
noncomputable def Zcd(i:Nat):OT->Zg->RS:=λr δ=>.nx (δ.set i (some r))
noncomputable def Yeh(g:FG):OT->Zg->RS:=λr δ=>match g r.data δ with|some δ'=>.nx δ'|none=>.bad
noncomputable def Yaj:FS:=λδ=>.rt (.fz .none) δ
noncomputable def Zeb(i:Nat):FS:=λδ=>match δ[i]? with|some (some t)=>.rt t (δ.set i none)|_=>.bad
noncomputable def Zax(t:FT)(u w:FS):FS:=λδ=>match t δ with|some (b,δ')=>if b=true then u δ' else w δ'|none=>.bad
noncomputable def Zml(c:Str):FS:=λδ=>.ex c δ
noncomputable def W5(i:Nat)(e:FE):FS:=λδ=>match δ[i]? with
 | some (some (.nd _))=>wE e (λr δ1=>match δ1[i]? with
  | some (some (.nd ts))=>if ts.length<Xq then .nx (δ1.set i (some (.nd (ts ++ [.fz r.data]))))else .bad
  | _=>.bad) δ
 | _=>.bad
noncomputable def Zoz(i:Nat)(e:FE):FS:=λδ=>match δ[i]? with
 | some (some (.nd _))=>wE e (λr δ1=>match δ1[i]? with
  | some (some (.nd ts))=>if ts.length<Xq then .nx (δ1.set i (some (.nd (ts ++ [r]))))else .bad
  | _=>.bad) δ
 | _=>.bad
noncomputable def Z52(i:Nat)(e j:FE):FS:=wE e λr δ1=>match δ1[i]? with
 | some (some (.nd ts))=>wE j (λn _=>match n.data with
  | .int k=>match ixN ts.length k with
   | some j=>.nx (δ1.set i (some (.nd (ts.set j (.fz r.data)))))
   | none=>.bad
  | _=>.bad) δ1
 | _=>.bad
noncomputable def Zaz(i:Nat)(e j j2:FE):FS:=wE e λr δ1=>match δ1[i]? with
 | some (some (.nd ts))=>wE j (λn _=>match n.data with
  | .int k=>match ixN ts.length k with
   | some j=>match ts[j]? with
    | some (.nd us)=>wE j2 (λn' _=>match n'.data with
     | .int k'=>match ixN us.length k' with
      | some j'=>.nx (δ1.set i (some (.nd (ts.set j (.nd (us.set j' (.fz r.data)))))))
      | none=>.bad
     | _=>.bad) δ1
    | _=>.bad
   | none=>.bad
  | _=>.bad) δ1
 | _=>.bad
noncomputable def Zhe(i:Nat)(u:FS):FS:=λδ=>match δ[i]? with|some (some t)=>u (δ.set i (some (.fz t.data)))|_=>.bad
noncomputable def forLoop(g:FG)(u:FS):List Xa->Zg->RS
 | [],δ=>.nx δ
 | d :: ds,δ=>match g d δ with
  | none=>.bad
  | some δ1=>match u δ1 with
   | .nx δ2=>forLoop g u ds δ2
   | .ct δ2=>forLoop g u ds δ2
   | .bk δ2=>.nx δ2
   | r=>r
noncomputable def Jk(it:FI)(g:FG)(u:FS):FS:=λδ=>match it δ with|some (ds,δ1)=>forLoop g u ds δ1|none=>.bad
noncomputable def whileLoop(t:FT)(u:FS):Nat->Zg->RS
 | 0,_=>.bad
 | n+1,δ=>match t δ with
  | none=>.bad
  | some (b,δ1)=>if b=true then match u δ1 with
   | .nx δ2=>whileLoop t u n δ2
   | .ct δ2=>whileLoop t u n δ2
   | .bk δ2=>.nx δ2
   | .rt r δ2=>.rt r δ2
   | _=>.bad
   else .nx δ1
open Classical in
noncomputable def Ziy(t:FT)(u:FS):FS:=λδ=>if h:∃n,whileLoop t u n δ≠ .bad then whileLoop t u (Classical.choose h) δ else .bad
noncomputable def Zpt(c d:Str):Bool:=c==d||d==("CutError" : Str)||d==("ValueError" : Str)
noncomputable def Zzb(xs:List Str)(u:FS)(D:Str)(i:Nat)(h:FS):FS:=λδ=>match u δ with
 | .ex c δ'=>if(xs.contains c&&Zpt c D)=true then match h (δ'.set i (some (.fz (exD c))))with
   | .nx δ2=>.nx (δ2.set i none)
   | _=>.bad
  else .bad
 | r=>r
noncomputable def Zgp(n:Nat)(ds:List Xa):Zg:=ds.map (λd=>some (.fz d)) ++ Xz (n-ds.length) none
noncomputable def Zha(n:Nat)(t:OT)(ds:List Xa):Zg:=some t :: (ds.map (λd=>some (.fz d)) ++ Xz (n-(ds.length+1)) none)
noncomputable def RS.told:RS->RF
 | .nx _=>.ok (.fz .none)
 | .rt r _=>.ok r
 | .ex c _=>.exn c
 | _=>.bad
noncomputable def Zaf(np n:Nat)(S:FS):FD:=λds=>if ds.length=np then(S (Zgp n ds)).told else .bad
noncomputable def RS.toldI:RS->Option (OT×OT)
 | .nx δ=>match δ[0]? with|some (some t)=>some (.fz .none,t)|_=>none
 | .rt r δ=>match δ[0]? with|some (some t)=>some (r,t)|_=>none
 | _=>none
noncomputable def Zqi(np n:Nat)(S:FS):FIO:=λt ds=>if ds.length+1=np then(S (Zha n t ds)).toldI else none
noncomputable def sD(F:FD):List Xa->(OT->Prop)->Prop:=λds k=>∃r,F ds= .ok r∧k r
noncomputable def sI(F:FIO):OT->List Xa->(OT->OT->Prop)->Prop:=λt ds k=>∃r t',F t ds=some (r,t')∧k r t'
noncomputable def sX(K:Xb)(F:FD):List Xa->Addr->Prop:=λds cl=>∃c,F ds= .exn c∧Vm K c cl
theorem bs{α β:Type}{x:Option α}{f:α->Option β}{b:β}(h:x.bind f=some b):∃a,x=some a∧f a=some b:=Option.bind_eq_some_iff.mp h
section
variable {X:Cx}{io:List Nat}{p c:Bool}{e tg:Expr}{es:List Expr}{st:Stmt}{sts:List Stmt}{eo:Option Expr}{fa fb fc:FE}{ra:FA}{ta tb:FT}{i:Nat}
theorem Z5n(h:ME X io p c e (Z8p i)):ME X io p c e (o2 (Zd i)):=h.weak λδ K q91=>by
 obtain⟨r,δ',h,k⟩:=q91
 unfold Zd at h;unfold Z8p
 split at h
 ·rename_i d hd;(try rw[hd]);cases h;exact k
 ·cases h
theorem Z6s(h:ME X io p c e (Z8i i)):ME X io p c e (o2 (Ze0 i)):=h.weak λδ K q92=>by
 obtain⟨r,δ',h,k⟩:=q92
 unfold Ze0 at h;unfold Z8i
 split at h
 ·rename_i d hd;(try rw[hd]);cases h;exact k
 ·cases h
theorem Zhz{d:Xa}(h:ME X io p c e (mC d)):ME X io p c e (o2 (fC d)):=h.weak λδ K ⟨r,δ',h,k⟩=>by cases h;exact k
noncomputable def ByS(g:Xa->Xa->Option Xa)(rp:Xa->Xa->(Xa->Prop)->Prop):Prop:=∀d e r k,g d e=some r->k r->rp d e k
noncomputable def ByO(g:Xa->Xa->Option OT)(rp:Xa->Xa->(OT->Prop)->Prop):Prop:=∀d e r k,g d e=some r->k r->rp d e k
theorem Zxf{g rp}(G:ByS g rp){δ:Zg}{K:OT->Zg->Prop}(h:o2 (Zh g fa fb) δ K):Zmu rp (o2 fa) (o2 fb) δ K:=by
 obtain⟨r,δ',h,k⟩:=h
 obtain⟨⟨x,δ1⟩,h1,h⟩:=bs h
 obtain⟨⟨y,δ2⟩,h2,h⟩:=bs h
 obtain⟨d,h3,h⟩:=bs h
 cases h
 exact⟨x,δ1,h1,y,δ2,h2,G _ _ _ _ h3 k⟩
theorem W6{g rp}(G:ByS g rp)(h:ME X io p c e (Zmu rp (o2 fa) (o2 fb))):ME X io p c e (o2 (Zh g fa fb)):=h.weak λδ K z=>Zxf G z
theorem Yd3{f:FE}{δ:Zg}{K:Bool->Zg->Prop}(h:o2 (tV f) δ K):o2 f δ (kB K):=by
 obtain⟨b,δ',h,k⟩:=h
 obtain⟨⟨x,δ1⟩,h1,h⟩:=bs h
 refine⟨x,δ1,h1,?_⟩
 unfold kB
 try dsimp only at h⊢
 split at h
 ·cases h;exact k
 ·cases h
theorem Zdi{g rp}(G:ByS g rp)(h:MT X io p e (λδ K=>Zmu rp (o2 fa) (o2 fb) δ (kB K))):MT X io p e (o2 (tV (Zh g fa fb))):=h.weak λδ K z=>Zxf G (Yd3 z)
theorem Zms{g rp}(G:ByO g rp)(h:ME X io p c e (Z7z rp (o2 fa) (o2 fb))):ME X io p c e (o2 (Z2 g fa fb)):=h.weak λδ K h=>by
 obtain⟨r,δ',h,k⟩:=h
 obtain⟨⟨x,δ1⟩,h1,h⟩:=bs h
 obtain⟨⟨y,δ2⟩,h2,h⟩:=bs h
 obtain⟨d,h3,h⟩:=bs h
 cases h
 exact⟨x,δ1,h1,y,δ2,h2,G _ _ _ _ h3 k⟩
noncomputable def Z7y:Xa->Option Xa| .int i=>some (.int (-i))|_=>none
noncomputable def Ya7:Xa->Option Xa| .bool b=>some (.bool (!b))|_=>none
theorem Z49(h:ME X io p c e (Yb2 (o2 fa))):ME X io p c e (o2 (fUn Z7y fa)):=h.weak λδ K h=>by
 obtain⟨r,δ',h,k⟩:=h
 obtain⟨⟨x,δ1⟩,h1,h⟩:=bs h
 obtain⟨d,h3,h⟩:=bs h
 cases h
 refine⟨x,δ1,h1,?_⟩
 dsimp only at h3⊢
 cases q:x.data<;>rw[q]at h3<;>cases h3
 exact k
theorem Zzn(h:ME X io p c e (Z7p (o2 fa))):ME X io p c e (o2 (fUn Ya7 fa)):=h.weak λδ K h=>by
 obtain⟨r,δ',h,k⟩:=h
 obtain⟨⟨x,δ1⟩,h1,h⟩:=bs h
 obtain⟨d,h3,h⟩:=bs h
 cases h
 refine⟨x,δ1,h1,?_⟩
 dsimp only at h3⊢
 cases q:x.data<;>rw[q]at h3<;>cases h3
 exact k
theorem Znv(h:ME X io p c e (Z34 (o2 fa) (o2 fb))):ME X io p c e (o2 (Zvt fa fb)):=h.weak λδ K h=>by
 obtain⟨r,δ',h,k⟩:=h
 obtain⟨⟨x,δ1⟩,h1,h⟩:=bs h
 refine⟨x,δ1,h1,?_⟩
 try dsimp only at h⊢
 split at h
 ·rename_i q;(try rw[q]);rw[Zxc,if_pos rfl];exact⟨r,δ',h,k⟩
 ·rename_i q;(try rw[q]);cases h;rw[Zxc,if_neg Xx];exact k
 ·cases h
theorem Yad(h:ME X io p c e (mIf (o2 ta) (o2 fa) (o2 fb))):ME X io p c e (o2 (fIf ta fa fb)):=h.weak λδ K h=>by
 obtain⟨r,δ',h,k⟩:=h
 obtain⟨⟨x,δ1⟩,h1,h⟩:=bs h
 refine⟨x,δ1,h1,?_⟩
 try dsimp only at h⊢
 split at h
 ·rename_i q;rw[if_pos q];exact⟨r,δ',h,k⟩
 ·rename_i q;rw[if_neg q];exact⟨r,δ',h,k⟩
theorem Z3k(h:MT X io p e (Yc5 (o2 ta))):MT X io p e (o2 (tNo ta)):=h.weak λδ K h=>by
 obtain⟨r,δ',h,k⟩:=h
 obtain⟨⟨x,δ1⟩,h1,h⟩:=bs h
 cases h
 exact⟨x,δ1,h1,k⟩
theorem Zx0(h:MW X io p e (Ybt (o2 ta) (o2 tb))):MW X io p e (o2 (tAn ta tb)):=h.weak λδ K h=>by
 obtain⟨r,δ',h,k⟩:=h
 obtain⟨⟨x,δ1⟩,h1,h⟩:=bs h
 refine⟨x,δ1,h1,?_⟩
 try dsimp only at h⊢
 split at h
 ·rename_i q;rw[if_pos q];exact⟨r,δ',h,k⟩
 ·rename_i q;rw[if_neg q];cases h;exact k
theorem Zne(h:MW X io p e (mOr (o2 ta) (o2 tb))):MW X io p e (o2 (tO ta tb)):=h.weak λδ K h=>by
 obtain⟨r,δ',h,k⟩:=h
 obtain⟨⟨x,δ1⟩,h1,h⟩:=bs h
 refine⟨x,δ1,h1,?_⟩
 try dsimp only at h⊢
 split at h
 ·rename_i q;rw[if_pos q];cases h;exact k
 ·rename_i q;rw[if_neg q];exact⟨r,δ',h,k⟩
theorem Zgf(h:MT X io p e (Yc1 (o2 fa))):MT X io p e (o2 (tD fa)):=h.weak λδ K h=>by
 obtain⟨r,δ',h,k⟩:=h
 obtain⟨⟨x,δ1⟩,h1,h⟩:=bs h
 obtain⟨d,h3,h⟩:=bs h
 cases h
 refine⟨x,δ1,h1,?_⟩
 dsimp only at h3⊢
 rw[h3]
 exact k
theorem Z36(h:MA X io p c es Ydq):MA X io p c es (o2 Zm):=h.weak λδ K ⟨r,δ',h,k⟩=>by cases h;exact k
theorem Zyw(h:MA X io p c es (Z6a (o2 fa) (o2 ra))):MA X io p c es (o2 (Zc fa ra)):=h.weak λδ K h=>by
 obtain⟨r,δ',h,k⟩:=h
 obtain⟨⟨x,δ1⟩,h1,h⟩:=bs h
 obtain⟨⟨y,δ2⟩,h2,h⟩:=bs h
 cases h
 exact⟨x,δ1,h1,y,δ2,h2,k⟩
theorem Z3d(h:ME X io p c e (Ydd (o2 ra))):ME X io p c e (o2 (Zkx ra)):=h.weak λδ K h=>by
 obtain⟨r,δ',h,k⟩:=h
 obtain⟨⟨x,δ1⟩,h1,h⟩:=bs h
 refine⟨x,δ1,h1,?_⟩
 dsimp only at h
 split at h
 ·rename_i q;cases h;exact⟨q,k⟩
 ·cases h
theorem Z6q(h:ME X io p c e (Ycu (o2 ra))):ME X io p c e (o2 (Zdm ra)):=h.weak λδ K h=>by
 obtain⟨r,δ',h,k⟩:=h
 obtain⟨⟨x,δ1⟩,h1,h⟩:=bs h
 refine⟨x,δ1,h1,?_⟩
 dsimp only at h
 split at h
 ·rename_i q;cases h;exact⟨q,k⟩
 ·cases h
theorem Zsq(h:ME X io p c e (Z3f (o2 fa))):ME X io p c e (o2 (Zp9 fa)):=h.weak λδ K h=>by
 obtain⟨r,δ',h,k⟩:=h
 obtain⟨⟨x,δ1⟩,h1,h⟩:=bs h
 refine⟨x,δ1,h1,?_⟩
 dsimp only at h
 split at h
 ·rename_i q;cases h;exact⟨q,k⟩
 ·cases h
theorem Zyq{F:FD}(h:ME X io p c e (Zu2 (sD F) (o2 ra))):ME X io p c e (o2 (Zv F ra)):=h.weak λδ K h=>by
 obtain⟨r,δ',h,k⟩:=h
 obtain⟨⟨x,δ1⟩,h1,h⟩:=bs h
 refine⟨x,δ1,h1,?_⟩
 dsimp only at h
 split at h
 ·rename_i q;cases h;exact⟨_,q,k⟩
 ·cases h
theorem Z3{F:FIO}(h:ME X io p c e (Zk8 i (sI F) (o2 ra))):ME X io p c e (o2 (Z5 i F ra)):=h.weak λδ K h=>by
 obtain⟨r,δ',h,k⟩:=h
 unfold Z5 at h;unfold Zk8
 split at h
 case h_2=>cases h
 rename_i t0 q0
 (try rw[q0])
 obtain⟨⟨x,δ1⟩,h1,h⟩:=bs h
 refine⟨x,δ1,h1,?_⟩
 try dsimp only at h⊢
 split at h
 case h_2=>cases h
 rename_i t q
 (try rw[q])
 obtain⟨⟨y,t'⟩,h2,h⟩:=bs h
 cases h
 exact⟨_,_,h2,k⟩
theorem Zb5{g rp}(G:∀ds r k,g ds=some r->k r->rp ds k)(h:ME X io p c e (Z76 rp (o2 ra))):ME X io p c e (o2 (Zce g ra)):=h.weak λδ K h=>by
 obtain⟨r,δ',h,k⟩:=h
 obtain⟨⟨x,δ1⟩,h1,h⟩:=bs h
 obtain⟨d,h3,h⟩:=bs h
 cases h
 exact⟨x,δ1,h1,G _ _ _ h3 k⟩
theorem Z8u{g rp}(G:∀ds r k,g ds=some r->k r->rp ds k)(h:ME X io p c e (mBl rp (o2 ra))):ME X io p c e (o2 (fBl g ra)):=h.weak λδ K h=>by
 obtain⟨r,δ',h,k⟩:=h
 obtain⟨⟨x,δ1⟩,h1,h⟩:=bs h
 obtain⟨d,h3,h⟩:=bs h
 cases h
 exact⟨x,δ1,h1,G _ _ _ h3 k⟩
theorem Zya{T:String}(h:ME X io p c e (Ycj T (o2 fa))):ME X io p c e (o2 (Z8o T fa)):=h.weak λδ K h=>by
 obtain⟨r,δ',h,k⟩:=h
 obtain⟨⟨x,δ1⟩,h1,h⟩:=bs h
 by_cases hf:Zlf x.data=true
 ·have h':(if Zlf x.data=true then none else some (OT.fz (.bool (Zum T x.data)),δ1))=some (r,δ'):=h
  rw[if_pos hf]at h'
  cases h'
 ·have h':(if Zlf x.data=true then none else some (OT.fz (.bool (Zum T x.data)),δ1))=some (r,δ'):=h
  rw[if_neg hf]at h'
  injection h' with h'
  injection h' with e1 e2
  subst e1 e2
  exact⟨x,_,h1,Uq.mpr hf,k⟩
theorem Zr5(h:MO X io p eo Zqs):MO X io p eo (o2 oN):=h.weak λδ K ⟨r,δ',h,k⟩=>by cases h;exact k
theorem Zrv(h:MO X io p eo (Z7n (o2 fa))):MO X io p eo (o2 (oI fa)):=h.weak λδ K h=>by
 obtain⟨r,δ',h,k⟩:=h
 obtain⟨⟨x,δ1⟩,h1,h⟩:=bs h
 refine⟨x,δ1,h1,?_⟩
 try dsimp only at h⊢
 split at h
 ·rename_i q;(try rw[q]);cases h;exact k
 ·cases h
theorem Z69{lo hi:FO}(h:ME X io p c e (mSl (o2 fa) (o2 lo) (o2 hi))):ME X io p c e (o2 (fSl fa lo hi)):=h.weak λδ K h=>by
 obtain⟨r,δ',h,k⟩:=h
 obtain⟨⟨x,δ1⟩,h1,h⟩:=bs h
 obtain⟨⟨y,δ2⟩,h2,h⟩:=bs h
 obtain⟨⟨z,δ3⟩,h3,h⟩:=bs h
 refine⟨x,δ1,h1,y,δ2,h2,z,δ3,h3,?_⟩
 try dsimp only at h⊢
 split at h
 ·rename_i q;(try rw[q]);cases h;exact k
 ·cases h
theorem Z1z(h:MI X io p c tg e (iL (o2 fa))):MI X io p c tg e (o2 (Zgs fa)):=h.weak λδ K h=>by
 obtain⟨r,δ',h,k⟩:=h
 obtain⟨⟨x,δ1⟩,h1,h⟩:=bs h
 refine⟨x,δ1,h1,?_⟩
 try dsimp only at h⊢
 split at h
 ·rename_i q;(try rw[q]);cases h;exact k
 ·cases h
theorem Zas(h:MI X io p c tg e (iR1 (o2 ra))):MI X io p c tg e (o2 (iRa ra)):=h.weak λδ K h=>by
 obtain⟨r,δ',h,k⟩:=h
 obtain⟨⟨x,δ1⟩,h1,h⟩:=bs h
 refine⟨x,δ1,h1,?_⟩
 try dsimp only at h⊢
 split at h
 case h_2=>cases h
 rename_i q
 (try rw[q])
 try dsimp only
 split at h
 ·rename_i b;cases h;exact⟨Zfv b,k⟩
 ·cases h
theorem Z6j(h:MI X io p c tg e (iR2 (o2 ra))):MI X io p c tg e (o2 (iRb ra)):=h.weak λδ K h=>by
 obtain⟨r,δ',h,k⟩:=h
 obtain⟨⟨x,δ1⟩,h1,h⟩:=bs h
 refine⟨x,δ1,h1,?_⟩
 try dsimp only at h⊢
 split at h
 case h_2=>cases h
 rename_i q
 (try rw[q])
 try dsimp only
 split at h
 ·rename_i b
  cases h
  rw[XN]at b
  exact⟨⟨(Zfv b.1).1,(Zfv b.1).2,(Zfv b.2).1,(Zfv b.2).2⟩,k⟩
 ·cases h
theorem Z0d(h:MG X io c tg (dName i)):MG X io c tg (oG (gNm i)):=h.weak λd δ K ⟨δ',h,k⟩=>by cases h;exact k
theorem Zoc(h:MG X io c tg (Zxb i)):MG X io c tg (oG (Zvu i)):=h.weak λd δ K q93=>by
 obtain⟨δ',h,k⟩:=q93
 unfold Zvu at h
 split at h
 ·rename_i q;cases h;exact⟨q,k⟩
 ·cases h
theorem Ztf(h:MGs X io c es Ydj):MGs X io c es (oGs gNl):=h.weak λd δ K q94=>by
 obtain⟨δ',h,k⟩:=q94
 unfold gNl at h
 split at h
 ·cases h;exact⟨rfl,k⟩
 ·cases h
theorem Zg5{g:FG}{gs:FGs}(h:MGs X io c es (Zy4 (oG g) (oGs gs))):MGs X io c es (oGs (gCn g gs)):=h.weak λd δ K q95=>by
 obtain⟨δ',h,k⟩:=q95
 unfold gCn at h
 split at h
 ·obtain⟨δ1,h1,h⟩:=bs h
  exact⟨δ1,h1,δ',h,k⟩
 ·cases h
theorem Zxy{n:Nat}{gs:FGs}(h:MG X io c tg (dTup n (oGs gs))):MG X io c tg (oG (gTp n gs)):=h.weak λd δ K q96=>by
 obtain⟨δ',h,k⟩:=q96
 unfold gTp at h
 split at h
 case h_2=>cases h
 split at h
 ·rename_i q;exact⟨q,δ',h,k⟩
 ·cases h
theorem Zad(h:MIfs X io p es Z6u):MIfs X io p es (o2 Zfg):=h.weak λδ K ⟨r,δ',h,k⟩=>by cases h;exact k
theorem Zy6{g:FG}{t:FT}{me:FE}{ds:List Xa}{δ0:Zg}{zs:List OT}{δe:Zg}(h:compLoop g t me ds δ0=some (zs,δe)) :
  ∃I:Nat->List OT->Zg->Prop,I 0 [] δ0∧
 (∀ (i:Nat) (d:Xa) (rs:List OT) (δ':Zg),ds[i]? =some d->I i rs δ'->oG g d δ' λδ2=>o2 t δ2 λb δ3=>if b=true then o2 me δ3 λr δ4=>I (i+1) (rs ++ [r]) δ4 else I (i+1) rs δ3)∧
 ∀rs δ',I ds.length rs δ'->rs=zs∧δ'=δe:=by
 refine⟨λi rs δ'=>∃ys,rs ++ ys=zs∧compLoop g t me (ds.drop i) δ'=some (ys,δe),⟨zs,rfl,by rw[List.drop_zero];exact h⟩,?_,?_⟩
 ·rintro i d rs δ' hd ⟨ys,e,hl⟩
  obtain⟨hi,hdi⟩:=Xk.mp hd
  rw[List.drop_eq_getElem_cons hi,hdi]at hl
  unfold compLoop at hl
  obtain⟨δ1,h1,hl⟩:=bs hl
  obtain⟨⟨b,δ2⟩,h2,hl⟩:=bs hl
  refine⟨δ1,h1,b,δ2,h2,?_⟩
  dsimp only at hl
  split at hl
  ·rename_i hb
   rw[if_pos hb]
   obtain⟨⟨r,δ3⟩,h3,hl⟩:=bs hl
   obtain⟨⟨ws,δ4⟩,h4,hl⟩:=bs hl
   cases hl
   exact⟨r,δ3,h3,ws,by rw[Vb];exact e,h4⟩
  ·rename_i hb
   rw[if_neg hb]
   exact⟨ys,e,hl⟩
 ·rintro rs δ' ⟨ys,e,hl⟩
  rw[List.drop_length]at hl
  unfold compLoop at hl
  cases hl
  exact⟨by rw[←e,QL],rfl⟩
theorem Zqn{n:Nat}{caps:List Nat}{it:FI}{g:FG}{t:FT}{me:FE}{δ:Zg}{K:OT->Zg->Prop}(h:o2 (Y9 n caps it g t me) δ K):Zio n caps (o2 it) (oG g) (o2 t) (o2 me) δ K:=by
 obtain⟨r,δ',h,k⟩:=h
 obtain⟨⟨ds,δ1⟩,h1,h⟩:=bs h
 refine⟨ds,δ1,h1,?_⟩
 dsimp only at h
 split at h
 case isFalse=>cases h
 rename_i hz
 obtain⟨⟨zs,δe⟩,h2,h⟩:=bs h
 cases h
 obtain⟨I,i0,st,en⟩:=Zy6 h2
 refine⟨hz,I,i0,st,λrs δ'' q=>?_⟩
 obtain⟨rfl,rfl⟩:=en rs δ'' q
 exact k
theorem J9{n:Nat}{caps:List Nat}{it:FI}{g:FG}{t:FT}{me:FE}(h:ME X io p c e (Zio n caps (o2 it) (oG g) (o2 t) (o2 me))):ME X io p c e (o2 (Y9 n caps it g t me)):=h.weak λδ K z=>Zqn z
end
section
variable {X:Cx}{io:List Nat}{p c:Bool}{e tg iter:Expr}{es:List Expr}{st:Stmt}{sts:List Stmt}{fa fb fc:FE}{ra:FA}{ta tb:FT}{i:Nat}{f g u w:FS}
theorem Z5l(h:MSs X io sts (Yaq (oS f) (oS g))):MSs X io sts (oS (Zz f g)):=h.weak λD δ h=>by
 unfold oS Zz at h;unfold Yaq oS
 cases q:f δ<;>rw[q]at h<;>exact h
theorem Zz8(h:MSs X io sts Z5m):MSs X io sts (oS fNx):=h.weak λD δ h=>h
theorem Zo4{k:OT->Zg->RS}{D:Zgt}{δ:Zg}(h:oS (wE fa k) D δ):o2 fa δ λr δ'=>(k r δ').fits D:=by
 unfold oS wE at h
 split at h
 ·rename_i q;exact⟨_,_,q,h⟩
 ·exact h.elim
theorem o2.imp{α:Type}{f:Zg->Option (α×Zg)}{δ:Zg}{K K':α->Zg->Prop}(h:o2 f δ K)(k:∀r δ',K r δ'->K' r δ'):o2 f δ K':=let⟨r,δ',e,q⟩:=h;⟨r,δ',e,k r δ' q⟩
theorem Zn1{P:Prop}[Decidable P]{a:RS}{D:Zgt}(h:(if P then a else .bad:RS).fits D):P∧a.fits D:=by
 split at h
 ·exact⟨‹_›,h⟩
 ·exact h.elim
theorem Zf4(h:MS X io st (Z63 (o2 fa))):MS X io st (oS (wE fa Zhj)):=h.weak λD δ h=>Zo4 h
theorem Z4b(h:MS X io st (Ydr (o2 fa))):MS X io st (oS (wE fa J0)):=h.weak λD δ h=>Zo4 h
theorem Zdq(h:MS X io st (Zvs i)):MS X io st (oS (Zeb i)):=h.weak λD δ h=>by
 unfold oS Zeb at h;unfold Zvs
 split at h
 ·rename_i q;(try rw[q]);exact h
 ·exact h.elim
theorem Ybo(h:MS X io st (Ydi (o2 ta) (oS u) (oS w))):MS X io st (oS (Zax ta u w)):=h.weak λD δ h=>by
 unfold oS Zax at h
 split at h
 ·rename_i b δ' q
  refine⟨b,δ',q,?_⟩
  split at h
  ·rename_i hb;rw[if_pos hb];exact h
  ·rename_i hb;rw[if_neg hb];exact h
 ·exact h.elim
theorem Ztd(h:MS X io st (Z2h i (o2 fa))):MS X io st (oS (wE fa (Yt i))):=h.weak λD δ h=>Zo4 h
theorem Zz1(h:MS X io st (Zpx i (o2 fa))):MS X io st (oS (wE fa (Zcd i))):=h.weak λD δ h=>Zo4 h
section
variable {n:Nat}{caps:List Nat}{o q:Nat}{it:FI}{gg:FG}{t:FT}{me:FE}
theorem Zwu(h:MS X io st (if true=true then Zpx i (Zio n caps (o2 it) (oG gg) (o2 t) (o2 me))else Z2h i (Zio n caps (o2 it) (oG gg) (o2 t) (o2 me)))):MS X io st (oS (wE (Y9 n caps it gg t me) (Zcd i))) :=
 h.weak λD δ h=>by rw[if_pos rfl];exact Zqn (Zo4 h)
theorem Zna(h:MS X io st (if false=true then Zpx i (Zio n caps (o2 it) (oG gg) (o2 t) (o2 me))else Z2h i (Zio n caps (o2 it) (oG gg) (o2 t) (o2 me)))):MS X io st (oS (wE (Y9 n caps it gg t me) (Yt i))) :=
 h.weak λD δ h=>by rw[if_neg Xx];exact Zqn (Zo4 h)
end
theorem Zd0(h:MS X io st (Zki i (o2 fa))):MS X io st (oS (W5 i fa)):=h.weak λD δ h=>by
 unfold oS W5 at h;unfold Zki
 split at h
 case h_2=>exact h.elim
 rename_i q;(try rw[q])
 refine(Zo4 h).imp λr δ' z=>?_
 split at z
 ·rename_i q2;(try rw[q2]);exact Zn1 z
 ·exact z.elim
theorem Z7u(h:MS X io st (Yct i (o2 fa) (o2 fb))):MS X io st (oS (Z52 i fa fb)):=h.weak λD δ h=>by
 refine(Zo4 h).imp λr δ' z=>?_
 split at z
 case h_2=>exact z.elim
 rename_i q;(try rw[q])
 refine(Zo4 z).imp λn δ2 z=>?_
 split at z
 case h_2=>exact z.elim
 rename_i k q2;(try rw[q2])
 show match ixN _ k with|some j=>_|none=>_
 split at z
 ·rename_i q3;(try rw[q3]);exact z
 ·exact z.elim
theorem Zba(h:MS X io st (Z3z i (o2 fa) (o2 fb) (o2 fc))):MS X io st (oS (Zaz i fa fb fc)):=h.weak λD δ h=>by
 refine(Zo4 h).imp λr δ' z=>?_
 split at z
 case h_2=>exact z.elim
 rename_i q;(try rw[q])
 refine(Zo4 z).imp λn δ2 z=>?_
 split at z
 case h_2=>exact z.elim
 rename_i k q2;(try rw[q2])
 show match ixN _ k with|some j=>_|none=>_
 split at z
 case h_2=>exact z.elim
 rename_i q3;(try rw[q3])
 try dsimp only
 split at z
 case h_2=>exact z.elim
 rename_i q4;(try rw[q4])
 refine(Zo4 z).imp λn' δ3 z=>?_
 split at z
 case h_2=>exact z.elim
 rename_i k' q5;(try rw[q5])
 show match ixN _ k' with|some j=>_|none=>_
 split at z
 ·rename_i q6;(try rw[q6]);exact z
 ·exact z.elim
theorem Zq1(h:MS X io st (Zkt i (oS u))):MS X io st (oS (Zhe i u)):=h.weak λD δ h=>by
 unfold oS Zhe at h;unfold Zkt
 split at h
 ·rename_i q;(try rw[q]);exact h
 ·exact h.elim
theorem Ji{gg:FG}{d:Xa}{ds:List Xa}{δ:Zg}:forLoop gg u (d :: ds) δ=match gg d δ with
  | none=>.bad
  | some δ1=>match u δ1 with
   | .nx δ2=>forLoop gg u ds δ2
   | .ct δ2=>forLoop gg u ds δ2
   | .bk δ2=>.nx δ2
   | r=>r:=rfl
theorem Z5k{it:FI}{gg:FG}(h:MS X io st (Ybz (o2 it) (oG gg) (oS u))):MS X io st (oS (Jk it gg u)):=h.weak λD δ h=>by
 unfold oS Jk at h
 split at h
 case h_2=>exact h.elim
 rename_i ds δ1 q
 refine⟨ds,δ1,q,λi δ'=>(forLoop gg u (ds.drop i) δ').fits D,by show RS.fits D (forLoop gg u (ds.drop 0) δ1);rw[List.drop_zero];exact h,λi d δ' hd z=>?_,λδ' z=>?_⟩
 ·obtain⟨hi,hdi⟩:=Xk.mp hd
  replace z:RS.fits D (forLoop gg u (ds.drop i) δ'):=z
  rw[List.drop_eq_getElem_cons hi,hdi,Ji]at z
  split at z
  case h_1=>exact z.elim
  rename_i δ2 q2
  refine⟨δ2,q2,?_⟩
  unfold oS
  cases q3:u δ2<;>rw[q3]at z<;>(try rw[q3])<;>exact z
 ·replace z:RS.fits D (forLoop gg u (ds.drop ds.length) δ'):=z
  rw[List.drop_length]at z;exact z
theorem Zn4(h:MS X io st (Zw5 (o2 ta) (oS u))):MS X io st (oS (Ziy ta u)):=h.weak λD δ h=>by
 unfold oS Ziy at h
 split at h
 case isFalse=>exact h.elim
 rename_i hn
 refine⟨λn δ'=>(whileLoop ta u n δ').fits D,⟨_,h⟩,λn δ' z=>?_⟩
 cases n with
 | zero=>exact z.elim
 | succ n=>
  unfold whileLoop at z
  split at z
  case h_1=>exact z.elim
  rename_i b δ1 q
  refine⟨b,δ1,q,?_⟩
  split at z
  ·rename_i hb
   rw[if_pos hb]
   refine⟨λδ''=>(whileLoop ta u n δ'').fits D,λδ'' y=>⟨n,BJ n,y⟩,?_⟩
   unfold oS
   cases q3:u δ1<;>rw[q3]at z<;>exact z
  ·rename_i hb
   rw[if_neg hb]
   exact z
theorem Zec{n m:Nat}:∀{δ:Zg},whileLoop ta u n δ≠ .bad->whileLoop ta u (n+m) δ=whileLoop ta u n δ:=by
 induction n with
 | zero=>intro δ h;exact absurd rfl h
 | succ n ih=>
  intro δ h
  rw[Nat.succ_add]
  unfold whileLoop at h⊢
  cases q:ta δ with
  | none=>rfl
  | some x=>
   obtain⟨b,δ1⟩:=x
   rw[q]at h
   try dsimp only at h⊢
   split
   ·rename_i hb
    rw[if_pos hb]at h
    cases q3:u δ1<;>rw[q3]at h<;>first|exact ih h|rfl
   ·rfl
theorem Zk9{r:RS}{δ:Zg}(n:Nat)(h:whileLoop ta u n δ=r)(hr:r≠ .bad):Ziy ta u δ=r:=by
 have hn:∃n,whileLoop ta u n δ≠ .bad:=⟨n,by rw[h];exact hr⟩
 unfold Ziy
 rw[dif_pos hn]
 have h1:=Classical.choose_spec hn
 have e1:=Zec (m:=n) h1
 have e2:=Zec (m:=Classical.choose hn) (show whileLoop ta u n δ≠ .bad by rw[h];exact hr)
 rw[Nat.add_comm]at e2
 rw[←e1,e2,h]
theorem Zkp{cn:Str}:MS X io st (oS (Zml cn)):=Zu4.weak λD δ h=>h
theorem Zws{F:FD}{k:OT->Zg->RS}(h:MS X io st (oS (wE (Zv F ra) k))):MS X io st (oS (wX F ra k)):=h.weak λD δ h=>by
 unfold oS wX at h;unfold oS wE Zv
 split at h
 case h_2=>exact h.elim
 rename_i rs δ1 q
 (try rw[q])
 dsimp only[Option.bind]
 split at h
 ·rename_i q2;(try rw[q2]);exact h
 ·exact h.elim
 ·exact h.elim
theorem Z4v{xs:List Str}{D:Str}{Dc:Addr}{h0:FS}(hk:∀cn∈xs,Zpt cn D=true->∃C,Vm X.K cn C∧Zcj X.K C∧Be X.K (.ref C) (.ref Dc)=some true)(h:MS X io st (Yae X.K Dc i (oS u) (xS X.K u) (oS h0))):MS X io st (oS (Zzb xs u D i h0)):=h.weak λDD δ h=>by
 unfold oS Zzb at h
 split at h
 ·rename_i cn δ' q
  refine .inr ?_
  obtain⟨hc,h⟩:=Zn1 h
  rw[XN]at hc
  obtain⟨C,k1,k2,k3⟩:=hk cn (by simpa using hc.1) hc.2
  refine⟨cn,C,δ',q,k1,cn,k1,⟨k2,k3⟩,?_⟩
  unfold oS
  split at h
  ·rename_i q2;(try rw[q2]);exact h
  ·exact h.elim
 ·exact .inl h
theorem XS.weak{m m':MXt}(h:XS X io st m)(w:∀δ k,m' δ k->m δ k):XS X io st m':=λC pins s σ H δ fp ex k I R hm=>h C pins s σ H δ fp ex k I R (w δ k hm)
theorem XSs.weak{m m':MXt}(h:XSs X io sts m)(w:∀δ k,m' δ k->m δ k):XSs X io sts m':=λC pins s σ H δ fp ex k I R hm=>h C pins s σ H δ fp ex k I R (w δ k hm)
theorem XE.weak{m m':MXt}(h:XE X io e m)(w:∀δ k,m' δ k->m δ k):XE X io e m':=λC pins s σ H δ fp ex k I R hm=>h C pins s σ H δ fp ex k I R (w δ k hm)
class NoEx (f:FS):Prop where
 no:∀δ cn δ',f δ≠ .ex cn δ'
class NoExK (k:OT->Zg->RS):Prop where
 no:∀r δ cn δ',k r δ≠ .ex cn δ'
theorem Z21(f:FS)[NoEx f]:XS X io st (xS X.K f):=Zu0.weak λδ k ⟨cn,_,δ',h,_⟩=>(NoEx.no δ cn δ' h).elim
theorem Zmh(f:FS)[NoEx f]:XSs X io sts (xS X.K f):=Zt6.weak λδ k ⟨cn,_,δ',h,_⟩=>(NoEx.no δ cn δ' h).elim
instance nx_kDrop_k:NoExK Zhj:=⟨λ_ _ _ _ h=>by cases h⟩
instance nx_kRet_k:NoExK J0:=⟨λ_ _ _ _ h=>by cases h⟩
instance nx_kSet_k:NoExK (Yt i):=⟨λ_ _ _ _ h=>by cases h⟩
instance nx_kSetO_k:NoExK (Zcd i):=⟨λ_ _ _ _ h=>by cases h⟩
instance nx_wE{k:OT->Zg->RS}[NoExK k]:NoEx (wE fa k):=⟨λδ cn δ' h=>by
 unfold wE at h
 split at h
 ·exact NoExK.no _ _ _ _ h
 ·cases h⟩
instance nx_fSeq[NoEx f][NoEx g]:NoEx (Zz f g):=⟨λδ cn δ' h=>by
 unfold Zz at h
 split at h
 ·exact NoEx.no _ _ _ h
 ·exact NoEx.no _ _ _ h⟩
instance nx_fNx:NoEx fNx:=⟨λ_ _ _ h=>by cases h⟩
instance nx_fRetO:NoEx (Zeb i):=⟨λ_ _ _ h=>by unfold Zeb at h;split at h<;>cases h⟩
theorem Zy8{k:OT->Zg->RS}{δ:Zg}(n:∀r δ cn δ',k r δ≠ .ex cn δ'){cn:Str}{δ':Zg}(h:wE fa k δ= .ex cn δ'):False:=by
 unfold wE at h
 split at h
 ·exact n _ _ _ _ h
 ·cases h
instance nx_fAppend:NoEx (W5 i fa):=⟨λδ cn δ' h=>by
 unfold W5 at h
 split at h
 ·exact Zy8 (λr δ1 _ _ z=>by
   split at z
   ·split at z<;>cases z
   ·cases z) h
 ·cases h⟩
theorem Zdu[NoEx u]{gg:FG}{cn:Str}{δ':Zg}:∀(ds:List Xa) (δ:Zg),forLoop gg u ds δ≠ .ex cn δ'
 | [],δ=>λh=>by cases h
 | d :: ds,δ=>λh=>by
  rw[Ji]at h
  split at h
  ·cases h
  ·split at h
   ·exact Zdu ds _ h
   ·exact Zdu ds _ h
   ·cases h
   ·exact NoEx.no _ _ _ h
instance nx_fFor[NoEx u]{it:FI}{gg:FG}:NoEx (Jk it gg u):=⟨λδ cn δ' h=>by
 unfold Jk at h
 split at h
 ·exact Zdu _ _ h
 ·cases h⟩
theorem Zoa{cn:Str}{C:Addr}(hc:Vm X.K cn C)(h:XS X io st (Zqo C)):XS X io st (xS X.K (Zml cn)):=h.weak λδ k z=>by
 obtain⟨c',C',δ',h,k1,k2⟩:=z
 cases h
 have:=k1.symm.trans hc
 injection this with this;injection this with this;injection this with this
 subst this
 exact k2
theorem Zdp{F:FD}{k:OT->Zg->RS}[NoExK k](h:XE X io e (Zxu (sX X.K F) (o2 ra))):XE X io e (xS X.K (wX F ra k)):=h.weak λδ kk z=>by
 obtain⟨c',C',δ',h,k1,k2⟩:=z
 unfold wX at h
 split at h
 case h_2=>cases h
 rename_i rs δ1 q
 refine⟨rs,δ1,q,?_⟩
 split at h
 ·exact(NoExK.no _ _ _ _ h).elim
 ·rename_i q2
  cases h
  exact⟨C',⟨_,q2,k1⟩,k2⟩
 ·cases h
theorem Zje(h1:XS X io st (xS X.K f))(m1:MS X io st (oS f))(h2:XSs X io sts (xS X.K g))(hx:X.xe= λ_ _=>False:=by rfl):XSs X io (st :: sts) (xS X.K (Zz f g)):=by
 intro C pins s σ H δ fp ex k I R hm
 obtain⟨cn,C',δ',h,k1,k2⟩:=hm
 unfold Zz at h
 split at h
 ·rename_i δ1 q
  exact Zwr m1 h2 hx C pins s σ H δ fp ex k I R (by
   show(f δ).fits _
   (try rw[q])
   exact⟨cn,C',δ',h,k1,k2⟩)
 ·exact Zoh h1 C pins s σ H δ fp ex k I R ⟨cn,C',δ',h,k1,k2⟩
theorem Zb0(h1:XS X io st (xS X.K f)):XSs X io [st] (xS X.K f):=Zoh h1
theorem Zwh{a b:List Stmt}{pos:Pos}(h:XS X io (.If e a b pos) (Ydp (o2 ta) (xS X.K u) (xS X.K w))):XS X io (.If e a b pos) (xS X.K (Zax ta u w)):=h.weak λδ k z=>by
 obtain⟨cn,C',δ',h,k1,k2⟩:=z
 unfold Zax at h
 split at h
 case h_2=>cases h
 rename_i b δ1 q
 refine⟨b,δ1,q,?_⟩
 split at h
 ·rename_i hb;rw[if_pos hb];exact⟨cn,C',δ',h,k1,k2⟩
 ·rename_i hb;rw[if_neg hb];exact⟨cn,C',δ',h,k1,k2⟩
end
section
variable {P:X6}{w:Qt}{K:Xb}{mg:Str->Option Xc}{base:Heap}{x qual:Str}{st:Stmt}{f:Addr}{fd:Xp}{N ps:List Str}{n np nn:Nat}{S:FS}
theorem RS.told_fits{r:RS}{o:OT}{k:OT->Prop}(h:r.told= .ok o)(hk:k o):r.fits (Zy0 k):=by
 cases r<;>unfold RS.told at h<;>first|(cases h;exact hk)|cases h
theorem Yd(F:Fun K x qual st f fd)(Sc:Zo N ps (Zj st))(hN:N.length=nn)(hp:np=ps.length)
  (hb:∀(cdv:Xc) (A:Qk) (outer:List Env) (s:Xd) (H:Hp) (E:XK),Room n (A.deeper (Vw qual (Zj st) s.heap.objs.size f cdv))->MSs (Zox CX0 P w K mg base N qual (Zj st) f cdv A outer s H E).nox [] (Jf st) (oS S)) :
  FnOk P w K mg base CX0 (n+1) f fd ps (spD K (sD (Zaf np nn S))):=by
 subst hN hp
 refine F.okD Sc (λds k h=>?_) λcdv A outer s H E hr=>⟨_,hb cdv A outer s H E hr,λds k h=>?_⟩
 ·obtain⟨r,h,_⟩:=h
  unfold Zaf at h
  split at h
  ·assumption
  ·cases h
 ·obtain⟨r,h,hk⟩:=h
  unfold Zaf at h
  split at h
  ·exact RS.told_fits h hk
  ·cases h
theorem Zi4(F:Fun K x qual st f fd)(Sc:Zo N ps (Zj st))(hN:N.length=nn)(hp:np=ps.length)
  (hb:∀(cdv:Xc) (A:Qk) (outer:List Env) (s:Xd) (H:Hp) (E:XK),Room n (A.deeper (Vw qual (Zj st) s.heap.objs.size f cdv))->XSs (Zox (CX1 P w) P w K mg base N qual (Zj st) f cdv A outer s H E).nox [] (Jf st) (xS K S)) :
  FnOk P w K mg base (CX1 P w) (n+1) f fd ps (spX K (sX K (Zaf np nn S))):=by
 subst hN hp
 refine F.okX Sc (λds cl h=>?_) λcdv A outer s H E hr=>⟨_,hb cdv A outer s H E hr,λds cl h=>?_⟩
 ·obtain⟨r,h,_⟩:=h
  unfold Zaf at h
  split at h
  ·assumption
  ·cases h
 ·obtain⟨c,h,hc⟩:=h
  unfold Zaf at h
  split at h
  case isFalse=>cases h
  have e:Zgp N.length ds=Ziz N ds:=rfl
  rw[e]at h
  cases q:S (Ziz N ds)<;>rw[q]at h<;>unfold RS.told at h<;>cases h
  exact⟨_,cl,_,q,hc,rfl⟩
theorem Zly(F:Fun K x qual st f fd)(Sc:Zo N ps (Zj st))(hN:N.length=nn)(hp:np=ps.length)
  (hb:∀(cdv:Xc) (A:Qk) (outer:List Env) (s:Xd) (H:Hp) (E:XK),Room n (A.deeper (Vw qual (Zj st) s.heap.objs.size f cdv))->MSs (Zox CX0 P w K mg base N qual (Zj st) f cdv A outer s H E).nox [0] (Jf st) (oS S)) :
  FnOk P w K mg base CX0 (n+1) f fd ps (spI K (sI (Zqi np nn S))):=by
 subst hN hp
 refine F.okI Sc (λt ds k h=>?_) λcdv A outer s H E hr=>⟨_,hb cdv A outer s H E hr,λt ds k h=>?_⟩
 ·obtain⟨r,t',h,_⟩:=h
  unfold Zqi at h
  split at h
  ·assumption
  ·cases h
 ·obtain⟨r,t',h,hk⟩:=h
  unfold Zqi at h
  split at h
  case isFalse=>cases h
  have e:Zha N.length t ds=Zhq N t ds:=rfl
  rw[e]at h
  show(S (Zhq N t ds)).fits (Zqa k)
  cases q:S (Zhq N t ds)<;>rw[q]at h<;>unfold RS.toldI at h<;>first|cases h|skip
  ·rename_i δ
   show match δ[0]? with|some (some t)=>k (.fz .none) t|_=>False
   dsimp only at h
   split at h
   ·rename_i z;(try rw[z]);cases h;exact hk
   ·cases h
  ·rename_i r' δ
   show match δ[0]? with|some (some t)=>k r' t|_=>False
   dsimp only at h
   split at h
   ·rename_i z;(try rw[z]);cases h;exact hk
   ·cases h
end
noncomputable def i2(g:Int->Int->Xa):Xa->Xa->Option Xa:=λd e=>match d,e with| .int i,.int j=>some (g i j)|_,_=>none
noncomputable def i2c(c:Int->Int->Bool)(g:Int->Int->Xa):Xa->Xa->Option Xa:=λd e=>match d,e with| .int i,.int j=>if c i j=true then some (g i j)else none|_,_=>none
theorem Znr{g:Int->Int->Xa}:ByS (i2 g) (Zuk g):=λd e r k h hk=>by
 unfold i2 at h
 split at h
 ·cases h;exact hk
 ·cases h
theorem Ziw{c:Int->Int->Bool}{C:Int->Int->Prop}{g:Int->Int->Xa}(hc:∀i j,c i j=true->C i j):ByS (i2c c g) (d2I C g):=λd e r k h hk=>by
 unfold i2c at h
 split at h
 ·split at h
  ·cases h;exact⟨hc _ _ ‹_›,hk⟩
  ·cases h
 ·cases h
noncomputable def Z19(a b:Int):Bool:=!(decide (JB a>shortFactorBits)&&decide (JB b>shortFactorBits)&&Uo (JB a+JB b))
noncomputable def Z24(_ j:Int):Bool:=decide (j≠0)&&decide (j.natAbs.log2<9000)
noncomputable def Ycw(_ j:Int):Bool:=decide (j≠0)
noncomputable def Yb5(i j:Int):Bool:=decide (0≤j∧j≤1000000∧i.natAbs<2^64)
theorem Zkr{a b:Int}:Z19 a b=true↔IntMulOk a b:=by
 unfold Z19 IntMulOk
 rw[Bool.not_eq_true',Bool.not_eq_true]
noncomputable def Zcc:=i2 λi j=>.int (i+j)
noncomputable def gSb:=i2 λi j=>.int (i-j)
noncomputable def Zes:=i2c Z19 λi j=>.int (i*j)
noncomputable def Zbi:=i2c Z24 λi j=>.int (i.fdiv j)
noncomputable def Zij:=i2c Ycw λi j=>.int (i.fmod j)
noncomputable def Zih:=i2c Yb5 λi j=>.int (i^j.toNat)
noncomputable def gLt:=i2 λi j=>.bool (decide (i<j))
noncomputable def gLe:=i2 λi j=>.bool (decide (i≤j))
noncomputable def gGt:=i2 λi j=>.bool (decide (j<i))
noncomputable def gGe:=i2 λi j=>.bool (decide (j≤i))
theorem Yar:ByS Zcc (Zuk λi j=>.int (i+j)):=Znr
theorem Z9o:ByS gSb (Zuk λi j=>.int (i-j)):=Znr
theorem Z97:ByS Zes (d2I MulOk λi j=>.int (i*j)):=Ziw λi j h=>⟨Zkr.mp h⟩
theorem Z55:ByS Zbi (d2I Ybw λi j=>.int (i.fdiv j)):=Ziw λi j h=>⟨by
 unfold Z24 at h
 rw[XN]at h
 exact⟨of_decide_eq_true h.1,of_decide_eq_true h.2⟩⟩
theorem Z80:ByS Zij (d2I (λ_ j=>j≠0) λi j=>.int (i.fmod j)):=Ziw λi j h=>of_decide_eq_true h
theorem Z82:ByS Zih (d2I Z8k λi j=>.int (i^j.toNat)):=Ziw λi j h=>⟨(of_decide_eq_true h:0≤j∧j≤1000000∧i.natAbs<2^64)⟩
theorem Ydf:ByS gLt (Zuk λi j=>.bool (decide (i<j))):=Znr
theorem Yeo:ByS gLe (Zuk λi j=>.bool (decide (i≤j))):=Znr
theorem Yes:ByS gGt (Zuk λi j=>.bool (decide (j<i))):=Znr
theorem Ydt:ByS gGe (Zuk λi j=>.bool (decide (j≤i))):=Znr
noncomputable def gEq:Xa->Xa->Option Xa:=λd e=>if(VP d&&VP e)=true then some (.bool (Q7 d e))else none
noncomputable def gNe:Xa->Xa->Option Xa:=λd e=>if(VP d&&VP e)=true then some (.bool (!Q7 d e))else none
theorem Z8j:ByS gEq dEq:=λd e r k h hk=>by
 unfold gEq at h
 split at h
 ·rename_i q
  rw[XN]at q
  cases h
  exact⟨⟨q.1⟩,⟨q.2⟩,hk⟩
 ·cases h
theorem Yfc:ByS gNe dNe:=λd e r k h hk=>by
 unfold gNe at h
 split at h
 ·rename_i q
  rw[XN]at q
  cases h
  exact⟨⟨q.1⟩,⟨q.2⟩,hk⟩
 ·cases h
noncomputable def gIs:Xa->Xa->Option Xa:=λd e=>match e with| .none=>some (.bool (Zel d))|_=>none
noncomputable def Zjb:Xa->Xa->Option Xa:=λd e=>match e with| .none=>some (.bool (!Zel d))|_=>none
theorem Yd7:ByS gIs Ydm:=λd e r k h hk=>by
 unfold gIs at h
 split at h
 ·cases h;exact⟨rfl,hk⟩
 ·cases h
theorem Zns:ByS Zjb Z4z:=λd e r k h hk=>by
 unfold Zjb at h
 split at h
 ·cases h;exact⟨rfl,hk⟩
 ·cases h
noncomputable def Z1n(neg:Bool):Xa->Xa->Option Xa:=λd e=>match Zw2 e with
 | some ds=>if(scD d&&ds.all scD)=true then some (.bool (if neg then !memS d ds else memS d ds))else none
 | none=>none
theorem Z5z{neg:Bool}:ByS (Z1n neg) (dIn neg):=λd e r k h hk=>by
 unfold Z1n at h
 split at h
 case h_2=>cases h
 rename_i ds q
 split at h
 case isFalse=>cases h
 rename_i q2
 rw[XN]at q2
 cases h
 refine⟨q2.1,?_⟩
 cases e<;>cases q
 ·exact⟨q2.2,hk⟩
 ·exact⟨q2.2,hk⟩
noncomputable def gIx:Xa->Xa->Option OT:=λd e=>(ixD d e).bind λx=>some (.fz x)
theorem Yec:ByO gIx dIx:=λd e r k h hk=>by
 obtain⟨x,h1,h2⟩:=bs h
 cases h2
 unfold dIx
 rw[h1]
 exact hk
noncomputable def Zwf:Xa->Xa->Option OT:=λd e=>match d,e with| .list ds,.list es=>if ds.length+es.length≤Xq then some (.nd ((ds ++ es).map OT.fz))else none|_,_=>none
theorem Zv3:ByO Zwf dCat:=λd e r k h hk=>by
 unfold Zwf at h
 split at h
 ·split at h
  ·cases h;exact⟨‹_›,hk⟩
  ·cases h
 ·cases h
noncomputable def Zgx:List Xa->Option Xa:=λds=>match ds with|[d]=>(Zwp d).bind λn=>some (.int n)|_=>none
theorem Ybd:∀ds r k,Zgx ds=some r->k r->Ycq ds k:=λds r k h hk=>by
 unfold Zgx at h
 split at h
 ·obtain⟨n,h1,h2⟩:=bs h
  cases h2
  show match Zwp _ with|some n=>_|none=>_
  rw[h1]
  exact hk
 ·cases h
noncomputable def Z2c:List Xa->Option Xa:=λds=>match ds with|[.int i]=>some (.int (if i<0 then -i else i))|_=>none
theorem Z1v:∀ds r k,Z2c ds=some r->k r->Yco ds k:=λds r k h hk=>by
 unfold Z2c at h
 split at h
 ·cases h;exact hk
 ·cases h
noncomputable def Yeg:List Xa->Option Xa:=λds=>match ds with|[.int i,.int j]=>some (.int (if j>i then j else i))|_=>none
noncomputable def Zwo:List Xa->Option Xa:=λds=>match ds with|[.int i,.int j]=>some (.int (if j<i then j else i))|_=>none
theorem Z44:∀ds r k,Zwo ds=some r->k r->Ycn ds k:=λds r k h hk=>by
 unfold Zwo at h
 split at h
 ·cases h;exact hk
 ·cases h
noncomputable def Zrf:List Xa->Option Xa:=λds=>match ds with|[.int i]=>some (.int i)|[.bool b]=>some (.int (if b then 1 else 0))|_=>none
theorem Zsl:∀ds r k,Zrf ds=some r->k r->Yb6 ds k:=λds r k h hk=>by
 unfold Zrf at h
 split at h
 ·cases h;exact hk
 ·cases h;exact hk
 ·cases h
noncomputable def Z3g:List Xa->Option OT:=λds=>match ds with|[d]=>(Zw2 d).bind λes=>some (.nd (es.map OT.fz))|_=>none
noncomputable def Zin:List Xa->Option (List Int)
 | []=>some []
 | .int i :: r=>(Zin r).bind λl=>some (i :: l)
 | _ :: _=>none
theorem Zfc:∀{ds:List Xa} {ns:List Int},Zin ds=some ns->ds=ns.map Xo
 | [],_,h=>by cases h;rfl
 | .int i :: r,_,h=>by
  obtain⟨l,h1,h2⟩:=bs h
  cases h2
  rw[Zfc h1];rfl
 | .none :: _,_,h=>by cases h
 | .bool _ :: _,_,h=>by cases h
 | .str _ :: _,_,h=>by cases h
 | .list _ :: _,_,h=>by cases h
 | .tuple _ :: _,_,h=>by cases h
 | .dict _ :: _,_,h=>by cases h
@[simp] theorem Zh9:∀ns:List Int,Zin (ns.map Xo)=some ns
 | []=>rfl
 | n :: ns=>by rw[Ql,Zin,Zh9 ns];rfl
noncomputable def Z4h:List Xa->Option Xa:=λds=>match ds with|[.list es]=>(Zin es).bind λns=>some (.int ns.sum)|_=>none
theorem Z9v:∀ds r k,Z4h ds=some r->k r->Ycy ds k:=λds r k h hk=>by
 unfold Z4h at h
 split at h
 ·obtain⟨n,h1,h2⟩:=bs h
  cases h2
  exact⟨n,by rw[Zfc h1],hk⟩
 ·cases h
section
variable {X:Cx}{io:List Nat}{p c:Bool}{e tg:Expr}{es:List Expr}{st:Stmt}{fa fb fc:FE}{ra:FA}{i:Nat}
noncomputable def Yc2(a:FA):FE:=λδ=>(a δ).bind λp=>match OT.datas p.1 with|[.int j]=>if rOk j=true∧j.toNat≤Xq then some (.nd ((Zd4 0 j.toNat).map OT.fz),p.2)else none|_=>none
noncomputable def Z05(a b:FE):FE:=λδ=>(a δ).bind λp=>(b p.2).bind λq=>match q.1.data with| .int k=>if rOk k=true∧k.toNat≤Xq then some (.nd (Xz k.toNat (.fz p.1.data)),p.2)else none|_=>none
theorem Z58(h:ME X io p c e (Ycm (o2 fa) (o2 fb))):ME X io p c e (o2 (Z05 fa fb)):=h.weak λδ K h=>by
 obtain⟨r,δ',h,k⟩:=h
 obtain⟨⟨x,δ1⟩,h1,h⟩:=bs h
 obtain⟨⟨y,δ2⟩,h2,h⟩:=bs h
 refine⟨x,δ1,h1,y,δ2,h2,?_⟩
 try dsimp only at h⊢
 split at h
 case h_2=>cases h
 rename_i q
 (try rw[q])
 split at h
 case isFalse=>cases h
 rename_i b
 cases h
 have z:=Zfv b.1
 exact⟨⟨by omega,by omega,b.2⟩,k⟩
noncomputable def Zi1:Xa->Option Str| .dict [(.str x,.none)]=>some x|_=>none
theorem Zlb{d:Xa}{x:Str}(h:Zi1 d=some x):d=exD x:=by
 unfold Zi1 at h
 split at h
 ·cases h;rfl
 ·cases h
noncomputable def Zq6(xs:List Str)(D:Str)(a:FE):FE:=λδ=>(a δ).bind λp=>(Zi1 p.1.data).bind λx=>if xs.contains x=true then some (.fz (.bool (Zpt x D)),p.2)else none
noncomputable def Zo9(xs Ds:List Str)(a:FE):FE:=λδ=>(a δ).bind λp=>(Zi1 p.1.data).bind λx=>if xs.contains x=true then some (.fz (.bool (Ds.any (Zpt x))),p.2)else none
theorem Zsx{xs:List Str}{D:Str}{cv:Xc}(hk:∀x∈xs,∃C,Vm X.K x C∧Qh X.K (.ref C) cv=some (Zpt x D))(h:ME X io p c e (Z7v X.K cv (o2 fa))):ME X io p c e (o2 (Zq6 xs D fa)):=h.weak λδ K h=>by
 obtain⟨r,δ',h,k⟩:=h
 obtain⟨⟨x,δ1⟩,h1,h⟩:=bs h
 obtain⟨n,h2,h⟩:=bs h
 split at h
 case isFalse=>cases h
 rename_i q
 cases h
 obtain⟨C,k1,k2⟩:=hk n (by simpa using q)
 exact⟨x,δ1,h1,n,C,_,Zlb h2,k1,k2,k⟩
theorem Zwq{xs Ds:List Str}{cs:List Xc}(hk:∀x∈xs,∃C,Vm X.K x C∧Bp X.K (.ref C) cs=some (Ds.any (Zpt x)))(h:ME X io p c e (Zxp X.K cs (o2 fa))):ME X io p c e (o2 (Zo9 xs Ds fa)):=h.weak λδ K h=>by
 obtain⟨r,δ',h,k⟩:=h
 obtain⟨⟨x,δ1⟩,h1,h⟩:=bs h
 obtain⟨n,h2,h⟩:=bs h
 split at h
 case isFalse=>cases h
 rename_i q
 cases h
 obtain⟨C,k1,k2⟩:=hk n (by simpa using q)
 exact⟨x,δ1,h1,n,C,_,Zlb h2,k1,k2,k⟩
end
variable {G:Xb}
section
variable {X:Cx}{io:List Nat}{p c:Bool}{e a b:Expr}{es:List Expr}{m ma mb:MEt}{mr:MAt}{pos apos cpos px py pt sp kp:Pos}{i j:Nat}{x y:Str}{fa fb:FE}{ra:FA}{st:Stmt}
noncomputable def Z8s(a:FA):FE:=λδ=>(a δ).bind λp=>if p.1.length≤Xq then some (.tp p.1,p.2)else none
noncomputable def Zxr(i c:Nat)(e:FE):FS:=λδ=>match δ[i]? with
 | some (some (.tp ts))=>match ts[c]? with
  | some (.nd us)=>wE e (λr _=>if us.length<Xq then .nx (δ.set i (some (.tp (ts.set c (.nd (us ++ [.fz r.data]))))))else .bad) δ
  | _=>.bad
 | _=>.bad
noncomputable def Yce(i j:Nat)(a:FA):FS:=λδ=>match a δ with
 | some (rs,δ1)=>match OT.datas rs with
  | [d,e]=>.nx ((δ1.set i (some (.fz d))).set j (some (.fz e)))
  | _=>.bad
 | none=>.bad
end
class NoStar (e:Expr):Prop where
 h:∀es env,Xh (e :: es) env=(false,eval e env) :: Xh es env
instance nx_Name{x:Str}{p:Pos}:NoStar (.Name x p):=⟨λ_ _=>rfl⟩
instance nx_Constant{x k}{p:Pos}:NoStar (.Constant x k p):=⟨λ_ _=>rfl⟩
instance nx_BinOp{a o b}{p:Pos}:NoStar (.BinOp a o b p):=⟨λ_ _=>rfl⟩
instance nx_BoolOp{o a}{p:Pos}:NoStar (.BoolOp o a p):=⟨λ_ _=>rfl⟩
instance nx_Compare{a o b}{p:Pos}:NoStar (.Compare a o b p):=⟨λ_ _=>rfl⟩
instance nx_Call{f a k}{p:Pos}:NoStar (.Call f a k p):=⟨λ_ _=>rfl⟩
instance nx_List{a}{p:Pos}:NoStar (.List a p):=⟨λ_ _=>rfl⟩
instance nx_Tuple{a k}{p:Pos}:NoStar (.Tuple a k p):=⟨λ_ _=>rfl⟩
instance nx_Subscript{a b}{p:Pos}:NoStar (.Subscript a b p):=⟨λ_ _=>rfl⟩
theorem Zf{X:Cx}{io:List Nat}{p p' c c' p2 c2:Bool}{e:Expr}{es:List Expr}{fa:FE}{ra:FA}[NoStar e](ha:ME X io p c e (o2 fa))(hr:MA X io p' c' es (o2 ra))(hc:p'=true∨c=true:=by first|exact Qo rfl|exact Qg rfl)(h2:(p&&p')=p2:=by rfl)(h3:(c&&c')=c2:=by rfl):MA X io p2 c2 (e :: es) (o2 (Zc fa ra)) :=
 h2▸h3▸Zyw (Z1r ha hr hc (NoStar.h es X.env))
theorem Zsb{X:Cx}{io:List Nat}{p p' c c':Bool}{e:Expr}{m:MEt}(h:ME X io p c e m)(h2:p=p':=by rfl)(h3:c=c':=by rfl):ME X io p' c' e m:=h2▸h3▸h
variable {G:Xb}
section
variable {X:Cx}{io:List Nat}{p c:Bool}{e a b:Expr}{es:List Expr}{m ma mb:MEt}{mr:MAt}{pos apos cpos px py pt sp kp:Pos}{i j:Nat}{x y:Str}{fa fb:FE}{ra:FA}{st:Stmt}{u:FS}
noncomputable def Z8n:=i2c Yb5 λi j=>.int (i*2^j.toNat)
noncomputable def Z6n:=i2c (λ_ j=>decide (0≤j)) λi j=>.int (i/2^j.toNat)
noncomputable def Z7w:=i2 λi j=>.int (U7 i j)
theorem Z4t{f:Int->Int->Int}:P2s G (rI Z2i λi j=>.int (f i j)) (d2I Z8k λi j=>.int (f i j)):=Zye
theorem Yan:ByS Z8n (d2I Z8k λi j=>.int (i*2^j.toNat)):=Ziw λi j h=>⟨(of_decide_eq_true h:0≤j∧j≤1000000∧i.natAbs<2^64)⟩
theorem Z3r:ByS Z6n (d2I (λ_ j=>0≤j) λi j=>.int (i/2^j.toNat)):=Ziw λi j h=>of_decide_eq_true h
theorem Z5r:ByS Z7w (Zuk λi j=>.int (U7 i j)):=Znr
end
structure Gives(P:X6)(w:Qt)(it:Addr)(f:List Addr)(St:Heap->Prop)(x:Xc)(St':Heap->Prop):Prop where
 mem:it∈f
 run:∀{A:Qk} {E:Xc->Xd->Prop} {s:Xd} {Q:Xc->Xd->Prop},St s.heap->(∀h',St' h'->Vv it s.heap h'->Q x { s with heap:=h' })->XX (X7 P w) A (QG (.ref it)) Q E s
 keep:∀h h',(∀c∈f,∀o,h.get? c=some o->h'.get? c=some o)->St h->St h'
 keep':∀h h',(∀c∈f,∀o,h.get? c=some o->h'.get? c=some o)->St' h->St' h'
structure Zja(P:X6)(w:Qt)(it:Addr)(f:List Addr)(St:Heap->Prop):Prop where
 mem:it∈f
 run:∀{A:Qk} {E:Xc->Xd->Prop} {s:Xd} {Q:Xc->Xd->Prop},A.handled=none->St s.heap->(∀h' e,Heap.ExtBut it s.heap h'->(∃o,h'.get? e=some o∧o.cls= .type "StopIteration")->E (.ref e) { s with heap:=h' })->XX (X7 P w) A (QG (.ref it)) Q E s
 keep:∀h h',(∀c∈f,∀o,h.get? c=some o->h'.get? c=some o)->St h->St h'
structure ZA(z TI TO i1 i2:Addr)(f1 f2:List Addr):Prop where
 TIz:TI≠z
 TOz:TO≠z
 a1:∀c∈f1,c≠z∧c≠TO∧c≠i2
 a2:∀c∈f2,c≠z∧c≠TO∧c≠i1
section
variable {P:X6}{w:Qt}{A:Qk}{E:Xc->Xd->Prop}{s:Xd}
theorem Zjw{T:Addr}{a b x:Xc}{k:Nat}{Q:Unit->Xd->Prop}(hT:Bl s.heap T a b)(h:∀h',h'.get? T=some { cls:=.type "tuple",data:=.seq ((#[a,b]:Array Xc).setIfInBounds k x) }->Vv T s.heap h'->Q () { s with heap:=h' }) :
  XX (X7 P w) A (updateSeq T (·.setIfInBounds k x)) Q E s:=wpAny_updateSeq_pair hT h
theorem Ztr{z TI TO i1 i2:Addr}{f1 f2:List Addr}{S1 T1 S2 T2:Heap->Prop}{x y a b:Xc}{Q:Xc->Xd->Prop}(D:ZA z TI TO i1 i2 f1 f2)(G1:Gives P w i1 f1 S1 x T1)(G2:Gives P w i2 f2 S2 y T2)
  (hz:Uv s.heap z TI TO .none) (hTI:Bl s.heap TI (.ref i1) (.ref i2)) (hTO:Bl s.heap TO a b) (h1:S1 s.heap) (h2:S2 s.heap)
  (hQ:∀h',Uv h' z TI TO (UV s.heap.objs.size)->Bl h' TO x y->T1 h'->T2 h'->Bl h' s.heap.objs.size x y ->
   (∀ c o,c∉[z,TO,i1,i2]->s.heap.get? c=some o->h'.get? c=some o)->Q (.ref s.heap.objs.size) { s with heap:=h' }) :
  XX (X7 P w) A (Builtin.«zip.__next__» ⟨[.ref z],[]⟩) (λfin s'=>∃v,fin= .done (.ret v)∧Q v s') E s:=by
 obtain⟨i1z,i1O,i12⟩:=D.a1 i1 G1.mem
 obtain⟨i2z,i2O,i21⟩:=D.a2 i2 G2.mem
 have r1:z∉f1∧TO∉f1∧i2∉f1:=⟨λm=>(D.a1 z m).1 rfl,λm=>(D.a1 TO m).2.1 rfl,λm=>(D.a1 i2 m).2.2 rfl⟩
 have r2:z∉f2∧TO∉f2∧i1∉f2:=⟨λm=>(D.a2 z m).1 rfl,λm=>(D.a2 TO m).2.1 rfl,λm=>(D.a2 i1 m).2.2 rfl⟩
 have st:∀{b:Addr} {h h':Heap} {f:List Addr},Vv b h h'->b∉f->∀c∈f,∀o,h.get? c=some o->h'.get? c=some o:=λsb hb c hc o e=>sb.extBut _ _ (λq=>hb (q▸hc)) e
 show XX _ _ (field (.ref z) 2>>=_) _ _ _
 refine Xe (JF hz rfl (x:=.bool false) rfl ?_)
 show XX _ _ (field (.ref z) 3>>=_) _ _ _
 refine Xe (JF hz rfl (x:=.ref TI) rfl (Xe (BR hTI rfl ?_)))
 show XX _ _ (JR (.ref z)>>=_) _ _ _
 refine Xe ?_
 unfold JR
 refine Xe (JF hz rfl (x:=.none) rfl (X8 ?_))
 simp only[if_true]
 refine Xe (wpAny_rule (Xe (JF hz rfl (x:=.ref TO) rfl (Xe (BZ hz (by simp) λh3 z3 b3=>?_)))))
 replace z3:Uv h3 z TI TO .ellipsis:=z3
 refine Xe ?_
 simp only[List.zipIdx_cons,List.zipIdx_nil,U4,V9]
 refine Xe (Xe (wpAny_onRaise ?_))
 show XX _ _ (QG (.ref i1)>>=_) _ _ _
 refine Xe (G1.run (s:={ s with heap:=h3 }) (G1.keep _ _ (st b3 r1.1) h1) λh4 k4 b4=>X8 ?_)
 have o4:Bl h4 TO a b:=b4.extBut _ _ i1O.symm (b3.extBut _ _ D.TOz hTO)
 refine Xe (BR o4 rfl (Xe (Zjw (s:={ s with heap:=h4 }) o4 λh5 o5 b5=>Xe (wpAny_letGo (X8 ?_)))))
 replace o5:Bl h5 TO x b:=o5
 refine Xe (Xe (wpAny_onRaise ?_))
 show XX _ _ (QG (.ref i2)>>=_) _ _ _
 refine Xe (G2.run (s:={ s with heap:=h5 }) (G2.keep _ _ (st b5 r2.2.1) (G2.keep _ _ (st b4 r2.2.2) (G2.keep _ _ (st b3 r2.1) h2))) λh6 k6 b6=>X8 ?_)
 have o6:Bl h6 TO x b:=b6.extBut _ _ i2O.symm o5
 refine Xe (BR o6 rfl (Xe (Zjw (s:={ s with heap:=h6 }) o6 λh7 o7 b7=>Xe (wpAny_letGo (X8 (X8 ?_))))))
 replace o7:Bl h7 TO x y:=o7
 refine Xe (BR o7 rfl (Xe (wpAny_newTuple ?_)))
 have sz:h7.objs.size=s.heap.objs.size:=by rw[b7.1,b6.1,b5.1,b4.1,b3.1]
 have z7:Uv h7 z TI TO .ellipsis:=b7.extBut _ _ D.TOz.symm (b6.extBut _ _ i2z.symm (b5.extBut _ _ D.TOz.symm (b4.extBut _ _ i1z.symm z3)))
 have t1:T1 h7:=G1.keep' _ _ (st b7 r1.2.1) (G1.keep' _ _ (st b6 r1.2.2) (G1.keep' _ _ (st b5 r1.2.1) k4))
 have t2:T2 h7:=G2.keep' _ _ (st b7 r2.2.1) k6
 have old:∀c o,c∉[z,TO,i1,i2]->s.heap.get? c=some o->h7.get? c=some o:=λc o n e=>by
  simp only[Xl,JS,or_false,not_or]at n
  exact b7.extBut _ _ n.2.1 (b6.extBut _ _ n.2.2.2 (b5.extBut _ _ n.2.1 (b4.extBut _ _ n.2.2.1 (b3.extBut _ _ n.1 e))))
 show XX _ _ (Ub (.ref z) (.ref h7.objs.size)>>=_) _ _ _
 refine Xe ?_
 unfold Ub
 have zp:Uv (h7.push { cls:=.type "tuple",data:=.seq #[x,y] }) z TI TO .ellipsis:=Xi _ z7
 refine Xe (BZ zp (by simp) λh8 z8 b8=>?_)
 replace z8:Uv h8 z TI TO (UV h7.objs.size):=z8
 refine BZ z8 (by simp) λh9 z9 b9=>?_
 replace z9:Uv h9 z TI TO (UV h7.objs.size):=z9
 have up:∀c o,c≠z->h7.get? c=some o->h9.get? c=some o:=λc o n e=>b9.extBut _ _ n (b8.extBut _ _ n (Xi _ e))
 have nz:h7.objs.size≠z:=XM (Xv z7)
 have p9:Bl h9 h7.objs.size x y:=b9.extBut _ _ nz (b8.extBut _ _ nz (Qd _ rfl))
 refine X8 ⟨_,rfl,?_⟩
 show Q (.ref h7.objs.size) _
 rw[sz]at z9 p9⊢
 exact hQ h9 z9 (up _ _ D.TOz o7) (G1.keep' _ _ (λc hc o e=>up c o (λq=>r1.1 (q▸hc)) e) t1) (G2.keep' _ _ (λc hc o e=>up c o (λq=>r2.1 (q▸hc)) e) t2) p9 λc o n e=>up c o (λq=>n (by simp[q])) (old c o n e)
theorem Zur{z TI TO i1 i2:Addr}{f1 f2:List Addr}{S1 T1 S2:Heap->Prop}{a b:Xc}{Q:Fin->Xd->Prop}(hh:A.handled=none)(D:ZA z TI TO i1 i2 f1 f2)(g1:Zja P w i1 f1 S1∨(∃x,Gives P w i1 f1 S1 x T1)∧Zja P w i2 f2 S2)
  (hz:Uv s.heap z TI TO .none) (hTI:Bl s.heap TI (.ref i1) (.ref i2)) (hTO:Bl s.heap TO a b) (h1:S1 s.heap) (h2:S2 s.heap)
  (hE:∀h' e,(∀c o,c∉[z,TO,i1,i2]->s.heap.get? c=some o->h'.get? c=some o)->(∃o,h'.get? e=some o∧o.cls= .type "StopIteration")->E (.ref e) { s with heap:=h' }) :
  XX (X7 P w) A (Builtin.«zip.__next__» ⟨[.ref z],[]⟩) Q E s:=by
 have r1:z∉f1∧TO∉f1∧i2∉f1:=⟨λm=>(D.a1 z m).1 rfl,λm=>(D.a1 TO m).2.1 rfl,λm=>(D.a1 i2 m).2.2 rfl⟩
 have r2:z∉f2∧TO∉f2∧i1∉f2:=⟨λm=>(D.a2 z m).1 rfl,λm=>(D.a2 TO m).2.1 rfl,λm=>(D.a2 i1 m).2.2 rfl⟩
 have st:∀{b:Addr} {h h':Heap} {f:List Addr},Vv b h h'->b∉f->∀c∈f,∀o,h.get? c=some o->h'.get? c=some o:=λsb hb c hc o e=>sb.extBut _ _ (λq=>hb (q▸hc)) e
 show XX _ _ (field (.ref z) 2>>=_) _ _ _
 refine Xe (JF hz rfl (x:=.bool false) rfl ?_)
 show XX _ _ (field (.ref z) 3>>=_) _ _ _
 refine Xe (JF hz rfl (x:=.ref TI) rfl (Xe (BR hTI rfl ?_)))
 show XX _ _ (JR (.ref z)>>=_) _ _ _
 refine Xe ?_
 unfold JR
 refine Xe (JF hz rfl (x:=.none) rfl (X8 ?_))
 simp only[if_true]
 refine Xe (wpAny_rule (Xe (JF hz rfl (x:=.ref TO) rfl (Xe (BZ hz (by simp) λh3 z3 b3=>?_)))))
 replace z3:Uv h3 z TI TO .ellipsis:=z3
 refine Xe ?_
 simp only[List.zipIdx_cons,List.zipIdx_nil,U4,V9]
 refine Xe (Xe (wpAny_onRaise ?_))
 show XX _ _ (QG (.ref i1)>>=_) _ _ _
 rcases g1 with G1|⟨⟨x,G1⟩,G2⟩
 ·obtain⟨i1z,i1O,i12⟩:=D.a1 i1 G1.mem
  refine Xe (G1.run (s:={ s with heap:=h3 }) hh (G1.keep _ _ (st b3 r1.1) h1) λh4 e b4 he=>?_)
  obtain⟨oe,hoe,hce⟩:=he
  have z4:Uv h4 z TI TO .ellipsis:=b4 _ _ i1z.symm z3
  have ez:e≠z:=λq=>by subst q;rw[z4]at hoe;cases hoe;simp at hce
  refine BZ z4 (by simp) λh5 _ b5=>hE h5 e (λc o n q=>?_) ⟨oe,b5.extBut _ _ ez hoe,hce⟩
  simp only[Xl,JS,or_false,not_or]at n
  exact b5.extBut _ _ n.1 (b4 _ _ n.2.2.1 (b3.extBut _ _ n.1 q))
 ·obtain⟨i1z,i1O,i12⟩:=D.a1 i1 G1.mem
  obtain⟨i2z,i2O,i21⟩:=D.a2 i2 G2.mem
  refine Xe (G1.run (s:={ s with heap:=h3 }) (G1.keep _ _ (st b3 r1.1) h1) λh4 k4 b4=>X8 ?_)
  have o4:Bl h4 TO a b:=b4.extBut _ _ i1O.symm (b3.extBut _ _ D.TOz hTO)
  refine Xe (BR o4 rfl (Xe (Zjw (s:={ s with heap:=h4 }) o4 λh5 o5 b5=>Xe (wpAny_letGo (X8 ?_)))))
  refine Xe (Xe (wpAny_onRaise ?_))
  show XX _ _ (QG (.ref i2)>>=_) _ _ _
  refine Xe (G2.run (s:={ s with heap:=h5 }) hh (G2.keep _ _ (st b5 r2.2.1) (G2.keep _ _ (st b4 r2.2.2) (G2.keep _ _ (st b3 r2.1) h2))) λh6 e b6 he=>?_)
  obtain⟨oe,hoe,hce⟩:=he
  have z6:Uv h6 z TI TO .ellipsis:=b6 _ _ i2z.symm (b5.extBut _ _ D.TOz.symm (b4.extBut _ _ i1z.symm z3))
  have ez:e≠z:=λq=>by subst q;rw[z6]at hoe;cases hoe;simp at hce
  refine BZ z6 (by simp) λh7 _ b7=>hE h7 e (λc o n q=>?_) ⟨oe,b7.extBut _ _ ez hoe,hce⟩
  simp only[Xl,JS,or_false,not_or]at n
  exact b7.extBut _ _ n.1 (b6 _ _ n.2.2.2 (b5.extBut _ _ n.2.1 (b4.extBut _ _ n.2.2.1 (b3.extBut _ _ n.1 q))))
theorem Zp8{z TI TO i1 i2:Addr}{f1 f2:List Addr}{S1 T1 S2 T2:Heap->Prop}{x y a b:Xc}{Q:Option Xc->Xd->Prop}(D:ZA z TI TO i1 i2 f1 f2)(G1:Gives P w i1 f1 S1 x T1)(G2:Gives P w i2 f2 S2 y T2)
  (hz:Uv s.heap z TI TO .none) (hTI:Bl s.heap TI (.ref i1) (.ref i2)) (hTO:Bl s.heap TO a b) (h1:S1 s.heap) (h2:S2 s.heap)
  (hQ:∀h',Uv h' z TI TO (UV s.heap.objs.size)->Bl h' TO x y->T1 h'->T2 h'->Bl h' s.heap.objs.size x y ->
   (∀ c o,c∉[z,TO,i1,i2]->s.heap.get? c=some o->h'.get? c=some o)->Q (some (.ref s.heap.objs.size)) { s with heap:=h' }):XX (X7 P w) A (pyNext (.ref z)) Q E s:=by
 have hT:s.TypeIs (.ref z) "zip" :=⟨_,hz,rfl⟩
 unfold pyNext
 exact Xe (wpAny_attempt (Vz (name:=Str.ofString "__next__") hT F.slot_zip_next (VN F.slot_zip_next hT F.entry_zip_next (Ztr D G1 G2 hz hTI hTO h1 h2 λh' a1 a2 a3 a4 a5 a6=>X8 (hQ h' a1 a2 a3 a4 a5 a6)) (F.args_zip_next_1 _))))
theorem Zsw{z TI TO i1 i2:Addr}{f1 f2:List Addr}{S1 T1 S2:Heap->Prop}{a b:Xc}{Q:Option Xc->Xd->Prop}(hh:A.handled=none)(D:ZA z TI TO i1 i2 f1 f2)(g1:Zja P w i1 f1 S1∨(∃x,Gives P w i1 f1 S1 x T1)∧Zja P w i2 f2 S2)
  (hz:Uv s.heap z TI TO .none) (hTI:Bl s.heap TI (.ref i1) (.ref i2)) (hTO:Bl s.heap TO a b) (h1:S1 s.heap) (h2:S2 s.heap)
  (hQ:∀h',(∀c o,c∉[z,TO,i1,i2]->s.heap.get? c=some o->h'.get? c=some o)->Q none { s with heap:=h' }):XX (X7 P w) A (pyNext (.ref z)) Q E s:=by
 have hT:s.TypeIs (.ref z) "zip" :=⟨_,hz,rfl⟩
 unfold pyNext
 refine Xe (wpAny_attempt (Vz (name:=Str.ofString "__next__") hT F.slot_zip_next (VN F.slot_zip_next hT F.entry_zip_next (Zur hh D g1 hz hTI hTO h1 h2 λh' e hk he=>?_) (F.args_zip_next_1 _))))
 obtain⟨o,ho,hc⟩:=he
 exact Xe (wpAny_isInstance (T :="StopIteration") (b:=true) ⟨o,ho,hc⟩ isSubtype_stop (X8 (hQ _ hk)))
theorem Zql{it t:Addr}{i:Nat}{items:Array Xc}{x:Xc}(hx:items[i]? =some x):Gives P w it [it,t] (λh=>IsTupIter h it t i∧IsTup h t items) x (λh=>IsTupIter h it t (i+1)) where
 mem:=by simp
 run:=fun{A E s Q} ⟨hit,ht⟩ hQ=>by
  obtain⟨o,ho,hc,hd⟩:=id hit
  obtain⟨ol,hol,_,nl,hdl⟩:=ht
  unfold QG
  refine Xe (Vz (name:=Str.ofString "__next__") hit.typeIs Ui (VN Ui hit.typeIs entry_tupleiter_next ?_ (args_tupleiter_next _)))
  show XX _ _ (field (.ref it) 0>>=_) _ _ s
  refine Xe (JF ho hd (x:=.ref t) rfl ?_)
  show XX _ _ (if(Qu t==Q0)=true then _ else _) _ _ s
  rw[if_neg (show¬((Qu t==Q0)=true)from Xx)]
  show XX _ _ (field (.ref it) 1>>=_) _ _ s
  refine Xe (JF ho hd (x:=.int i 0) rfl ?_)
  show XX _ _ (seqItems? (.ref t)>>=_) _ _ s
  refine Xe (BR hol hdl ?_)
  simp only[Q3,hx]
  refine Xe (wpAny_setField ho hd (by simp) (X8 ⟨x,rfl,X8 (hQ _ ?_ (Heap.SameBut.update ..))⟩))
  exact⟨_,Heap.get?_update_self _ ho (Obj.isFreed_of_fields (Obj.data_mapFields hd _)),(Obj.cls_mapFields ..).trans hc,by rw[Obj.data_mapFields hd];simp[UV]⟩
 keep:=λh h' k ⟨⟨o,a1,a2⟩,⟨o',b1,b2⟩⟩=>⟨⟨o,k it (by simp) o a1,a2⟩,⟨o',k t (by simp) o' b1,b2⟩⟩
 keep':=λh h' k ⟨o,a1,a2⟩=>⟨o,k it (by simp) o a1,a2⟩
theorem Zv8{it t:Addr}{i:Nat}{items:Array Xc}(hx:items[i]? =none):Zja P w it [it,t] (λh=>IsTupIter h it t i∧IsTup h t items) where
 mem:=by simp
 run:=fun{A E s Q} hh ⟨hit,ht⟩ hE=>by
  obtain⟨o,ho,hc,hd⟩:=id hit
  obtain⟨ol,hol,_,nl,hdl⟩:=ht
  unfold QG
  refine Xe (Vz (name:=Str.ofString "__next__") hit.typeIs Ui (VN Ui hit.typeIs entry_tupleiter_next ?_ (args_tupleiter_next _)))
  show XX _ _ (field (.ref it) 0>>=_) _ _ s
  refine Xe (JF ho hd (x:=.ref t) rfl ?_)
  show XX _ _ (if(Qu t==Q0)=true then _ else _) _ _ s
  rw[if_neg (show¬((Qu t==Q0)=true)from Xx)]
  show XX _ _ (field (.ref it) 1>>=_) _ _ s
  refine Xe (JF ho hd (x:=.int i 0) rfl ?_)
  show XX _ _ (seqItems? (.ref t)>>=_) _ _ s
  refine Xe (BR hol hdl ?_)
  simp only[Q3,hx]
  refine Xe (wpAny_rule (Xe (wpAny_setField ho hd (by simp) ?_)))
  show XX _ _ (newExc (.type "StopIteration") []>>=_) _ _ _
  refine Xe ?_
  simp only[newExc,newTuple]
  refine Xe (UJ ?_ (by size_fits))
  refine Xe (m:=firstArgMember _ _) (wpAny_of_eq (a:=Q0) (by first|rfl|(simp only[firstArgMember];rfl)) ?_)
  refine UJ ?_ (by size_fits)
  simp only[raiseNew]
  refine Xe (wpAny_handled ?_)
  first|rw[show A.in1.handled=none from hh]|rw[hh]
  exact Xe (X8 (wpAny_throw (hE _ _ (((Heap.SameBut.update ..).extBut.push _).push _) ⟨_,Qd _ rfl,rfl⟩)))
 keep:=λh h' k ⟨⟨o,a1,a2⟩,⟨o',b1,b2⟩⟩=>⟨⟨o,k it (by simp) o a1,a2⟩,⟨o',k t (by simp) o' b1,b2⟩⟩
end
noncomputable abbrev zT1(h:Heap)(a:Addr):Heap:=h.push { cls:=.type "tuple_iterator",data:=.fields #[.ref a,.int 0 0] }
noncomputable abbrev zT2(h:Heap)(a b:Addr):Heap:=(zT1 h a).push { cls:=.type "tuple_iterator",data:=.fields #[.ref b,.int 0 0] }
noncomputable abbrev zT3(h:Heap)(a b:Addr):Heap:=(zT2 h a b).push { cls:=.type "tuple",data:=.seq #[.ref h.objs.size,.ref (zT1 h a).objs.size] }
noncomputable abbrev zT4(h:Heap)(a b:Addr):Heap:=(zT3 h a b).push { cls:=.type "tuple",data:=.seq #[.none,.none] }
noncomputable abbrev zT5(h:Heap)(a b:Addr):Heap:=(zT4 h a b).push { cls:=.type "zip",data:=.fields #[.none,.bool false,.bool false,.ref (zT2 h a b).objs.size,.ref (zT3 h a b).objs.size] }
theorem Zuq(a b:Addr)(xs ys:Array Xc) :
  Meets (Builtin.«zip.__new__» ⟨[.type "zip",.ref a,.ref b],[]⟩) (λ_ R s=>IsTup s.heap a xs∧IsTup s.heap b ys∧R (.ok (.ret (.ref (zT4 s.heap a b).objs.size))) { s with heap:=zT5 s.heap a b }) :=
 .of_wp λprog w A R s h=>by
  obtain⟨hp,g,d,tk,os⟩:=s
  obtain⟨h1,h2,h⟩:=h
  have hsub:=sub_zip
  have hL1:IsTup (Xd.heap ⟨hp,g,d,tk,os⟩) a xs:=h1
  have hL2:IsTup (Xd.heap ⟨hp.push { cls:=.type "tuple_iterator",data:=.fields #[.ref a,.int 0 0] },g,d,tk,os⟩) b ys:=h2.push _
  wp_walk using iter_tuple hL1,iter_tuple hL2
  exact⟨_,rfl,h⟩
section
variable {P:X6}{w:Qt}{A:Qk}{E:Xc->Xd->Prop}{s:Xd}
theorem Ztz{a b:Addr}{xs ys:Array Xc}{Q:Xc->Xd->Prop}(h1:IsTup s.heap a xs)(h2:IsTup s.heap b ys)
  (h:∀h' n,n=s.heap.objs.size->Uv h' (n+4) (n+2) (n+3) .none->Bl h' (n+2) (.ref n) (.ref (n+1))->Bl h' (n+3) .none .none->IsTupIter h' n a 0->IsTupIter h' (n+1) b 0 ->
   (∀ c o,s.heap.get? c=some o->h'.get? c=some o)->Q (.ref (n+4)) { s with heap:=h' }):XX (X7 P w) A (call (.type "zip") [.ref a,.ref b]) Q E s:=by
 refine callType_new F.called_zip (by decide) (F.typeCall_zip_2 _ _) (F.newCall_zip_2 _ _) (λobj=>F.args_object_init_3 obj _ _) F.entry_zip_new (Zuq a b xs ys) ⟨h1,h2,?_⟩
 have e1:(zT1 s.heap a).objs.size=s.heap.objs.size+1:=QX ..
 have e2:(zT2 s.heap a b).objs.size=s.heap.objs.size+2:=by rw[QX,e1]
 have e3:(zT3 s.heap a b).objs.size=s.heap.objs.size+3:=by rw[QX,e2]
 have e4:(zT4 s.heap a b).objs.size=s.heap.objs.size+4:=by rw[QX,e3]
 have up:∀{c o},(zT1 s.heap a).get? c=some o->(zT5 s.heap a b).get? c=some o:=λx=>Xi _ (Xi _ (Xi _ (Xi _ x)))
 have p5:(zT5 s.heap a b).get? (zT4 s.heap a b).objs.size=some _:=Qd _ rfl
 have p4:(zT5 s.heap a b).get? (zT3 s.heap a b).objs.size=some _:=Xi _ (Qd _ rfl)
 have p3:(zT5 s.heap a b).get? (zT2 s.heap a b).objs.size=some _:=Xi _ (Xi _ (Qd _ rfl))
 have p2:(zT5 s.heap a b).get? (zT1 s.heap a).objs.size=some _:=Xi _ (Xi _ (Xi _ (Qd _ rfl)))
 have p1:(zT5 s.heap a b).get? s.heap.objs.size=some _:=up (Qd _ rfl)
 show _∧_
 rw[e2,e3,e4]at p5
 rw[e1,e2]at p3
 rw[e3]at p4
 rw[e1]at p2
 rw[e4]
 exact⟨⟨_,p5,rfl⟩,h _ _ rfl p5 p3 p4 ⟨_,p1,rfl,rfl⟩ ⟨_,p2,rfl,rfl⟩ λc o x=>up (Xi _ x)⟩
end
theorem nn{n a b:Nat}(h:a≠b):n+a≠n+b:=λe=>h (Nat.add_left_cancel e)
theorem n0{n b:Nat}(h:0≠b):n≠n+b:=λe=>h (Nat.add_left_cancel (n:=n) e)
theorem nlt{n a c:Nat}(h:a<n):a≠n+c:=Xn (X3 h (Uz ..))
theorem ZA.new{n a b:Nat}(h1:a<n)(h2:b<n):ZA (n+4) (n+2) (n+3) n (n+1) [n,a] [n+1,b] where
 TIz:=(by first|exact nn (by decide)|exact n0 (by decide)|exact(n0 (by decide)).symm|exact nlt h1|exact nlt h2|exact(nlt h1).symm|exact(nlt h2).symm|exact Xn h1|exact Xn h2|exact XM h1|exact XM h2|omega)
 TOz:=(by first|exact nn (by decide)|exact n0 (by decide)|exact(n0 (by decide)).symm|exact nlt h1|exact nlt h2|exact(nlt h1).symm|exact(nlt h2).symm|exact Xn h1|exact Xn h2|exact XM h1|exact XM h2|omega)
 a1:=λc hc=>by
  simp only[Xl,JS,or_false]at hc
  rcases hc with rfl|rfl
  ·exact⟨(by first|exact nn (by decide)|exact n0 (by decide)|exact(n0 (by decide)).symm|exact nlt h1|exact nlt h2|exact(nlt h1).symm|exact(nlt h2).symm|exact Xn h1|exact Xn h2|exact XM h1|exact XM h2|omega),(by first|exact nn (by decide)|exact n0 (by decide)|exact(n0 (by decide)).symm|exact nlt h1|exact nlt h2|exact(nlt h1).symm|exact(nlt h2).symm|exact Xn h1|exact Xn h2|exact XM h1|exact XM h2|omega),(by first|exact nn (by decide)|exact n0 (by decide)|exact(n0 (by decide)).symm|exact nlt h1|exact nlt h2|exact(nlt h1).symm|exact(nlt h2).symm|exact Xn h1|exact Xn h2|exact XM h1|exact XM h2|omega)⟩
  ·exact⟨(by first|exact nn (by decide)|exact n0 (by decide)|exact(n0 (by decide)).symm|exact nlt h1|exact nlt h2|exact(nlt h1).symm|exact(nlt h2).symm|exact Xn h1|exact Xn h2|exact XM h1|exact XM h2|omega),(by first|exact nn (by decide)|exact n0 (by decide)|exact(n0 (by decide)).symm|exact nlt h1|exact nlt h2|exact(nlt h1).symm|exact(nlt h2).symm|exact Xn h1|exact Xn h2|exact XM h1|exact XM h2|omega),(by first|exact nn (by decide)|exact n0 (by decide)|exact(n0 (by decide)).symm|exact nlt h1|exact nlt h2|exact(nlt h1).symm|exact(nlt h2).symm|exact Xn h1|exact Xn h2|exact XM h1|exact XM h2|omega)⟩
 a2:=λc hc=>by
  simp only[Xl,JS,or_false]at hc
  rcases hc with rfl|rfl
  ·exact⟨(by first|exact nn (by decide)|exact n0 (by decide)|exact(n0 (by decide)).symm|exact nlt h1|exact nlt h2|exact(nlt h1).symm|exact(nlt h2).symm|exact Xn h1|exact Xn h2|exact XM h1|exact XM h2|omega),(by first|exact nn (by decide)|exact n0 (by decide)|exact(n0 (by decide)).symm|exact nlt h1|exact nlt h2|exact(nlt h1).symm|exact(nlt h2).symm|exact Xn h1|exact Xn h2|exact XM h1|exact XM h2|omega),(by first|exact nn (by decide)|exact n0 (by decide)|exact(n0 (by decide)).symm|exact nlt h1|exact nlt h2|exact(nlt h1).symm|exact(nlt h2).symm|exact Xn h1|exact Xn h2|exact XM h1|exact XM h2|omega)⟩
  ·exact⟨(by first|exact nn (by decide)|exact n0 (by decide)|exact(n0 (by decide)).symm|exact nlt h1|exact nlt h2|exact(nlt h1).symm|exact(nlt h2).symm|exact Xn h1|exact Xn h2|exact XM h1|exact XM h2|omega),(by first|exact nn (by decide)|exact n0 (by decide)|exact(n0 (by decide)).symm|exact nlt h1|exact nlt h2|exact(nlt h1).symm|exact(nlt h2).symm|exact Xn h1|exact Xn h2|exact XM h1|exact XM h2|omega),(by first|exact nn (by decide)|exact n0 (by decide)|exact(n0 (by decide)).symm|exact nlt h1|exact nlt h2|exact(nlt h1).symm|exact(nlt h2).symm|exact Xn h1|exact Xn h2|exact XM h1|exact XM h2|omega)⟩
theorem ZA.new2(n:Nat):(n+2:Nat)≠n+3∧(n+2:Nat)≠n∧(n+2:Nat)≠n+1:=⟨nn (by decide),(n0 (by decide)).symm,nn (by decide)⟩
section
variable {X:Cx}{io:List Nat}{p c:Bool}{a b:Expr}{mr:MAt}
noncomputable def Z51(ds:List Xa):Option (List Xa):=match ds with|[.list as,.list bs]=>some (Zn0 as bs)|[.tuple as,.tuple bs]=>some (Zn0 as bs)|_=>none
noncomputable def Zea(a:FA):FI:=λδ=>(a δ).bind λp=>(Z51 (OT.datas p.1)).bind λds=>some (ds,p.2)
end
variable {G:Xb}
section
variable {X:Cx}{io:List Nat}{p c:Bool}{a b e:Expr}{mr:MAt}{ra:FA}{i:Nat}
noncomputable def isFn(y:Str)(d:Xa):Bool:=match d with| .dict [(.str x,.bool true)]=>decide (x=y)|_=>false
theorem Z1o{y:Str}{d:Xa}(h:isFn y d=true):d=fnD y:=by
 unfold isFn at h
 split at h
 ·rw[of_decide_eq_true h];rfl
 ·cases h
theorem Z00(y:Str):isFn y (fnD y)=true:=decide_eq_true rfl
noncomputable def Ze5(i:Nat)(y:Str)(F:FD)(a:FA):FE:=λδ=>match δ[i]? with
 | some (some (.fz d))=>if isFn y d=true then Zv F a δ else none
 | _=>none
theorem Zpd{y:Str}{F:FD}(h:ME X io p c e (Zxs i y (sD F) (o2 ra))):ME X io p c e (o2 (Ze5 i y F ra)):=h.weak λδ K h=>by
 obtain⟨r,δ',h,k⟩:=h
 unfold Ze5 at h
 split at h
 ·rename_i d hd
  by_cases hf:isFn y d=true
  ·rw[if_pos hf]at h
   refine⟨by rw[hd,Z1o hf],?_⟩
   obtain⟨⟨x,δ1⟩,h1,h⟩:=bs h
   refine⟨x,δ1,h1,?_⟩
   dsimp only at h
   split at h
   ·rename_i q;cases h;exact⟨_,q,k⟩
   ·cases h
  ·rw[if_neg hf]at h;cases h
 ·cases h
end
noncomputable def Ya6:List Int->Int
 | []=>0
 | x :: xs=>xs.foldl min x
theorem Zsd(xs:List Int)(x:Int):xs.foldl min x∈x :: xs∧∀a∈x :: xs,xs.foldl min x≤a:=by
 induction xs generalizing x with
 | nil=>exact⟨.head _,λa h=>by rw[XC.mp h];exact Us _⟩
 | cons y ys ih=>
  obtain⟨h1,h2⟩:=ih (min x y)
  rw[List.foldl_cons]
  refine⟨?_,λa h=>?_⟩
  ·rcases Xl.mp h1 with h|h
   ·rw[h]
    rcases U5 x y with z|z
    ·rw[Int.min_eq_left z];exact .head _
    ·rw[Int.min_eq_right z];exact .tail _ (.head _)
   ·exact .tail _ (.tail _ h)
  ·have h0:=h2 _ (.head _)
   rcases Xl.mp h with rfl|h
   ·exact Qa h0 (Int.min_le_left ..)
   ·rcases Xl.mp h with rfl|h
    ·exact Qa h0 (Int.min_le_right ..)
    ·exact h2 a (.tail _ h)
theorem Zsk{ns:List Int}(h:0<ns.length):Ya6 ns∈ns∧∀a∈ns,Ya6 ns≤a:=by
 cases ns with
 | nil=>cases h
 | cons x xs=>exact Zsd xs x
noncomputable def Yb7(K:Xb)(l:Addr):It :=
 ⟨λi H=>∃xs x,SqL K H l xs∧xs[i]? =some x,
   λi H v H'=>∃p x,H p=none∧v= .ref p∧H'=upd H p (.tup [.int i,x])∧∀xs,SqL K H l xs->xs[i]? =some x,
   λi H=>∃xs,SqL K H l xs∧xs.length≤i⟩
noncomputable def StE(z it l:Addr)(i:Nat)(h:Heap):Prop:=(∃old,IsEnum h z it (i:Int) old)∧h.IsListIter it l i
theorem Zr0{P:X6}{w:Qt}{K:Xb}{es:List Expr}{kk:Nat}{pos:Pos}{z it l:Addr}(hne:z≠it):Turn P w K (.Tuple es kk pos) (Yb7 K l) [z,it] z (StE z it l) where
 mem:=.head _
 obj:=λi h st b hb=>by
  obtain⟨⟨old,s1⟩,o4,e4,_,d4⟩:=st
  rcases Xl.mp hb with rfl|hb
  ·exact⟨_,s1,λv q=>by cases q⟩
  ·rcases XC.mp hb with rfl
   exact⟨_,e4,λv q=>by rw[d4]at q;cases q⟩
 keep:=λi h h' st k=>by
  obtain⟨⟨old,s1⟩,s4⟩:=st
  exact⟨⟨old,k z (.head _) _ s1⟩,s4.at λo e=>k it (.tail _ (.head _)) o e⟩
 item:=by
  intro X hP hw hK hc i pins s σ H E I hf st hg
  subst hP hw hK
  obtain⟨⟨old,s1⟩,s4⟩:=st
  obtain⟨xs,x,hx,ex⟩:=hg
  obtain⟨its,rx,px,hzx⟩:=I.list hx
  obtain⟨u,hu,ru⟩:=rx.get ex
  refine wpAny_pyNext_enum_item s1 s4 px.isList (by simpa using hu) hne λh' g1 g2 g3 g4 g5=>?_
  refine⟨_,rfl,wpAny_letOwnedTupleGo_enum (s:={ s with heap:=h',toks:=s.toks+1 }) g1 λh2 z2 sb=>?_⟩
  have hTz:s.heap.objs.size≠z:=XM (Xv s1)
  have up:∀c o,c≠z->h'.get? c=some o->h2.get? c=some o:=λc o n e=>(sb.2 c n).trans e
  have kp:∀b o,b∉[z,it]->s.heap.get? b=some o->h2.get? b=some o:=λb o n e=>by
   have n1:b≠z:=λq=>n (q▸ .head _)
   exact up b o n1 (g5 b o n1 (λq=>n (q▸ .tail _ (.head _))) e)
  have t5:=up _ _ hTz g3
  have g2':h2.IsListIter it l (i+1):=g2.at λo e=>up _ o (JM hne) e
  have I2:Inv X pins σ (upd H s.heap.objs.size (.tup [.int i,x])) { s with heap:=h2,toks:=s.toks+1 }:=by
   refine(I.tok (s.toks+1)).turnTup (ch:=[z,it]) (its:=[.int i s.toks,u]) (λb hb=>hf b hb) kp (λb hb=>?_) (Qn _) Zyb (.cons ⟨_,rfl⟩ (.cons ru .nil)) ⟨_,t5,rfl,0,rfl⟩
   rcases Xl.mp hb with rfl|hb
   ·exact⟨_,z2⟩
   ·rcases XC.mp hb with rfl
    obtain⟨o4,e4,_⟩:=g2'
    exact⟨_,e4⟩
  refine⟨.ref s.heap.objs.size,_,I2,rfl,⟨_,x,I.fresh,rfl,rfl,λys hy=>by rw[I.list_inj hy hx];exact ex⟩,⟨⟨_,z2⟩,g2'⟩,λb hb=>?_⟩
  have:b≠s.heap.objs.size:=by
   rcases Xl.mp hb with rfl|hb
   ·exact Xn (Xv s1)
   ·rcases XC.mp hb with rfl
    obtain⟨o4,e4,_⟩:=s4
    exact Xn (Xv e4)
  rw[Zr this];exact(hf b hb).1
 done:=by
  intro X hP hw hK hc i pins s σ H E I hf st hg
  subst hP hw hK
  obtain⟨⟨old,s1⟩,s4⟩:=st
  obtain⟨xs,hx,he⟩:=hg
  obtain⟨its,rx,px,hzx⟩:=I.list hx
  have l1:=rx.length
  refine wpAny_pyNext_enum_end (I.ok.hd hc) s1 s4 px.isList (by simp;omega) λh' k=>⟨rfl,I.turnAll (ch:=[it]) (λb hb=>hf b (.tail _ hb)) λb o n e=>k b o (λq=>n (q▸ .head _)) e⟩
 self:=λ_ _ _ _ _ st h=>by
  obtain⟨⟨old,s1⟩,_⟩:=st
  exact wpAny_pyIter_enum s1 h
noncomputable def Ye6(K:Xb)(ta:TA):TI:=λσ H R=>ta σ H λvs H1=>∃l,vs=[.ref l]∧(∃xs,SqL K H1 l xs)∧R (Yb7 K l) H1
theorem Z0p{X:Cx}{K:Xb}{a:Expr}{ta:TA}{p pos pt:Pos}{es:List Expr}{kk:Nat}(hK:X.K=K)(hg:Gl X "enumerate")(hm:X.mg "enumerate"=none)(hv:Qc "enumerate"=some (.type "enumerate"))(ha:PA X [a] ta)
  (he:Xh [a] X.env=(false,eval a X.env) :: Xh [] X.env:=by rfl) (hpl:(Q6 pos (Xh [] X.env)).any (·.1)=false:=by rfl) :
  PI X (.Tuple es kk pt) (.Call (.Name "enumerate" p) [a] [] pos) (Ye6 K ta):=by
 subst hK
 intro pins s σ H R I h
 refine Ba (Zg9 I hg hm hv ?_ (by decide) (by decide))
 refine JW (thn (ha pos pins s σ H _ I h) λus s1 q=>?_) he hpl
 obtain⟨vs,H1,I1,r1,l,e1,⟨xs,hx⟩,q⟩:=q
 subst e1
 obtain⟨u,rfl,ru⟩:=vals1 r1
 cases(show u=Qu l from ru)
 obtain⟨its,rx,px,hzx⟩:=I1.list hx
 refine call_enumerate_list px.isList λh' g1 g2 g3 g4=>?_
 have I2:Inv X pins σ H1 { s1 with heap:=h' }:=I1.kept (t':=s1.toks) g4
 refine wpAny_pyIter_enum (s:={ s1 with heap:=h' }) g1 ?_
 refine⟨_,[_,_],StE _ _ _,_,H1,rfl,I2,Zr0 (XM (BJ _)),⟨⟨_,g1⟩,g2⟩,λb hb=>?_,q⟩
 have hb':s1.heap.objs.size≤b:=by
  rcases Xl.mp hb with rfl|hb
  ·exact Nat.le_succ _
  ·rcases XC.mp hb with rfl
   exact Qn _
 exact I1.fpOk hb' (I1.hok.fresh hb')
noncomputable def Zj2(as:List Xa):List Xa:=as.zipIdx.map λp=>.tuple [.int p.2,p.1]
theorem Zl2{as:List Xa}{i:Nat}{d:Xa}(h:(Zj2 as)[i]? =some d):∃x,as[i]? =some x∧d= .tuple [.int i,x]:=by
 unfold Zj2 at h
 rw[Xm,List.getElem?_zipIdx]at h
 cases e:as[i]? with
 | none=>rw[e]at h;cases h
 | some x=>
  rw[e]at h
  cases h
  exact⟨x,rfl,by rw[Vy]⟩
theorem Zpk{as:List Xa}{i:Nat}(h:(Zj2 as)[i]? =none):as.length≤i:=by
 have:=QR.mp h
 unfold Zj2 at this
 simpa using this
section
variable {X:Cx}{io:List Nat}{p c:Bool}{a:Expr}{mr:MAt}{ra:FA}
noncomputable def iEn(mr:MAt):MIt:=λδ K=>mr δ λrs δ'=>match OT.datas rs with|[.list as]=>K (Zj2 as) δ'|_=>False
theorem Zyx{p' pos pt:Pos}{es:List Expr}{kk:Nat}(hg:Gl X "enumerate")(hm:X.mg "enumerate"=none)(hv:Qc "enumerate"=some (.type "enumerate"))(ha:MA X io p c [a] mr)
  (he:Xh [a] X.env=(false,eval a X.env) :: Xh [] X.env:=by rfl) (hpl:(Q6 pos (Xh [] X.env)).any (·.1)=false:=by rfl):MI X io p c (.Tuple es kk pt) (.Call (.Name "enumerate" p') [a] [] pos) (iEn mr):=by
 obtain⟨_,A,s⟩:=ha
 refine⟨_,Z0p rfl hg hm hv A he hpl,λC H σ δ fp ex K' Q R h kk=>s C H σ δ fp ex _ _ R h λH1 vs rs δ1 fp1 new r1 h1=>?_⟩
 have q:=r1.das R
 generalize OT.datas rs=ds at q h1
 split at h1
 case h_2=>exact h1.elim
 rename_i as
 cases q with
 | cons q1 q2=>
  cases q2
  have R1:=r1.base
  obtain⟨l1,xs,rfl,k1⟩:=R1.keptList q1
  have e1:=k1 H1 λ_ _ e _=>e
  refine⟨l1,rfl,⟨_,e1.1⟩,kk _ H1 _ δ1 fp1 R1 r1.stp (λH' kp i=>?_) h1⟩
  obtain⟨s1,d1⟩:=k1 H' kp
  refine⟨λd hd=>?_,λhd=>?_⟩
  ·obtain⟨x,hx,rfl⟩:=Zl2 hd
   obtain⟨u,hu,qu⟩:=d1.get hx
   refine⟨⟨_,u,s1,hu⟩,λv H'' hyl=>?_⟩
   obtain⟨t,u',ht,rfl,rfl,hu'⟩:=hyl
   have eu:=hu' _ s1
   rw[hu]at eu
   cases eu
   exact⟨Ys ht _,.tup Z1 (.cons (.int _) (.cons (qu.same (Ys ht _)) .nil))⟩
  ·exact⟨_,s1,by rw[d1.length];exact Zpk hd⟩
noncomputable def Zux(a:FA):FI:=λδ=>(a δ).bind λp=>match OT.datas p.1 with|[.list as]=>some (Zj2 as,p.2)|_=>none
theorem Z0c{tg e:Expr}(h:MI X io p c tg e (iEn (o2 ra))):MI X io p c tg e (o2 (Zux ra)):=h.weak λδ K h=>by
 obtain⟨r,δ',h,k⟩:=h
 obtain⟨⟨x,δ1⟩,h1,h⟩:=bs h
 dsimp only at h
 split at h
 ·rename_i q
  injection h with h
  injection h with e1 e2
  subst e1 e2
  refine⟨x,_,h1,?_⟩
  dsimp only
  rw[q];exact k
 ·cases h
end
variable {G:Xb}
theorem Z20{α:Type}{p:α->Prop}{a b c d:α}(h1:p a)(h2:p b)(h3:p c)(h4:p d):∀x∈[a,b,c,d],p x:=by
 intro x hx
 rcases Xl.mp hx with rfl|hx
 ·exact h1
 rcases Xl.mp hx with rfl|hx
 ·exact h2
 rcases Xl.mp hx with rfl|hx
 ·exact h3
 rcases XC.mp hx with rfl
 exact h4
theorem Z9a{α:Type}{p:α->Prop}{a b c d e:α}(h1:p a)(h2:p b)(h3:p c)(h4:p d)(h5:p e):∀x∈[a,b,c,d,e],p x:=λx hx=>(Xl.mp hx).elim (λq=>q▸h1) (Z20 h2 h3 h4 h5 x)
theorem no4{α:Type}{a b c d x:α}(h1:x≠a)(h2:x≠b)(h3:x≠c)(h4:x≠d):x∉[a,b,c,d]:=λhx=>Z20 (p:=λy=>x≠y) h1 h2 h3 h4 x hx rfl
noncomputable def SqB(K:Xb)(t:Bool)(H:Hp)(a:Addr)(xs:List V):Prop:=match t with|true=>H a=some (.tup xs)|false=>SqL K H a xs
noncomputable def IsB(t:Bool)(h:Heap)(a:Addr)(its:Array Xc):Prop:=match t with|true=>IsTup h a its|false=>h.IsList a its
noncomputable def ItB(t:Bool)(h:Heap)(it a:Addr)(i:Nat):Prop:=match t with|true=>IsTupIter h it a i|false=>h.IsListIter it a i
theorem ItB.at{t:Bool}{h h':Heap}{it a:Addr}{i:Nat}(x:ItB t h it a i)(k:∀o,h.get? it=some o->h'.get? it=some o):ItB t h' it a i:=by
 cases t with
 | false=>exact U6.at x k
 | true=>
  obtain⟨o,ho,r⟩:=x
  exact⟨o,k o ho,r⟩
theorem ItB.obj{t:Bool}{h:Heap}{it a:Addr}{i:Nat}(x:ItB t h it a i):∃o,h.get? it=some o∧∀v,o.data≠ .cell v:=by
 cases t with
 | false=>
  obtain⟨o,ho,_,d⟩:=x
  exact⟨o,ho,λv q=>by rw[d]at q;cases q⟩
 | true=>
  obtain⟨o,ho,_,d⟩:=x
  exact⟨o,ho,λv q=>by rw[d]at q;cases q⟩
theorem IsB.lt{t:Bool}{h:Heap}{a:Addr}{its:Array Xc}(x:IsB t h a its):a<h.objs.size:=by
 cases t with
 | false=>
  obtain⟨o,ho,_⟩:=x
  exact Xv ho
 | true=>
  obtain⟨o,ho,_⟩:=x
  exact Xv ho
theorem SqB.its{X:Cx}{pins:List (Addr×Obj)}{σ:St}{H:Hp}{s:Xd}{t:Bool}{a:Addr}{xs:List V}(I:Inv X pins σ H s)(h:SqB X.K t H a xs):∃its:List Xc,Vals xs its∧IsB t s.heap a its.toArray:=by
 cases t with
 | false=>
  obtain⟨its,r,p,_⟩:=I.list h
  exact⟨its,r,p.isList⟩
 | true=>
  obtain⟨_,its,r,p⟩:=(show ObjOk X.prog X.w H s.heap a (.tup xs)from I.hok a _ h)
  exact⟨its,r,p⟩
theorem SqB.inj{X:Cx}{pins:List (Addr×Obj)}{σ:St}{H:Hp}{s:Xd}{t:Bool}{a:Addr}{xs ys:List V}(I:Inv X pins σ H s)(h:SqB X.K t H a xs)(k:SqB X.K t H a ys):xs=ys:=by
 cases t with
 | false=>exact I.list_inj h k
 | true=>
  have:=(show H a=some (.tup xs)from h).symm.trans k
  cases this
  rfl
section
variable {P:X6}{w:Qt}
theorem Zuf{t:Bool}{it a:Addr}{i:Nat}{items:Array Xc}{x:Xc}(hx:items[i]? =some x):Gives P w it [it,a] (λh=>ItB t h it a i∧IsB t h a items) x (λh=>ItB t h it a (i+1)):=by
 cases t with
 | true=>exact Zql hx
 | false=>
  exact⟨.head _,λst hQ=>wpAny_nextOf_list_item st.1 st.2 hx hQ,λh h' k st=>⟨U6.at st.1 λo e=>k it (.head _) o e,by
   obtain⟨o,ho,r⟩:=st.2
   exact⟨o,k a (.tail _ (.head _)) o ho,r⟩⟩,λh h' k st=>U6.at st λo e=>k it (.head _) o e⟩
theorem Z3c{t:Bool}{it a:Addr}{i:Nat}{items:Array Xc}(hx:items[i]? =none):Zja P w it [it,a] (λh=>ItB t h it a i∧IsB t h a items):=by
 cases t with
 | true=>exact Zv8 hx
 | false=>
  exact⟨.head _,λhh st hE=>wpAny_nextOf_list_end hh st.1 st.2 hx hE,λh h' k st=>⟨U6.at st.1 λo e=>k it (.head _) o e,by
   obtain⟨o,ho,r⟩:=st.2
   exact⟨o,k a (.tail _ (.head _)) o ho,r⟩⟩⟩
end
noncomputable def Ydg(K:Xb)(t:Bool)(a b:Addr):It :=
 ⟨λi H=>∃xs ys x y,SqB K t H a xs∧SqB K t H b ys∧xs[i]? =some x∧ys[i]? =some y,
   λi H v H'=>∃p x y,H p=none∧v= .ref p∧H'=upd H p (.tup [x,y])∧(∀xs,SqB K t H a xs->xs[i]? =some x)∧∀ys,SqB K t H b ys->ys[i]? =some y,
   λi H=>∃xs ys,SqB K t H a xs∧SqB K t H b ys∧(xs.length≤i∨ys.length≤i)⟩
noncomputable def Yc3(t:Bool)(z TI TO i1 i2 a b:Addr)(i:Nat)(h:Heap):Prop:=Uv h z TI TO .none∧Bl h TI (.ref i1) (.ref i2)∧(∃x y,Bl h TO x y)∧ItB t h i1 a i∧ItB t h i2 b i
theorem Zsz{P:X6}{w:Qt}{K:Xb}{es:List Expr}{kk:Nat}{pos:Pos}{t:Bool}{z TI TO i1 i2 a b:Addr}(D:ZA z TI TO i1 i2 [i1,a] [i2,b])(D2:TI≠TO∧TI≠i1∧TI≠i2):Turn P w K (.Tuple es kk pos) (Ydg K t a b) [z,TI,TO,i1,i2] z (Yc3 t z TI TO i1 i2 a b) where
 mem:=.head _
 obj:=λi h st=>by
  obtain⟨s1,s2,⟨x,y,s3⟩,s4,s5⟩:=st
  exact Z9a ⟨_,s1,λv q=>by cases q⟩ ⟨_,s2,λv q=>by cases q⟩ ⟨_,s3,λv q=>by cases q⟩ s4.obj s5.obj
 keep:=λi h h' st k=>by
  obtain⟨s1,s2,⟨x,y,s3⟩,s4,s5⟩:=st
  have m2:TI∈[z,TI,TO,i1,i2]:=.tail _ (.head _)
  have m3:TO∈[z,TI,TO,i1,i2]:=.tail _ (.tail _ (.head _))
  have m4:i1∈[z,TI,TO,i1,i2]:=.tail _ (.tail _ (.tail _ (.head _)))
  have m5:i2∈[z,TI,TO,i1,i2]:=.tail _ (.tail _ (.tail _ (.tail _ (.head _))))
  exact⟨k z (.head _) _ s1,k TI m2 _ s2,⟨x,y,k TO m3 _ s3⟩,s4.at (k i1 m4),s5.at (k i2 m5)⟩
 item:=by
  intro X hP hw hK hc i pins s σ H E I hf st hg
  subst hP hw hK
  obtain⟨s1,s2,⟨x0,y0,s3⟩,s4,s5⟩:=st
  obtain⟨xs,ys,x,y,hx,hy,ex,ey⟩:=hg
  obtain⟨its,rx,px⟩:=hx.its I
  obtain⟨its',ry,py⟩:=hy.its I
  obtain⟨u,hu,ru⟩:=rx.get ex
  obtain⟨u',hu',ru'⟩:=ry.get ey
  rw[←List.getElem?_toArray]at hu hu'
  refine Zp8 D (Zuf hu) (Zuf hu') s1 s2 s3 ⟨s4,px⟩ ⟨s5,py⟩ λh' g1 g2 g3 g4 g5 g6=>?_
  refine⟨_,rfl,wpAny_letOwnedTupleGo_zip (s:={ s with heap:=h' }) g1 λh2 z2 sb=>?_⟩
  have up:∀c o,c≠z->h'.get? c=some o->h2.get? c=some o:=λc o n e=>(sb.2 c n).trans e
  have kp:∀c o,c∉[z,TO,i1,i2]->s.heap.get? c=some o->h2.get? c=some o:=λc o n e=>up c o (λq=>n (q▸ .head _)) (g6 c o n e)
  have t5:Bl h2 s.heap.objs.size u u':=up _ _ (XM (Xv s1)) g5
  have i1z:=(D.a1 i1 (.head _)).1
  have i2z:=(D.a2 i2 (.head _)).1
  have n3:=g3.at (up i1 · i1z)
  have n4:=g4.at (up i2 · i2z)
  obtain⟨f1,f2,f3,f4,f5⟩:(Zjz X pins H z∧Zjz X pins H TI∧Zjz X pins H TO∧Zjz X pins H i1∧Zjz X pins H i2):=⟨hf _ (.head _),hf _ (.tail _ (.head _)),hf _ (.tail _ (.tail _ (.head _))),hf _ (.tail _ (.tail _ (.tail _ (.head _)))),hf _ (.tail _ (.tail _ (.tail _ (.tail _ (.head _)))))⟩
  have I2:Inv X pins σ (upd H s.heap.objs.size (.tup [x,y])) { s with heap:=h2 } :=
   I.turnTup (ch:=[z,TO,i1,i2]) (its:=[u,u']) (Z20 f1 f3 f4 f5) kp (Z20 ⟨_,z2⟩ ⟨_,up _ _ D.TOz g2⟩ (n3.obj.imp λ_ q=>q.1) (n4.obj.imp λ_ q=>q.1)) (Qn _) Zyb (.cons ru (.cons ru' .nil)) ⟨_,t5,rfl,0,rfl⟩
  have lt:∀{c:Addr} {o:Obj},s.heap.get? c=some o->Zjz X pins H c->upd H s.heap.objs.size (.tup [x,y]) c=none:=λe f=>by rw[Zr (Xn (Xv e))];exact f.1
  refine⟨.ref s.heap.objs.size,_,I2,rfl,⟨_,x,y,I.fresh,rfl,rfl,λzs hz=>by rw[hz.inj I hx];exact ex,λzs hz=>by rw[hz.inj I hy];exact ey⟩,⟨z2,kp TI _ (no4 D.TIz D2.1 D2.2.1 D2.2.2) s2,⟨_,_,up _ _ D.TOz g2⟩,n3,n4⟩,?_⟩
  obtain⟨o4,e4,_⟩:=s4.obj
  obtain⟨o5,e5,_⟩:=s5.obj
  exact Z9a (lt s1 f1) (lt s2 f2) (lt s3 f3) (lt e4 f4) (lt e5 f5)
 done:=by
  intro X hP hw hK hc i pins s σ H E I hf st hg
  subst hP hw hK
  obtain⟨s1,s2,⟨x0,y0,s3⟩,s4,s5⟩:=st
  obtain⟨xs,ys,hx,hy,he⟩:=hg
  obtain⟨its,rx,px⟩:=hx.its I
  obtain⟨its',ry,py⟩:=hy.its I
  have l1:=rx.length
  have l2:=ry.length
  refine Zsw (I.ok.hd hc) D (S1:=λh=>ItB t h i1 a i∧IsB t h a its.toArray) (T1:=λh=>ItB t h i1 a (i+1)) (S2:=λh=>ItB t h i2 b i∧IsB t h b its'.toArray) ?_ s1 s2 s3 ⟨s4,px⟩ ⟨s5,py⟩ λh' k=>⟨rfl,I.turnAll (ch:=[z,TO,i1,i2]) (Z20 (hf _ (.head _)) (hf _ (.tail _ (.tail _ (.head _)))) (hf _ (.tail _ (.tail _ (.tail _ (.head _))))) (hf _ (.tail _ (.tail _ (.tail _ (.tail _ (.head _))))))) k⟩
  cases q:its.toArray[i]? with
  | none=>exact .inl (Z3c q)
  | some v=>
   refine .inr ⟨⟨v,Zuf q⟩,Z3c ?_⟩
   have:=(Array.getElem?_eq_some_iff.mp q).1
   rw[XR]at this
   rw[Array.getElem?_eq_none_iff,XR]
   omega
 self:=λ_ _ _ _ _ st h=>wpAny_pyIter_zip st.1 h
theorem Zq7{P:X6}{w:Qt}{A:Qk}{E:Xc->Xd->Prop}{s:Xd}{t:Bool}{a b:Addr}{xs ys:Array Xc}{Q:Xc->Xd->Prop}(h1:IsB t s.heap a xs)(h2:IsB t s.heap b ys)
  (h:∀h' n,n=s.heap.objs.size->Uv h' (n+4) (n+2) (n+3) .none->Bl h' (n+2) (.ref n) (.ref (n+1))->Bl h' (n+3) .none .none->ItB t h' n a 0->ItB t h' (n+1) b 0 ->
   (∀ c o,s.heap.get? c=some o->h'.get? c=some o)->Q (.ref (n+4)) { s with heap:=h' }):XX (X7 P w) A (call (.type "zip") [.ref a,.ref b]) Q E s:=by
 cases t with
 | true=>exact Ztz h1 h2 h
 | false=>exact call_zip_2 h1 h2 λh' g1 g2 g3 g4 g5 _ g7=>h h' _ rfl g1 g2 g3 g4 g5 g7
noncomputable def Z9y(K:Xb)(ta:TA):TI:=λσ H R=>ta σ H λvs H1=>∃t a b,vs=[.ref a,.ref b]∧(∃xs,SqB K t H1 a xs)∧(∃ys,SqB K t H1 b ys)∧R (Ydg K t a b) H1
theorem Z0j{X:Cx}{K:Xb}{a b:Expr}{ta:TA}{p pos pt:Pos}{es:List Expr}{kk:Nat}(hK:X.K=K)(hg:Gl X "zip")(hm:X.mg "zip"=none)(hv:Qc "zip"=some (.type "zip"))(ha:PA X [a,b] ta)
  (he:Xh [a,b] X.env=(false,eval a X.env) :: Xh [b] X.env:=by rfl) (hpl:(Q6 pos (Xh [b] X.env)).any (·.1)=false:=by rfl) :
  PI X (.Tuple es kk pt) (.Call (.Name "zip" p) [a,b] [] pos) (Z9y K ta):=by
 subst hK
 intro pins s σ H R I h
 refine Ba (Zg9 I hg hm hv ?_ (by decide) (by decide))
 refine JW (thn (ha pos pins s σ H _ I h) λus s1 q=>?_) he hpl
 obtain⟨vs,H1,I1,r1,t,l1,l2,e1,⟨xs,hx⟩,⟨ys,hy⟩,q⟩:=q
 subst e1
 obtain⟨u,u',rfl,ru,ru'⟩:=vals2 r1
 cases(show u=Qu l1 from ru)
 cases(show u'=Qu l2 from ru')
 obtain⟨its,rx,px⟩:=hx.its I1
 obtain⟨its',ry,py⟩:=hy.its I1
 refine Zq7 px py λh' n en g1 g2 g3 g4 g5 g7=>?_
 have I2:Inv X pins σ H1 { s1 with heap:=h' }:=I1.kept (t':=s1.toks) g7
 refine wpAny_pyIter_zip (s:={ s1 with heap:=h' }) g1 ?_
 refine⟨_,[_,_,_,_,_],Yc3 _ _ _ _ _ _ _ _,_,H1,rfl,I2,Zsz (ZA.new (en▸px.lt) (en▸py.lt)) (ZA.new2 n),⟨g1,g2,⟨_,_,g3⟩,g4,g5⟩,?_,q⟩
 subst en
 have ok:∀k:Nat,Zjz X pins H1 (s1.heap.objs.size+k):=λk=>I1.fpOk (Uz _ _) (I1.hok.fresh (Uz _ _))
 exact Z9a (ok 4) (ok 2) (ok 3) (ok 0) (ok 1)
section
variable {X:Cx}{io:List Nat}{p c:Bool}{a b:Expr}{mr:MAt}{ra:FA}
noncomputable def Z8f(t:Bool)(as:List Xa):Xa:=match t with|true=>.tuple as|false=>.list as
theorem Rel.keptSq{C:MC G}{H:Hp}{σ:St}{δ:Zg}{fp:Fp}{ex:Addr->Prop}{v:V}{t:Bool}{ds:List Xa}(R:Rel C io H σ δ fp ex)(q:Da G H (λa=>c=true->Lf C fp ex a) v (Z8f t ds)) :
  ∃a xs,v= .ref a∧∀H':Hp,(∀b o,H b=some o->(c=false∨¬Foot fp b)->H' b=some o)->SqB G t H' a xs∧Das G H' (λa=>c=true->(Lf C fp ex a∧H a≠none)) xs ds:=by
 cases t with
 | false=>exact R.keptList q
 | true=>
  generalize hd:Z8f true ds=d at q
  cases q with
  | tup e r=>
   cases hd
   rename_i a0 xs0
   refine⟨a0,xs0,rfl,λH' kp=>?_⟩
   obtain⟨f1,f2⟩:=R.kept kp
   exact⟨f2 _ (.tup _) e,r.frame f1 f2⟩
  | _=>cases hd
theorem Zu9{ds es:List Xa}(h:Z51 ds=some es):∃t as bs,ds=[Z8f t as,Z8f t bs]∧es=Zn0 as bs:=by
 unfold Z51 at h
 split at h
 ·cases h;exact⟨false,_,_,rfl,rfl⟩
 ·cases h;exact⟨true,_,_,rfl,rfl⟩
 ·cases h
noncomputable def iZB(mr:MAt):MIt:=λδ K=>mr δ λrs δ'=>∃es,Z51 (OT.datas rs)=some es∧K es δ'
theorem Zhb{p' pos pt:Pos}{es:List Expr}{kk:Nat}(hg:Gl X "zip")(hm:X.mg "zip"=none)(hv:Qc "zip"=some (.type "zip"))(ha:MA X io p c [a,b] mr)
  (he:Xh [a,b] X.env=(false,eval a X.env) :: Xh [b] X.env:=by rfl) (hpl:(Q6 pos (Xh [b] X.env)).any (·.1)=false:=by rfl):MI X io p c (.Tuple es kk pt) (.Call (.Name "zip" p') [a,b] [] pos) (iZB mr):=by
 obtain⟨_,A,s⟩:=ha
 refine⟨_,Z0j rfl hg hm hv A he hpl,λC H σ δ fp ex K' Q R h kk=>s C H σ δ fp ex _ _ R h λH1 vs rs δ1 fp1 new r1 h1=>?_⟩
 have q:=r1.das R
 obtain⟨es,hz,h1⟩:=h1
 obtain⟨t,as,bs,e,rfl⟩:=Zu9 hz
 rw[e]at q
 cases q with
 | cons q1 q2=>
  cases q2 with
  | cons q2 q3=>
   cases q3
   have R1:=r1.base
   obtain⟨l1,xs,rfl,k1⟩:=R1.keptSq q1
   obtain⟨l2,ys,rfl,k2⟩:=R1.keptSq q2
   refine⟨t,l1,l2,rfl,⟨_,(k1 H1 λ_ _ e _=>e).1⟩,⟨_,(k2 H1 λ_ _ e _=>e).1⟩,kk _ H1 _ δ1 fp1 R1 r1.stp (λH' kp i=>?_) h1⟩
   obtain⟨s1,d1⟩:=k1 H' kp
   obtain⟨s2,d2⟩:=k2 H' kp
   refine⟨λd hd=>?_,λhd=>⟨_,_,s1,s2,by rw[d1.length,d2.length];exact Zqv hd⟩⟩
   obtain⟨x,y,hx,hy,rfl⟩:=Zvo hd
   obtain⟨u,hu,qu⟩:=d1.get hx
   obtain⟨w,hw,qw⟩:=d2.get hy
   refine⟨⟨_,_,u,w,s1,s2,hu,hw⟩,λv H'' hyl=>?_⟩
   obtain⟨t',u',w',ht,rfl,rfl,hu',hw'⟩:=hyl
   cases hu.symm.trans (hu' _ s1)
   cases hw.symm.trans (hw' _ s2)
   exact⟨Ys ht _,.tup Z1 (.cons (qu.same (Ys ht _)) (.cons (qw.same (Ys ht _)) .nil))⟩
theorem Zh6{tg e:Expr}(g:MI X io p c tg e (iZB (o2 ra))):MI X io p c tg e (o2 (Zea ra)):=g.weak λδ K h=>by
 obtain⟨r,δ',h,k⟩:=h
 obtain⟨⟨x,δ1⟩,h1,h⟩:=bs h
 obtain⟨ds,h2,h⟩:=bs h
 cases h
 exact⟨x,_,h1,_,h2,k⟩
end
end L2
namespace L2
open PySem PySem.Spec PyProof.Rows PySem.W
noncomputable def kEv{α:Type}(lt:Nat->Nat->Bool):KasT α->α
 | .ret a=>a
 | .ask i j k=>kEv lt (k (lt i j))
noncomputable def kGood{α:Type}(n:Nat)(P:α->Prop):KasT α->Prop
 | .ret a=>P a
 | .ask i j k=>i<n∧j<n∧∀b,kGood n P (k b)
theorem kGood.bind{α β:Type}{n:Nat}{P:α->Prop}{R:β->Prop}{f:α->KasT β}(hf:∀a,P a->kGood n R (f a)){t:KasT α}(h:kGood n P t):kGood n R (t.bind f):=by
 induction t with
 | ret a=>exact hf a h
 | ask i j k ih=>exact⟨h.1,h.2.1,λb=>ih b (h.2.2 b)⟩
theorem kGood.ev{α:Type}{n:Nat}{P:α->Prop}{lt:Nat->Nat->Bool}{t:KasT α}(h:kGood n P t):P (kEv lt t):=by
 induction t with
 | ret a=>exact h
 | ask i j k ih=>exact ih _ (h.2.2 _)
theorem kGood.wp{α:Type}{n:Nat}{P:α->Prop}{lt:Nat->Nat->Bool}{cmp:Nat->Nat->(Bool->Xd->Prop)->Xd->Prop}{s:Xd}{Q:α->Xd->Prop}(hc:∀i j C,i<n->j<n->C (lt i j) s->cmp i j C s){t:KasT α}(h:kGood n P t)(q:Q (kEv lt t) s):t.kasWp cmp Q s:=by
 induction t with
 | ret a=>exact q
 | ask i j k ih=>exact hc i j _ h.1 h.2.1 (ih _ (h.2.2 _) q)
noncomputable def kP(n:Nat)(p:Array Nat):Prop:=p.toList.Perm (Xj n)
theorem kP.at{n:Nat}{p:Array Nat}(h:kP n p)(h0:0<n)(i:Nat):p.getD i 0<n:=by
 by_cases c:i<p.size
 ·have e:p.getD i 0=p[i]:=by simp[Array.getD,c]
  rw[e]
  exact X5.mp (h.mem_iff.mp (Array.getElem_mem_toList c))
 ·have e:p.getD i 0=0:=by simp[Array.getD,c]
  rw[e];exact h0
theorem kP.rev{n:Nat}{p:Array Nat}(h:kP n p)(i j:Nat):kP n (kas_rev p i j):=(Array.perm_iff_toList_perm.mp (mirror_perm p i j _)).trans h
theorem kP.bub{n:Nat}{p:Array Nat}(h:kP n p)(i j:Nat):kP n (bubble p i j):=(Array.perm_iff_toList_perm.mp (bubble_perm p i j)).trans h
theorem Zn9{n:Nat}{p:Array Nat}(h:kP n p)(h0:0<n)(f m:Nat):kGood n (λ_=>True) (kas_asc p f m):=by
 induction f generalizing m with
 | zero=>exact trivial
 | succ f ih=>
  refine⟨h.at h0 _,h.at h0 _,λb=>?_⟩
  cases b
  ·exact ih _
  ·exact trivial
theorem Zso{n:Nat}(h0:0<n)(f:Nat){p:Array Nat}(h:kP n p)(m q:Nat):kGood n (λr:Array Nat×Nat×Nat=>kP n r.1) (kas_desc f p m q):=by
 induction f generalizing p m q with
 | zero=>exact h
 | succ f ih=>
  refine⟨h.at h0 _,h.at h0 _,λb=>?_⟩
  cases b
  ·refine⟨h.at h0 _,h.at h0 _,λb=>?_⟩
   cases b
   ·exact ih h _ _
   ·exact h
  ·show kGood n _ (if q>0 then _ else _)
   split
   ·exact ih (h.rev _ _) _ _
   ·exact ih h _ _
theorem Zl8{n:Nat}{p:Array Nat}(h:kP n p)(h0:0<n)(m r:Nat):kGood n (λr:Nat×Array Nat=>kP n r.2) (kas_tail3 m r p):=by
 refine kGood.bind (P:=λ_=>True) (λa _=>?_) (Zn9 (h.rev _ _) h0 _ _)
 exact h.rev _ _
theorem Ze9{n:Nat}{p:Array Nat}(h:kP n p)(h0:0<n)(m r:Nat):kGood n (λr:Nat×Array Nat=>kP n r.2) (kas_descPart m r p) :=
 (Zso h0 _ h _ _).bind λx hx=>by
  show kGood n _ (if x.2.2>0 then _ else _)
  split
  ·exact Zl8 (hx.rev _ _) h0 _ _
  ·exact Zl8 hx h0 _ _
theorem Zps{n:Nat}{p:Array Nat}(h:kP n p)(h0:0<n)(r:Nat):kGood n (λr:Nat×Array Nat=>kP n r.2) (kas_count r p) :=
 (Zn9 h h0 _ _).bind λm _=>by
  show kGood n _ (if(m==r)=true then _ else if m>1 then _ else _)
  split
  ·exact h
  ·split
   ·refine⟨h.at h0 _,h.at h0 _,λb=>?_⟩
    cases b
    ·exact Ze9 (h.rev _ _) h0 _ _
    ·exact h
   ·exact Ze9 h h0 _ _
theorem Zp7{n:Nat}{p:Array Nat}(h:kP n p)(h0:0<n)(k f l r:Nat):kGood n (λ_=>True) (kas_place p k f l r):=by
 induction f generalizing l r with
 | zero=>exact trivial
 | succ f ih=>
  show kGood n _ (if l≥r then _ else _)
  split
  ·exact trivial
  ·refine⟨h.at h0 _,h.at h0 _,λb=>?_⟩
   cases b
   ·exact ih _ _
   ·exact ih _ _
theorem Zva{n:Nat}(h0:0<n)(f:Nat){p:Array Nat}(h:kP n p)(k:Nat):kGood n (kP n) (kas_bin f p k):=by
 induction f generalizing p k with
 | zero=>exact h
 | succ f ih=>exact(Zp7 h h0 _ _ _ _).bind λl _=>ih (h.bub _ _) _
theorem Zmm{n:Nat}(h0:0<n):kGood n (kP n) (kas_sort n) :=
 (Zps (p:=Vs (Xj n)) (.refl _) h0 n).bind λr hr=>by
  show kGood n _ (if r.1<n then _ else _)
  split
  ·exact Zva h0 _ hr _
  ·exact hr
noncomputable def Z2f(lt:Nat->Nat->Bool)(n:Nat):List Nat:=(kEv lt (kas_sort n)).toList
theorem Zky{lt:Nat->Nat->Bool}{n:Nat}(h0:0<n):(Z2f lt n).Perm (Xj n):=(Zmm h0).ev (P:=kP n)
end L2
namespace L2
open PySem PySem.Spec PyProof.Rows PySem.W PySem.SeqAt
open AutoSeq1 (wpAny_loadPart')
open MeetsSeq MeetsSeq2 MeetsSeq3 SeqRoads2
noncomputable def ltI:List Int->List Int->Bool
 | [],[]=>false
 | [],_ :: _=>true
 | _ :: _,[]=>false
 | x :: xs,y :: ys=>if x=y then ltI xs ys else decide (x<y)
theorem Zxo{vs:List Xc}{ns:List Int}(h:Vj vs ns)(i:Nat)(hi:i<vs.length):∃x t,vs[i]? =some (.int x t)∧ns.drop i=x :: ns.drop (i+1):=by
 induction h generalizing i with
 | nil=>exact absurd hi (BW i)
 | cons n t h ih=>
  cases i with
  | zero=>exact⟨n,t,rfl,rfl⟩
  | succ i=>exact ih i (Nat.lt_of_succ_lt_succ hi)
theorem Zn5{vs:List Xc}{ns:List Int}(h:Vj vs ns):vs.length=ns.length:=by
 induction h with
 | nil=>rfl
 | cons n t h ih=>exact congrArg Nat.succ ih
theorem Zrn{xs ys:List Int}(h:xs=[]∨ys=[]):ltI xs ys=decide (xs.length<ys.length):=by
 cases xs<;>cases ys<;>first|rfl|(rcases h with h|h<;>cases h)|exact(decide_eq_true (Nat.succ_pos _)).symm
theorem Zrc(l b:Addr)(items items2:Array Xc)(n n2:Nat)(dd dd2:Option Addr)(sl sl2:Array (Option Xc)){xs ys:List Int}(h1:Vj items.toList xs)(h2:Vj items2.toList ys)(k:Nat) :
  ∀i:Nat,items.size-i=k->i≤items.size->i≤items2.size->Meets (Builtin.«list.__eq__.loop» ⟨[.ref l,.ref b,UV i,UV 0],[]⟩)
   (λA R s=>s.heap.get? l=some { cls:=.type "list",dict:=dd,data:=.seq items n,slots:=sl }∧s.heap.get? b=some { cls:=.type "list",dict:=dd2,data:=.seq items2 n2,slots:=sl2 }∧
    R (.ok (.ret (.bool (ltI (xs.drop i) (ys.drop i))))) s):=by
 have e1:items.size=xs.length:=Zn5 h1
 have e2:items2.size=ys.length:=Zn5 h2
 have fin:∀i,i≤items.size->i≤items2.size->(i=items.size∨i=items2.size)->ltI (xs.drop i) (ys.drop i)=decide (items.size<items2.size):=λi u1 u2 c=>by
  rw[Zrn (c.imp (λc=>List.drop_eq_nil_of_le (by omega)) λc=>List.drop_eq_nil_of_le (by omega)),JT,JT]
  exact decide_eq_decide.mpr (by omega)
 induction k with
 | zero=>
  intro i hk u1 u2 prog w A R s h
  obtain⟨hp,g,d,tk,os⟩:=s;obtain⟨hl,hb,h⟩:=h
  wp_walk using QZ hl,QZ hb
  have hi1:items[((i:Nat):Int).toNat]? =none:=by simp;omega
  rw[fin i u1 u2 (.inl (by omega))]at h
  rw[hi1]
  wp_walk using QZ hl,QZ hb
  exact h
 | succ k ih=>
  intro i hk u1 u2 prog w A R s h
  obtain⟨hp,g,d,tk,os⟩:=s;obtain⟨hl,hb,h⟩:=h
  have hlt:i<items.size:=by omega
  obtain⟨x,t,q1,q2⟩:=Zxo h1 i hlt
  have hi1:items[((i:Nat):Int).toNat]? =some (.int x t):=by rw[Q3,←q1,U8]
  wp_walk using QZ hl,QZ hb
  by_cases c:i<items2.size
  ·obtain⟨y,u,q3,q4⟩:=Zxo h2 i c
   have hi2:items2[((i:Nat):Int).toNat]? =some (.int y u):=by rw[Q3,←q3,U8]
   have hc:((i:Int)+1)=((i+1:Nat):Int):=by push_cast;rfl
   rw[q2,q4]at h
   unfold ltI at h
   rw[hi1,hi2]
   refine Xe (EqAt.int_int x t y u prog w _ _ ?_)
   by_cases cx:x=y
   ·rw[if_pos cx]at h
    rw[beq_iff_eq.mpr cx]
    wp_walk
    rw[hc]
    exact⟨plainId_quiet plain_eq_loop _,codeAny_builtin entry_eq_loop (by
     rw[Around.under_plainId plain_eq_loop _]
     exact ih (i+1) (by omega) (by omega) (by omega) prog w A R _ ⟨hl,hb,h⟩)⟩
   ·rw[if_neg cx]at h
    rw[beq_eq_false_iff_ne.mpr cx]
    wp_walk using QZ hl,QZ hb
    rw[hi1,hi2]
    refine Xe (lt_int ?_)
    wp_walk
    exact h
  ·have hi2:items2[((i:Nat):Int).toNat]? =none:=by simp;omega
   rw[fin i u1 u2 (.inr (by omega))]at h
   rw[hi1,hi2]
   wp_walk using QZ hl,QZ hb
   exact h
theorem Zs8(l b:Addr)(items items2:Array Xc)(n n2:Nat)(dd dd2:Option Addr)(sl sl2:Array (Option Xc)){xs ys:List Int}(h1:Vj items.toList xs)(h2:Vj items2.toList ys) :
  Meets (Builtin.«list.__lt__» ⟨[.ref l,.ref b],[]⟩)
   (λA R s=>s.heap.get? l=some { cls:=.type "list",dict:=dd,data:=.seq items n,slots:=sl }∧s.heap.get? b=some { cls:=.type "list",dict:=dd2,data:=.seq items2 n2,slots:=sl2 }∧
    R (.ok (.ret (.bool (ltI xs ys)))) s):=by
 intro prog w A R s h
 obtain⟨hp,g,d,tk,os⟩:=s;obtain⟨hl,hb,h⟩:=h
 have f3:=AutoSeq1.sub_list_list
 wp_walk using QZ hl,QZ hb
 exact⟨plainId_quiet plain_eq_loop _,codeAny_builtin entry_eq_loop (by
  rw[Around.under_plainId plain_eq_loop _]
  exact Zrc l b items items2 n n2 dd dd2 sl sl2 h1 h2 _ 0 rfl (Bh _) (Bh _) prog w A R _ ⟨hl,hb,h⟩)⟩
section
variable {prog:X6}{w:Qt}{A:Qk}{E:Xc->Xd->Prop}{s:Xd}
theorem Zph{l b:Addr}{items items2:Array Xc}{xs ys:List Int}{Q:Bool->Xd->Prop}(hu:A.units<cLine)(hl:s.heap.IsList l items)(hb:s.heap.IsList b items2)(h1:Vj items.toList xs)(h2:Vj items2.toList ys)(h:Q (ltI xs ys) s) :
  XX (X7 prog w) A (oneLt' true (.ref l) (.ref b)) Q E s:=by
 obtain⟨⟨cls,dd,data,sl⟩,hl,hc,n,hd⟩:=hl
 obtain⟨⟨cls2,dd2,data2,sl2⟩,hb,hc2,n2,hd2⟩:=hb
 simp only at hc hd hc2 hd2
 subst hc hd hc2 hd2
 rw[oneLt'_eq]
 simp only[if_true]
 refine Xe (wpAny_cRoomFor hu ?_)
 refine Xe (wpAny_callSpecialIfBound?_slot ⟨_,hl,rfl⟩ F.slot_list_lt (call_meets F.slot_list_lt ⟨_,hl,rfl⟩ F.entry_list_lt (F.args_list_lt_2 _ _) (Zs8 l b items items2 n n2 dd dd2 sl sl2 h1 h2) ⟨hl,hb,?_⟩))
 exact VF h
end
section
variable {prog:X6}{w:Qt}{A:Qk}{E:Xc->Xd->Prop}{s:Xd}
end
end L2
namespace L2
open PySem PySem.Spec PyProof.Rows PySem.W
noncomputable def sLay{α:Type}(d:α)(lt:Nat->Nat->Bool)(vs:List α):List α:=if vs.length<2 then vs else(Z2f lt vs.length).map λi=>vs.getD i d
theorem Zp6{α:Type}(d:α)(vs:List α):((Xj vs.length).map λi=>vs.getD i d)=vs:=by
 refine List.ext_getElem? λi=>?_
 rw[Xm]
 by_cases c:i<vs.length
 ·rw[QB c,XJ c]
  show some (vs.getD i d)=_
  rw[Xr,XJ c];rfl
 ·rw[JQ (by rw[XH];omega),JQ (by omega)];rfl
theorem Zk3{α:Type}(d:α)(lt:Nat->Nat->Bool)(vs:List α):(sLay d lt vs).Perm vs:=by
 unfold sLay
 split
 ·exact .refl _
 ·have:=(Zky (lt:=lt) (n:=vs.length) (by omega)).map λi=>vs.getD i d
  rwa[Zp6]at this
theorem Zuc{lt:Nat->Nat->Bool}{xs:List V}{us:List Xc}(h:Vals xs us):Vals (sLay .non lt xs) (sLay .none lt us):=by
 unfold sLay
 rw[h.length]
 split
 ·exact h
 ·generalize Z2f lt _=l
  induction l with
  | nil=>exact .nil
  | cons i l ih=>
   refine .cons ?_ ih
   show RelV (xs.getD i V.non) (us.getD i Q0)
   rw[Xr,Xr]
   cases e:xs[i]? with
   | some x=>
    obtain⟨u,e',r⟩:=h.get e
    rw[e'];exact r
   | none=>
    have:us[i]? =none:=JQ (by rw[←h.length];exact QR.mp e)
    rw[this];exact rfl
section
variable {prog:X6}{w:Qt}{A:Qk}{E:Xc->Xd->Prop}{s:Xd}
theorem Zpp{κ:SortKind}{lt:Nat->Nat->Bool}{h0:Heap}{a:Addr}{vs:List Xc}{n:Nat}{P:PySem.Fin->Xd->Prop}(ho:s.heap.get? a=some (By "list" vs.toArray n))
  (k0:∀b o,h0.get? b=some o->s.heap.get? b=some o) (ha0:h0.get? a=none) (h64:vs.length<64)
  (hk:2≤vs.length->∀s':Xd,(∀b o,h0.get? b=some o->s'.heap.get? b=some o)->∀Q:SortKind->Xd->Prop,Q κ s'->XX (X7 prog w) A (keyKind' vs.toArray) Q E s')
  (hc:2≤vs.length->∀s':Xd,(∀b o,h0.get? b=some o->s'.heap.get? b=some o)->∀i j C,i<vs.length->j<vs.length->C (lt i j) s'->kas_ask prog w A κ vs i j C s')
  (h:P (.done (.ret .none)) { s with heap:=sortedHeap s.heap a vs (Vs (sLay Q0 lt vs)) }):XX (X7 prog w) A (Builtin.«list.sort» ⟨[.ref a],[]⟩) P E s:=by
 have ha:a<s.heap.objs.size:=Xv ho
 obtain⟨e1,ho1⟩:∃e1,(s.heap.update a (JK λ_=>(#[]:Array Xc))).get? a=some (By "list" #[] e1):=⟨_,get?_update_seq ho λ_=>#[]⟩
 have ho6:(((s.heap.update a (JK λ_=>(#[]:Array Xc))).push (By "tuple" vs.toArray 0)).push (By "list" #[] 0)).get? a=some (By "list" #[] e1):=Xi _ (Xi _ ho1)
 have k6:∀b o,h0.get? b=some o->(((s.heap.update a (JK λ_=>(#[]:Array Xc))).push (By "tuple" vs.toArray 0)).push (By "list" #[] 0)).get? b=some o:=λb o e=>by
  refine Xi _ (Xi _ ?_)
  rw[Heap.get?_update_ne _ _ _ _ (λq=>by rw[q,ha0]at e;cases e)]
  exact k0 b o e
 rw[list_sort_plain]
 refine Xe (listItems_at ho rfl ?_)
 refine Xe (listUpdate_at ho rfl ?_ (by rw[XR,Qj];omega) (Bh _))
 refine Xe (seqEpoch_at ho1 rfl ?_)
 refine Xe (wpAny_newTuple ?_ (by show vs.length≤_;rw[Qj];omega))
 refine Xe (wpAny_newList ?_ (Bh _))
 refine UT ?_
 show XX (X7 prog w) A _ P E { s with heap:=((s.heap.update a (JK λ_=>(#[]:Array Xc))).push (By "tuple" vs.toArray 0)).push (By "list" #[] 0) }
 dsimp only
 have hs:vs.toArray.size=vs.length:=XR ..
 by_cases h2:vs.toArray.size<2
 ·have el:sLay Q0 lt vs=vs:=if_pos (hs▸h2)
  rw[el]at h
  rw[if_pos h2,if_pos h2]
  refine Xe (X8 ?_)
  rw[StateT.run_pure]
  refine Xe (X8 ?_)
  dsimp only
  refine Xe (seqEpoch_at ho6 rfl ?_)
  have ez:((vs.toArray.zip vs.toArray).map (·.2))=vs.toArray:=by
   apply Array.toList_inj.mp
   rw[Array.toList_map,Array.toList_zip,List.map_snd_zip (Qn _)]
  show XX _ _ (Builtin.List.listUpdate _ (λ_=>(vs.toArray.zip vs.toArray).map (·.2))>>=_) _ _ _
  rw[ez]
  refine Xe (listUpdate_at ho6 rfl ?_ (Bh _) (by rw[hs,Qj];omega))
  simp only[bne_self_eq_false,BP,if_false]
  exact X8 h
 ·rw[if_neg h2,if_neg h2]
  have h2':2≤vs.length:=by omega
  have el:sLay Q0 lt vs=(Z2f lt vs.length).map λi=>vs.getD i Q0:=if_neg (by omega)
  rw[el]at h
  refine Xe (hk h2' _ k6 _ ?_)
  have est:SortSt.mk' κ (vs.toArray.zip vs.toArray) #[] 7 none=kas_st κ (pairsOf vs) (Vs (Xj vs.length)):=by
   have e:=kas_range (pairsOf vs)
   rw[pairsOf_size]at e
   show SortSt.mk' κ (pairsOf vs) #[] 7 none=SortSt.mk' κ ((Vs (Xj vs.length)).map (kas_item (pairsOf vs))) #[] 7 none
   rw[e]
  have run:=kas_runs (prog:=prog) (w:=w) (A:=A) (κ:=κ) (it:=pairsOf vs) (E:=E) (s:={ s with heap:=((s.heap.update a (JK λ_=>(#[]:Array Xc))).push (By "tuple" vs.toArray 0)).push (By "list" #[] 0) })
   (Q:=λ_ st' s'=>arrOf st'=(kEv lt (kas_sort vs.length)).map (kas_item (pairsOf vs))∧failedOf st'=none∧s'={ s with heap:=((s.heap.update a (JK λ_=>(#[]:Array Xc))).push (By "tuple" vs.toArray 0)).push (By "list" #[] 0) })
   (G:=λp s'=>p=kEv lt (kas_sort vs.length)∧s'={ s with heap:=((s.heap.update a (JK λ_=>(#[]:Array Xc))).push (By "tuple" vs.toArray 0)).push (By "list" #[] 0) })
   h2' h64 (λp' st' s' _ a2 a3 a4=>⟨a4.1▸a2,a3,a4.2⟩) (by
    rw[←kas_ask_eq]
    exact(Zmm (n:=vs.length) (by omega)).wp (hc h2' _ k6) ⟨rfl,rfl⟩)
  rw[←est]at run
  refine Xe (QD run ?_ λ_ _ e=>e)
  intro r s' z
  obtain⟨har,hf,rfl⟩:=z
  have hout:(arrOf r.2).map (·.2)=Vs ((Z2f lt vs.length).map λi=>vs.getD i Q0):=by
   apply Array.toList_inj.mp
   rw[har,Array.map_map,Array.toList_map]
   exact Xy λi _=>by show(kas_item (pairsOf vs) i).2=_;rw[kas_item_eq]
  rw[hout]
  refine Xe (seqEpoch_at ho6 rfl ?_)
  refine Xe (listUpdate_at ho6 rfl ?_ (Bh _) (by rw[XR,Xg,(Zky (by omega)).length_eq,XH,Qj];omega))
  rw[hf]
  simp only[bne_self_eq_false,BP,if_false]
  exact X8 h
theorem Zys{κ:SortKind}{lt:Nat->Nat->Bool}{l:Addr}{vs:List Xc}{Q:Xc->Xd->Prop}(hl:s.heap.IsList l vs.toArray)(h64:vs.length<64)
  (hk:2≤vs.length->∀s':Xd,(∀b o,s.heap.get? b=some o->s'.heap.get? b=some o)->∀Q:SortKind->Xd->Prop,Q κ s'->XX (X7 prog w) A.in1.in1 (keyKind' vs.toArray) Q E s')
  (hc:2≤vs.length->∀s':Xd,(∀b o,s.heap.get? b=some o->s'.heap.get? b=some o)->∀i j C,i<vs.length->j<vs.length->C (lt i j) s'->kas_ask prog w A.in1.in1 κ vs i j C s')
  (h:Q (.ref (s.heap.objs.size+1)) { s with heap:=sortedAll s.heap vs (Vs (sLay Q0 lt vs)) }):XX (X7 prog w) A (call (.builtin "sorted") [.ref l]) Q E s:=by
 refine Calls.call_function_entry kind_sorted plain_sorted entry_sorted (args_sorted1 _) ?_
 unfold Builtin.«sorted»
 refine Xe (m:=checkCount "sorted" 1 1 _) (X8 ?_)
 refine Xe (collect_list hl ?_ (by rw[Qj];omega))
 refine Xe (wpAny_newList ?_ (by rw[Qj];omega))
 have hsz:((s.heap.push (By "list" #[] 0)).update s.heap.objs.size (JK (· ++ vs.toArray))).objs.size=s.heap.objs.size+1:=by
  rw[Heap.size_update,size_push']
 have hoL:(((s.heap.push (By "list" #[] 0)).update s.heap.objs.size (JK (· ++ vs.toArray))).push (By "list" vs.toArray 0)).get? (s.heap.objs.size+1)=some (By "list" vs.toArray 0):=by
  rw[←hsz];exact Qd _ rfl
 have keep:∀b o,s.heap.get? b=some o->(((s.heap.push (By "list" #[] 0)).update s.heap.objs.size (JK (· ++ vs.toArray))).push (By "list" vs.toArray 0)).get? b=some o:=λb o q=>by
  have hlt:b<s.heap.objs.size:=Xv q
  rw[Heap.get?_push_ne _ _ _ (by rw[hsz];exact Xn (Nat.lt_succ_of_lt hlt)),Heap.get?_update_ne _ _ _ _ (Xn hlt),Heap.get?_push_ne _ _ _ (Xn hlt)]
  exact q
 show XX _ _ _ _ _ { s with heap:=((s.heap.push (By "list" #[] 0)).update s.heap.objs.size (JK (· ++ vs.toArray))).push (By "list" vs.toArray 0) }
 rw[hsz]
 refine Xe (UT (VN slot_list_sort ⟨_,hoL,rfl⟩ entry_list_sort (Zpp (h0:=s.heap) hoL keep (Heap.get?_none_of_le (Nat.le_succ _)) h64 hk hc ⟨_,rfl,?_⟩) (args_list_sort _)))
 exact X8 ⟨_,rfl,h⟩
end
end L2
namespace L2
open PySem PySem.Spec PyProof.Rows PySem.W
variable {G:Xb}
structure Ycd{α:Type}(kd:Xa->Option α)(lt:α->α->Bool):Prop where
 lay:∀d k,kd d=some k->d.canLay0=true
 run:∃κ:SortKind,(∀(prog:X6) (w:Qt) (A:Qk) (E:Xc->Xd->Prop) (s:Xd) (vs:List Xc) (ds:List Xa) (as:List Addr) (Q:SortKind->Xd->Prop),2≤vs.length->ReadsAll s.heap vs ds as->(∀d∈ds,∃k,kd d=some k)->Q κ s->XX (X7 prog w) A (keyKind' vs.toArray) Q E s)∧
  ∀(prog:X6) (w:Qt) (A:Qk) (E:Xc->Xd->Prop) (s:Xd) (u v:Xc) (d e:Xa) (as bs:List Addr) (k m:α) (C:Bool->Xd->Prop),A.units+32<cLine->Reads s.heap u d as->Reads s.heap v e bs->kd d=some k->kd e=some m->C (lt k m) s->XX (X7 prog w) A (keyLt' κ u v) C E s
theorem readsAll_ints{h:Heap}(ns:List Int){vs:List Xc}{as:List Addr}(r:ReadsAll h vs (ns.map Xo) as):Vj vs ns:=by
 induction ns generalizing vs as with
 | nil=>cases r;exact .nil
 | cons n ns ih=>
  cases r with
  | cons r q=>
   cases r
   exact .cons _ _ (ih q)
theorem Zfr{h:Heap}{ns:List Int}{u:Xc}{as:List Addr}(r:Reads h u (.list (ns.map Xo)) as):∃a items,u= .ref a∧h.IsList a items∧Vj items.toList ns:=by
 cases r with
 | list e c d q=>exact⟨_,_,rfl,⟨_,e,c,_,d⟩,readsAll_ints ns q⟩
theorem readsAll_get{h:Heap}{vs:List Xc}{ds:List Xa}{as:List Addr}(r:ReadsAll h vs ds as):vs.length=ds.length∧∀(i:Nat) d,ds[i]? =some d->∃v bs,vs[i]? =some v∧Reads h v d bs:=by
 induction ds generalizing vs as with
 | nil=>cases r;exact⟨rfl,λi d e=>by rw[Um]at e;cases e⟩
 | cons d ds ih=>
  cases r with
  | cons r q=>
   obtain⟨z1,z2⟩:=ih q
   refine⟨congrArg Nat.succ z1,λi e he=>?_⟩
   cases i with
   | zero=>cases he;exact⟨_,_,rfl,r⟩
   | succ i=>exact z2 i e he
theorem lay_ints(ns:List Int):Sh 1 (.list (ns.map Xo)):=Znb λd m=>by
 obtain⟨x,_,rfl⟩:=XQ.mp m
 exact Zw9 x
theorem Zp4{M:Model}{h:Heap}{a:Addr}{items:Array Xc}(e:h.IsList a items):Looks M h (typeOf (.ref a)) (.type "list"):=by
 obtain⟨o,e,c,_⟩:=e
 have:Looks M h (typeOf (.ref a)) o.cls:=(Looks.ld e).andThen .now
 rwa[c]at this
noncomputable def kdL:Xa->Option (List Int):=λd=>match d with| .list es=>Zin es|_=>none
theorem Zgz{d:Xa}{k:List Int}(h:kdL d=some k):d= .list (k.map Xo):=by
 cases d with
 | list es=>exact congrArg QH (Zfc h)
 | _=>cases h
theorem Zs9{h:Heap}{vs:List Xc}{ds:List Xa}{as:List Addr}(r:ReadsAll h vs ds as){v:Xc}(hv:v∈vs):∃d∈ds,∃bs,Reads h v d bs:=by
 obtain⟨i,hi⟩:=JX hv
 obtain⟨z1,z2⟩:=readsAll_get r
 have c:i<ds.length:=z1▸(Xk.mp hi).1
 obtain⟨v',bs,e,q⟩:=z2 i _ (XJ c)
 rw[hi]at e
 cases e
 exact⟨_,Vf c,bs,q⟩
theorem Z4a:Ycd kdL ltI:=by
 refine⟨λd k h=>by rw[Zgz h];exact(lay_ints k).1,oneType',λprog w A E s vs ds as Q h2 r hk q=>kas_kind (T:=.type "list") h2 (λv hv=>?_) rfl rfl q,λprog w A E s u v d e as bs k m C hu r1 r2 h1 h2 h=>?_⟩
 ·obtain⟨d,hd,bs,z⟩:=Zs9 r hv
  obtain⟨k,hk⟩:=hk d hd
  rw[Zgz hk]at z
  obtain⟨a,items,rfl,e,_⟩:=Zfr z
  exact Zp4 e
 ·rw[Zgz h1]at r1
  rw[Zgz h2]at r2
  obtain⟨a,i1,rfl,e1,z1⟩:=Zfr r1
  obtain⟨b,i2,rfl,e2,z2⟩:=Zfr r2
  rw[keyLt'_oneType]
  exact Zph (by omega) e1 e2 z1 z2 h
end L2
namespace L2
open PySem PySem.Spec PyProof.Rows PySem.W
variable {G:Xb}
noncomputable def lk{α:Type}(kd:Xa->Option α)(lt:α->α->Bool)(es:List Xa):Nat->Nat->Bool:=λi j=>((kd (es.getD i .none)).bind λa=>(kd (es.getD j .none)).map λb=>lt a b).getD false
noncomputable def keyed{α:Type}(kd:Xa->Option α)(es:List Xa):Prop:=∀d∈es,∃k,kd d=some k
theorem Zqg{es:List Xa}(h:∀d∈es,d.canLay0=true):JC es=true:=by
 induction es with
 | nil=>rw[JC]
 | cons d es ih=>rw[JC,h d (.head _),ih λd m=>h d (.tail _ m)];rfl
theorem Das.sLay{H:Hp}{L:Addr->Prop}{lt:Nat->Nat->Bool}{xs:List V}{ds:List Xa}(h:Das G H L xs ds):Das G H L (L2.sLay .non lt xs) (L2.sLay .none lt ds):=by
 unfold L2.sLay
 rw[h.length]
 split
 ·exact h
 ·generalize Z2f lt _=l
  induction l with
  | nil=>exact .nil
  | cons i l ih=>
   refine .cons ?_ ih
   show Da G H L (xs.getD i .non) (ds.getD i .none)
   rw[Xr,Xr]
   cases e:xs[i]? with
   | some x=>
    obtain⟨u,e',r⟩:=h.get' e
    rw[e'];exact r
   | none=>
    have:ds[i]? =none:=JQ (by rw[←h.length];exact QR.mp e)
    rw[this];exact .non
noncomputable def Zw4{α:Type}(kd:Xa->Option α)(lt:α->α->Bool)(K:Xb):List V->Hp->VK->Prop:=λxs H Q=>∃(a:Addr) (vs:List V) (L:Addr->Prop) (es:List Xa),xs=[.ref a]∧SqL K H a vs∧Das K H L vs es∧vs.length<64∧keyed kd es∧∀l,H l=none->Q (.ref l) (upd H l (.lst (sLay .non (lk kd lt es) vs)))
section
variable {X:Cx}{α:Type}{kd:Xa->Option α}{lt:α->α->Bool}
theorem Zpn{K:Xb}(S:Ycd kd lt)(hK:X.K=K)(hu:X.A.units+64<cLine):Zd9 X (.builtin "sorted") (Zw4 kd lt K):=by
 subst hK
 intro pins s σ H xs us Q I r h
 obtain⟨l,vs,L,es,rfl,hs,hd,h64,hk,q⟩:=h
 obtain⟨u,rfl,ru⟩:=vals1 r
 cases(show u=Qu l from ru)
 obtain⟨its,rv,pl,hz⟩:=I.list hs
 have hl:=rv.length
 obtain⟨as,ra⟩:=hd.reads rfl I rv (Zqg λd m=>by obtain⟨k,e⟩:=hk d m;exact S.lay d k e)
 obtain⟨κ,S1,S2⟩:=S.run
 obtain⟨z1,z2⟩:=readsAll_get ra
 refine Zys (κ:=κ) (lt:=lk kd lt es) pl.isList (by omega) (λh2 s' k Q q=>S1 _ _ _ _ s' _ es as Q h2 (ReadsAll.keeps k ra) hk q) (λh2 s' k i j C hi hj hc=>?_) ?_
 ·rw[z1]at hi hj
  obtain⟨v,b1,e1,r1⟩:=z2 i _ (XJ hi)
  obtain⟨w,b2,e2,r2⟩:=z2 j _ (XJ hj)
  obtain⟨k1,q1⟩:=hk _ (Vf hi)
  obtain⟨k2,q2⟩:=hk _ (Vf hj)
  have ek:lk kd lt es i j=lt k1 k2:=by
   unfold lk
   rw[Xr,Xr,XJ hi,XJ hj]
   show((kd es[i]).bind λa=>(kd es[j]).map λb=>lt a b).getD false=_
   rw[q1,q2];rfl
  rw[ek]at hc
  unfold kas_ask
  rw[Xr,Xr,e1,e2]
  exact S2 _ _ _ _ s' v w _ _ _ _ k1 k2 C (show X.A.units+1+1+32<cLine by omega) (Reads.keeps k r1) (Reads.keeps k r2) q1 q2 hc
 ·obtain⟨e,he⟩:=sortedAll_at s.heap its (Vs (sLay Q0 (lk kd lt es) its))
  refine⟨.ref (s.heap.objs.size+1),_,I.laid (t':=s.toks) (o:=.lst (sLay .non (lk kd lt es) vs)) (λb ob q=>sortedAll_old q) (by omega) ⟨?_,sLay Q0 (lk kd lt es) its,e,Zuc rv,he⟩,rfl,q _ (I.hok.fresh (by omega))⟩
  rw[(Zk3 _ _ _).length_eq,Qj];omega
noncomputable def Zxj(kd:Xa->Option α)(lt:α->α->Bool):List Xa->(OT->Prop)->Prop:=λds k=>n1 (λd=>∃es:List Xa,d= .list es∧es.length<64∧keyed kd es∧k (.nd ((sLay .none (lk kd lt es) es).map OT.fz))) ds
theorem Zuy:PN G (Zw4 kd lt G) (Zxj kd lt):=λH L xs ds k Q hx h kk=>by
 obtain⟨v,d,rfl,rfl,q,es,e,h64,hk,h⟩:=hx.one h
 have fin:∀(vs:List V) (p:Addr),Das G H L vs es->H p=none->Q (.ref p) (upd H p (.lst (sLay .non (lk kd lt es) vs))):=λvs p hv hp=>kk _ _ _ [p] (Ys hp _) (Own.list hp hv.sLay) (Zn7 p) (Zks hp) h
 subst e
 generalize ed:QH es=d at q
 cases q with
 | lst l e r=>
  cases ed
  exact⟨_,_,L,es,rfl,.inl e,r,by rw[r.length];exact h64,hk,λp hp=>fin _ p r hp⟩
 | scr ks=>
  cases ed
  exact⟨_,_,L,_,rfl,ks.sq,Das.ints _,by rw[(Das.ints (G:=G) (H:=H) (L:=L) _).length];exact h64,hk,λp hp=>fin _ p (Das.ints _) hp⟩
 | _=>cases ed
noncomputable def Zpc(kd:Xa->Option α)(lt:α->α->Bool):List Xa->Option OT:=λds=>match ds with|[.list es]=>if(decide (es.length<64)&&es.all λd=>(kd d).isSome)=true then some (.nd ((sLay .none (lk kd lt es) es).map OT.fz))else none|_=>none
theorem Zy7:∀ds r k,Zpc kd lt ds=some r->k r->Zxj kd lt ds k:=λds r k h hk=>by
 unfold Zpc at h
 split at h
 case h_2=>cases h
 split at h
 case isFalse=>cases h
 rename_i h2
 rw[XN]at h2
 cases h
 exact⟨_,rfl,of_decide_eq_true h2.1,λd m=>Option.isSome_iff_exists.mp (VD.mp h2.2 d m),hk⟩
end
end L2
namespace L2
open PySem PySem.Spec PyProof.Rows
variable {G:Xb}
noncomputable def Zyt:List Int->Int
 | []=>0
 | x :: xs=>xs.foldl max x
theorem Ztc(xs:List Int)(x:Int):xs.foldl max x∈x :: xs∧∀a∈x :: xs,a≤xs.foldl max x:=by
 induction xs generalizing x with
 | nil=>exact⟨.head _,λa h=>by rw[XC.mp h];exact Us _⟩
 | cons y ys ih=>
  obtain⟨h1,h2⟩:=ih (max x y)
  rw[List.foldl_cons]
  refine⟨?_,λa h=>?_⟩
  ·rcases Xl.mp h1 with h|h
   ·rw[h]
    rcases U5 x y with z|z
    ·rw[Vh z];exact .tail _ (.head _)
    ·rw[Vl z];exact .head _
   ·exact .tail _ (.tail _ h)
  ·have h0:=h2 _ (.head _)
   rcases Xl.mp h with rfl|h
   ·exact Qa (Int.le_max_left ..) h0
   ·rcases Xl.mp h with rfl|h
    ·exact Qa (Int.le_max_right ..) h0
    ·exact h2 a (.tail _ h)
theorem Zrt{ns:List Int}(h:0<ns.length):Zyt ns∈ns∧∀a∈ns,a≤Zyt ns:=by
 cases ns with
 | nil=>cases h
 | cons x xs=>exact Ztc xs x
theorem Zpy{prog:X6}{w:Qt}{A:Qk}{E:Xc->Xd->Prop}{s:Xd}{l:Addr}{xs:Array (Int×Tok)}{Q:Xc->Xd->Prop}(hh:A.handled=none)(hl:s.heap.IsTuple l (Ut xs))(hne:0<xs.size)
  (h:∀v h' tk,(Ut xs)[argBest (λi j=>decide (numAt xs i>numAt xs j)) (xs.size-1)]? =some v->(∀b o,s.heap.get? b=some o->h'.get? b=some o)->Q v { s with heap:=h',toks:=tk }) :
  XX (X7 prog w) A (call (.builtin "max") [.ref l]) Q E s:=by
 have hlt:l<s.heap.objs.size:=by obtain⟨_,e,_⟩:=hl;exact Xv e
 have hl':=hl
 obtain⟨o,eo,ec⟩:=hl'
 refine call_max_walk (wpAny_pyIter_tuple hl ?_)
 refine⟨_,_,_,_,_,_,_,rfl,Walks.tuple (A:=A.in1) hh _ l (Xn hlt) (Ut xs),⟨⟨_,Qd _ rfl,rfl,rfl⟩,⟨o,Xi _ eo,ec⟩⟩,λb hb=>?_,by simpa [Ut]using hne,CmpOf.ints_gt (numAt xs) (λ_ _=>intItems_at),λv h' tk hP hk=>?_⟩
 ·show b<(s.heap.push _).objs.size
  rw[QX]
  rcases Xl.mp hb with rfl|hb
  ·exact BJ _
  ·rw[XC.mp hb];exact Nat.lt_succ_of_lt hlt
 ·refine h v h' tk (by simpa [Ut]using hP) λb o e=>hk b o (λhm=>?_) (Xi _ e)
  rw[XC.mp hm]at e
  exact absurd (Xv e) (Br _)
noncomputable def Z5f(K:Xb):List V->Hp->VK->Prop:=λxs H Q=>∃(a:Addr) (ns:List Int),xs=[.ref a]∧(SqL K H a (ns.map V.int)∨SqT K H a (ns.map V.int))∧0<ns.length∧Q (.int (Zyt ns)) H
theorem Ztj{X:Cx}{K:Xb}(hK:X.K=K)(hc:X.calm=true):Zd9 X (.builtin "max") (Z5f K):=by
 subst hK
 intro pins s σ H xs us Q I r h
 obtain⟨a,ns,rfl,hs,hp,q⟩:=h
 obtain⟨u,rfl,ru⟩:=vals1 r
 cases(show u=Qu a from ru)
 have fin:∀{ps:List (Int×Tok)},ps.map (·.1)=ns->∀v h' tk,(Ut ps.toArray)[argBest (λi j=>decide (numAt ps.toArray i>numAt ps.toArray j)) (ps.toArray.size-1)]? =some v->(∀b o,s.heap.get? b=some o->h'.get? b=some o)->EP X pins σ Q v { s with heap:=h',toks:=tk }:=fun{ps} e2 v h' tk hv hk=>by
  have hl:ps.length=ns.length:=by rw[←e2,Xg]
  obtain⟨t,rfl⟩:=intItems_at hv
  obtain⟨h1,h2⟩:=argBest_gt (numAt ps.toArray) (ps.toArray.size-1)
  have hn:∀j,j<ps.length->numAt ps.toArray j=ns.getD j 0:=λj hj=>by
   rw[numAt_eq,←e2]
  refine⟨.int (Zyt ns),H,I.kept (t':=tk) hk,⟨t,?_⟩,q⟩
  have sz:ps.toArray.size=ns.length:=by rw[XR,hl]
  rw[sz]at h1 h2⊢
  obtain⟨m1,m2⟩:=Zrt hp
  congr 1
  generalize ej:argBest (λi j=>decide (numAt ps.toArray i>numAt ps.toArray j)) (ns.length-1)=j at h1 h2⊢
  rw[hn j (by omega)]
  refine Int.le_antisymm (m2 _ ?_) ?_
  ·rw[Xr,XJ (by omega)]
   exact Vf _
  ·obtain⟨j',hj',e⟩:=List.getElem_of_mem m1
   have:=h2 j' (by omega)
   rw[hn j (by omega),hn j' (by omega),Xr (i:=j'),XJ hj',e]at this
   exact this
 rcases hs with hs|hs
 ·obtain⟨its,rv,pl,hz⟩:=I.list hs
  obtain⟨ps,rfl,e2⟩:=Zd7 rv
  have hl:ps.length=ns.length:=by rw[←e2,Xg]
  exact max_intList (xs:=ps.toArray) (I.ok.hd hc) (by simpa [Ut]using pl.isList) (by simpa using hl▸hp) (fin e2)
 ·obtain⟨its,rv,pl,hz⟩:=I.tuple hs
  obtain⟨ps,rfl,e2⟩:=Zd7 rv
  have hl:ps.length=ns.length:=by rw[←e2,Xg]
  exact Zpy (xs:=ps.toArray) (I.ok.hd hc) (by simpa [Ut]using(show s.heap.IsTuple a _ from pl)) (by simpa using hl▸hp) (fin e2)
noncomputable def Z4r:List Xa->(Xa->Prop)->Prop:=λds k=>n1 (λd=>∃ns:List Int,(d= .list (ns.map Xo)∨d= .tuple (ns.map Xo))∧0<ns.length∧k (.int (Zyt ns))) ds
theorem Zzu:PNs G (Z5f G) Z4r:=λH L xs ds k Q hx h kk=>by
 obtain⟨v,d,rfl,rfl,q,ns,e,hp,h'⟩:=hx.one h
 rcases e with e|e
 ·subst e
  obtain⟨a,rfl,hs⟩:=q.ints_sq
  exact⟨a,ns,rfl,.inl hs,hp,kk _ _ (.int _) h'⟩
 ·generalize ed:d=d' at q
  rw[e]at ed
  cases q with
  | tup e r=>
   cases ed
   exact⟨_,ns,rfl,.inr (.inl (.inl (by rw[r.int_inv]at e;exact e))),hp,kk _ _ (.int _) h'⟩
  | _=>cases ed
noncomputable def Zw1:List Xa->Option Xa:=λds=>match ds with|[.list es]=>(Zin es).bind λns=>if 0<ns.length then some (.int (Zyt ns))else none|[.tuple es]=>(Zin es).bind λns=>if 0<ns.length then some (.int (Zyt ns))else none|_=>none
theorem Z66:∀ds r k,Zw1 ds=some r->k r->Z4r ds k:=λds r k h hk=>by
 unfold Zw1 at h
 split at h
 case h_3=>cases h
 all_goals
  obtain⟨ns,h1,h⟩:=bs h
  by_cases hp:0<ns.length
  ·rw[if_pos hp]at h
   cases h
   first
   | exact⟨ns,.inl (congrArg QH (Zfc h1)),hp,hk⟩
   | exact⟨ns,.inr (congrArg PyData.tuple (Zfc h1)),hp,hk⟩
  ·rw[if_neg hp]at h;cases h
section
variable {X:Cx}{io:List Nat}{p p' c c' q r:Bool}{a b e:Expr}{fa fb:FE}{es:List Expr}{ra:FA}{st:Stmt}{sts ss ss':List Stmt}{f g:FS}{ta:FT}
theorem xv(i:Nat){x:Str}{pos:Pos}(hN:X.N[i]? =some x:=by rfl)(hv:Vis X.env.scope x:=by first|exact Qo rfl|exact Qg (Qo rfl)|exact Qg (Qg rfl))(hd:(x==("__debug__" : Str))=false:=by decide)(he:(x==("__classdict__" : Str))=false:=by decide):ME X io true true (.Name x pos) (o2 (Zd i)):=Z5n (mv i hN hv hd he)
theorem xo(i:Nat){x:Str}{pos:Pos}(hN:X.N[i]? =some x:=by rfl)(hv:Vis X.env.scope x:=by first|exact Qo rfl|exact Qg (Qo rfl)|exact Qg (Qg rfl))(hd:(x==("__debug__" : Str))=false:=by decide)(he:(x==("__classdict__" : Str))=false:=by decide):ME X io true false (.Name x pos) (o2 (Ze0 i)):=Z6s (mo i hN hv hd he)
theorem xci{i:Int}{j:Nat}{pos:Pos}:ME X io true true (.Constant (.int i) j pos) (o2 (fC (.int i))):=Zhz Z6o
theorem xix{pos:Pos}(ha:ME X io p c a (o2 fa))(hb:ME X io p' c' b (o2 fb))(hc:p'=true∨c=true:=by first|exact Qo rfl|exact Qg rfl)(hs:Zj9 b:=by exact λ_ _=>rfl)(h2:(p&&p')=q:=by rfl)(h3:(c&&c')=r:=by rfl):ME X io q r (.Subscript a b pos) (o2 (Z2 gIx fa fb)):=h2▸h3▸Zms Yec (Yd6 (Z1g rfl) Ybe ha hb hc (hs:=hs))
theorem xa0:MA X io true true [] (o2 Zm):=Z36 Z33
theorem xa1[NoStar e](ha:ME X io p c e (o2 fa))(h2:(p&&true)=q:=by rfl)(h3:(c&&true)=r:=by rfl):MA X io q r [e] (o2 (Zc fa Zm)):=Zf ha xa0 (.inl rfl) h2 h3
theorem xsq(h:MS X io st (oS f))(k:MSs X io sts (oS g)):MSs X io (st :: sts) (oS (Zz f g)):=Z5l (Zvm h k)
theorem xst{pos px:Pos}(i:Nat){x:Str}(hN:X.N.Nodup)(he:ME X io p true e (o2 fa))(hi:X.N[i]? =some x:=by rfl)(hx:Loc X.env.scope x:=by first|exact Qo rfl|exact Qg rfl)(hio:i∉io:=by decide)(hs:Ve e (some (.Name x px)) pos.line X.env=pure false:=by rfl)(hf:X.fn x=true∨X.env.scope.names.lookup x=some .local:=by first|exact .inl rfl|exact .inr rfl|assumption):MS X io (.Assign [.Name x px] e pos) (oS (wE fa (Yt i))):=Ztd (Zsn hN hi hx he hio hs hf)
theorem xrt{pos:Pos}(h:ME X io p true e (o2 fa)):MS X io (.Return (some e) pos) (oS (wE fa J0)):=Z4b (Z30 h)
theorem xg{pos:Pos}(i:Nat){x:Str}(hN:X.N.Nodup)(hi:X.N[i]? =some x:=by rfl)(hx:Loc X.env.scope x:=by first|exact Qo rfl|exact Qg rfl)(hio:i∉io:=by decide)(hf:X.fn x=true∨X.env.scope.names.lookup x=some .local:=by first|exact .inl rfl|exact .inr rfl|assumption):MG X io true (.Name x pos) (oG (gNm i)):=Z0d (Z0a hN hi hx hio hf)
theorem xif{pos:Pos}(h:MT X io p e (o2 ta))(k:MSs X io ss (oS f))(l:MSs X io ss' (oS g)):MS X io (.If e ss ss' pos) (oS (Zax ta f g)):=Ybo (Z83 h k l)
theorem xnl:MSs X io [] (oS fNx):=Zz8 Z1u
theorem xtp{pos:Pos}{n:Nat}(h:MA X io p c es (o2 ra)):ME X io p c (.Tuple es n pos) (o2 (Zkx ra)):=Z3d (Z9k h)
theorem xls{pos:Pos}(h:MA X io p c es (o2 ra)):ME X io p c (.List es pos) (o2 (Zdm ra)):=Z6q (Z98 h)
theorem xil{tg:Expr}(h:ME X io p c e (o2 fa)):MI X io p c tg e (o2 (Zgs fa)):=Z1z (Zzf h)
theorem xno{pos:Pos}(h:MT X io p e (o2 ta)):MT X io p (.UnaryOp .Not e pos) (o2 (tNo ta)):=Z3k (Z6h h)
theorem Zgn{pos:Pos}(ha:ME X io p c a (o2 fa))(hb:ME X io p' c' b (o2 fb))(hc:p'=true∨c=true:=by first|exact Qo rfl|exact Qg rfl)(h2:(p&&p')=q:=by rfl):ME X io q true (.BinOp a .Add b pos) (o2 (Zh Zcc fa fb)):=h2▸W6 Yar (Zh0 Z5u Zjf ha hb hc)
theorem Z2d{pos:Pos}(ha:ME X io p c a (o2 fa))(hb:ME X io p' c' b (o2 fb))(hc:p'=true∨c=true:=by first|exact Qo rfl|exact Qg rfl)(h2:(p&&p')=q:=by rfl):ME X io q true (.BinOp a .Sub b pos) (o2 (Zh gSb fa fb)):=h2▸W6 Z9o (Zh0 Z6p Zjf ha hb hc)
theorem Ziv{pos:Pos}(ha:ME X io p c a (o2 fa))(hb:ME X io p' c' b (o2 fb))(hc:p'=true∨c=true:=by first|exact Qo rfl|exact Qg rfl)(h2:(p&&p')=q:=by rfl):ME X io q true (.BinOp a .Mult b pos) (o2 (Zh Zes fa fb)):=h2▸W6 Z97 (Zh0 Z04 Z6v ha hb hc)
theorem Z2g{pos:Pos}(ha:ME X io p c a (o2 fa))(hb:ME X io p' c' b (o2 fb))(hc:p'=true∨c=true:=by first|exact Qo rfl|exact Qg rfl)(h2:(p&&p')=q:=by rfl):ME X io q true (.BinOp a .Mod b pos) (o2 (Zh Zij fa fb)):=h2▸W6 Z80 (Zh0 Zzg Zqk ha hb hc)
theorem Zxn{pos:Pos}(ha:ME X io p c a (o2 fa))(hb:ME X io p' c' b (o2 fb))(hc:p'=true∨c=true:=by first|exact Qo rfl|exact Qg rfl)(h2:(p&&p')=q:=by rfl):ME X io q true (.BinOp a .FloorDiv b pos) (o2 (Zh Zbi fa fb)):=h2▸W6 Z55 (Zh0 Zvj Z41 ha hb hc)
theorem Ztu{pos:Pos}(ha:ME X io p c a (o2 fa))(hb:ME X io p' c' b (o2 fb))(hc:p'=true∨c=true:=by first|exact Qo rfl|exact Qg rfl)(h2:(p&&p')=q:=by rfl):ME X io q true (.BinOp a .Pow b pos) (o2 (Zh Zih fa fb)):=h2▸W6 Z82 (Zh0 Z09 Zye ha hb hc)
theorem xeq{pos:Pos}(hu:X.A.units+64<cLine)(ha:ME X io p c a (o2 fa))(hb:ME X io p' c' b (o2 fb))(hc:p'=true∨c=true:=by first|exact Qo rfl|exact Qg rfl)(h2:(p&&p')=q:=by rfl):MT X io q (.Compare a [.Eq] [b] pos) (o2 (tV (Zh gEq fa fb))):=h2▸Zdi Z8j (Zc5 (Zoj hu) Zv7 ha hb hc (hm:=Zbn _))
theorem xne{pos:Pos}(hu:X.A.units+64<cLine)(ha:ME X io p c a (o2 fa))(hb:ME X io p' c' b (o2 fb))(hc:p'=true∨c=true:=by first|exact Qo rfl|exact Qg rfl)(h2:(p&&p')=q:=by rfl):MT X io q (.Compare a [.NotEq] [b] pos) (o2 (tV (Zh gNe fa fb))):=h2▸Zdi Yfc (Zc5 (Z7j hu) Z91 ha hb hc (hm:=Zbn _))
theorem xlt{pos:Pos}(ha:ME X io p c a (o2 fa))(hb:ME X io p' c' b (o2 fb))(hc:p'=true∨c=true:=by first|exact Qo rfl|exact Qg rfl)(h2:(p&&p')=q:=by rfl):MT X io q (.Compare a [.Lt] [b] pos) (o2 (tV (Zh gLt fa fb))):=h2▸Zdi Ydf (Zc5 Z3a Zlt ha hb hc (hm:=Zbn _))
theorem xgt{pos:Pos}(ha:ME X io p c a (o2 fa))(hb:ME X io p' c' b (o2 fb))(hc:p'=true∨c=true:=by first|exact Qo rfl|exact Qg rfl)(h2:(p&&p')=q:=by rfl):MT X io q (.Compare a [.Gt] [b] pos) (o2 (tV (Zh gGt fa fb))):=h2▸Zdi Yes (Zc5 Ya9 Zlt ha hb hc (hm:=Zbn _))
theorem xle{pos:Pos}(ha:ME X io p c a (o2 fa))(hb:ME X io p' c' b (o2 fb))(hc:p'=true∨c=true:=by first|exact Qo rfl|exact Qg rfl)(h2:(p&&p')=q:=by rfl):MT X io q (.Compare a [.LtE] [b] pos) (o2 (tV (Zh gLe fa fb))):=h2▸Zdi Yeo (Zc5 Ybi Zlt ha hb hc (hm:=Zbn _))
theorem xge{pos:Pos}(ha:ME X io p c a (o2 fa))(hb:ME X io p' c' b (o2 fb))(hc:p'=true∨c=true:=by first|exact Qo rfl|exact Qg rfl)(h2:(p&&p')=q:=by rfl):MT X io q (.Compare a [.GtE] [b] pos) (o2 (tV (Zh gGe fa fb))):=h2▸Zdi Ydt (Zc5 Ybf Zlt ha hb hc (hm:=Zbn _))
theorem xfr{pos:Pos}{tg:Expr}{it:FI}{gg:FG}(hp:PassesOwn (X7 X.prog X.w) X.A X.env X.xe)(hc:X.calm=true)(hi:MI X io p true tg e (o2 it))(hg:MG X io true tg (oG gg))(hb:MSs X io ss (oS f))(hs:∀x,Bu e X.env x=pure x:=by intro _;rfl):MS X io (.For tg e ss [] pos) (oS (Jk it gg f)):=Z5k (Z40 hp hc hi hg hb hs)
theorem xg2{pos:Pos}{n:Nat}{g1 g2:FG}(hc:X.calm=true)(ha:MG X io true a (oG g1))(hb:MG X io true b (oG g2))(h1:List.map (λx=>x.snd) (QT [a,b] X.env)=Vx a X.env :: List.map (λx=>x.snd) (QT [b] X.env):=by rfl)(h2:List.map (λx=>x.snd) (QT [b] X.env)=Vx b X.env :: List.map (λx=>x.snd) (QT [] X.env):=by rfl)(h3:(QT [a,b] X.env).length=2:=by rfl)(h4:List.findIdx? (λx=>x.fst) (QT [a,b] X.env)=none:=by rfl):MG X io true (.Tuple [a,b] n pos) (oG (gTp 2 (gCn g1 (gCn g2 gNl)))):=Zxy (Zyi (n:=2) hc (Zg5 (Zpb ha (Zg5 (Zpb hb (Ztf Zrl) h2)) h1)) h3 h4)
theorem xso{pos px:Pos}(i:Nat){x:Str}(hN:X.N.Nodup)(he:ME X io p true e (o2 fa))(hi:X.N[i]? =some x:=by rfl)(hx:Loc X.env.scope x:=by first|exact Qo rfl|exact Qg rfl)(hio:i∉io:=by decide)(hs:Ve e (some (.Name x px)) pos.line X.env=pure false:=by rfl)(hf:X.fn x=true∨X.env.scope.names.lookup x=some .local:=by first|exact .inl rfl|exact .inr rfl|assumption):MS X io (.Assign [.Name x px] e pos) (oS (wE fa (Zcd i))):=Zz1 (Zy5 hN hi hx he hio hs hf)
theorem xcl{pos pp:Pos}{k:Nat}{f:Addr}{fd:Xp}{ps:List Str}{x:Str}{F:FD}(G:FnOk X.prog X.w X.K X.mg X.base CX0 k f fd ps (spD X.K (sD F)))(hr:Room k X.A)(hm:X.mg x=some (.ref f))(hk:QW X.K (.ref f)=true)(hb:Binds X.K fd ps [])(ha:MA X io p c (e :: es) (o2 ra))(hg:Gl X x:=by rfl)(h1:(x==("__debug__" : Str))=false:=by decide)(h2:Xh (e :: es) X.env=(false,eval e X.env) :: Xh es X.env:=by rfl)(h3:((Q6 pos (Xh es X.env)).any λx=>x.fst)=false:=by rfl):ME X io p c (.Call (.Name x pp) (e :: es) [] pos) (o2 (Zv F ra)):=Zyq (Z3h G hr hg hm hk hb Jp ha h1 h2 h3)
theorem xln{pos pp:Pos}(hm:X.mg "len"=none)(ha:MA X io p c [e] (o2 ra))(hg:Gl X "len" :=by rfl)(h2:Xh [e] X.env=(false,eval e X.env) :: Xh [] X.env:=by rfl):ME X io p true (.Call (.Name "len" pp) [e] [] pos) (o2 (Zce Zgx ra)):=Zb5 Ybd (Zl3 Z35 (Zt1 rfl) hg hm L2.B.boot_len ha (by decide) (by decide) h2 (by rfl))
end
noncomputable def tbl(P:List Nat)(led:Bool):SetTable:={ mask:=7,place:=P.toArray,dummies:=#[],finger:=0,led,moves:=0,plain:=true }
noncomputable def hT(k:List Int):Int:=reduceHash (Builtin.Tuple.tupleHashOf (k.map hashInt))
noncomputable def hAt(ks:List (List Int))(i:Nat):Int:=(ks[i]?.map hT).getD 0
noncomputable def Yay(P:List Nat)(j:Nat):List Nat:=((tbl P false).put j).1.place.toList
noncomputable def Ybx(P:List Nat)(j:Nat):Nat:=((tbl P false).put j).2
noncomputable def Yei(ks:List (List Int))(p:Nat)(k:List Int):List (List Int):=ks.take p ++ k :: ks.drop p
noncomputable def Yd8(P:List Nat)(ks:List (List Int))(k:List Int):Option (List Nat×List (List Int)) :=
 match(tbl P false).probe (hAt ks) (hT k) ((tbl P false).probeStart (hT k))with
 | some (.empty j none)=>if(tbl (Yay P j) false).tooFull=false∧(Yay P j).length=ks.length+1∧ks.length≤6∧Ybx P j≤ks.length then some (Yay P j,Yei ks (Ybx P j) k)else none
 | some (.candidate _ i _)=>if ks[i]? =some k then some (P,ks)else none
 | _=>none
noncomputable def grow(K:List (List Int)):Nat->List (List Nat×List (List Int))->List (List Nat×List (List Int))
 | 0,S=>S
 | n+1,S=>grow K n (S ++ (S.flatMap λs=>K.filterMap λk=>Yd8 s.1 s.2 k).filter λs=>!S.contains s)
noncomputable def K2:List (List Int):=[[0,0],[0,1],[1,0],[1,1]]
noncomputable def S2:List (List Nat×List (List Int)):=(grow K2 4 [([],[])]).eraseDups
section
variable {prog:X6}{w:Qt}{A:Qk}{E:Xc->Xd->Prop}{s:Xd}
inductive KeysIn(U:Addr->List Int->Prop):List (List Int)->List (Int×Xc)->Prop
 | nil:KeysIn U [] []
 | cons {k:List Int} {a:Addr} {ks:List (List Int)} {l:List (Int×Xc)} (h:U a k) (t:KeysIn U ks l):KeysIn U (k :: ks) ((hT k,.ref a) :: l)
theorem KeysIn.hash{U:Addr->List Int->Prop}{ks:List (List Int)}{l:List (Int×Xc)}(h:KeysIn U ks l):l.map (·.1)=ks.map hT:=by
 induction h with
 | nil=>rfl
 | cons _ _ ih=>rw[Ql,Ql,ih]
noncomputable abbrev IK(prog:X6)(w:Qt)(h:Heap)(k:List Int)(a:Addr):Prop:=IsTupleKey (intKind prog w) h k a
theorem items_int{ks:List Int}{vs:List Xc}(h:ItemsAre (intKind prog w) ks vs):∀v∈vs,∃i t,v= .int i t:=by
 induction h with
 | nil=>exact λ_ m=>nomatch m
 | cons h _ ih=>
  intro v hv
  rcases Xl.mp hv with rfl|hv
  ·obtain⟨t,e⟩:=Value.isInt_shape h
   exact⟨_,t,e⟩
  ·exact ih v hv
theorem KeysIn.at{U:Addr->List Int->Prop}{ks:List (List Int)}{es:Array (Int×Xc)}(h:KeysIn U ks es.toList)(i:Nat):(es[i]?.map (·.1)).getD 0=hAt ks i:=by
 unfold hAt
 rw[←Xm,←h.hash,Xm,U8]
end
section
variable {prog:X6}{w:Qt}{A:Qk}{R:Result->Xd->Prop}{I:Addr}{fp wr:List Addr}{n:Nat}{Pv:Nat->Xc->Prop}{St:Nat->Heap->Prop}
end
inductive Z9n(H:Hp):List V->List (List Int)->Prop
 | nil:Z9n H [] []
 | cons {a:Addr} {k:List Int} {xs:List V} {ks:List (List Int)} (h:H a=some (.tup (k.map V.int))) (t:Z9n H xs ks):Z9n H (.ref a :: xs) (k :: ks)
section
variable {X:Cx}{p c:Bool}{io:List Nat}{a e:Expr}{pos pos' pl pr:Pos}{t:TA}{mr:MAt}{ra:FA}
end
noncomputable abbrev Ydv(h:Heap)(T:Addr)(a b c:Xc):Prop:=h.get? T=some { cls:=.type "tuple",data:=.seq #[a,b,c] }
structure Z3A(z TI TO i1 i2 i3:Addr)(f1 f2 f3:List Addr):Prop where
 TIz:TI≠z
 TOz:TO≠z
 a1:∀c∈f1,c≠z∧c≠TO∧c≠i2∧c≠i3
 a2:∀c∈f2,c≠z∧c≠TO∧c≠i1∧c≠i3
 a3:∀c∈f3,c≠z∧c≠TO∧c≠i1∧c≠i2
section
variable {P:X6}{w:Qt}{A:Qk}{E:Xc->Xd->Prop}{s:Xd}
end
noncomputable abbrev z3A(h:Heap)(a:Addr):Heap:=h.push { cls:=.type "list_iterator",data:=.fields #[.ref a,.int 0 0] }
noncomputable abbrev z3B(h:Heap)(a b:Addr):Heap:=z3A (z3A h a) b
noncomputable abbrev z3C(h:Heap)(a b c:Addr):Heap:=z3A (z3B h a b) c
noncomputable abbrev z3D(h:Heap)(a b c:Addr):Heap:=(z3C h a b c).push { cls:=.type "tuple",data:=.seq #[.ref h.objs.size,.ref (z3A h a).objs.size,.ref (z3B h a b).objs.size] }
noncomputable abbrev z3E(h:Heap)(a b c:Addr):Heap:=(z3D h a b c).push { cls:=.type "tuple",data:=.seq #[.none,.none,.none] }
noncomputable abbrev z3F(h:Heap)(a b c:Addr):Heap:=(z3E h a b c).push { cls:=.type "zip",data:=.fields #[.none,.bool false,.bool false,.ref (z3C h a b c).objs.size,.ref (z3D h a b c).objs.size] }
section
variable {P:X6}{w:Qt}{A:Qk}{E:Xc->Xd->Prop}{s:Xd}
end
section
variable {X:Cx}{io:List Nat}{p c:Bool}{a b e:Expr}{mr:MAt}{ra:FA}
end
noncomputable def Up(xs:List Nat):Prop:=xs.Pairwise (·<·)
structure Tb(b:Bool)(t:SetTable):Prop where
 led:t.led=b
 up:t.plain=true->Up t.place.toList
section
variable {κ:Type}[DecidableEq κ]
noncomputable def Zul(kvs:List (κ×V))(k:κ):Option V:=(kvs.find? λkv=>decide (kv.1=k)).map (·.2)
noncomputable def putK(kvs:List (κ×V))(k:κ)(v:V):List (κ×V) :=
 if(kvs.any λkv=>decide (kv.1=k))=true then kvs.map (λkv=>if kv.1=k then(kv.1,v)else kv)else kvs ++ [(k,v)]
theorem Zwe{p:κ×V}{r:List (κ×V)}{k:κ}(e:p.1=k):Zul (p :: r) k=some p.2:=by simp[Zul,List.find?_cons,e]
theorem Zu5{p:κ×V}{r:List (κ×V)}{k:κ}(e:¬p.1=k):Zul (p :: r) k=Zul r k:=by simp[Zul,List.find?_cons,e]
theorem RelO.getD{o:Option V}{u:Option Xc}{d:V}{d':Xc}(r:RelO o u)(rd:RelV d d'):RelV (o.getD d) (u.getD d'):=by
 cases o with
 | none=>cases u with
  | none=>exact rd
  | some _=>exact(show False from r).elim
 | some _=>cases u with
  | none=>exact(show False from r).elim
  | some _=>exact r
theorem KV.length{kvs:List (κ×V)}{vs:List (κ×Xc)}(r:KV kvs vs):kvs.length=vs.length:=Paired.length r
end
noncomputable abbrev KT(H:Hp):List (List Key×V)->List (List Key×Addr×Xc)->Prop:=Paired λp q=>p.1=q.1∧H q.2.1=some (.tup (p.1.map kV))∧RelV p.2 q.2.2
section
variable {P:X6}{w:Qt}{H:Hp}{h:Heap}{a:Addr}
end
noncomputable def DGet(H:Hp)(a:Addr)(y:V)(r:Option V):Prop :=
 (∃ kvs k,Rd H a (.dK kvs)∧y=kV k∧r=Zul kvs k)∨∃kvs k b,Rd H a (.dT kvs)∧y= .ref b∧H b=some (.tup (k.map kV))∧r=Zul kvs k
noncomputable def DPut(H:Hp)(a:Addr)(y v:V)(H':Hp):Prop :=
 (∃ kvs k,H a=some (.dK kvs)∧y=kV k∧kvs.length<Xq∧H'=upd H a (.dK (putK kvs k v)))∨
 ∃kvs k b,H a=some (.dT kvs)∧y= .ref b∧H b=some (.tup (k.map kV))∧kvs.length<Xq∧H'=upd H a (.dT (putK kvs k v))
theorem DGet.k{H:Hp}{a:Addr}{kvs:List (Key×V)}{k:Key}(e:H a=some (.dK kvs)):DGet H a (kV k) (Zul kvs k):=.inl ⟨kvs,k,.inl e,rfl,rfl⟩
theorem DGet.t{H:Hp}{a b:Addr}{kvs:List (List Key×V)}{k:List Key}(e:H a=some (.dT kvs))(eb:H b=some (.tup (k.map kV))):DGet H a (.ref b) (Zul kvs k):=.inr ⟨kvs,k,b,.inl e,rfl,eb,rfl⟩
theorem DPut.k{H:Hp}{a:Addr}{kvs:List (Key×V)}{k:Key}{v:V}(e:H a=some (.dK kvs))(hl:kvs.length<Xq):DPut H a (kV k) v (upd H a (.dK (putK kvs k v))):=.inl ⟨kvs,k,e,rfl,hl,rfl⟩
theorem DPut.t{H:Hp}{a b:Addr}{kvs:List (List Key×V)}{k:List Key}{v:V}(e:H a=some (.dT kvs))(eb:H b=some (.tup (k.map kV)))(hl:kvs.length<Xq) :
  DPut H a (.ref b) v (upd H a (.dT (putK kvs k v))):=.inr ⟨kvs,k,b,e,rfl,eb,hl,rfl⟩
section
variable {X:Cx}{pins:List (Addr×Obj)}{σ:St}{H:Hp}{s:Xd}{a:Addr}{y v:V}{u r:Xc}{o:Option V}{A:Qk}{E:Xc->Xd->Prop}
end
section
variable {X:Cx}{pins:List (Addr×Obj)}{σ:St}{H:Hp}{s:Xd}{a:Addr}{kvs:List (Key×V)}{k:Key}{u:Xc}{A:Qk}{E:Xc->Xd->Prop}
end
section
variable {X:Cx}{o i e value:Expr}{pos pos' tpos:Pos}{td ty tv:TE}
end
section
variable {X:Cx}{pos:Pos}
end
noncomputable abbrev VV:List (V×V)->List (Xc×Xc)->Prop:=Paired λp q=>RelV p.1 q.1∧RelV p.2 q.2
structure M1(X:Cx)(o:Expr)(m:Str)(apos:Pos)(e:Expr)(cpos:Pos):Prop where
 base:attributeBase o m X.env (eval o X.env)=eval o X.env
 few:((Q6 cpos (Xh [e] X.env)).all (λx=>!x.1)&&(backToKw cpos (keywordEach [] X.env)).all (λx=>x.1.isSome)
  &&decide (([e]:List Expr).length+([]:List Keyword).length+(if([]:List Keyword).isEmpty then 0 else 1)<30))=true
 line:(apos.endLine==cpos.line)=true
 trees:Q6 cpos (Xh [e] X.env)=[(false,eval e X.env)]
structure M2(X:Cx)(o:Expr)(m:Str)(apos:Pos)(e f:Expr)(cpos:Pos):Prop where
 base:attributeBase o m X.env (eval o X.env)=eval o X.env
 few:((Q6 cpos (Xh [e,f] X.env)).all (λx=>!x.1)&&(backToKw cpos (keywordEach [] X.env)).all (λx=>x.1.isSome)
  &&decide (([e,f]:List Expr).length+([]:List Keyword).length+(if([]:List Keyword).isEmpty then 0 else 1)<30))=true
 line:(apos.endLine==cpos.line)=true
 trees:Q6 cpos (Xh [e,f] X.env)=[(false,eval e X.env),(false,eval f X.env)]
section
variable {X:Cx}{pins:List (Addr×Obj)}{σ:St}{H:Hp}{s:Xd}{a:Addr}{y d:V}{u r:Xc}{o:Option V}{A:Qk}{E:Xc->Xd->Prop}
end
section
variable {X:Cx}{o e f:Expr}{apos cpos:Pos}{td ty tx:TE}
end
variable {G:Xb}
noncomputable def Yaf(k:KY):List KY->List Xa->Option Xa
 | [],_=>none
 | _ :: _,[]=>none
 | j :: ks,d :: ds=>if j=k then some d else Yaf k ks ds
section
variable {H:Hp}{L:Addr->Prop}{κ:Type}[DecidableEq κ]{f:κ->KY}
noncomputable def Yc0(G:Xb)(H:Hp)(L:Addr->Prop)(a:Option V)(b:Option Xa):Prop:=(∃v d,a=some v∧b=some d∧Da G H L v d)∨(a=none∧b=none)
theorem look(hf:∀a b,f a=f b->a=b)(k:κ)(kvs:List (κ×V)):∀ds,Das G H L (kvs.map (·.2)) ds->Yc0 G H L (Zul kvs k) (Yaf (f k) (kvs.map λp=>f p.1) ds):=by
 induction kvs with
 | nil=>exact λds _=>.inr ⟨rfl,rfl⟩
 | cons p kvs ih=>
  intro ds h
  cases h with
  | cons h r=>
   rename_i d ds
   show Yc0 G H L _ (if f p.1=f k then some d else Yaf (f k) (kvs.map λp=>f p.1) ds)
   by_cases e:p.1=k
   ·rw[Zwe e,if_pos (congrArg f e)]
    exact .inl ⟨_,_,rfl,rfl,h⟩
   ·rw[Zu5 e,if_neg λz=>e (hf _ _ z)]
    exact ih _ r
end
section
variable {H:Hp}{L:Addr->Prop}{y:V}{e:Xa}
end
end L2
namespace L2
open PySem PySem.Spec PyProof.Rows PySem.W PySem.SeqAt
variable {G:Xb}
section
variable {prog:X6}{w:Qt}{A:Qk}{E:Xc->Xd->Prop}{s:Xd}
end
theorem Paired.at{α β:Type}{R:α->β->Prop}{as:List α}{bs:List β}(h:PySem.Paired R as bs):∀{i:Nat} {y:β},bs[i]? =some y->∃x,as[i]? =some x∧R x y:=by
 induction h with
 | nil=>intro i y z;cases z
 | cons h t ih=>
  intro i y z
  cases i with
  | zero=>cases z;exact⟨_,rfl,h⟩
  | succ i=>exact ih z
end L2
namespace L2
open PySem PySem.Spec PyProof.Rows
noncomputable def Yb0(o:Option (Option OT))(δ:Zg):Option (OT×Zg):=match o with|some (some (.fz d))=>some (.fz d,δ)|_=>none
theorem Z0s(d:Xa)(δ:Zg):Yb0 (some (some (.fz d))) δ=some (.fz d,δ):=rfl
noncomputable def Z61(o:Option (Option OT))(δ:Zg):Option (OT×Zg):=match o with|some (some t)=>some (.fz t.data,δ)|_=>none
theorem Zz7(t:OT)(δ:Zg):Z61 (some (some t)) δ=some (.fz t.data,δ):=rfl
theorem Z0o(i:Nat)(δ:Zg):Zd i δ=Yb0 δ[i]? δ:=rfl
theorem Z1l(i:Nat)(δ:Zg):Ze0 i δ=Z61 δ[i]? δ:=rfl
theorem Z5q(d:Xa)(δ:Zg):fC d δ=some (.fz d,δ):=rfl
theorem Zog(g:Xa->Xa->Option Xa)(a b:FE)(δ:Zg):Zh g a b δ=(a δ).bind λp=>(b p.2).bind λq=>(g p.1.data q.1.data).bind λd=>some (.fz d,q.2):=rfl
theorem Zrg(g:Xa->Xa->Option OT)(a b:FE)(δ:Zg):Z2 g a b δ=(a δ).bind λp=>(b p.2).bind λq=>(g p.1.data q.1.data).bind λd=>some (d,q.2):=rfl
theorem Z4i(g:Xa->Option Xa)(a:FE)(δ:Zg):fUn g a δ=(a δ).bind λp=>(g p.1.data).bind λd=>some (.fz d,p.2):=rfl
noncomputable def onB{α:Type}(d:Xa)(x y:Option α):Option α:=match d with| .bool true=>x| .bool false=>y|_=>none
theorem Z9u{α:Type}(x y:Option α):onB (.bool true) x y=x:=rfl
theorem Z9t{α:Type}(x y:Option α):onB (.bool false) x y=y:=rfl
theorem Zt5(a b:FE)(δ:Zg):Zvt a b δ=(a δ).bind λp=>onB p.1.data (b p.2) (some (.fz (.bool false),p.2)):=by
 unfold Zvt onB
 cases a δ with
 | none=>rfl
 | some p=>first|rfl|(simp only[Xf];done)|(simp only[Xf];generalize p.1.data=d;cases d<;>first|rfl|(rename_i b;cases b<;>rfl))
theorem Ycg(a b:FE)(δ:Zg):fOr a b δ=(a δ).bind λp=>onB p.1.data (some (.fz (.bool true),p.2)) (b p.2):=by
 unfold fOr onB
 cases a δ with
 | none=>rfl
 | some p=>first|rfl|(simp only[Xf];done)|(simp only[Xf];generalize p.1.data=d;cases d<;>first|rfl|(rename_i b;cases b<;>rfl))
theorem Yde(t:FT)(a b:FE)(δ:Zg):fIf t a b δ=(t δ).bind λp=>if p.1=true then a p.2 else b p.2:=rfl
noncomputable def Ybm(t:OT)(δ:Zg):Option (Bool×Zg):=match t with| .fz (.bool b)=>some (b,δ)|_=>none
theorem Z2m(b:Bool)(δ:Zg):Ybm (.fz (.bool b)) δ=some (b,δ):=rfl
theorem Yap(e:FE)(δ:Zg):tV e δ=(e δ).bind λp=>Ybm p.1 p.2:=by
 unfold tV Ybm
 cases e δ with
 | none=>rfl
 | some p=>rfl
theorem Z5h(t:FT)(δ:Zg):tNo t δ=(t δ).bind λp=>some (!p.1,p.2):=rfl
theorem Zxz(t u:FT)(δ:Zg):tAn t u δ=(t δ).bind λp=>if p.1=true then u p.2 else some (false,p.2):=rfl
theorem Z9i(t u:FT)(δ:Zg):tO t u δ=(t δ).bind λp=>if p.1=true then some (true,p.2)else u p.2:=rfl
theorem Z84(e:FE)(δ:Zg):tD e δ=(e δ).bind λp=>(Zvl p.1.data).bind λb=>some (b,p.2):=rfl
theorem Z89(δ:Zg):Zfg δ=some (true,δ):=rfl
theorem Yak(δ:Zg):Zm δ=some ([],δ):=rfl
theorem Zfe(e:FE)(a:FA)(δ:Zg):Zc e a δ=(e δ).bind λp=>(a p.2).bind λq=>some (p.1 :: q.1,q.2):=rfl
theorem Zth(a:FA)(δ:Zg):Zkx a δ=(a δ).bind λp=>if p.1.length≤Xq then some (.fz (.tuple (OT.datas p.1)),p.2)else none:=rfl
theorem Zjm(a:FA)(δ:Zg):Zdm a δ=(a δ).bind λp=>if p.1.length≤Xq then some (.nd p.1,p.2)else none:=rfl
theorem Z75(a:FA)(δ:Zg):Z8s a δ=(a δ).bind λp=>if p.1.length≤Xq then some (.tp p.1,p.2)else none:=rfl
theorem Zo1(e:FE)(δ:Zg):Zp9 e δ=(e δ).bind λp=>if Zb3 p.1.data=true then some (.fz p.1.data,p.2)else none:=rfl
theorem Z7l(e:FE)(δ:Zg):Z60 e δ=(e δ).bind λp=>if Z1p p.1=true then some (p.1,p.2)else none:=rfl
noncomputable def okO(x:RF)(δ:Zg):Option (OT×Zg):=match x with| .ok r=>some (r,δ)|_=>none
theorem Z3y(r:OT)(δ:Zg):okO (.ok r) δ=some (r,δ):=rfl
theorem Zg1(F:FD)(a:FA)(δ:Zg):Zv F a δ=(a δ).bind λp=>okO (F (OT.datas p.1)) p.2:=by
 unfold Zv okO
 cases a δ with
 | none=>rfl
 | some p=>rfl
noncomputable def atO{α:Type}(o:Option (Option OT))(k:OT->Option α):Option α:=match o with|some (some t)=>k t|_=>none
theorem Ye0{α:Type}(t:OT)(k:OT->Option α):atO (some (some t)) k=k t:=rfl
theorem Zlw(i:Nat)(F:FIO)(a:FA)(δ:Zg):Z5 i F a δ=atO δ[i]? λ_=>(a δ).bind λp=>atO p.2[i]? λt=>(F t (OT.datas p.1)).bind λq=>some (q.1,p.2.set i (some q.2)):=by
 unfold Z5
 generalize δ[i]? =o
 rcases o with _|_|t
 ·rfl
 ·rfl
 ·show(a δ).bind _=(a δ).bind _
  cases a δ with
  | none=>rfl
  | some p=>
   show(λo:Option (Option OT)=>(match o with|some (some t)=>(F t (OT.datas p.1)).bind λq=>some (q.1,p.2.set i (some q.2))|_=>none)) p.2[i]? =atO p.2[i]? _
   generalize p.2[i]? =o
   rcases o with _|_|t<;>rfl
theorem Zzy(g:List Xa->Option Xa)(a:FA)(δ:Zg):Zce g a δ=(a δ).bind λp=>(g (OT.datas p.1)).bind λd=>some (.fz d,p.2):=rfl
theorem Z2s(g:List Xa->Option OT)(a:FA)(δ:Zg):fBl g a δ=(a δ).bind λp=>(g (OT.datas p.1)).bind λd=>some (d,p.2):=rfl
theorem Z9r(T:String)(e:FE)(δ:Zg):Z8o T e δ=(e δ).bind λp=>if Zlf p.1.data=true then none else some (.fz (.bool (Zum T p.1.data)),p.2):=rfl
theorem Ye2(δ:Zg):oN δ=some (none,δ):=rfl
noncomputable def asInt{α:Type}(d:Xa)(k:Int->Option α):Option α:=match d with| .int i=>k i|_=>none
theorem Ztb{α:Type}(i:Int)(k:Int->Option α):asInt (.int i) k=k i:=rfl
noncomputable def Zr4{α:Type}(d:Xa)(k:List Xa->Option α):Option α:=match d with| .list i=>k i|_=>none
theorem Zrm{α:Type}(i:List Xa)(k:List Xa->Option α):Zr4 (.list i) k=k i:=rfl
noncomputable def Zzo{α:Type}(d:Xa)(k:List Xa->Option α):Option α:=match d with| .tuple i=>k i|_=>none
theorem Yau{α:Type}(i:List Xa)(k:List Xa->Option α):Zzo (.tuple i) k=k i:=rfl
theorem Z88(e:FE)(δ:Zg):oI e δ=(e δ).bind λp=>asInt p.1.data λi=>some (some i,p.2):=by
 unfold oI asInt
 cases e δ with
 | none=>rfl
 | some p=>rfl
theorem Z6r(e:FE)(lo hi:FO)(δ:Zg):fSl e lo hi δ=(e δ).bind λp=>(lo p.2).bind λq=>(hi q.2).bind λr=>Zr4 p.1.data λds=>some (.nd ((cutD ds q.1 r.1).map OT.fz),r.2):=by
 unfold fSl Zr4;rfl
theorem Zzm(e:FE)(δ:Zg):Zgs e δ=(e δ).bind λp=>Zr4 p.1.data λds=>some (ds,p.2):=by
 unfold Zgs Zr4;rfl
theorem Ycl(e:FE)(δ:Zg):iTp e δ=(e δ).bind λp=>Zzo p.1.data λds=>some (ds,p.2):=by
 unfold iTp Zzo;rfl
noncomputable def as1{α:Type}(ds:List Xa)(k:Int->Option α):Option α:=match ds with|[.int i]=>k i|_=>none
theorem Z3j{α:Type}(i:Int)(k:Int->Option α):as1 [.int i] k=k i:=rfl
noncomputable def as2{α:Type}(ds:List Xa)(k:Int->Int->Option α):Option α:=match ds with|[.int i,.int j]=>k i j|_=>none
theorem Z93{α:Type}(i j:Int)(k:Int->Int->Option α):as2 [.int i,.int j] k=k i j:=rfl
theorem Zx6(a:FA)(δ:Zg):iRa a δ=(a δ).bind λp=>as1 (OT.datas p.1) λj=>if rOk j=true then some (Zd4 0 j.toNat,p.2)else none:=by
 unfold iRa as1;rfl
theorem Z5d(a:FA)(δ:Zg):iRb a δ=(a δ).bind λp=>as2 (OT.datas p.1) λi j=>if(rOk i&&rOk j)=true then some (Zd4 i (j-i).toNat,p.2)else none:=by
 unfold iRb as2;rfl
theorem Yaa(a:FA)(δ:Zg):Yc2 a δ=(a δ).bind λp=>as1 (OT.datas p.1) λj=>if rOk j=true∧j.toNat≤Xq then some (.nd ((Zd4 0 j.toNat).map OT.fz),p.2)else none:=by
 unfold Yc2 as1;rfl
theorem Znt(a b:FE)(δ:Zg):Z05 a b δ=(a δ).bind λp=>(b p.2).bind λq=>asInt q.1.data λk=>if rOk k=true∧k.toNat≤Xq then some (.nd (Xz k.toNat (.fz p.1.data)),p.2)else none:=by
 unfold Z05 asInt;rfl
noncomputable def Z8w{α:Type}(ds:List Xa)(k:List Xa->List Xa->Option α):Option α:=match ds with|[.list i,.list j]=>k i j|_=>none
theorem Ybq{α:Type}(i j:List Xa)(k:List Xa->List Xa->Option α):Z8w [.list i,.list j] k=k i j:=rfl
theorem Z8e(a:FA)(δ:Zg):Z2u a δ=(a δ).bind λp=>Z8w (OT.datas p.1) λas bs=>some (Zn0 as bs,p.2):=by
 unfold Z2u Z8w;rfl
theorem Ydk(i:Nat)(d:Xa)(δ:Zg):gNm i d δ=some (δ.set i (some (.fz d))):=rfl
theorem Z99(i:Nat)(d:Xa)(δ:Zg):Zvu i d δ=if Zb3 d=true then some (δ.set i (some (.fz d)))else none:=rfl
theorem Ycf(δ:Zg):gNl [] δ=some δ:=rfl
theorem Yc7(g:FG)(gs:FGs)(d:Xa)(r:List Xa)(δ:Zg):gCn g gs (d :: r) δ=(g d δ).bind (gs r):=rfl
theorem Yc4(n:Nat)(gs:FGs)(ds:List Xa)(δ:Zg):gTp n gs (.tuple ds) δ=if ds.length=n then gs ds δ else none:=rfl
theorem Ycs(n:Nat)(gs:FGs)(ds:List Xa)(δ:Zg):gLs n gs (.list ds) δ=if ds.length=n then gs ds δ else none:=rfl
noncomputable def RS.thn(r:RS)(g:FS):RS:=match r with| .nx δ=>g δ|r=>r
theorem Zsj(δ:Zg)(g:FS):(RS.nx δ).thn g=g δ:=rfl
theorem Zyo(r:OT)(δ:Zg)(g:FS):(RS.rt r δ).thn g= .rt r δ:=rfl
theorem Ybu(δ:Zg)(g:FS):(RS.bk δ).thn g= .bk δ:=rfl
theorem Yb1(δ:Zg)(g:FS):(RS.ct δ).thn g= .ct δ:=rfl
theorem Ycr(c:Str)(δ:Zg)(g:FS):(RS.ex c δ).thn g= .ex c δ:=rfl
theorem Zhc(f g:FS)(δ:Zg):Zz f g δ=(f δ).thn g:=rfl
theorem Yci(δ:Zg):fNx δ= .nx δ:=rfl
theorem Ya0(δ:Zg):Ye9 δ= .bk δ:=rfl
theorem Z8r(δ:Zg):Ydw δ= .ct δ:=rfl
theorem Z7k(c:Str)(δ:Zg):Zml c δ= .ex c δ:=rfl
theorem Z8h(δ:Zg):Yaj δ= .rt (.fz .none) δ:=rfl
noncomputable def onO{α:Type}(o:Option (α×Zg))(k:α->Zg->RS):RS:=match o with|some (r,δ')=>k r δ'|none=>.bad
theorem Yw{α:Type}(r:α)(δ:Zg)(k:α->Zg->RS):onO (some (r,δ)) k=k r δ:=rfl
theorem Zbx(e:FE)(k:OT->Zg->RS)(δ:Zg):wE e k δ=onO (e δ) k:=by
 unfold wE onO
 cases e δ<;>rfl
noncomputable def onF(x:RF)(δ:Zg)(k:OT->Zg->RS):RS:=match x with| .ok r=>k r δ| .exn c=>.ex c δ| .bad=>.bad
theorem Zym(r:OT)(δ:Zg)(k:OT->Zg->RS):onF (.ok r) δ k=k r δ:=rfl
theorem Z6w(c:Str)(δ:Zg)(k:OT->Zg->RS):onF (.exn c) δ k= .ex c δ:=rfl
theorem Zzr(F:FD)(a:FA)(k:OT->Zg->RS)(δ:Zg):wX F a k δ=onO (a δ) λrs δ1=>onF (F (OT.datas rs)) δ1 k:=by
 unfold wX onO onF
 cases a δ with
 | none=>rfl
 | some p=>rfl
theorem Zrj(t:FT)(u w:FS)(δ:Zg):Zax t u w δ=onO (t δ) λb δ'=>if b=true then u δ' else w δ':=by
 unfold Zax onO
 cases t δ<;>rfl
theorem Zzv(it:FI)(g:FG)(u:FS)(δ:Zg):Jk it g u δ=onO (it δ) λds δ1=>forLoop g u ds δ1:=by
 unfold Jk onO
 cases it δ<;>rfl
theorem Z70(r:OT)(δ:Zg):Zhj r δ= .nx δ:=rfl
theorem Zqr(r:OT)(δ:Zg):J0 r δ= .rt r δ:=rfl
theorem Z78(r:OT)(δ:Zg):Yaw r δ=if Zb3 r.data=true then .rt (.fz r.data) δ else .bad:=rfl
theorem Zia(i:Nat)(r:OT)(δ:Zg):Yt i r δ= .nx (δ.set i (some (.fz r.data))):=rfl
theorem Z79(i:Nat)(r:OT)(δ:Zg):Z9q i r δ=if Zb3 r.data=true then .nx (δ.set i (some (.fz r.data)))else .bad:=rfl
theorem Zwc(i:Nat)(r:OT)(δ:Zg):Zcd i r δ= .nx (δ.set i (some r)):=rfl
noncomputable def onD(o:Option Zg):RS:=match o with|some δ=>.nx δ|none=>.bad
theorem Z7x(δ:Zg):onD (some δ)= .nx δ:=rfl
theorem Yai(g:FG)(r:OT)(δ:Zg):Yeh g r δ=onD (g r.data δ):=rfl
noncomputable def onT(o:Option (Option OT))(k:OT->RS):RS:=match o with|some (some t)=>k t|_=>.bad
theorem Z13(t:OT)(k:OT->RS):onT (some (some t)) k=k t:=rfl
theorem Zop(i:Nat)(δ:Zg):Zeb i δ=onT δ[i]? λt=>.rt t (δ.set i none):=rfl
theorem Zqd(i:Nat)(u:FS)(δ:Zg):Zhe i u δ=onT δ[i]? λt=>u (δ.set i (some (.fz t.data))):=rfl
noncomputable def onN(o:Option (Option OT))(k:List OT->RS):RS:=match o with|some (some (.nd ts))=>k ts|_=>.bad
theorem Z5g(t:List OT)(k:List OT->RS):onN (some (some (.nd t))) k=k t:=rfl
theorem Zp5(i:Nat)(e:FE)(δ:Zg):W5 i e δ=onN δ[i]? λ_=>onO (e δ) λr δ1=>onN δ1[i]? λts=>if ts.length<Xq then .nx (δ1.set i (some (.nd (ts ++ [.fz r.data]))))else .bad:=by
 unfold W5
 generalize δ[i]? =o
 rcases o with _|_|(_|_|_|_)
 ·rfl
 ·rfl
 ·rfl
 ·show wE e _ δ=onO (e δ) _
  rw[Zbx]
  congr 1
 ·rfl
 ·rfl
theorem Z1k(i:Nat)(e:FE)(δ:Zg):Zoz i e δ=onN δ[i]? λ_=>onO (e δ) λr δ1=>onN δ1[i]? λts=>if ts.length<Xq then .nx (δ1.set i (some (.nd (ts ++ [r]))))else .bad:=by
 unfold Zoz
 generalize δ[i]? =o
 rcases o with _|_|(_|_|_|_)
 ·rfl
 ·rfl
 ·rfl
 ·show wE e _ δ=onO (e δ) _
  rw[Zbx]
  congr 1
 ·rfl
 ·rfl
noncomputable def onI(d:Xa)(k:Int->RS):RS:=match d with| .int i=>k i|_=>.bad
theorem Yds(i:Int)(k:Int->RS):onI (.int i) k=k i:=rfl
noncomputable def onX(o:Option Nat)(k:Nat->RS):RS:=match o with|some i=>k i|_=>.bad
theorem Ydz(i:Nat)(k:Nat->RS):onX (some i) k=k i:=rfl
theorem Zza(i:Nat)(e j:FE)(δ:Zg):Z52 i e j δ=onO (e δ) λr δ1=>onN δ1[i]? λts=>onO (j δ1) λn _=>onI n.data λk=>onX (ixN ts.length k) λj=>.nx (δ1.set i (some (.nd (ts.set j (.fz r.data))))):=by
 unfold Z52
 rw[Zbx]
 congr 1
 funext r δ1
 generalize δ1[i]? =o
 rcases o with _|_|(_|_|_|_)
 ·rfl
 ·rfl
 ·rfl
 ·show wE j _ δ1=onO (j δ1) _
  rw[Zbx]
  congr 1
  funext n δ2
  generalize n.data=d
  cases d<;>try rfl
  show(match ixN _ _ with|some j=>_|none=>_)=onX (ixN _ _) _
  generalize ixN _ _=x
  cases x<;>rfl
 ·rfl
 ·rfl
noncomputable def onU(o:Option OT)(k:List OT->RS):RS:=match o with|some (.nd ts)=>k ts|_=>.bad
theorem Yd5(t:List OT)(k:List OT->RS):onU (some (.nd t)) k=k t:=rfl
noncomputable def onP(o:Option (Option OT))(k:List OT->RS):RS:=match o with|some (some (.tp ts))=>k ts|_=>.bad
theorem Ye8(t:List OT)(k:List OT->RS):onP (some (some (.tp t))) k=k t:=rfl
theorem Z47(i c:Nat)(e:FE)(δ:Zg):Zxr i c e δ=onP δ[i]? λts=>onU ts[c]? λus=>onO (e δ) λr _=>if us.length<Xq then .nx (δ.set i (some (.tp (ts.set c (.nd (us ++ [.fz r.data]))))))else .bad:=by
 unfold Zxr
 generalize δ[i]? =o
 rcases o with _|_|(_|_|ts|_)
 ·rfl
 ·rfl
 ·rfl
 ·rfl
 ·show(match ts[c]? with|some (.nd us)=>wE e _ δ|_=>_)=onU ts[c]? _
  generalize ts[c]? =o
  rcases o with _|(_|_|_|_)
  ·rfl
  ·rfl
  ·show wE e _ δ=onO (e δ) _
   rw[Zbx]
  ·rfl
  ·rfl
 ·rfl
noncomputable def on2(ds:List Xa)(k:Xa->Xa->RS):RS:=match ds with|[d,e]=>k d e|_=>.bad
theorem Yef(d e:Xa)(k:Xa->Xa->RS):on2 [d,e] k=k d e:=rfl
theorem Ybc(i j:Nat)(a:FA)(δ:Zg):Yce i j a δ=onO (a δ) λrs δ1=>on2 (OT.datas rs) λd e=>.nx ((δ1.set i (some (.fz d))).set j (some (.fz e))):=by
 unfold Yce onO on2
 cases a δ<;>rfl
theorem Zer{np n:Nat}{S:FS}{ds:List Xa}(h:ds.length=np):Zaf np n S ds=(S (Zgp n ds)).told:=by
 unfold Zaf;rw[if_pos h]
theorem Zrx{np n:Nat}{S:FS}{t:OT}{ds:List Xa}(h:ds.length+1=np):Zqi np n S t ds=(S (Zha n t ds)).toldI:=by
 unfold Zqi;rw[if_pos h]
theorem Z11(δ:Zg):(RS.nx δ).told= .ok (.fz .none):=rfl
theorem Z0r(r:OT)(δ:Zg):(RS.rt r δ).told= .ok r:=rfl
theorem Ybn(c:Str)(δ:Zg):(RS.ex c δ).told= .exn c:=rfl
theorem Zmc(i j:Int):Zcc (.int i) (.int j)=some (.int (i+j)):=rfl
theorem Yd2(i j:Int):gSb (.int i) (.int j)=some (.int (i-j)):=rfl
theorem Yfa(i j:Int):gLt (.int i) (.int j)=some (.bool (decide (i<j))):=rfl
theorem Yee(i j:Int):gLe (.int i) (.int j)=some (.bool (decide (i≤j))):=rfl
theorem Ya8(i j:Int):gGt (.int i) (.int j)=some (.bool (decide (j<i))):=rfl
theorem Yab(i j:Int):gGe (.int i) (.int j)=some (.bool (decide (j≤i))):=rfl
theorem Ju{i j:Int}(h:Z19 i j=true):Zes (.int i) (.int j)=some (.int (i*j)):=by
 unfold Zes i2c;dsimp only;rw[if_pos h]
theorem Zf5{i j:Int}(h:Z24 i j=true):Zbi (.int i) (.int j)=some (.int (i.fdiv j)):=by
 unfold Zbi i2c;dsimp only;rw[if_pos h]
theorem Zx3{i j:Int}(h:j≠0):Zij (.int i) (.int j)=some (.int (i.fmod j)):=by
 unfold Zij i2c Ycw;dsimp only;rw[if_pos (decide_eq_true h)]
theorem Wm{m n:Nat}{x y:Int}(h:Bt m x)(k:Bt n y)(hmn:m+n≤100000000:=by decide):Z19 x y=true:=Zkr.mpr (h.mulOk k hmn)
theorem Z4m{x y:Int}(h:x.natAbs<2^64):Z19 x y=true:=Zkr.mpr (.of_left (intBits_le_64 (by omega) (by omega)))
theorem Zf0{n:Nat}{i j:Int}(h0:j≠0)(h:Bt n j)(hn:n≤9000:=by decide):Z24 i j=true:=by
 obtain⟨h1,h2⟩:=DivOk.of (i:=i) h0 h hn
 unfold Z24
 rw[decide_eq_true h1,decide_eq_true h2];rfl
theorem Zuv(i j:Int):gEq (.int i) (.int j)=some (.bool (decide (i=j))):=by
 show some (PyData.bool (i==j))=_
 rw[show(i==j)=decide (i=j)from rfl]
theorem Z94(i j:Int):gNe (.int i) (.int j)=some (.bool (!decide (i=j))):=by
 show some (PyData.bool (!(i==j)))=_
 rw[show(i==j)=decide (i=j)from rfl]
theorem Yel(d:Xa):gIs d .none=some (.bool (Zel d)):=rfl
theorem Z74(d:Xa):Zjb d .none=some (.bool (!Zel d)):=rfl
theorem Zif(ds:List Xa)(i:Int):gIx (.list ds) (.int i)=(atI ds i).bind λx=>some (.fz x):=rfl
theorem Yek(ds:List Xa)(i:Int):gIx (.tuple ds) (.int i)=(atI ds i).bind λx=>some (.fz x):=rfl
theorem Zra(ds:List Xa):Zgx [.list ds]=some (.int ds.length):=rfl
theorem Yc8(ds:List Xa):Zgx [.tuple ds]=some (.int ds.length):=rfl
theorem Zr6(i:Int):Z2c [.int i]=some (.int (i.natAbs:Int)):=by
 show some (Xo (if i<0 then -i else i))=_
 congr 2;split<;>omega
theorem Yca(i j:Int):Yeg [.int i,.int j]=some (.int (if j>i then j else i)):=rfl
theorem Zst(i j:Int):Zwo [.int i,.int j]=some (.int (if j<i then j else i)):=rfl
theorem Ycx(i:Int):Zrf [.int i]=some (.int i):=rfl
theorem Zhf(b:Bool):Zrf [.bool b]=some (.int (if b then 1 else 0)):=rfl
theorem Ya2(ds:List Xa):Z3g [.list ds]=some (.nd (ds.map OT.fz)):=rfl
theorem Z9z(ds:List Xa):Z3g [.tuple ds]=some (.nd (ds.map OT.fz)):=rfl
theorem Z7e{ds es:List Xa}(h:ds.length+es.length≤Xq):Zwf (.list ds) (.list es)=some (.nd ((ds ++ es).map OT.fz)):=by
 unfold Zwf;dsimp only;rw[if_pos h]
theorem Z7b(i:Int):Z7y (.int i)=some (.int (-i)):=rfl
theorem Ych(b:Bool):Ya7 (.bool b)=some (.bool (!b)):=rfl
theorem Yda(b:Bool):Zvl (.bool b)=some b:=rfl
theorem Ycb(i:Int):Zvl (.int i)=some (i !=0):=rfl
theorem Ydh:Zvl .none=some false:=rfl
theorem Ydn(ds:List Xa):Zvl (.list ds)=some (!ds.isEmpty):=rfl
theorem Zwb{n:Nat}{d:Xa}(h:Sh n d)(hp:Wo d=true)(hn:n≤60):gNe d d=some (.bool false):=by
 have s:VP d=true:=(h.shp (by omega)).ok
 unfold gNe
 rw[if_pos (by rw[s];rfl),Zoo hp];rfl
theorem Zob{gg:FG}{u:FS}{ds:List Xa}{δ:Zg}(I:Nat->Zg->Prop)(h0:I 0 δ)
  (turn:∀(i:Nat) (d:Xa) (δ:Zg),ds[i]? =some d->I i δ->∃δ1 δ2,gg d δ=some δ1∧(u δ1= .nx δ2∨u δ1= .ct δ2)∧I (i+1) δ2):∃δ',forLoop gg u ds δ= .nx δ'∧I ds.length δ':=by
 induction ds generalizing δ I with
 | nil=>exact⟨δ,rfl,h0⟩
 | cons d ds ih=>
  obtain⟨δ1,δ2,e1,e2,h1⟩:=turn 0 d δ rfl h0
  obtain⟨δ',e3,h3⟩:=ih (δ:=δ2) (λi δ=>I (i+1) δ) h1 λi d' δ hd hi=>turn (i+1) d' δ (by simpa using hd) hi
  refine⟨δ',?_,h3⟩
  rw[Ji,e1]
  dsimp only
  rcases e2 with e2|e2<;>rw[e2]<;>exact e3
noncomputable def Goes(r:RS)(Q:Zg->Prop):Prop:=∃δ,(r= .nx δ∨r= .ct δ)∧Q δ
theorem Goes.nx{δ:Zg}{Q:Zg->Prop}(h:Q δ):Goes (.nx δ) Q:=⟨δ,.inl rfl,h⟩
theorem Goes.ct{δ:Zg}{Q:Zg->Prop}(h:Q δ):Goes (.ct δ) Q:=⟨δ,.inr rfl,h⟩
theorem Zr8{α:Type}{me:FE}{cs:Zg}(mk:α->Xa)(f:α->OT):∀(xs:List α) (z:Option OT),(∀x∈xs,me (some (.fz (mk x)) :: cs)=some (f x,some (.fz (mk x)) :: cs)) ->
  ∃z',compLoop (gNm 0) Zfg me (xs.map mk) (z :: cs)=some (xs.map f,z' :: cs)
 | [],z,_=>⟨z,rfl⟩
 | x :: xs,z,h=>by
  obtain⟨z',e⟩:=Zr8 mk f xs (some (.fz (mk x))) λy hy=>h y (.tail _ hy)
  refine⟨z',?_⟩
  rw[Ql,compLoop]
  show(some (some (OT.fz (mk x)) :: cs)).bind _=_
  rw[Xf]
  show(some (true,some (OT.fz (mk x)) :: cs)).bind _=_
  rw[Xf,if_pos rfl,h x (.head _),Xf,e];rfl
theorem Zoy{α:Type}{t:FT}{me:FE}{cs:Zg}(mk:α->Xa)(p:α->Bool)(f:α->OT):∀(xs:List α) (z:Option OT),(∀x∈xs,t (some (.fz (mk x)) :: cs)=some (p x,some (.fz (mk x)) :: cs))->(∀x∈xs,p x=true->me (some (.fz (mk x)) :: cs)=some (f x,some (.fz (mk x)) :: cs)) ->
  ∃z',compLoop (gNm 0) t me (xs.map mk) (z :: cs)=some ((xs.filter p).map f,z' :: cs)
 | [],z,_,_=>⟨z,rfl⟩
 | x :: xs,z,ht,h=>by
  obtain⟨z',e⟩:=Zoy mk p f xs (some (.fz (mk x))) (λy hy=>ht y (.tail _ hy)) λy hy=>h y (.tail _ hy)
  refine⟨z',?_⟩
  rw[Ql,compLoop]
  show(some (some (OT.fz (mk x)) :: cs)).bind _=_
  rw[Xf,ht x (.head _),Xf]
  dsimp only
  by_cases hp:p x=true
  ·rw[if_pos hp,h x (.head _) hp,Xf,e,List.filter_cons_of_pos hp];rfl
  ·rw[if_neg hp,e,List.filter_cons_of_neg hp]
theorem Zgy{α:Type}{caps:List Nat}{it:FI}{me:FE}{cs δ δ1:Zg}(xs:List α)(mk:α->Xa)(f:α->OT)(hi:it δ=some (xs.map mk,δ1))(hz:xs.length≤Xq)(hb:blk 1 caps δ1=none :: cs)
  (h:∀x∈xs,me (some (.fz (mk x)) :: cs)=some (f x,some (.fz (mk x)) :: cs)):Y9 1 caps it (gNm 0) Zfg me δ=some (.nd (xs.map f),δ1):=by
 unfold Y9
 rw[hi,Xf]
 dsimp only
 rw[if_pos (by rw[Xg];exact hz),hb]
 obtain⟨z',e⟩:=Zr8 (me:=me) (cs:=cs) mk f xs none h
 rw[e];rfl
theorem Zsr{α:Type}{caps:List Nat}{it:FI}{t:FT}{me:FE}{cs δ δ1:Zg}(xs:List α)(mk:α->Xa)(p:α->Bool)(f:α->OT)(hi:it δ=some (xs.map mk,δ1))(hz:xs.length≤Xq)(hb:blk 1 caps δ1=none :: cs)
  (ht:∀x∈xs,t (some (.fz (mk x)) :: cs)=some (p x,some (.fz (mk x)) :: cs)) (h:∀x∈xs,p x=true->me (some (.fz (mk x)) :: cs)=some (f x,some (.fz (mk x)) :: cs)):Y9 1 caps it (gNm 0) t me δ=some (.nd ((xs.filter p).map f),δ1):=by
 unfold Y9
 rw[hi,Xf]
 dsimp only
 rw[if_pos (by rw[Xg];exact hz),hb]
 obtain⟨z',e⟩:=Zoy (t:=t) (me:=me) (cs:=cs) mk p f xs none ht h
 rw[e];rfl
theorem Yej:(2≤Xq)=True:=by simp[Qj]
theorem Yd1:(1≤Xq)=True:=by simp[Qj]
theorem Yew:(0≤Xq)=True:=by simp
theorem Ybb:(3≤Xq)=True:=by simp[Qj]
theorem Z2e{α:Type}(f:α->Xa)(xs:List α):(xs.map λx=>OT.fz (f x)).map OT.data=xs.map f:=by
 rw[Qp];exact Xy λx _=>OT.data_fz _
theorem Zse{α:Type}{j:Int}{x:α}(h0:0≤j)(h1:j≤1000000):(if rOk j=true then some x else none)=some x:=if_pos (Zo2 (by omega) h1)
theorem Z1s{α:Type}{i j:Int}{x:α}(h0:0≤i)(h1:i≤1000000)(h2:0≤j)(h3:j≤1000000):(if(rOk i&&rOk j)=true then some x else none)=some x:=if_pos (by rw[Zo2 (by omega) h1,Zo2 (by omega) h3];rfl)
theorem Z2o{r:RS}{k:Nat}(h:k≤1000000):(if k<Xq then r else .bad)=r:=if_pos (by rw[Qj];omega)
noncomputable def EvV(e:FE)(δ:Zg)(d:Xa):Prop:=∃t,e δ=some (t,δ)∧t.data=d
noncomputable def EvA(a:FA)(δ:Zg)(ds:List Xa):Prop:=∃ts,a δ=some (ts,δ)∧OT.datas ts=ds
noncomputable def EvT(t:FT)(δ:Zg)(b:Bool):Prop:=t δ=some (b,δ)
noncomputable def Told(F:FD)(ds:List Xa)(d:Xa):Prop:=∃t,F ds= .ok t∧t.data=d
section
variable {e a b:FE}{as:FA}{δ δ':Zg}{x y d:Xa}{xs ds:List Xa}{i j:Nat}{p q:Bool}{t u:FT}{S S':FS}{r:RS}
theorem EvV.cast{e:FE}{δ:Zg}{x y:Xa}(h:EvV e δ x)(k:x=y):EvV e δ y:=k▸h
theorem Za(h:δ[i]? =some (some (.fz d)):=by rfl):EvV (Zd i) δ d:=⟨_,by rw[Z0o,h,Z0s],OT.data_fz _⟩
theorem Zk0{t:OT}(h:δ[i]? =some (some t))(hd:t.data=d):EvV (Ze0 i) δ d:=⟨_,by rw[Z1l,h,Zz7],by rw[OT.data_fz,hd]⟩
theorem Zt:EvV (fC d) δ d:=⟨_,rfl,OT.data_fz _⟩
theorem Zn{g:Xa->Xa->Option Xa}(ha:EvV a δ x)(hb:EvV b δ y)(h:g x y=some d):EvV (Zh g a b) δ d:=by
 obtain⟨_,e1,d1⟩:=ha
 obtain⟨_,e2,d2⟩:=hb
 exact⟨_,by rw[Zog,e1,Xf,e2,Xf,d1,d2,h,Xf],OT.data_fz _⟩
theorem Zx4{g:Xa->Xa->Option OT}{o:OT}(ha:EvV a δ x)(hb:EvV b δ y)(h:g x y=some o)(hd:o.data=d):EvV (Z2 g a b) δ d:=by
 obtain⟨_,e1,d1⟩:=ha
 obtain⟨_,e2,d2⟩:=hb
 exact⟨_,by rw[Zrg,e1,Xf,e2,Xf,d1,d2,h,Xf],hd⟩
theorem Wb(ha:EvV a δ x)(hb:EvV b δ y)(h:gIx x y=some (.fz d)):EvV (Z2 gIx a b) δ d:=Zx4 ha hb h (OT.data_fz _)
theorem J1{i j:Int}(ha:EvV a δ (.int i))(hb:EvV b δ (.int j)):EvV (Zh Zcc a b) δ (.int (i+j)):=Zn ha hb rfl
theorem Zi9{i j:Int}(ha:EvV a δ (.int i))(hb:EvV b δ (.int j)):EvV (Zh gSb a b) δ (.int (i-j)):=Zn ha hb rfl
theorem Z9m{g:Xa->Option Xa}(ha:EvV a δ x)(h:g x=some d):EvV (fUn g a) δ d:=by
 obtain⟨_,e1,d1⟩:=ha
 exact⟨_,by rw[Z4i,e1,Xf,d1,h,Xf],OT.data_fz _⟩
theorem Zoq(ha:EvV a δ (.bool true))(hb:EvV b δ d):EvV (Zvt a b) δ d:=by
 obtain⟨_,e1,d1⟩:=ha
 obtain⟨_,e2,d2⟩:=hb
 exact⟨_,by rw[Zt5,e1,Xf,d1,Z9u,e2],d2⟩
theorem Zwk(ha:EvV a δ (.bool false)):EvV (Zvt a b) δ (.bool false):=by
 obtain⟨_,e1,d1⟩:=ha
 exact⟨_,by rw[Zt5,e1,Xf,d1,Z9t],OT.data_fz _⟩
theorem Ze:EvA Zm δ []:=⟨_,rfl,Zdd⟩
theorem Zb(h:EvV e δ d)(k:EvA as δ ds):EvA (Zc e as) δ (d :: ds):=by
 obtain⟨_,e1,d1⟩:=h
 obtain⟨_,e2,d2⟩:=k
 exact⟨_,by rw[Zfe,e1,Xf,e2,Xf],by rw[Za1,d1,d2]⟩
theorem Zq{F:FD}(h:EvA as δ ds)(k:Told F ds d):EvV (Zv F as) δ d:=by
 obtain⟨_,e1,d1⟩:=h
 obtain⟨_,e2,d2⟩:=k
 exact⟨_,by rw[Zg1,e1,Xf,d1,e2,Z3y],d2⟩
theorem Zaj{g:List Xa->Option Xa}(h:EvA as δ ds)(k:g ds=some d):EvV (Zce g as) δ d:=by
 obtain⟨_,e1,d1⟩:=h
 exact⟨_,by rw[Zzy,e1,Xf,d1,k,Xf],OT.data_fz _⟩
theorem Z8v{g:List Xa->Option OT}{o:OT}(h:EvA as δ ds)(k:g ds=some o)(hd:o.data=d):EvV (fBl g as) δ d:=by
 obtain⟨_,e1,d1⟩:=h
 exact⟨_,by rw[Z2s,e1,Xf,d1,k,Xf],hd⟩
theorem Zfd:∀ts:List OT,(OT.datas ts).length=ts.length
 | []=>by rw[Zdd];rfl
 | t :: ts=>by rw[Za1,Bw,Bw,Zfd ts]
theorem datas_map:∀ts:List OT,OT.datas ts=ts.map OT.data
 | []=>Zdd
 | t :: ts=>by rw[Za1,Ql,datas_map ts]
theorem Zgk(h:EvA as δ ds)(hl:ds.length≤1000):EvV (Zkx as) δ (.tuple ds):=by
 obtain⟨ts,e1,d1⟩:=h
 have:=Zfd ts
 rw[d1]at this
 exact⟨_,by rw[Zth,e1,Xf,if_pos (by rw[Qj];show ts.length≤_;omega)],by rw[OT.data_fz];exact congrArg _ d1⟩
theorem Zaw(h:EvA as δ ds)(hl:ds.length≤1000):EvV (Zdm as) δ (.list ds):=by
 obtain⟨ts,e1,d1⟩:=h
 have:=Zfd ts
 rw[d1]at this
 exact⟨_,by rw[Zjm,e1,Xf,if_pos (by rw[Qj];show ts.length≤_;omega)],by rw[OT.data_nd,←datas_map,d1]⟩
theorem Zhy{o:OT}{b:Bool}(h:o.data= .bool b):o= .fz (.bool b):=by
 cases o with
 | fz d=>rw[OT.data_fz]at h;rw[h]
 | nd ts=>rw[OT.data_nd]at h;cases h
 | tp ts=>rw[OT.data_tp]at h;cases h
 | dc _ _ _=>rw[OT.data_dc]at h;cases h
theorem Zci(h:EvV e δ (.bool p)):EvT (tV e) δ p:=by
 obtain⟨_,e1,d1⟩:=h
 unfold EvT
 rw[Yap,e1,Xf,Zhy d1,Z2m]
theorem Yfe(h:EvV e δ d)(k:Zvl d=some p):EvT (tD e) δ p:=by
 obtain⟨_,e1,d1⟩:=h
 unfold EvT
 rw[Z84,e1,Xf,d1,k,Xf]
theorem Zvq(h:EvV e δ (.bool p)):EvT (tD e) δ p:=Yfe h rfl
theorem Z64(h:EvT t δ p):EvT (tNo t) δ (!p):=by
 unfold EvT at h⊢
 rw[Z5h,h,Xf]
theorem Z8t(h:EvT t δ true)(k:EvT u δ p):EvT (tAn t u) δ p:=by
 unfold EvT at h k⊢
 rw[Zxz,h,Xf,if_pos rfl,k]
theorem Zz3(h:EvT t δ false):EvT (tAn t u) δ false:=by
 unfold EvT at h⊢
 rw[Zxz,h,Xf,if_neg Xx]
theorem Yax(h:EvT t δ false)(k:EvT u δ p):EvT (tO t u) δ p:=by
 unfold EvT at h k⊢
 rw[Z9i,h,Xf,if_neg Xx,k]
theorem Jm(h:S δ= .nx δ')(k:S' δ'=r):Zz S S' δ=r:=by rw[Zhc,h,Zsj,k]
theorem Zlu{o:OT}(h:S δ= .rt o δ'):Zz S S' δ= .rt o δ':=by rw[Zhc,h,Zyo]
theorem Zy(h:EvV e δ d):wE e (Yt i) δ= .nx (δ.set i (some (.fz d))):=by
 obtain⟨_,e1,d1⟩:=h
 rw[Zbx,e1,Yw,Zia,d1]
theorem Zx9(h:EvV e δ d):∃o,wE e J0 δ= .rt o δ∧o.data=d:=by
 obtain⟨_,e1,d1⟩:=h
 exact⟨_,by rw[Zbx,e1,Yw,Zqr],d1⟩
theorem Za2(h:EvT t δ true)(k:S δ=r):Zax t S S' δ=r:=by
 unfold EvT at h
 rw[Zrj,h,Yw,if_pos rfl,k]
theorem W7(h:EvT t δ false)(k:S' δ=r):Zax t S S' δ=r:=by
 unfold EvT at h
 rw[Zrj,h,Yw,if_neg (by decide),k]
theorem Z6z{F:FD}{k:OT->Zg->RS}(h:EvA as δ ds)(hF:Told F ds d)(hk:∀o,o.data=d->k o δ=r):wX F as k δ=r:=by
 obtain⟨_,e1,d1⟩:=h
 obtain⟨o,e2,d2⟩:=hF
 rw[Zzr,e1,Yw,d1,e2,Zym,hk o d2]
theorem Zh7{F:FD}{k:OT->Zg->RS}{c:Str}(h:EvA as δ ds)(hF:F ds= .exn c):wX F as k δ= .ex c δ:=by
 obtain⟨_,e1,d1⟩:=h
 rw[Zzr,e1,Yw,d1,hF,Z6w]
noncomputable def Zkw(S:FS)(δ:Zg)(d:Xa):Prop:=∃o δ',S δ= .rt o δ'∧o.data=d
theorem Ye(h:S δ= .nx δ')(k:Zkw S' δ' d):Zkw (Zz S S') δ d:=by
 obtain⟨o,δ2,e,hd⟩:=k
 exact⟨o,δ2,Jm h e,hd⟩
theorem Zkc(k:Zkw S δ d):Zkw (Zz S S') δ d:=by
 obtain⟨o,δ2,e,hd⟩:=k
 exact⟨o,δ2,Zlu e,hd⟩
theorem Wy(h:EvV e δ d):Zkw (wE e J0) δ d:=by
 obtain⟨o,e1,hd⟩:=Zx9 h
 exact⟨o,δ,e1,hd⟩
theorem Zt7(h:EvT t δ true)(k:Zkw S δ d):Zkw (Zax t S S') δ d:=by
 obtain⟨o,δ2,e,hd⟩:=k
 exact⟨o,δ2,Za2 h e,hd⟩
theorem Z4{np n:Nat}(hl:xs.length=np)(k:Zkw S (Zgp n xs) d):Told (Zaf np n S) xs d:=by
 obtain⟨o,δ2,e,hd⟩:=k
 exact⟨o,by rw[Zer hl,e,Z0r],hd⟩
noncomputable def EvO(o:FO)(δ:Zg)(l:Option Int):Prop:=o δ=some (l,δ)
theorem Yb4:EvO oN δ none:=rfl
theorem Yb3{i:Int}(h:EvV e δ (.int i)):EvO (oI e) δ (some i):=by
 obtain⟨_,e1,d1⟩:=h
 unfold EvO
 rw[Z88,e1,Xf,d1,Ztb]
theorem Z9l{lo hi:FO}{l h:Option Int}(he:EvV e δ (.list ds))(hl:EvO lo δ l)(hh:EvO hi δ h):EvV (fSl e lo hi) δ (.list (cutD ds l h)):=by
 obtain⟨_,e1,d1⟩:=he
 unfold EvO at hl hh
 exact⟨_,by rw[Z6r,e1,Xf,hl,Xf,hh,Xf,d1,Zrm],by rw[OT.data_nd,OT.map_fz]⟩
theorem Zo5{es:List Xa}(ha:EvV a δ (.list ds))(hb:EvV b δ (.list es))(h:ds.length+es.length≤1000000):EvV (Z2 Zwf a b) δ (.list (ds ++ es)) :=
 Zx4 ha hb (Z7e (by rw[Qj];omega)) (by rw[OT.data_nd,OT.map_fz])
noncomputable def EvI(it:FI)(δ:Zg)(ds:List Xa):Prop:=it δ=some (ds,δ)
theorem Zat(h:EvV e δ (.list ds)):EvI (Zgs e) δ ds:=by
 obtain⟨_,e1,d1⟩:=h
 unfold EvI
 rw[Zzm,e1,Xf,d1,Zrm]
theorem Zbz{n:Nat}(h:EvA as δ [.int n])(hn:n≤1000000):EvI (iRa as) δ (Zd4 0 n):=by
 obtain⟨_,e1,d1⟩:=h
 unfold EvI
 rw[Zx6,e1,Xf,d1,Z3j,Zse (by omega) (by omega),Q3]
theorem Zgm{it:FI}{g:FG}(h:EvI it δ ds)(k:forLoop g S ds δ=r):Jk it g S δ=r:=by
 unfold EvI at h
 rw[Zzv,h,Yw,k]
theorem Zdx{α:Type}{caps:List Nat}{it:FI}{me:FE}{cs:Zg}(xs:List α)(mk f:α->Xa)(hi:EvI it δ (xs.map mk))(hz:xs.length≤1000000)(hb:blk 1 caps δ=none :: cs)(h:∀x∈xs,EvV me (some (.fz (mk x)) :: cs) (f x)):EvV (Y9 1 caps it (gNm 0) Zfg me) δ (.list (xs.map f)):=by
 have g:∀x,∃o:OT,x∈xs->me (some (.fz (mk x)) :: cs)=some (o,some (.fz (mk x)) :: cs)∧o.data=f x:=λx=>by
  by_cases c:x∈xs
  ·obtain⟨o,h1,h2⟩:=h x c
   exact⟨o,λ_=>⟨h1,h2⟩⟩
  ·exact⟨.fz .none,λz=>absurd z c⟩
 obtain⟨o,ho⟩:=Classical.axiomOfChoice g
 unfold EvI at hi
 refine⟨_,Zgy (cs:=cs) xs mk o hi (by rw[Qj];omega) hb (λx hx=>(ho x hx).1),?_⟩
 rw[OT.data_nd,Qp]
 exact congrArg _ (Xy λx hx=>(ho x hx).2)
theorem Zmo{ts:List OT}(h:EvV e δ d)(hi:δ[i]? =some (some (.nd ts)))(hl:ts.length≤1000000):W5 i e δ= .nx (δ.set i (some (.nd (ts ++ [.fz d])))):=by
 obtain⟨_,e1,d1⟩:=h
 rw[Zp5,hi,Z5g,e1,Yw,hi,Z5g,Z2o hl,d1]
theorem Ztq{o:OT}(h:e δ=some (o,δ)):wE e (Zcd i) δ= .nx (δ.set i (some o)):=by rw[Zbx,h,Yw,Zwc]
theorem Z8d{o:OT}(h:δ[i]? =some (some o))(hd:o.data=d):Zkw (Zeb i) δ d:=⟨o,_,by rw[Zop,h,Z13],hd⟩
theorem Zqp{o:OT}(h:δ[i]? =some (some o))(k:S (δ.set i (some (.fz o.data)))=r):Zhe i S δ=r:=by rw[Zqd,h,Z13,k]
theorem Zre{np n:Nat}(hl:xs.length=np)(k:S (Zgp n xs)= .nx δ'):Told (Zaf np n S) xs .none:=⟨_,by rw[Zer hl,k,Z11],OT.data_fz _⟩
theorem Told.ok{F:FD}{b:Bool}(h:Told F ds (.bool b)):F ds= .ok (.fz (.bool b)):=by
 obtain⟨o,e1,d1⟩:=h
 rw[e1,Zhy d1]
theorem Zke{o:OT}{i:Int}(h:o.data= .int i):o= .fz (.int i):=by
 cases o with
 | fz d=>rw[OT.data_fz]at h;rw[h]
 | nd ts=>rw[OT.data_nd]at h;cases h
 | tp ts=>rw[OT.data_tp]at h;cases h
 | dc _ _ _=>rw[OT.data_dc]at h;cases h
theorem Told.int{F:FD}{i:Int}(h:Told F ds (.int i)):F ds= .ok (.fz (.int i)):=by
 obtain⟨o,e1,d1⟩:=h
 rw[e1,Zke d1]
theorem Zr2{o:OT}(h:o.data= .none):o= .fz .none:=by
 cases o with
 | fz d=>rw[OT.data_fz]at h;rw[h]
 | nd ts=>rw[OT.data_nd]at h;cases h
 | tp ts=>rw[OT.data_tp]at h;cases h
 | dc _ _ _=>rw[OT.data_dc]at h;cases h
theorem Told.of{F:FD}{o:OT}(h:F ds= .ok o)(hd:o.data=d):Told F ds d:=⟨o,h,hd⟩
end
section
variable {e a b:FE}{as:FA}{δ δ':Zg}{x y d:Xa}{xs ds:List Xa}{i j:Int}{k:Nat}{p q:Bool}{t u:FT}{S S':FS}{r:RS}{Q:Xa->Prop}
theorem Zmg(ha:EvV a δ (.int i))(hb:EvV b δ (.int j))(h:j≠0):EvV (Zh Zij a b) δ (.int (i.fmod j)):=Zn ha hb (Zx3 h)
theorem Z53{i j:Int}(h:(decide (0<j)&&decide (j<18446744073709551616))=true):Zbi (.int i) (.int j)=some (.int (i.fdiv j)):=by
 rw[XN,decide_eq_true_eq,decide_eq_true_eq]at h
 exact Zf5 (Zf0 (n:=64) (by omega) (Bt.of_lt (by omega) (by omega)))
theorem Z1i(ha:EvV a δ (.int i))(hb:EvV b δ (.int j))(h:(decide (0<j)&&decide (j<18446744073709551616))=true:=by decide):EvV (Zh Zbi a b) δ (.int (i.fdiv j)):=Zn ha hb (Z53 h)
theorem Zrr(ha:EvV a δ (.int i))(hb:EvV b δ (.int j))(h:i.natAbs<2^64:=by decide):EvV (Zh Zes a b) δ (.int (i*j)):=Zn ha hb (Ju (Z4m h))
theorem Z0v(ha:EvV a δ (.int i))(hb:EvV b δ (.int j))(h:decide (i<j)=p):EvV (Zh gLt a b) δ (.bool p):=h▸Zn ha hb rfl
theorem Z5v(ha:EvV a δ (.int i))(hb:EvV b δ (.int j))(h:decide (i≤j)=p):EvV (Zh gLe a b) δ (.bool p):=h▸Zn ha hb rfl
theorem Zq5(ha:EvV a δ (.int i))(hb:EvV b δ (.int j))(h:decide (j<i)=p):EvV (Zh gGt a b) δ (.bool p):=h▸Zn ha hb (Ya8 _ _)
theorem Z48(ha:EvV a δ (.int i))(hb:EvV b δ (.int j))(h:decide (j≤i)=p):EvV (Zh gGe a b) δ (.bool p):=h▸Zn ha hb (Yab _ _)
theorem Zex(ha:EvV a δ (.int i))(hb:EvV b δ (.int j))(h:decide (i=j)=p):EvV (Zh gEq a b) δ (.bool p):=h▸Zn ha hb (Zuv _ _)
theorem Zmi(ha:EvV a δ (.int i))(hb:EvV b δ (.int j))(h:(!decide (i=j))=p):EvV (Zh gNe a b) δ (.bool p):=h▸Zn ha hb (Z94 _ _)
theorem Z7s(ha:EvV a δ (.int i)):EvV (fUn Z7y a) δ (.int (-i)):=Z9m ha (Z7b _)
theorem Zug{ds:List Xa}(h:EvV e δ (.list ds)):EvV (Zce Zgx (Zc e Zm)) δ (.int ds.length):=Zaj (Zb h Ze) (Zra ds)
theorem Zyj(ha:EvV a δ (.list ds))(hb:EvV b δ (.int i))(h:atI ds i=some d):EvV (Z2 gIx a b) δ d:=Wb ha hb (by rw[Zif,h];rfl)
noncomputable def Zp3(S:FS)(δ:Zg)(Q:Xa->Prop):Prop:=∃d,Zkw S δ d∧Q d
theorem Zef(h:S δ= .nx δ')(k:Zp3 S' δ' Q):Zp3 (Zz S S') δ Q:=k.imp λ_ k=>⟨Ye h k.1,k.2⟩
theorem Zwn(k:Zp3 S δ Q):Zp3 (Zz S S') δ Q:=k.imp λ_ k=>⟨Zkc k.1,k.2⟩
theorem Zk6(h:EvV e δ d)(k:Q d):Zp3 (wE e J0) δ Q:=⟨d,Wy h,k⟩
theorem Z0f(h:EvT t δ true)(k:Zp3 S δ Q):Zp3 (Zax t S S') δ Q:=k.imp λ_ k=>⟨Zt7 h k.1,k.2⟩
theorem Zvc{np n:Nat}(hl:xs.length=np)(h:Zp3 S (Zgp n xs) Q):∃d,Told (Zaf np n S) xs d∧Q d:=h.imp λ_ k=>⟨Z4 hl k.1,k.2⟩
theorem Zyd{it:FI}{g:FG}(I:Nat->Zg->Prop)(hi:EvI it δ ds)(h0:I 0 δ)(turn:∀(i:Nat) (d:Xa) (δ:Zg),ds[i]? =some d->I i δ->∃δ1 δ2,g d δ=some δ1∧(S δ1= .nx δ2∨S δ1= .ct δ2)∧I (i+1) δ2)(k:∀δ',I ds.length δ'->Zp3 S' δ' Q):Zp3 (Zz (Jk it g S) S') δ Q:=by
 obtain⟨δ',e,h⟩:=Zob I h0 turn
 exact Zef (Zgm hi e) (k δ' h)
theorem Zs7{it:FI}{g:FG}(I:Nat->Zg->Prop)(hi:EvI it δ ds)(h0:I 0 δ)(turn:∀(i:Nat) (d:Xa) (δ:Zg),ds[i]? =some d->I i δ->∃δ1 δ2,g d δ=some δ1∧(S δ1= .nx δ2∨S δ1= .ct δ2)∧I (i+1) δ2)(k:∀δ',I ds.length δ'->Zkw S' δ' d):Zkw (Zz (Jk it g S) S') δ d:=by
 obtain⟨δ',e,h⟩:=Zob I h0 turn
 exact Ye (Zgm hi e) (k δ' h)
theorem Zhs{it:FI}{g:FG}(I:Nat->Zg->Prop)(hi:EvI it δ ds)(h0:I 0 δ)(turn:∀(i:Nat) (d:Xa) (δ:Zg),ds[i]? =some d->I i δ->∃δ1 δ2,g d δ=some δ1∧(S δ1= .nx δ2∨S δ1= .ct δ2)∧I (i+1) δ2):∃δ',Jk it g S δ= .nx δ'∧I ds.length δ':=by
 obtain⟨δ',e,h⟩:=Zob I h0 turn
 exact⟨δ',Zgm hi e,h⟩
theorem Z42{m n:Nat}(h:EvA as δ [.int m,.int n])(hm:m≤1000000)(hn:n≤1000000):EvI (iRb as) δ (Zd4 m (n-m)):=by
 obtain⟨_,e1,d1⟩:=h
 unfold EvI
 rw[Z5d,e1,Xf,d1,Z93,Z1s (by omega) (by omega) (by omega) (by omega),show((n:Int)-(m:Int)).toNat=n-m by omega]
theorem Zlj:wE (Zdm Zm) (Zcd k) δ= .nx (δ.set k (some (.nd []))):=Ztq (by rw[Zjm];rfl)
theorem Zm9{i:Int}(h:0<j):0≤i.fmod j:=by rw[Zgw h];exact Int.emod_nonneg _ (by omega)
theorem Zmz{i:Int}(h:0<j):i.fmod j<j:=by rw[Zgw h];exact Int.emod_lt_of_pos _ h
theorem Zzq{es:List Xa}(h:EvA as δ ds)(hz:Z51 ds=some es):EvI (Zea as) δ es:=by
 obtain⟨_,e1,d1⟩:=h
 unfold EvI Zea
 rw[e1,Xf,d1,hz,Xf]
theorem Z7o{xs:List Str}{D c:Str}{h:FS}{δ2:Zg}(e:S δ= .ex c δ')(hc:(xs.contains c&&Zpt c D)=true)(hh:h (δ'.set k (some (.fz (exD c))))= .nx δ2):Zzb xs S D k h δ= .nx (δ2.set k none):=by
 unfold Zzb
 rw[e]
 dsimp only
 rw[if_pos hc,hh]
theorem Zxg{xs:List Str}{D x:Str}(ha:EvV a δ (exD x))(h:xs.contains x=true)(hd:Zpt x D=p):EvV (Zq6 xs D a) δ (.bool p):=by
 obtain⟨_,e1,d1⟩:=ha
 exact⟨_,by unfold Zq6;rw[e1,Xf,d1,show Zi1 (exD x)=some x from rfl,Xf,if_pos h],by rw[OT.data_fz,hd]⟩
theorem Zzi{xs Ds:List Str}{x:Str}(ha:EvV a δ (exD x))(h:xs.contains x=true)(hd:Ds.any (Zpt x)=p):EvV (Zo9 xs Ds a) δ (.bool p):=by
 obtain⟨_,e1,d1⟩:=ha
 exact⟨_,by unfold Zo9;rw[e1,Xf,d1,show Zi1 (exD x)=some x from rfl,Xf,if_pos h],by rw[OT.data_fz,hd]⟩
theorem Z50{n:Nat}(hn:n≤1000000){v:Option OT}:(Z05 (fC d) (Zd 1)) [v,some (.fz (.int n))]=some (.nd (Xz n (.fz d)),[v,some (.fz (.int n))]):=by
 obtain⟨_,e1,d1⟩:=Za (δ:=[v,some (.fz (.int n))]) (i:=1) (d:=.int n)
 rw[Znt,Z5q,Xf,e1,Xf,d1,Ztb,if_pos ⟨Zo2 (by omega) (by omega),by rw[Qj];omega⟩,Q3,OT.data_fz]
theorem Zoi{it:FI}{g gg:FG}{δ1:Zg}(I:Nat->Zg->Prop){J:Zg->Prop}(hg:gg d δ=some δ1)(hi:EvI it δ1 ds)(h0:I 0 δ1)(turn:∀(i:Nat) (d:Xa) (δ:Zg),ds[i]? =some d->I i δ->∃δ1 δ2,g d δ=some δ1∧(S δ1= .nx δ2∨S δ1= .ct δ2)∧I (i+1) δ2)(hJ:∀δ',I ds.length δ'->J δ'):∃δ1 δ2,gg d δ=some δ1∧(Jk it g S δ1= .nx δ2∨Jk it g S δ1= .ct δ2)∧J δ2:=by
 obtain⟨δ',e,h⟩:=Zob I h0 turn
 exact⟨δ1,δ',hg,.inl (Zgm hi e),hJ δ' h⟩
theorem Yby{F:FD}(h:EvA as δ ds)(hF:Told F ds d):Zkw (wX F as J0) δ d:=by
 obtain⟨_,e1,d1⟩:=h
 obtain⟨o,e2,d2⟩:=hF
 exact⟨o,δ,by rw[Zzr,e1,Yw,d1,e2,Zym,Zqr],d2⟩
theorem Zg8{a b:FE}{bs es:List Xa}{as:List Xa}(ha:EvV a δ (.list as))(hb:EvV b δ (.list bs))(hz:Zn0 as bs=es):EvI (Zea (Zc a (Zc b Zm))) δ es:=Zzq (Zb ha (Zb hb Ze)) (congrArg some hz)
theorem Zzz(ha:EvV a δ (.list ds)):EvI (Zux (Zc a Zm)) δ (Zj2 ds):=by
 obtain⟨_,e1,d1⟩:=Zb ha Ze
 unfold EvI Zux
 rw[e1,Xf]
 dsimp only
 rw[d1]
theorem Zwv{y:Str}{F:FD}(h:δ[k]? =some (some (.fz (fnD y))))(ha:EvA as δ ds)(hF:Told F ds d):EvV (Ze5 k y F as) δ d:=by
 obtain⟨o,e1,d1⟩:=Zq ha hF
 refine⟨o,?_,d1⟩
 unfold Ze5
 rw[h]
 dsimp only
 rw[if_pos (Z00 y),e1]
theorem Zji{α:Type}{caps:List Nat}{it:FI}{me:FE}{t:FT}{cs:Zg}(xs:List α)(mk:α->Xa)(pr:α->Bool)(hi:EvI it δ (xs.map mk))(hz:xs.length≤1000000)(hb:blk 1 caps δ=none :: cs)(ht:∀x∈xs,EvT t (some (.fz (mk x)) :: cs) (pr x))(h:∀x∈xs,pr x=true->me (some (.fz (mk x)) :: cs)=some (.fz (mk x),some (.fz (mk x)) :: cs)):EvV (Y9 1 caps it (gNm 0) t me) δ (.list ((xs.filter pr).map mk)):=by
 unfold EvI at hi
 refine⟨_,Zsr (cs:=cs) xs mk pr (λx=>.fz (mk x)) hi (by rw[Qj];omega) hb (λx hx=>ht x hx) h,?_⟩
 rw[OT.data_nd,Qp]
 exact congrArg _ (Xy λx _=>OT.data_fz _)
theorem Told.none{F:FD}(h:Told F ds .none):F ds= .ok (.fz .none):=by
 obtain⟨o,e1,d1⟩:=h
 rw[e1,Zr2 d1]
end
end L2
namespace My
open PySem L2 PySem.Spec
noncomputable def Jl:FS :=
 (Zz (wE (Zce Z2c (Zc (Zd 0) Zm)) (Yt 0))
  (Zz (wE (Zce Z2c (Zc (Zd 1) Zm)) (Yt 1))
  (Zz (Ziy (tV (Zh gNe (Zd 1) (fC (.int 0)))) (Zz (wE (Zh Zij (Zd 0) (Zd 1)) (Yt 2))
  (Zz (wE (Zd 1) (Yt 0))
  (wE (Zd 2) (Yt 1)))))
  (wE (Zd 0) J0))))
noncomputable def Z9:FD:=Zaf 2 3 Jl
theorem Zjq{f1 f2:Int->Int->Option OT->Zg}{t:FT}{u:FS}(ht:∀x y z,t (f1 x y z)=some (!decide (y=0),f1 x y z))(hu:∀x y z,y≠0->∃z',u (f1 x y z)= .nx (f1 y (x.fmod y) z')) :
  ∀(n:Nat) (x y:Int) (z:Option OT),0≤x->0≤y->y.toNat<n->∃z',whileLoop t u n (f1 x y z)= .nx (f1 (JL x y:Int) 0 z')
 | 0,_,_,_,_,_,h=>absurd h (BW _)
 | n+1,x,y,z,hx,hy,h=>by
  unfold whileLoop
  rw[ht]
  dsimp only
  by_cases c:y=0
  ·subst c
   refine⟨z,?_⟩
   simp only[decide_true,Bool.not_true,BP,if_false]
   rw[Int.gcd_zero_right]
   congr 2
   omega
  ·simp only[c,decide_false,Bool.not_false,if_true]
   obtain⟨z1,e1⟩:=hu x y z c
   rw[e1]
   dsimp only
   have hm:x.fmod y=x%y:=Zgw (by omega)
   have h1:0≤x%y:=Int.emod_nonneg x c
   have h2:x%y<y:=Int.emod_lt_of_pos x (by omega)
   obtain⟨z2,e2⟩:=Zjq (f1:=f1) (f2:=f2) ht hu n y (x.fmod y) z1 hy (by omega) (by omega)
   exact⟨z2,by rw[e2,Zvz hx (by omega)]⟩
theorem Za3(a b:Int):Z9 [.int a,.int b]= .ok (.fz (.int (JL a b:Int))):=by
 obtain⟨z',e⟩:=Zjq (f1:=λx y z=>[some (.fz (.int x)),some (.fz (.int y)),z]) (f2:=λx y z=>[]) (t:=tV (Zh gNe (Zd 1) (fC (.int 0)))) (u:=Zz (wE (Zh Zij (Zd 0) (Zd 1)) (Yt 2)) (Zz (wE (Zd 1) (Yt 0)) (wE (Zd 2) (Yt 1)))) (λx y z=>Zci (Zmi Za Zt rfl)) (λx y z hy=>⟨_,Jm (Zy (Zmg Za Za hy)) (Jm (Zy Za) (Zy Za))⟩) ((b.natAbs:Int).toNat+1) (a.natAbs:Int) (b.natAbs:Int) none (by omega) (by omega) (by omega)
 rw[BX,Uh,Uh]at e
 exact Told.int<|Z4 rfl<|Ye (Zy (Zaj (Zb Za Ze) (Zr6 a)))<|Ye (Zy (Zaj (Zb Za Ze) (Zr6 b)))<|Ye (Zk9 _ e (by intro z;cases z)) (Wy Za)
noncomputable def Zdb:FS :=
 (Zz (wE (Zv Z9 (Zc (Zd 0) (Zc (Zd 1) Zm))) (Yt 2))
  (Zz (Zax (tV (Zh gLt (Zd 1) (fC (.int 0))))
  (wE (fUn Z7y (Zd 2)) (Yt 2))
  fNx)
  (wE (Zkx (Zc (Zh Zbi (Zd 0) (Zd 2)) (Zc (Zh Zbi (Zd 1) (Zd 2)) Zm))) J0)))
noncomputable def Wt:FD:=Zaf 2 3 Zdb
theorem Z3n{n:Nat}{t b:Int}(hb:b≠0)(hB:Bt n b)(hn:n≤9000)(s:Int)(e:s=shr t b):Zbi (.int t) (.int s)=some (.int (Xu t b).num)∧Zbi (.int b) (.int s)=some (.int ((Xu t b).den:Int)):=by
 subst e
 rw[Zf5 (Zf0 (Zxv hb) (Zyn hb hB) hn),Zf5 (Zf0 (Zxv hb) (Zyn hb hB) hn),Zyv hb,Z1e hb]
 exact⟨rfl,rfl⟩
theorem Zek{n:Nat}{t b:Int}(hb:b≠0)(hB:Bt n b)(hn:n≤9000:=by decide):Told Wt [.int t,.int b] (frD (Xu t b)):=by
 have fin:∀{δ:Zg} {s:Int},s=shr t b->δ[0]? =some (some (.fz (.int t)))->δ[1]? =some (some (.fz (.int b)))->δ[2]? =some (some (.fz (.int s)))->Zkw (wE (Zkx (Zc (Zh Zbi (Zd 0) (Zd 2)) (Zc (Zh Zbi (Zd 1) (Zd 2)) Zm))) J0) δ (frD (Xu t b)):=λe h0 h1 h2=>by
  obtain⟨e1,e2⟩:=Z3n hb hB hn _ e
  exact Wy (Zgk (Zb (Zn (Za h0) (Za h2) e1) (Zb (Zn (Za h1) (Za h2) e2) Ze)) (show 2≤1000 by decide))
 have g:Told Z9 [.int t,.int b] _:=.of (Za3 t b) (OT.data_fz _)
 by_cases c:b<0
 ·exact Z4 rfl<|Ye (Zy (Zq (Zb Za (Zb Za Ze)) g))<|Ye (Za2 (Zci (Z0v Za Zt (decide_eq_true c))) (Zy (Z7s Za))) (fin (by unfold shr;rw[if_pos c]) rfl rfl rfl)
 ·exact Z4 rfl<|Ye (Zy (Zq (Zb Za (Zb Za Ze)) g))<|Ye (W7 (Zci (Z0v Za Zt (decide_eq_false c))) rfl) (fin (by unfold shr;rw[if_neg c]) rfl rfl rfl)
noncomputable def Zd1:FS :=
 (wE (Zvt (Z8o "int" (Zd 0)) (fUn Ya7 (Z8o "bool" (Zd 0)))) J0)
noncomputable def Wu:FD:=Zaf 1 1 Zd1
theorem Zlr(i:Int):Wu [.int i]= .ok (.fz (.bool true)):=rfl
noncomputable def Za6:FS :=
 (Zz (Zax (tO (tNo (tD (Zv Wu (Zc (Zd 0) Zm)))) (tO (tNo (tD (Zv Wu (Zc (Zd 1) Zm)))) (tV (Zh gEq (Zd 1) (fC (.int 0))))))
  (Zml "NoNumber")
  fNx)
  (wE (Zv Wt (Zc (Zd 0) (Zc (Zd 1) Zm))) J0))
noncomputable def Yb:FD:=Zaf 2 2 Za6
theorem Zew{n:Nat}{t b:Int}(hb:b≠0)(hB:Bt n b)(hn:n≤9000:=by decide):Told Yb [.int t,.int b] (frD (Xu t b)):=by
 have w:∀{i:Int},Told Wu [.int i] (.bool true):=fun{i}=>.of (Zlr i) (OT.data_fz _)
 exact Z4 rfl<|Ye (W7 (Yax (Z64 (p:=true) (Zvq (Zq (Zb Za Ze) w))) (Yax (Z64 (p:=true) (Zvq (Zq (Zb Za Ze) w))) (Zci (Zex Za Zt (decide_eq_false hb))))) rfl) (Wy (Zq (Zb Za (Zb Za Ze)) (Zek hb hB hn)))
noncomputable def Zau:FS :=
 (Zz (wE (fC (.int 1)) (Yt 1))
  (Zz (Jk (Zgs (Zd 0)) (gNm 2)
  (wE (Zh Zes (Zh Zbi (Zd 1) (Zv Z9 (Zc (Zd 1) (Zc (Z2 gIx (Zd 2) (fC (.int 1))) Zm)))) (Z2 gIx (Zd 2) (fC (.int 1)))) (Yt 1)))
  (wE (Zd 1) J0)))
noncomputable def Yq:FD:=Zaf 1 3 Zau
noncomputable def prD(p:Int×Int):Xa:=.tuple [.int p.1,.int p.2]
theorem Zwa{a b B:Int}(ha:0<a)(hb:0<b)(h1:a∣B)(h2:b∣B)(hB:0<B):0<a.fdiv (JL a b)*b∧a∣a.fdiv (JL a b)*b∧b∣a.fdiv (JL a b)*b∧a.fdiv (JL a b)*b∣B:=by
 have hg:0<(JL a b:Int):=Zfa (by omega)
 have d1:(JL a b:Int)∣a:=Int.gcd_dvd_left ..
 have d2:(JL a b:Int)∣b:=Int.gcd_dvd_right ..
 rw[Je hg]
 have e:a/(JL a b:Int)*b=(Int.lcm a b:Int):=by
  have q:=Int.gcd_mul_lcm a b
  have h3:(JL a b:Int)*(Int.lcm a b:Int)=a*b:=by
   rw[←Int.natCast_mul,q,Int.natCast_mul,Int.natAbs_of_nonneg (by omega),Int.natAbs_of_nonneg (by omega)]
  obtain⟨k,hk⟩:=d1
  have e1:a/(JL a b:Int)=k:=Int.ediv_eq_of_eq_mul_right (by omega) hk
  rw[e1]
  apply Int.eq_of_mul_eq_mul_left (a:=(JL a b:Int)) (by omega)
  rw[h3,←Int.mul_assoc,←hk]
 rw[e]
 refine⟨?_,Int.dvd_lcm_left ..,Int.dvd_lcm_right ..,Int.coe_lcm_dvd h1 h2⟩
 have:Int.lcm a b≠0:=by
  rw[Ne,Int.lcm_eq_zero_iff]
  omega
 omega
theorem Zhr{n:Nat}{a B:Int}(hB:0<B)(h:a∣B)(b:Bt n B):Bt n a:=by
 refine Bt.of_le b ?_
 have:=Int.natAbs_dvd_natAbs.mpr h
 exact Nat.le_of_dvd (by omega) this
theorem Zc0{n:Nat}{B:Int}(hB:0<B)(bB:Bt n B)(hn:n≤9000:=by decide)(ps:List (Int×Int))(h:∀p∈ps,0<p.2∧p.2∣B) :
  ∃m,Told Yq [.list (ps.map prD)] (.int m)∧0<m∧(∀p∈ps,p.2∣m)∧m∣B:=by
 have key:∃d,Told Yq [.list (ps.map prD)] d∧∃m,d= .int m∧0<m∧(∀p∈ps,p.2∣m)∧m∣B:=by
  refine Zvc rfl<|Zef (Zy Zt)<|Zyd (ds:=ps.map prD) (λi δ=>∃m z,δ=[some (.fz (.list (ps.map prD))),some (.fz (.int m)),z]∧0<m∧(∀j p,j<i->ps[j]? =some p->p.2∣m)∧m∣B) (Zat Za) ⟨1,none,rfl,by decide,λj p hj=>absurd hj (BW j),Int.one_dvd _⟩ (λi d δ hd hi=>?_) λδ' hi=>?_
  ·obtain⟨m,z,hδ,h1,h2,h3⟩:=hi
   subst hδ
   rw[Xm]at hd
   cases e:ps[i]? with
   | none=>rw[e]at hd;cases hd
   | some p=>
    rw[e]at hd
    cases hd
    obtain⟨q1,q2⟩:=h p (Qv e)
    obtain⟨s1,s2,s3,s4⟩:=Zwa h1 q1 h3 q2 hB
    have g0:0<(JL m p.2:Int):=Zfa (by omega)
    have bg:Bt n (JL m p.2:Int):=Zhr hB (Int.dvd_trans (Int.gcd_dvd_right ..) q2) bB
    have bm:Bt n (m.fdiv (JL m p.2)):=by
     rw[Je g0]
     exact Bt.of_le (Zhr hB h3 bB) (Vi _ _)
    have at1:∀{δ:Zg},δ[2]? =some (some (.fz (prD p)))->EvV (Z2 gIx (Zd 2) (fC (.int 1))) δ (.int p.2):=λh=>Wb (Za h) Zt rfl
    refine⟨_,_,rfl,.inl (Zy (Zn (Zn Za (Zq (Zb Za (Zb (at1 rfl) Ze)) (.of (Za3 m p.2) (OT.data_fz _))) (Zf5 (Zf0 (by omega) bg hn))) (at1 rfl) (Ju (Wm bm (Zhr hB q2 bB) (by omega))))),_,_,rfl,s1,λj p' hj hp=>?_,s4⟩
    by_cases z:j=i
    ·subst z
     rw[e]at hp;cases hp
     exact s3
    ·exact Int.dvd_trans (h2 j p' (by omega) hp) s2
  ·obtain⟨m,z,rfl,h1,h2,h3⟩:=hi
   refine Zk6 Za ⟨m,rfl,h1,λp hp=>?_,h3⟩
   obtain⟨j,hj⟩:=JX hp
   exact h2 j p (by have:=(Xk.mp hj).1;rwa[Xg]) hj
 obtain⟨d,h,m,rfl,hm⟩:=key
 exact⟨m,h,hm⟩
noncomputable def Zbc:FS :=
 (Zz (wE (fC (.int 1)) (Yt 1))
  (Zz (Jk (Zgs (Zd 0)) (gNm 2)
  (wE (Zv Yq (Zc (Z2 Zwf (Zdm (Zc (Zkx (Zc (fC (.int 1)) (Zc (Zd 1) Zm))) Zm)) (Zd 2)) Zm)) (Yt 1)))
  (wE (Zd 1) J0)))
noncomputable def Yj:FD:=Zaf 1 3 Zbc
theorem Z1w(r:List Rat):r.map frD=(r.map λq=>(q.num,(q.den:Int))).map prD:=by rw[Qp];rfl
noncomputable def Z2b(T:List (List Rat))(B:Int):Prop:=∀r∈T,∀q∈r,(q.den:Int)∣B
theorem Zdn{n:Nat}{B:Int}(hB:0<B)(bB:Bt n B)(hn:n≤9000:=by decide)(T:List (List Rat))(hz:∀r∈T,r.length≤1000)(h:Z2b T B) :
  ∃m,Told Yj [tbD T] (.int m)∧0<m∧Z2b T m∧m∣B:=by
 have key:∃d,Told Yj [.list (T.map Zlh)] d∧∃m,d= .int m∧0<m∧Z2b T m∧m∣B:=by
  refine Zvc rfl<|Zef (Zy Zt)<|Zyd (ds:=T.map Zlh) (λi δ=>∃m z,δ=[some (.fz (.list (T.map Zlh))),some (.fz (.int m)),z]∧0<m∧(∀j r,j<i->T[j]? =some r->∀q∈r,(q.den:Int)∣m)∧m∣B) (Zat Za) ⟨1,none,rfl,by decide,λj p hj=>absurd hj (BW j),Int.one_dvd _⟩ (λi d δ hd hi=>?_) λδ' hi=>?_
  ·obtain⟨m,z,hδ,h1,h2,h3⟩:=hi
   subst hδ
   rw[Xm]at hd
   cases e:T[i]? with
   | none=>rw[e]at hd;cases hd
   | some r=>
    rw[e]at hd
    cases hd
    have hr:=Qv e
    obtain⟨m',e1,p1,p2,p3⟩:=Zc0 hB bB hn ((1,m) :: r.map λq=>(q.num,(q.den:Int))) λp hp=>by
     rcases Xl.mp hp with rfl|hp
     ·exact⟨h1,h3⟩
     ·obtain⟨q,hq,rfl⟩:=XQ.mp hp
      exact⟨Zah q,h r hr q hq⟩
    rw[Ql,←Z1w]at e1
    have hl:=hz r hr
    refine⟨_,_,rfl,.inl (Zy (Zq (Zb (Zo5 (ds:=[prD (1,m)]) (es:=r.map frD) (Zaw (Zb (Zgk (Zb Zt (Zb Za Ze)) (show 2≤1000 by decide)) Ze) (show 1≤1000 by decide)) Za (by rw[Xg,List.length_singleton];omega)) Ze) e1)),m',_,rfl,p1,λj r' hj hr' q hq=>?_,p3⟩
    by_cases z:j=i
    ·subst z
     rw[e]at hr';cases hr'
     exact p2 (q.num,(q.den:Int)) (.tail _ (XQ.mpr ⟨q,hq,rfl⟩))
    ·exact Int.dvd_trans (h2 j r' (by omega) hr' q hq) (p2 (1,m) (.head _))
  ·obtain⟨m,z,rfl,h1,h2,h3⟩:=hi
   refine Zk6 Za ⟨m,rfl,h1,λr hr q hq=>?_,h3⟩
   obtain⟨j,hj⟩:=JX hr
   exact h2 j r (by have:=(Xk.mp hj).1;rwa[Xg]) hj q hq
 obtain⟨d,h,m,rfl,hm⟩:=key
 exact⟨m,h,hm⟩
noncomputable def scI(m:Int)(q:Rat):Int:=q.num*(m/(q.den:Int))
theorem Zr7{m:Int}{q:Rat}(h:(q.den:Int)∣m):(scI m q:Rat)=q*(m:Rat):=by
 obtain⟨k,rfl⟩:=h
 unfold scI
 rw[Int.mul_ediv_cancel_left _ (Zte q)]
 rw[Vk,Vk,Yet,Rat.mul_assoc]
noncomputable def Zcx:FS :=
 (wE (Y9 1 [0] (Zgs (Zd 1)) (gNm 0) Zfg (Zh Zes (Z2 gIx (Zd 0) (fC (.int 0))) (Zh Zbi (Zd 1) (Z2 gIx (Zd 0) (fC (.int 1)))))) J0)
noncomputable def Jb:FD:=Zaf 2 2 Zcx
theorem Zgj{n:Nat}{m:Int}(hm:0<m)(bm:Bt n m)(r:List Rat)(hz:r.length≤1000)(h:∀q∈r,(q.den:Int)∣m∧Bt n q.num)(hn:n≤9000:=by decide) :
  Told Jb [.int m,Zlh r] (.list (r.map λq=>.int (scI m q))) :=
 Z4 rfl<|Wy<|Zdx (cs:=[some (.fz (.int m))]) r frD (λq=>.int (scI m q)) (Zat Za) (by omega) rfl λq hq=>by
  obtain⟨h1,h2⟩:=h q hq
  refine(Zn (Wb (d:=.int q.num) Za Zt rfl) (Zn Za (Wb (d:=.int (q.den:Int)) Za Zt rfl) (Zf5 (Zf0 (Zte q) (Zhr hm h1 bm) hn))) (Ju ?_)).cast ?_
  ·rw[Je (Zah q)]
   exact Wm h2 (Bt.of_le bm (Vi _ _)) (by omega)
  ·rw[Je (Zah q)];rfl
noncomputable def Zb2:FS :=
 (wE (Y9 1 [0] (Zgs (Zd 1)) (gNm 0) Zfg (Zv Jb (Zc (Zd 1) (Zc (Zd 0) Zm)))) J0)
noncomputable def Y8:FD:=Zaf 2 2 Zb2
theorem Zff{n:Nat}{m:Int}(hm:0<m)(bm:Bt n m)(T:List (List Rat))(hT:T.length≤1000)(hz:∀r∈T,r.length≤1000)(h:Z2b T m)(hb:∀r∈T,∀q∈r,Bt n q.num)(hn:n≤9000:=by decide) :
  Told Y8 [.int m,tbD T] (.list (T.map λr=>.list (r.map λq=>.int (scI m q)))) :=
 Z4 rfl<|Wy<|Zdx (cs:=[some (.fz (.int m))]) T Zlh (λr=>.list (r.map λq=>.int (scI m q))) (Zat Za) (by omega) rfl λr hr=>Zq (Zb Za (Zb Za Ze)) (Zgj hm bm r (hz r hr) (λq hq=>⟨h r hr q hq,hb r hr q hq⟩) hn)
noncomputable def Zdo:FS :=
 (Zz (wE (Zdm Zm) (Zcd 1))
  (Zz (Jk (iRa (Zc (Zd 0) Zm)) (gNm 2)
  (Jk (iRb (Zc (Zh Zcc (Zd 2) (fC (.int 1))) (Zc (Zd 0) Zm))) (gNm 3)
  (W5 1 (Zkx (Zc (Zd 2) (Zc (Zd 3) Zm))))))
  (Zeb 1)))
noncomputable def Y6:FD:=Zaf 1 4 Zdo
noncomputable def Wd(n:Nat):List (Nat×Nat):=(Xj n).flatMap λi=>(Xj (n-(i+1))).map λj=>(i,i+1+j)
noncomputable def ptD(p:Nat×Nat):Xa:=.tuple [.int p.1,.int p.2]
theorem Zfn{n:Nat}{p:Nat×Nat}(h:p∈Wd n):p.1<p.2∧p.2<n:=by
 unfold Wd at h
 obtain⟨i,hi,hp⟩:=Ux.mp h
 obtain⟨j,hj,rfl⟩:=XQ.mp hp
 have:=X5.mp hi
 have:=X5.mp hj
 dsimp only
 omega
theorem Zi2{n i j:Nat}(h:i<j)(hj:j<n):(i,j)∈Wd n:=by
 unfold Wd
 exact Ux.mpr ⟨i,X5.mpr (by omega),XQ.mpr ⟨j-(i+1),X5.mpr (by omega),by congr 1;omega⟩⟩
noncomputable def Zjl(n i:Nat):List (Nat×Nat):=(Xj i).flatMap λi=>(Xj (n-(i+1))).map λj=>(i,i+1+j)
theorem Zg7(n:Nat):∀i,(Zjl n i).length≤i*n
 | 0=>by simp[Zjl]
 | i+1=>by
  have:=Zg7 n i
  unfold Zjl at this⊢
  rw[U3,List.flatMap_append,Qx]
  simp only[List.flatMap_cons,List.flatMap_nil,QL,Xg,XH]
  have e:(i+1)*n=i*n+n:=by rw[Nat.succ_mul]
  omega
theorem Zpr(n i:Nat):Zjl n (i+1)=Zjl n i ++ (Xj (n-(i+1))).map λj=>(i,i+1+j):=by
 unfold Zjl;rw[U3,List.flatMap_append];simp
theorem Zhl(n:Nat)(hn:n≤1000):Told Y6 [.int n] (.list ((Wd n).map ptD)):=by
 refine Z4 rfl<|Ye Zlj<|Zs7 (ds:=Zd4 0 n) (λi δ=>∃z1 z2,δ=[some (.fz (.int n)),some (.nd (((Zjl n i).map ptD).map OT.fz)),z1,z2]) (Zbz (Zb Za Ze) (by omega)) ⟨_,_,rfl⟩ (λi d δ hd h=>?_) λδ' h=>?_
 ·obtain⟨z1,z2,rfl⟩:=h
  obtain⟨hi,rfl⟩:=Wh hd
  rw[Qz]
  have ln:=Zg7 n i
  have l2:i*n≤999*1000:=Nat.mul_le_mul (by omega) hn
  refine Zoi (ds:=Zd4 ((i+1:Nat):Int) (n-(i+1))) (λj δ=>∃z,δ=[some (.fz (.int n)),some (.nd (((Zjl n i ++ (Xj j).map λj=>(i,i+1+j)).map ptD).map OT.fz)),some (.fz (.int i)),z]) rfl (Z42 (m:=i+1) (Zb (EvV.cast (J1 Za Zt) rfl) (Zb Za Ze)) (by omega) (by omega)) ⟨z2,by rw[List.range_zero,List.map_nil,QL];rfl⟩ (λj d δ hd h=>?_) λδ' h=>?_
  ·obtain⟨z,rfl⟩:=h
   obtain⟨hj,rfl⟩:=Wh hd
   refine⟨_,_,rfl,.inl (Zmo (Zgk (Zb Za (Zb Za Ze)) (show 2≤1000 by decide)) rfl (by rw[Xg,Xg,Qx,Xg,XH];omega)),some (.fz (.int (((i+1:Nat):Int)+j))),?_⟩
   rw[U3]
   simp only[Q8,Vb]
   rfl
  ·obtain⟨z,rfl⟩:=h
   rw[Y0,←Zpr]
   exact⟨_,_,rfl⟩
 ·obtain⟨z1,z2,rfl⟩:=h
  rw[Y0]
  exact Z8d rfl (by rw[OT.data_nd,OT.map_fz];rfl)
end My
namespace L2
open PySem PySem.Spec
noncomputable def EvP(e:FE)(δ:Zg)(Q:Xa->Zg->Prop):Prop:=∃t δ',e δ=some (t,δ')∧Q t.data δ'
noncomputable def EpA(a:FA)(δ:Zg)(Q:List Xa->Zg->Prop):Prop:=∃ts δ',a δ=some (ts,δ')∧Q (OT.datas ts) δ'
noncomputable def EpT(t:FT)(δ:Zg)(Q:Bool->Zg->Prop):Prop:=∃b δ',t δ=some (b,δ')∧Q b δ'
noncomputable def EpS(S:FS)(δ:Zg)(N:Zg->Prop)(R:Xa->Zg->Prop):Prop:=(∃δ',S δ= .nx δ'∧N δ')∨∃o δ',S δ= .rt o δ'∧R o.data δ'
noncomputable def ToldI(F:FIO)(t:OT)(ds:List Xa)(Q:Xa->OT->Prop):Prop:=∃r t',F t ds=some (r,t')∧Q r.data t'
section
variable {e a b:FE}{as:FA}{δ:Zg}{Q:Xa->Zg->Prop}{QA:List Xa->Zg->Prop}{T:Bool->Zg->Prop}{t u:FT}{S S':FS}{N:Zg->Prop}{R:Xa->Zg->Prop}{i:Nat}{d:Xa}
theorem Z8(h:EvV e δ d)(q:Q d δ):EvP e δ Q:=by
 obtain⟨t,e1,e2⟩:=h
 exact⟨t,δ,e1,e2▸q⟩
theorem Zbe{g:Xa->Xa->Option Xa}(h:EvP a δ λx δ1=>EvP b δ1 λy δ2=>∃d,g x y=some d∧Q d δ2):EvP (Zh g a b) δ Q:=by
 obtain⟨t,δ1,e1,t2,δ2,e2,d,e3,q⟩:=h
 exact⟨.fz d,δ2,by rw[Zog,e1];show(b δ1).bind _=_;rw[e2];show(g _ _).bind _=_;rw[e3];rfl,by rw[OT.data_fz];exact q⟩
theorem Zhh{g:Xa->Xa->Option OT}(h:EvP a δ λx δ1=>EvP b δ1 λy δ2=>∃o,g x y=some o∧Q o.data δ2):EvP (Z2 g a b) δ Q:=by
 obtain⟨t,δ1,e1,t2,δ2,e2,d,e3,q⟩:=h
 exact⟨d,δ2,by rw[Zrg,e1];show(b δ1).bind _=_;rw[e2];show(g _ _).bind _=_;rw[e3];rfl,q⟩
theorem Zbw(q:QA [] δ):EpA Zm δ QA:=⟨[],δ,rfl,by rw[Zdd];exact q⟩
theorem Zae(h:EvP e δ λd δ1=>EpA as δ1 λds δ2=>QA (d :: ds) δ2):EpA (Zc e as) δ QA:=by
 obtain⟨t,δ1,e1,ts,δ2,e2,q⟩:=h
 exact⟨t :: ts,δ2,by rw[Zfe,e1];show(as δ1).bind _=_;rw[e2];rfl,by rw[Za1];exact q⟩
theorem Zu7{ds:List Xa}(h:EvA as δ ds)(q:QA ds δ):EpA as δ QA:=by
 obtain⟨ts,e1,e2⟩:=h
 exact⟨ts,δ,e1,e2▸q⟩
theorem Zbp{F:FIO}{t0:OT}(h0:δ[i]? =some (some t0))(h:EpA as δ λds δ1=>∃t,δ1[i]? =some (some t)∧ToldI F t ds λd t'=>Q d (δ1.set i (some t'))):EvP (Z5 i F as) δ Q:=by
 obtain⟨ts,δ1,e1,t,e2,r,t',e3,q⟩:=h
 refine⟨r,δ1.set i (some t'),?_,q⟩
 rw[Zlw,h0]
 show(as δ).bind _=_
 rw[e1]
 show atO δ1[i]? _=_
 rw[e2]
 show(F t _).bind _=_
 rw[e3];rfl
theorem Zyk(h:EpA as δ λds δ1=>ds.length≤1000∧Q (.list ds) δ1):EvP (Zdm as) δ Q:=by
 obtain⟨ts,δ1,e1,hl,q⟩:=h
 refine⟨.nd ts,δ1,?_,by rw[OT.data_nd,←datas_map];exact q⟩
 rw[Zjm,e1]
 show(if ts.length≤Xq then _ else _)=_
 rw[if_pos (by rw[Zfd]at hl;rw[Qj];omega)]
theorem Z12(h:EvP e δ λd δ'=>∃p,d= .bool p∧T p δ'):EpT (tV e) δ T:=by
 obtain⟨t,δ',e1,p,e2,q⟩:=h
 have:=Zhy e2
 subst this
 exact⟨p,δ',by unfold tV;rw[e1];rfl,q⟩
theorem Zd6{p:Bool}(h:EvT t δ p)(q:T p δ):EpT t δ T:=⟨p,δ,h,q⟩
theorem Z4s(h:EpT t δ λp δ1=>(p=true->EpT u δ1 T)∧(p=false->T false δ1)):EpT (tAn t u) δ T:=by
 obtain⟨p,δ1,e1,q1,q2⟩:=h
 cases p with
 | true=>
  obtain⟨p2,δ2,e2,q⟩:=q1 rfl
  exact⟨p2,δ2,by unfold tAn;rw[e1];exact e2,q⟩
 | false=>exact⟨false,δ1,by unfold tAn;rw[e1];rfl,q2 rfl⟩
theorem Zei{δ':Zg}(h:S δ= .nx δ')(q:N δ'):EpS S δ N R:=.inl ⟨δ',h,q⟩
theorem Wa(h:EpS S δ (λδ'=>EpS S' δ' N R) R):EpS (Zz S S') δ N R:=by
 rcases h with⟨δ',e,h⟩|⟨o,δ',e,h⟩
 ·rcases h with⟨δ2,e2,q⟩|⟨o,δ2,e2,q⟩
  ·exact .inl ⟨δ2,by rw[Zhc,e,Zsj,e2],q⟩
  ·exact .inr ⟨o,δ2,by rw[Zhc,e,Zsj,e2],q⟩
 ·exact .inr ⟨o,δ',by rw[Zhc,e,Zyo],h⟩
theorem Zam(h:EvP e δ λd δ'=>N (δ'.set i (some (.fz d)))):EpS (wE e (Yt i)) δ N R:=by
 obtain⟨t,δ',e1,q⟩:=h
 exact .inl ⟨_,by rw[Zbx,e1];rfl,q⟩
theorem Zm2(h:EvP e δ R):EpS (wE e J0) δ N R:=by
 obtain⟨t,δ',e1,q⟩:=h
 exact .inr ⟨t,δ',by rw[Zbx,e1];rfl,q⟩
theorem Zmd(h:EpT t δ λp δ'=>(p=true->EpS S δ' N R)∧(p=false->EpS S' δ' N R)):EpS (Zax t S S') δ N R:=by
 obtain⟨p,δ',e1,q1,q2⟩:=h
 have e:Zax t S S' δ=if p=true then S δ' else S' δ':=by unfold Zax;rw[e1]
 cases p with
 | true=>
  have g:=q1 rfl
  unfold EpS at g⊢
  rw[e];exact g
 | false=>
  have g:=q2 rfl
  unfold EpS at g⊢
  rw[e];exact g
theorem Zi8(q:N δ):EpS fNx δ N R:=.inl ⟨δ,rfl,q⟩
theorem EpS.mono{N':Zg->Prop}{R':Xa->Zg->Prop}(h:EpS S δ N R)(k:∀δ',N δ'->N' δ')(k2:∀d δ',R d δ'->R' d δ'):EpS S δ N' R' :=
 h.imp (λ⟨δ',e,q⟩=>⟨δ',e,k _ q⟩) λ⟨o,δ',e,q⟩=>⟨o,δ',e,k2 _ _ q⟩
theorem Zu3{g:FG}(I:Nat->Zg->Prop)(ds:List Xa)(m:Nat)(h0:I m δ)(turn:∀(k:Nat) (d:Xa) (δ:Zg),ds[k]? =some d->I (m+k) δ->∃δ1,g d δ=some δ1∧EpS S δ1 (I (m+k+1)) R)(fin:∀δ',I (m+ds.length) δ'->N δ') :
  (∃ δ',forLoop g S ds δ= .nx δ'∧N δ')∨∃o δ',forLoop g S ds δ= .rt o δ'∧R o.data δ':=by
 induction ds generalizing m δ with
 | nil=>exact .inl ⟨δ,rfl,fin δ h0⟩
 | cons d ds ih=>
  obtain⟨δ1,e1,h⟩:=turn 0 d δ rfl h0
  rcases h with⟨δ2,e2,q⟩|⟨o,δ2,e2,q⟩
  ·have e:forLoop g S (d :: ds) δ=forLoop g S ds δ2:=by rw[forLoop,e1];show(match S δ1 with| .nx δ2=>_| .ct δ2=>_| .bk δ2=>_|r=>_)=_;rw[e2]
   rw[e]
   refine ih (m+1) q (λk d' δ' hk hI=>?_) λδ' hI=>fin δ' (by rw[Bw];rw[show m+1+ds.length=m+(ds.length+1) by omega]at hI;exact hI)
   have:=turn (k+1) d' δ' hk (by rw[show m+(k+1)=m+1+k by omega];exact hI)
   rwa[show m+(k+1)+1=m+1+k+1 by omega]at this
  ·refine .inr ⟨o,δ2,?_,q⟩
   rw[forLoop,e1];show(match S δ1 with| .nx δ2=>_| .ct δ2=>_| .bk δ2=>_|r=>_)=_;rw[e2]
theorem J8{it:FI}{g:FG}{ds:List Xa}{δ0:Zg}(I:Nat->Zg->Prop)(hi:it δ=some (ds,δ0))(h0:I 0 δ0)(turn:∀(k:Nat) (d:Xa) (δ:Zg),ds[k]? =some d->I k δ->∃δ1,g d δ=some δ1∧EpS S δ1 (I (k+1)) R)(fin:∀δ',I ds.length δ'->N δ'):EpS (Jk it g S) δ N R:=by
 have e:Jk it g S δ=forLoop g S ds δ0:=by unfold Jk;rw[hi]
 have h:=Zu3 (R:=R) (N:=N) (S:=S) (g:=g) (δ:=δ0) I ds 0 h0 (λk d δ hk hI=>by rw[Vy]at hI⊢;exact turn k d δ hk hI) (λδ' hI=>by rw[Vy]at hI;exact fin δ' hI)
 unfold EpS
 rw[e];exact h
noncomputable def EpI(it:FI)(δ:Zg)(Q:List Xa->Zg->Prop):Prop:=∃ds δ',it δ=some (ds,δ')∧Q ds δ'
theorem Z4g(h:EpA as δ λds δ'=>∃n:Nat,ds=[.int n]∧n≤1000000∧QA (Zd4 0 n) δ'):EpI (iRa as) δ QA:=by
 obtain⟨ts,δ',e1,n,e2,hn,q⟩:=h
 exact⟨_,δ',by rw[Zx6,e1,Xf,e2,Z3j,Zse (by omega) (by omega),Q3],q⟩
theorem Zu8{it:FI}{g:FG}(h:EpI it δ λds δ0=>∃I:Nat->Zg->Prop,I 0 δ0∧(∀(k:Nat) (d:Xa) (δ:Zg),ds[k]? =some d->I k δ->∃δ1,g d δ=some δ1∧EpS S δ1 (I (k+1)) R)∧∀δ',I ds.length δ'->N δ'):EpS (Jk it g S) δ N R:=by
 obtain⟨ds,δ0,e,I,h0,turn,fin⟩:=h
 exact J8 I e h0 turn fin
theorem ToldI.mono{F:FIO}{t0:OT}{ds:List Xa}{Q Q':Xa->OT->Prop}(h:ToldI F t0 ds Q)(k:∀d t,Q d t->Q' d t):ToldI F t0 ds Q':=by
 obtain⟨r,t',e,q⟩:=h
 exact⟨r,t',e,k _ _ q⟩
theorem Z6c{g:FG}(I:Nat->List Xa->Zg->Prop)(ds:List Xa)(m:Nat)(acc:List Xa)(h0:I m acc δ)(turn:∀(k:Nat) (d:Xa) (acc:List Xa) (δ:Zg),ds[k]? =some d->I (m+k) acc δ->∃δ1,g d δ=some δ1∧EpT t δ1 λp δ2=>(p=true->EvP e δ2 λd δ3=>I (m+k+1) (acc ++ [d]) δ3)∧(p=false->I (m+k+1) acc δ2)) :
  ∃ts δ',compLoop g t e ds δ=some (ts,δ')∧I (m+ds.length) (acc ++ ts.map OT.data) δ':=by
 induction ds generalizing m acc δ with
 | nil=>exact⟨[],δ,rfl,by rw[List.map_nil,QL];exact h0⟩
 | cons d ds ih=>
  obtain⟨δ1,e1,p,δ2,e2,q1,q2⟩:=turn 0 d acc δ rfl h0
  have next:∀(k:Nat) (d:Xa) (acc:List Xa) (δ:Zg),ds[k]? =some d->I (m+1+k) acc δ->∃δ1,g d δ=some δ1∧EpT t δ1 λp δ2=>(p=true->EvP e δ2 λd δ3=>I (m+1+k+1) (acc ++ [d]) δ3)∧(p=false->I (m+1+k+1) acc δ2):=λk d acc δ hk hI=>by
   have:=turn (k+1) d acc δ hk (by rw[show m+(k+1)=m+1+k by omega];exact hI)
   rwa[show m+(k+1)+1=m+1+k+1 by omega]at this
  have el:m+1+ds.length=m+(ds.length+1):=by omega
  cases p with
  | true=>
   obtain⟨o,δ3,e3,hI⟩:=q1 rfl
   obtain⟨ts,δ',e4,hf⟩:=ih (m+1) (acc ++ [o.data]) hI next
   refine⟨o :: ts,δ',?_,?_⟩
   ·rw[compLoop,e1];show(t δ1).bind _=_;rw[e2];show(e δ2).bind _=_;rw[e3];show(compLoop g t e ds δ3).bind _=_;rw[e4];rfl
   ·rw[Bw,←el,Ql];rw[Vb]at hf;exact hf
  | false=>
   obtain⟨ts,δ',e4,hf⟩:=ih (m+1) acc (q2 rfl) next
   refine⟨ts,δ',?_,by rw[Bw,←el];exact hf⟩
   rw[compLoop,e1];show(t δ1).bind _=_;rw[e2];exact e4
theorem Zju{o:OT}{δ':Zg}(h:e δ=some (o,δ'))(q:N (δ'.set i (some o))):EpS (wE e (Zcd i)) δ N R:=.inl ⟨_,by rw[Zbx,h];rfl,q⟩
theorem Zg3{np n:Nat}{t0:OT}{ds:List Xa}{Q:Xa->OT->Prop}(hl:ds.length+1=np)(h:EpS S (Zha n t0 ds) (λδ'=>∃t',δ'[0]? =some (some t')∧Q .none t') λd δ'=>∃t',δ'[0]? =some (some t')∧Q d t'):ToldI (Zqi np n S) t0 ds Q:=by
 unfold ToldI
 rw[Zrx hl]
 rcases h with⟨δ',e,t',e2,q⟩|⟨o,δ',e,t',e2,q⟩
 ·exact⟨.fz .none,t',by rw[e];show(match δ'[0]? with|some (some t)=>some (OT.fz .none,t)|_=>none)=_;rw[e2],by rw[OT.data_fz];exact q⟩
 ·exact⟨o,t',by rw[e];show(match δ'[0]? with|some (some t)=>some (o,t)|_=>none)=_;rw[e2],q⟩
end
end L2
namespace L2
open PySem PySem.Spec PyProof.Rows
variable {G:Xb}
open Classical in
noncomputable def les(H:Hp)(bs:List Addr):Hp:=λb=>if b∈bs then none else H b
theorem Zr3{H:Hp}{bs:List Addr}{b:Addr}(h:b∈bs):les H bs b=none:=by unfold les;exact if_pos h
theorem Zcm{H:Hp}{bs:List Addr}{b:Addr}(h:b∉bs):les H bs b=H b:=by unfold les;exact if_neg h
theorem Zkd{H:Hp}{bs:List Addr}{b:Addr}(h:les H bs b=none):b∈bs∨H b=none:=by
 by_cases z:b∈bs
 ·exact .inl z
 ·rw[Zcm z]at h;exact .inr h
theorem Zvh{H:Hp}{bs:List Addr}{b:Addr}{o}(h:les H bs b=some o):b∉bs∧H b=some o:=by
 by_cases z:b∈bs
 ·rw[Zr3 z]at h;cases h
 ·rw[Zcm z]at h;exact⟨z,h⟩
noncomputable def spJ(G:Xb)(S:OT->OT->(OT->OT->Prop)->Prop):Sp:=λvs H Q _=>∃L v0 t0 as v1 t1 bs k,vs=[v0,v1]∧Own G H L v0 t0 as∧Own G H L v1 t1 bs∧as.Nodup∧bs.Nodup∧(∀a∈as,a∉bs)∧(∀a∈as,¬L a)∧(∀a∈bs,¬L a)∧S t0 t1 k∧
 ∀r t' v H' new as',k r t'->(∀b o,les H bs b=some o->b∉as->H' b=some o)->(∀b,H' b=none->les H bs b=none) ->
  Own G H' (λa=>(L a∨les H bs a=none)∧a∉new∧a∉as') v r new->Own G H' (λa=>(L a∨les H bs a=none)∧a∉new∧a∉as') v0 t' as'->(as' ++ new).Nodup->(∀a∈new,les H bs a=none)->(∀a∈as',a∈as∨les H bs a=none)->Q v H'
section
variable {X:Cx}{io:List Nat}{p p' p'' c c':Bool}{e a b:Expr}{m ma mb:MEt}{es rest:List Expr}{mr:MAt}{pos:Pos}
variable {CX:CXT}{k:Nat}{f:Addr}{fd:Xp}{ps:List Str}{E:XK}{x:Str}{pp:Pos}
theorem Rel.less{C:MC G}{H:Hp}{σ:St}{δ:Zg}{fp:Fp}{ex:Addr->Prop}{new:List Addr}(R:Rel C io H σ δ fp (exu ex new))(hm:∀a∈new,∃xs:MuO,H a=some xs.ho)(h0:∀a∈new,C.H₀ a=none)(hx:∀a∈new,¬ex a) :
  Rel C io (les H new) σ δ fp ex:=by
 refine⟨R.len,λi t e=>?_,R.emp,R.nd,R.dj,λi a h z=>R.dx i a h (.inl z),λa z w=>?_,λb o e n=>?_,λb z=>?_,R.new,R.io⟩
 ·obtain⟨v,e1,o⟩:=R.own i t e
  refine⟨v,e1,o.frame (λa xs l q=>?_) (λa xs q=>?_) λa m xs q=>?_⟩
  ·have na:a∉new:=λz=>l.2.1 (.inr z)
   refine⟨⟨l.1,λz=>l.2.1 (.inl z),l.2.2⟩,?_⟩
   rcases q with q|⟨u,q⟩
   ·exact .inl (by rw[Zcm na];exact q)
   ·exact .inr ⟨u,by rw[Zcm na];exact q⟩
  ·rw[Zcm λz=>by
    obtain⟨ys,e⟩:=hm a z
    exact ImO.nm q e]
   exact q
  ·rw[Zcm λz=>R.dx i a m (.inr z)]
   exact q
 ·rcases Zkd w with w|w
  ·exact hx a w z
  ·exact R.xa a (.inl z) w
 ·rw[Zcm λz=>by rw[h0 b z]at e;cases e]
  exact R.fr b o e n
 ·rcases Zkd z with z|z
  ·exact h0 b z
  ·exact R.al b z
noncomputable def Zln(i:Nat)(S:OT->OT->(OT->OT->Prop)->Prop)(me:MEt):MEt:=λδ K=>match δ[i]? with
 | some (some _)=>me δ λr1 δ1=>match δ1[i]? with
  | some (some t)=>S t r1 λr t'=>K r (δ1.set i (some t'))
  | _=>False
 | _=>False
theorem Z3u{S}{i:Nat}{t:TE}(sa:SE G io p true t m):SE G io false true (Zue (spJ G S) [] E (Zuu (Z8m i) (Zuu t Ybs))) (Zln i S m):=by
 intro C H σ δ fp ex K Q R h kk
 unfold Zln at h
 split at h
 case h_2=>exact h.elim
 rename_i t0 hi0
 obtain⟨v0,hv,_⟩:=R.own i t0 hi0
 refine⟨v0,hv,?_⟩
 refine sa C H σ δ fp ex _ _ R h λH1 w1 r1 δ1 fp1 new1 rr h1=>?_
 show spJ G S ((v0 :: [w1]) ++ []) H1 Q E
 rw[QL]
 split at h1
 case h_2=>exact h1.elim
 rename_i t1 hi1
 have R1:=rr.rel
 obtain⟨v1,hv1,o1⟩:=R1.own i t1 hi1
 rw[hv]at hv1
 cases hv1
 refine⟨Lf C fp1 (exu ex new1),v0,t1,fp1 i,w1,r1,new1,_,rfl,o1,rr.own.wide λa l _=>l rfl,R1.nd i,rr.nd,λa m z=>R1.dx i a m (.inr z),λa m l=>l.1 ⟨i,m⟩,λa m l=>l.2.1 (.inr m),h1,?_⟩
 intro r t' v H' new as' kr keep al orr ot nd hn ha
 have nd2:=QQ.mp nd
 have Rm:Rel C io (les H1 new1) σ δ1 fp1 ex:=R1.less (λa z=>rr.own.some a z) (λa z=>R.al a (rr.fresh a z)) λa z w=>R.xa a w (rr.fresh a z)
 have lw:∀a,((Lf C fp1 (exu ex new1) a∨les H1 new1 a=none)∧a∉new∧a∉as')->H' a≠none->Lf C (fpu fp1 i as') (exu ex new) a:=λa l _=>by
  have hf:¬Foot (fpu fp1 i as') a:=λz=>by
   rcases z.of_u with z|⟨j,_,z⟩
   ·exact l.2.2 z
   ·rcases l.1 with l1|l1
    ·exact l1.1 ⟨j,z⟩
    ·exact Rm.footSome l1 ⟨j,z⟩
  rcases l.1 with l1|l1
  ·exact⟨hf,λz=>z.elim (λz=>l1.2.1 (.inl z)) l.2.1,l1.2.2⟩
  ·have:=Rm.newOk l1
   exact⟨hf,λz=>z.elim this.2.1 l.2.1,.inr this.2.2⟩
 have hnn:∀a∈new,H' a≠none:=λa m z=>by
  obtain⟨xs,e⟩:=orr.some a m
  rw[z]at e;cases e
 obtain⟨R2,S2⟩:=Rm.change (new:=new) hi1 hv keep al (ot.wide lw) nd2.1 ha (λa m=>⟨hn a m,hnn a m,λz=>nd2.2.2 a z a m rfl⟩)
 have S1:Stp p H δ fp (les H1 new1) δ1 fp1:=⟨λb o e q=>by
   rw[Zcm λz=>by rw[rr.fresh b z]at e;cases e]
   exact rr.stp.keep b o e q,rr.stp.env,rr.stp.grow,λb z=>by
   rcases Zkd z with z|z
   ·exact rr.fresh b z
   ·exact rr.stp.al b z⟩
 refine kk H' v r _ _ new ⟨R2,?_,orr.wide λa l q _=>lw a l q,nd2.2.1,λa m=>S1.al a (hn a m)⟩ kr
 exact(S1.trans S2).cast λz=>nomatch z
theorem Z01{S}{i:Nat}{y:Str}{py:Pos}(F:FnOk X.prog X.w X.K X.mg X.base CX k f fd ps (spJ X.K S))(hr:Room k X.A)(hg:Gl X x)(hm:X.mg x=some (.ref f))(hk:QW X.K (.ref f)=true)(hb:Binds X.K fd ps [])(hx:Zgh CX X E)
  (ha:ME X io p true e m) (hN:X.N[i]? =some y:=by rfl) (hv:Vis X.env.scope y:=by first|exact Qo rfl|exact Qg (Qo rfl)|exact Qg (Qg rfl)) (hd:(y==("__debug__" : Str))=false:=by decide)
  (hcd:(y==("__classdict__" : Str))=false:=by decide)
  (hdb:(x==("__debug__" : Str))=false:=by decide) (he:Xh (.Name y py :: [e]) X.env=(false,eval (.Name y py) X.env) :: Xh [e] X.env:=by rfl) (hs:Xh [e] X.env=(false,eval e X.env) :: Xh [] X.env:=by rfl) (hpl:(Q6 pos (Xh [e] X.env)).any (·.1)=false:=by rfl) :
  ME X io false true (.Call (.Name x pp) (.Name y py :: [e]) [] pos) (Zln i S m):=by
 obtain⟨_,A,sa⟩:=ha
 exact⟨_,Znz F hr hg hm hk hb .nil hx (Y5 (pv i hN hv hd hcd) (Y5 A Zgo hs) he) hdb he hpl,Z3u sa⟩
end
noncomputable def startJ(n:Nat)(t0 t1:OT):Zg:=some t0 :: some t1 :: Xz (n-2) none
section
variable {H:Hp}{L:Addr->Prop}{vs:List V}{ds:List Xa}{N:List Str}
theorem Rel.entryJ{v0 v1:V}{t0 t1:OT}{as bs:List Addr}(o:Own G H L v0 t0 as)(o1:Own G H L v1 t1 bs)(nd:as.Nodup)(nd1:bs.Nodup)(ap:∀a∈as,a∉bs)(hL:∀a∈as,¬L a)(hL1:∀a∈bs,¬L a) :
  Rel (G:=G) ⟨les H bs,λa=>a∈as,L,V3 N [v0,v1]⟩ [0] H (V3 N [v0,v1]) (startJ N.length t0 t1) (λi=>if i=0 then as else if i=1 then bs else[]) (λ_=>False):=by
 have sub:∀i a,a∈(if i=0 then as else if i=1 then bs else[])->i=0∧a∈as∨i=1∧a∈bs:=λi a m=>by
  split at m
  ·exact .inl ⟨by assumption,m⟩
  ·split at m
   ·exact .inr ⟨by assumption,m⟩
   ·exact nomatch m
 have lw:∀a,L a->H a≠none->Lf (G:=G) ⟨les H bs,λa=>a∈as,L,L2.V3 N [v0,v1]⟩ (λi=>if i=0 then as else if i=1 then bs else[]) (λ_=>False) a:=λa l _=>⟨λq91=>by
  obtain⟨i,z⟩:=q91
  rcases sub i a z with z|z
  ·exact hL a z.2 l
  ·exact hL1 a z.2 l,λz=>z,.inl l⟩
 refine⟨?_,λi t e=>?_,λi h=>?_,λi=>?_,λi j a m m'=>?_,λi a m z=>z,λa z=>z.elim,λb o e _=>(Zvh e).2,λb e=>?_,λi a m=>?_,λi _=>rfl⟩
 ·unfold L2.V3 L2.startJ
  simp
 ·match i,e with
  | 0,e=>
   have e':t0=t:=by
    unfold L2.startJ at e
    simpa using e
   subst e'
   exact⟨v0,rfl,o.wide lw⟩
  | 1,e=>
   have e':t1=t:=by
    unfold L2.startJ at e
    simpa using e
   subst e'
   exact⟨v1,rfl,o1.wide lw⟩
  | i+2,e=>
   exfalso
   have e':(Xz (N.length-2) none:Zg)[i]? =some (some t):=e
   rw[Vn]at e'
   split at e'<;>cases e'
 ·match i,h with
  | 0,h=>exact absurd rfl (h t0)
  | 1,h=>exact absurd rfl (h t1)
  | i+2,h=>rfl
 ·split
  ·exact nd
  ·split
   ·exact nd1
   ·exact .nil
 ·rcases sub i a m with z|z<;>rcases sub j a m' with w|w
  ·exact z.1.trans w.1.symm
  ·exact absurd w.2 (ap a z.2)
  ·exact absurd z.2 (ap a w.2)
  ·exact z.1.trans w.1.symm
 ·show les H bs b=none
  by_cases z:b∈bs
  ·exact Zr3 z
  ·rw[Zcm z];exact e
 ·rcases sub i a m with z|z
  ·exact .inl ⟨by rw[z.1];exact XC.mpr rfl,z.2⟩
  ·exact .inr (Zr3 z.2)
variable {P:X6}{w:Qt}{K:Xb}{mg:Str->Option Xc}{base:Heap}
theorem Fun.okJ{x qual:Str}{st:Stmt}{f:Addr}{fd:Xp}{N ps:List Str}{n:Nat}{S:OT->OT->(OT->OT->Prop)->Prop}(F:Fun K x qual st f fd)(Sc:Zo N ps (Zj st))(len:ps.length=2)
  (hbody:∀(cdv:Xc) (A:Qk) (outer:List Env) (s:Xd) (H:Hp) (E:XK),Room n (A.deeper (Vw qual (Zj st) s.heap.objs.size f cdv)) ->
   ∃m,MSs (Zox CX0 P w K mg base N qual (Zj st) f cdv A outer s H E).nox [0] (Jf st) m∧∀t t1 k,S t t1 k->m (Zqa k) (startJ N.length t t1)):FnOk P w K mg base CX0 (n+1) f fd ps (spJ K S):=by
 refine F.ok Sc (λvs H Q E h=>?_) (λcdv A outer s H vs Q E hr h=>?_)
 ·obtain⟨L,v0,t0,as,v1,t1,bs,k,rfl,_⟩:=h
  rw[len];rfl
 ·obtain⟨L,v0,t0,as,v1,t1,bs,k,rfl,o0,o1,nd0,nd1,ap,hL,hL1,h2,h3⟩:=h
  obtain⟨m,⟨t,A1,s1⟩,q⟩:=hbody cdv A outer s H E hr
  have fin:∀H' σ' v r δ' fp' new,Rel (G:=K) ⟨les H bs,λa=>a∈as,L,L2.V3 N [v0,v1]⟩ [0] H' σ' δ' fp' (exu (λ_=>False) new)->Own K H' (Lf (G:=K) ⟨les H bs,λa=>a∈as,L,L2.V3 N [v0,v1]⟩ fp' (exu (λ_=>False) new)) v r new->new.Nodup->(∀a∈new,les H bs a=none) ->
    (match δ'[0]? with|some (some t)=>k r t|_=>False)->Q v H':=by
   intro H' σ' v r δ' fp' new R o nd hn hk
   split at hk
   case h_2=>exact hk.elim
   rename_i t' e'
   obtain⟨u,eu,ou⟩:=R.own 0 t' e'
   have hio:=R.io 0 (by simp)
   rw[eu]at hio
   have:u=v0:=by
    have e2:(L2.V3 N [v0,v1])[0]? =some (some v0):=rfl
    have hio':some (some u)=(L2.V3 N [v0,v1])[0]?:=hio
    rw[e2]at hio'
    cases hio';rfl
   subst this
   refine h3 r t' v H' new (fp' 0) hk (λb ob e nb=>R.fr b ob e nb) (λb e=>R.al b e) (o.wide λa l _=>⟨l.2.2,λz=>l.2.1 (.inr z),λz=>l.1 ⟨0,z⟩⟩) (ou.wide λa l _=>⟨l.2.2,λz=>l.2.1 (.inr z),λz=>l.1 ⟨0,z⟩⟩) ?_ hn λa m=>?_
   ·exact QQ.mpr ⟨R.nd 0,nd,λa m b m' z=>by subst z;exact R.dx 0 a m (.inr m')⟩
   ·rcases R.new 0 a m with z|z
    ·exact .inl z.2
    ·exact .inr z
  refine⟨t,A1,s1 ⟨les H bs,λa=>a∈as,L,L2.V3 N [v0,v1]⟩ H _ _ _ _ (Zqa k) _ (Rel.entryJ o0 o1 nd0 nd1 ap hL hL1) (q t0 t1 k h2) ⟨λH' σ' δ' fp' R _ hk=>?_,λ_ _ _ _ _ _ z=>z.elim,λ_ _ _ _ _ _ z=>z.elim,λH' σ' v r δ' fp' new R o nd hn hk=>fin H' σ' v r δ' fp' new R o nd hn hk⟩⟩
  exact fin H' σ' .non (.fz .none) δ' fp' [] (R.drop λa z=>Zbv.mp z) (.fz .non) .nil (λa m=>nomatch m) hk
end
noncomputable abbrev FJO:=OT->OT->Option (OT×OT)
noncomputable def sJ(F:FJO):OT->OT->(OT->OT->Prop)->Prop:=λt t1 k=>∃r t',F t t1=some (r,t')∧k r t'
noncomputable def Z7h(n:Nat)(S:FS):FJO:=λt t1=>(S (startJ n t t1)).toldI
noncomputable def Zmn(i:Nat)(F:FJO)(a:FE):FE:=λδ=>atO δ[i]? λ_=>(a δ).bind λp=>atO p.2[i]? λt=>(F t p.1).bind λq=>some (q.1,p.2.set i (some q.2))
section
variable {X:Cx}{io:List Nat}{p c:Bool}{e:Expr}{i:Nat}{ra:FE}
theorem Zuw{F:FJO}(h:ME X io p c e (Zln i (sJ F) (o2 ra))):ME X io p c e (o2 (Zmn i F ra)):=h.weak λδ K h=>by
 obtain⟨r,δ',h,k⟩:=h
 unfold Zmn atO at h;unfold Zln
 split at h
 case h_2=>cases h
 rename_i t0 q0
 (try rw[q0])
 obtain⟨⟨x,δ1⟩,h1,h⟩:=bs h
 refine⟨x,δ1,h1,?_⟩
 try dsimp only at h⊢
 split at h
 case h_2=>cases h
 rename_i t q
 (try rw[q])
 obtain⟨⟨r',t'⟩,h2,h⟩:=bs h
 cases h
 exact⟨r',t',h2,k⟩
variable {P:X6}{w:Qt}{K:Xb}{mg:Str->Option Xc}{base:Heap}{x qual:Str}{st:Stmt}{f:Addr}{fd:Xp}{N ps:List Str}{n np nn:Nat}{S:FS}
theorem Z6l(F:Fun K x qual st f fd)(Sc:Zo N ps (Zj st))(hN:N.length=nn)(hp:ps.length=2)
  (hb:∀(cdv:Xc) (A:Qk) (outer:List Env) (s:Xd) (H:Hp) (E:XK),Room n (A.deeper (Vw qual (Zj st) s.heap.objs.size f cdv))->MSs (Zox CX0 P w K mg base N qual (Zj st) f cdv A outer s H E).nox [0] (Jf st) (oS S)) :
  FnOk P w K mg base CX0 (n+1) f fd ps (spJ K (sJ (Z7h nn S))):=by
 subst hN
 refine F.okJ Sc hp λcdv A outer s H E hr=>⟨_,hb cdv A outer s H E hr,λt t1 k h=>?_⟩
 obtain⟨r,t',h,hk⟩:=h
 unfold Z7h at h
 show(S (startJ N.length t t1)).fits (Zqa k)
 cases q:S (startJ N.length t t1)<;>rw[q]at h<;>unfold RS.toldI at h<;>first|cases h|skip
 ·rename_i δ
  show match δ[0]? with|some (some t)=>k (.fz .none) t|_=>False
  dsimp only at h
  split at h
  ·rename_i z;(try rw[z]);cases h;exact hk
  ·cases h
 ·rename_i r' δ
  show match δ[0]? with|some (some t)=>k r' t|_=>False
  dsimp only at h
  split at h
  ·rename_i z;(try rw[z]);cases h;exact hk
  ·cases h
noncomputable def Zwg(F:FJO)(t t1:OT)(Q:OT->OT->Prop):Prop:=∃r t',F t t1=some (r,t')∧Q r t'
theorem Z5s{F:FJO}{a:FE}{δ δ1:Zg}{t0 t r1:OT}{Q:OT->OT->Prop}(h0:δ[i]? =some (some t0))(ha:a δ=some (r1,δ1))(h1:δ1[i]? =some (some t))(h:Zwg F t r1 Q):∃r t',Zmn i F a δ=some (r,δ1.set i (some t'))∧Q r t':=by
 obtain⟨r,t',h,q⟩:=h
 refine⟨r,t',?_,q⟩
 unfold Zmn
 rw[h0]
 show(a δ).bind _=_
 rw[ha]
 show atO δ1[i]? _=_
 rw[h1]
 show(F t r1).bind _=_
 rw[h];rfl
end
noncomputable def XAr(X:Cx)(io:List Nat)(es:List Expr)(m:MXt):Prop:=∀(pos:Pos) (C:MC X.K) (pins:List (Addr×Obj)) (s:Xd) (σ:St) (H:Hp) (δ:Zg) (fp:Fp) (ex:Addr->Prop) (k:Addr->Zg->Prop),Inv X pins σ H s->Rel C io H σ δ fp ex->m δ k ->
 XX (X7 X.prog X.w) X.A (spliced (Q6 pos (Xh es X.env))) (λ_ _=>False) (XW X C io pins ex H fp k) s
section
variable {X:Cx}{io:List Nat}{p c:Bool}{e:Expr}{es:List Expr}{m:MXt}{me:MEt}{pos pp:Pos}{f:Addr}{x:Str}
theorem Z1a(h:XE X io e m)(hs:Xh (e :: es) X.env=(false,eval e X.env) :: Xh es X.env:=by rfl):XAr X io (e :: es) m:=by
 intro pos C pins s σ H δ fp ex k I R hm
 rw[hs]
 show XX _ _ (spliced ((false,eval e X.env) :: Q6 pos (Xh es X.env))) _ _ s
 exact V7 (thn (h C pins s σ H δ fp ex k I R hm) λu s1 z=>z.elim)
noncomputable def mxA(me:MEt)(m:MXt):MXt:=λδ k=>me δ λ_ δ1=>m δ1 k
theorem Z0h(h:ME X io p c e me)(g:XAr X io es m)(hx:X.xe= λ_ _=>False:=by rfl)(hs:Xh (e :: es) X.env=(false,eval e X.env) :: Xh es X.env:=by rfl):XAr X io (e :: es) (mxA me m):=by
 obtain⟨t,A,sA⟩:=h
 intro pos C pins s σ H δ fp ex k I R hm
 rw[hs]
 show XX _ _ (spliced ((false,eval e X.env) :: Q6 pos (Xh es X.env))) _ _ s
 refine V7 (QD (A pins s σ H (λ_ H1=>∃δ1 fp1,Rel C io H1 σ δ1 fp1 ex∧Kp H fp H1 fp1∧m δ1 k) I
  (sA C H σ δ fp ex _ _ R hm λH1 v r δ1 fp1 new r1 h1=>⟨δ1,fp1,r1.base,r1.stp.kp,h1⟩)) (λu s1 q=>?_) λe s1 z=>by rw[hx]at z;exact z.elim)
 obtain⟨v,H1,I1,_,δ1,fp1,R1,k1,h1⟩:=q
 exact QD (g pos C pins s1 σ H1 δ1 fp1 ex k I1 R1 h1) (λ_ _ z=>z.elim) λe s2 z=>z.shift k1
theorem Z45(hg:Gl X x)(hm:X.mg x=some (.ref f))(hk:QW X.K (.ref f)=true)(ha:XAr X io (e :: es) m)(hdb:(x==("__debug__" : Str))=false:=by decide)
  (he:Xh (e :: es) X.env=(false,eval e X.env) :: Xh es X.env:=by rfl) (hpl:(Q6 pos (Xh es X.env)).any (·.1)=false:=by rfl):XE X io (.Call (.Name x pp) (e :: es) [] pos) m:=by
 intro C pins s σ H δ fp ex kk I R hm'
 refine Ba (Zfz I hg hm ?_ hdb)
 exact V0 (h₀:=X.base) I.ok.mod.kin hk (thn (ha pos C pins s σ H δ fp ex kk I R hm') λus s1 z=>z.elim) he hpl
end
noncomputable def wXA(F:FD)(e:FE)(G:FD)(a:FA)(k:OT->Zg->RS):FS:=λδ=>match e δ with
 | some (r1,δ1)=>match a δ1 with
  | some (rs,δ2)=>match G (OT.datas rs)with
   | .ok r2=>match F [r1.data,r2.data]with
    | .ok r=>k r δ2
    | _=>.bad
   | .exn c=>.ex c δ2
   | .bad=>.bad
  | none=>.bad
 | none=>.bad
section
variable {X:Cx}{io:List Nat}{p c:Bool}{e:Expr}{st:Stmt}{ra:FA}{fe:FE}{F G:FD}{k:OT->Zg->RS}
theorem Z2l(h:MS X io st (oS (wE (Zv F (Zc fe (Zc (Zv G ra) Zm))) k))):MS X io st (oS (wXA F fe G ra k)):=h.weak λD δ h=>by
 unfold oS wXA at h
 unfold oS wE
 split at h
 case h_2=>exact h.elim
 rename_i r1 δ1 q1
 split at h
 case h_2=>exact h.elim
 rename_i rs δ2 q2
 split at h
 case h_2=>exact h.elim
 case h_3=>exact h.elim
 rename_i r2 q3
 split at h
 case h_2=>exact h.elim
 rename_i r q4
 have e0:Zv G ra δ1=some (r2,δ2):=by rw[Zg1,q2];show okO (G _) δ2=_;rw[q3];rfl
 have e1:Zc fe (Zc (Zv G ra) Zm) δ=some ([r1,r2],δ2):=by
  rw[Zfe,q1]
  show((Zc (Zv G ra) Zm) δ1).bind _=_
  rw[Zfe,e0];rfl
 have e2:Zv F (Zc fe (Zc (Zv G ra) Zm)) δ=some (r,δ2):=by
  rw[Zg1,e1]
  show okO (F (OT.datas [r1,r2])) δ2=_
  have:OT.datas [r1,r2]=[r1.data,r2.data]:=by rw[Za1,Za1,Zdd]
  rw[this,q4];rfl
 rw[e2]
 exact h
theorem Yba[NoExK k](h:XE X io e (mxA (o2 fe) (xS X.K (wX G ra Zhj)))):XE X io e (xS X.K (wXA F fe G ra k)):=h.weak λδ kk z=>by
 obtain⟨c',C',δ',h,k1,k2⟩:=z
 unfold wXA at h
 split at h
 case h_2=>cases h
 rename_i r1 δ1 q1
 refine⟨r1,δ1,q1,c',C',δ',?_,k1,k2⟩
 unfold wX
 split at h
 case h_2=>cases h
 rename_i rs δ2 q2
 try rw[q2]
 show(match G (OT.datas rs)with| .ok r=>Zhj r δ2| .exn c=>.ex c δ2| .bad=>.bad)=_
 split at h
 ·split at h
  ·exact(NoExK.no _ _ _ _ h).elim
  ·cases h
 ·exact h
 ·cases h
theorem Z6d{δ:Zg}{d1 d2 d:Xa}{ds:List Xa}{r:RS}(h1:EvV fe δ d1)(h2:EvA ra δ ds)(h3:Told G ds d2)(h4:Told F [d1,d2] d)(hk:∀o,o.data=d->k o δ=r):wXA F fe G ra k δ=r:=by
 obtain⟨t1,e1,g1⟩:=h1
 obtain⟨ts,e2,g2⟩:=h2
 obtain⟨t3,e3,g3⟩:=h3
 obtain⟨t4,e4,g4⟩:=h4
 unfold wXA
 rw[e1];dsimp only
 rw[e2];dsimp only
 rw[g2,e3];dsimp only
 rw[g1,g3,e4]
 exact hk t4 g4
theorem Z57{δ:Zg}{d1:Xa}{ds:List Xa}{cn:Str}(h1:EvV fe δ d1)(h2:EvA ra δ ds)(h3:G ds= .exn cn):wXA F fe G ra k δ= .ex cn δ:=by
 obtain⟨t1,e1,g1⟩:=h1
 obtain⟨ts,e2,g2⟩:=h2
 unfold wXA
 rw[e1];dsimp only
 rw[e2];dsimp only
 rw[g2,h3]
end
variable {G:Xb}
theorem Owns.setN{H:Hp}{L:Addr->Prop}{x:V}{r:OT}{new:List Addr}(hr:Own G H L x r new)(nn:new.Nodup):∀{xs:List V} {ts:List OT} {as:List Addr} (j:Nat),Owns G H L xs ts as->as.Nodup->(∀a∈new,a∉as)->∃bs,Owns G H L (xs.set j x) (ts.set j r) bs∧(∀a∈bs,a∈as∨a∈new)∧bs.Nodup
 | _,_,_,_,.nil,_,_=>⟨[],.nil,λa m=>(nomatch m),.nil⟩
 | _,_,_,0,.cons (as:=as) (bs:=bs) k t,nd,ap=>by
  have n2:=QQ.mp nd
  refine⟨new ++ bs,.cons hr t,λa m=>?_,QQ.mpr ⟨nn,n2.2.1,λa m b m' z=>ap a m (z▸XF _ m')⟩⟩
  rcases QC.mp m with m|m
  ·exact .inr m
  ·exact .inl (XF _ m)
 | _,_,_,j+1,.cons (as:=as) (bs:=bs) k t,nd,ap=>by
  have n2:=QQ.mp nd
  obtain⟨cs,o,s,n⟩:=Owns.setN hr nn j t n2.2.1 λa m z=>ap a m (XF _ z)
  refine⟨as ++ cs,.cons k o,λa m=>?_,QQ.mpr ⟨n2.1,n,λa m b m' z=>?_⟩⟩
  ·rcases QC.mp m with m|m
   ·exact .inl (Q9 _ m)
   ·exact(s a m).imp (λz=>XF _ z) id
  ·rcases s b m' with w|w
   ·exact n2.2.2 a m b w z
   ·exact ap b w (Q9 _ (z▸m))
noncomputable def Z5t(i:Nat)(m mi:MEt):MSt:=λD δ=>m δ λr δ1=>match δ1[i]? with
 | some (some (.nd ts))=>mi δ1 λn _=>asI n.data λk=>match ixN ts.length k with
  | some j=>D.nx (δ1.set i (some (.nd (ts.set j r))))
  | none=>False
 | _=>False
section
variable {X:Cx}{io:List Nat}{p c p' c':Bool}{a b e:Expr}{ma m mi mj:MEt}{pos pp p2 apos cpos px:Pos}{K:Xb}{i:Nat}{x:Str}
theorem Zzl(i:Nat)(he:ME X io p true e m)(hj:ME X io true c a mi)(hN:X.N[i]? =some x:=by rfl)(hv:Vis X.env.scope x:=by first|exact Qo rfl|exact Qg (Qo rfl)|exact Qg (Qg rfl))(hd:(x==("__debug__" : Str))=false:=by decide)
  (hcd:(x==("__classdict__" : Str))=false:=by decide)
  (hpg:∀{to ti:TE},PE X (.Name x px) to->PE X a ti->PG X (.Subscript (.Name x px) a pp) (Z8c to ti Zwy):=by intro _ _ A B;exact Zt8 A B set_list)
  (hs:swapsWithSole [.Subscript (.Name x px) a pp] e pos.line X.env=pure false:=by rfl) (hw:swappedStores [.Subscript (.Name x px) a pp] e X.env=pure none:=by rfl)
  (h1:(QT [.Subscript (.Name x px) a pp] X.env).map (·.2)=[Vx (.Subscript (.Name x px) a pp) X.env]:=by rfl):MS X io (.Assign [.Subscript (.Name x px) a pp] e pos) (Z5t i m mi):=by
 obtain⟨_,A,s⟩:=he
 obtain⟨_,B,sj⟩:=hj
 refine⟨_,Zqm A (hpg (pv i hN hv hd hcd) B) hs hw h1,λC H σ δ fp ex D D' R h E=>?_⟩
 refine s C H σ δ fp ex _ _ R h λH1 v r δ1 fp1 new r1 h1=>?_
 have R1:=r1.rel
 have ow:Own X.K H1 (Lf C fp1 (exu ex new)) v r new:=r1.own.wide λa l _=>l rfl
 split at h1
 case h_2=>exact h1.elim
 rename_i ts hi
 obtain⟨a',_,_,hv0,_⟩:=R1.ownNd hi
 refine⟨_,hv0,?_⟩
 refine sj.pureAfter R1 h1 λH2 w n R2 s2 q2 h2=>?_
 obtain⟨k,rfl,h2⟩:=q2.intInv h2
 split at h2
 case h_2=>exact h2.elim
 rename_i j hj
 obtain⟨a2,xs,bs,hv2,hx,o,hf⟩:=R2.ownNd hi
 rw[hv0]at hv2
 cases hv2
 have nd1:=R2.nd i
 rw[hf]at nd1
 have hn1:=Qs.mp nd1
 have hm1:∀a,a∈a' :: bs->a∈fp1 i:=λa m=>by rw[hf];exact m
 have apart:∀a,a∈new->a∉a' :: bs:=λa m z=>R2.dx i a (hm1 a z) (.inr m)
 obtain⟨bs',o',hs',nd'⟩:=Owns.setN (ow.same s2) r1.nd j o hn1.2 λa m z=>apart a m (.tail _ z)
 refine⟨a',xs,k,j,rfl,rfl,hx,by rw[o.length];exact hj,?_⟩
 obtain⟨R3,sub⟩:=R2.topN hi hv0 hf hx o' hs' (Qs.mpr ⟨λm=>by
   rcases hs' a' m with z|z
   ·exact hn1.1 z
   ·exact apart a' z (.head _),nd'⟩) λa m=>⟨(R.newOk (r1.fresh a m)).2.2,(R.newOk (r1.fresh a m)).2.1⟩
 refine E.nx _ σ _ _ R3 ⟨λb o eb q=>?_,λz=>(nomatch z),λa z=>?_,λb eb=>?_⟩ h2
 ·have q':=q.resolve_left (by decide)
  rw[Zr]
  ·exact s2 _ _ (r1.stp.keep b o eb (.inr q'))
  ·rintro rfl
   rcases r1.stp.grow b ⟨i,hm1 b (.head _)⟩with z|z
   ·exact q' z
   ·rw[eb]at z;cases z
 ·rcases sub a z with z|z
  ·exact r1.stp.grow a z
  ·exact .inr (r1.fresh a z)
 ·refine r1.stp.al b (s2.al b ?_)
  by_cases q:b=a'
  ·subst q;rw[Z1]at eb;cases eb
  ·rwa[Zr q]at eb
end
noncomputable def Zrd(i:Nat)(e j:FE):FS:=wE e λr δ1=>match δ1[i]? with
 | some (some (.nd ts))=>wE j (λn _=>match n.data with
  | .int k=>match ixN ts.length k with
   | some j=>.nx (δ1.set i (some (.nd (ts.set j r))))
   | none=>.bad
  | _=>.bad) δ1
 | _=>.bad
section
variable {X:Cx}{io:List Nat}{st:Stmt}{fa fb:FE}{i:Nat}
theorem Z1j(h:MS X io st (Z5t i (o2 fa) (o2 fb))):MS X io st (oS (Zrd i fa fb)):=h.weak λD δ h=>by
 refine(Zo4 h).imp λr δ' z=>?_
 split at z
 case h_2=>exact z.elim
 rename_i q;(try rw[q])
 refine(Zo4 z).imp λn δ2 z=>?_
 split at z
 case h_2=>exact z.elim
 rename_i k q2;(try rw[q2])
 show match ixN _ k with|some j=>_|none=>_
 split at z
 ·rename_i q3;(try rw[q3]);exact z
 ·exact z.elim
theorem Z0e{δ:Zg}{n:Nat}{e j:FE}{ts:List OT}{o:OT}{k:Int}(h:e δ=some (o,δ))(hi:δ[i]? =some (some (.nd ts)))(hj:EvV j δ (.int k))(hx:ixN ts.length k=some n):Zrd i e j δ= .nx (δ.set i (some (.nd (ts.set n o)))):=by
 obtain⟨t,e2,e3⟩:=hj
 unfold Zrd
 rw[Zbx,h]
 show(match δ[i]? with|some (some (.nd ts))=>_|_=>RS.bad)=_
 rw[hi]
 show wE j _ δ=_
 rw[Zbx,e2]
 show(match t.data with| .int k=>_|_=>RS.bad)=_
 rw[e3]
 show(match ixN ts.length k with|some j=>_|none=>RS.bad)=_
 rw[hx]
end
end L2
namespace My
open PySem L2 PySem.Spec
noncomputable def xsL:List Str:=["NoNumber","NoTable"]
noncomputable def Zai:FS :=
 (Zz (Zax (tD (Zo9 xsL ["NoCut","NoName","NoNumber","NoOrder","NoPoint","NoRow","NoText","NoWeb","TooMany"] (Zd 0)))
  (wE (fC (.bool false)) J0)
  fNx)
  (wE (Zvt (Zq6 xsL "NoTable" (Zd 0)) (Zq6 xsL "ValueError" (Zd 0))) J0))
noncomputable def Ww:FD:=Zaf 1 1 Zai
noncomputable def Zdw:FS :=
 (wE (Zh gLt (Zh Zes (Z2 gIx (Zd 0) (fC (.int 0))) (Z2 gIx (Zd 1) (fC (.int 1)))) (Zh Zes (Z2 gIx (Zd 1) (fC (.int 0))) (Z2 gIx (Zd 0) (fC (.int 1))))) J0)
noncomputable def Zbb:FD:=Zaf 2 2 Zdw
noncomputable def Zg6:FS :=
 (wE (Zv Wt (Zc (Zh Zcc (Zh Zes (Z2 gIx (Zd 0) (fC (.int 0))) (Z2 gIx (Zd 1) (fC (.int 1)))) (Zh Zes (Z2 gIx (Zd 1) (fC (.int 0))) (Z2 gIx (Zd 0) (fC (.int 1))))) (Zc (Zh Zes (Z2 gIx (Zd 0) (fC (.int 1))) (Z2 gIx (Zd 1) (fC (.int 1)))) Zm))) J0)
noncomputable def Zet:FD:=Zaf 2 2 Zg6
noncomputable def Zbm:FS :=
 (wE (Zv Zbb (Zc (Zv Zet (Zc (Z2 gIx (Z2 gIx (Zd 0) (Zd 1)) (Zd 2)) (Zc (Z2 gIx (Z2 gIx (Zd 0) (Zd 2)) (Zd 3)) Zm))) (Zc (Z2 gIx (Z2 gIx (Zd 0) (Zd 1)) (Zd 3)) Zm))) J0)
noncomputable def Jz:FD:=Zaf 4 4 Zbm
noncomputable def Zbo:FS :=
 (Zz (wE (Zce Zgx (Zc (Zd 0) Zm)) (Yt 1))
  (Zz (Jk (iRa (Zc (Zd 1) Zm)) (gNm 2)
  (Jk (iRa (Zc (Zd 1) Zm)) (gNm 3)
  (Jk (iRa (Zc (Zd 1) Zm)) (gNm 4)
  (Zax (tD (Zv Jz (Zc (Zd 0) (Zc (Zd 2) (Zc (Zd 3) (Zc (Zd 4) Zm))))))
  (wE (Zkx (Zc (Zd 2) (Zc (Zd 3) (Zc (Zd 4) Zm)))) J0)
  fNx))))
  (wE (fC .none) J0)))
noncomputable def Jv:FD:=Zaf 1 5 Zbo
noncomputable def W2:FS :=
 (Zax (tV (Zh Zjb (Zv Jv (Zc (Zd 0) Zm)) (fC .none)))
  (Zml "NoTable")
  fNx)
noncomputable def Z6:FD:=Zaf 1 1 W2
noncomputable def Zb4:FS :=
 (wE (Zh gSb (Zce Zw1 (Zc (Zd 0) Zm)) (Z2 gIx (Zd 0) (fC (.int 0)))) J0)
noncomputable def Ym:FD:=Zaf 1 1 Zb4
noncomputable def Zcb:FS :=
 (Zz (wE (Zdm Zm) (Zcd 1))
  (Zz (Jk (Zux (Zc (Zd 0) Zm)) (gTp 2 (gCn (gNm 2) (gCn (gNm 3) gNl)))
  (Jk (Zgs (fSl (Zd 0) (oI (Zd 2)) oN)) (gNm 4)
  (W5 1 (Zkx (Zc (Zd 3) (Zc (Zd 4) Zm))))))
  (Zeb 1)))
noncomputable def W0:FD:=Zaf 1 5 Zcb
noncomputable def Zb8:FS :=
 (wE (Zkx (Zc (Zh Zcc (Z2 gIx (Z2 gIx (Zd 0) (Zd 1)) (Zd 2)) (Z2 gIx (Z2 gIx (Zd 0) (Zd 3)) (Zd 4))) (Zc (Zh Zcc (Z2 gIx (Z2 gIx (Zd 0) (Zd 1)) (Zd 3)) (Z2 gIx (Z2 gIx (Zd 0) (Zd 2)) (Zd 4))) (Zc (Zh Zcc (Z2 gIx (Z2 gIx (Zd 0) (Zd 1)) (Zd 4)) (Z2 gIx (Z2 gIx (Zd 0) (Zd 2)) (Zd 3))) Zm)))) J0)
noncomputable def Yl:FD:=Zaf 5 5 Zb8
noncomputable def J5:FS :=
 (Zz (wE (Y9 1 [1] (iRa (Zc (Zce Zgx (Zc (Zd 0) Zm)) Zm)) (gNm 0) (tV (Zh (Z1n true) (Zd 0) (Zd 1))) (Zd 0)) (Yt 3))
  (Zz (wE (Zv W0 (Zc (Zd 3) Zm)) (Yt 4))
  (Zz (wE (Ze5 2 "split_rule" Ym (Zc (Zv Yl (Zc (Zd 0) (Zc (Z2 gIx (Zd 1) (fC (.int 0))) (Zc (Z2 gIx (Zd 1) (fC (.int 0))) (Zc (fC (.int 0)) (Zc (fC (.int 0)) Zm)))))) Zm)) (Yt 5))
  (Zz (Jk (Zgs (Zv W0 (Zc (Zd 1) Zm))) (gTp 2 (gCn (gNm 6) (gCn (gNm 7) gNl)))
  (Zz (Jk (Zgs (Zd 4)) (gTp 2 (gCn (gNm 8) (gCn (gNm 9) gNl)))
  (wE (Zce Zwo (Zc (Zd 5) (Zc (Ze5 2 "split_rule" Ym (Zc (Zv Yl (Zc (Zd 0) (Zc (Zd 6) (Zc (Zd 7) (Zc (Zd 8) (Zc (Zd 9) Zm)))))) Zm)) Zm))) (Yt 5)))
  (Zax (tV (Zh gLe (Zd 5) (fC (.int 0))))
  (wE (fC (.int 0)) J0)
  fNx)))
  (wE (Zd 5) J0)))))
noncomputable def Z0:FD:=Zaf 3 10 J5
noncomputable def Zao:FS :=
 (Zz (wE (Zv Yj (Zc (Zd 0) Zm)) (Yt 3))
  (Zz (wE (Zv Z0 (Zc (Zv Y8 (Zc (Zd 3) (Zc (Zd 0) Zm))) (Zc (Zd 1) (Zc (Zd 2) Zm)))) (Yt 4))
  (wX Yb (Zc (Zd 4) (Zc (Zh Zes (fC (.int 2)) (Zd 3)) Zm)) J0)))
noncomputable def Ja:FD:=Zaf 3 5 Zao
noncomputable def Zap:FS :=
 (Zz (wX Z6 (Zc (Zd 0) Zm) Zhj)
  (wX Ja (Zc (Zd 0) (Zc (Zd 1) (Zc (fC (fnD "split_rule")) Zm))) J0))
noncomputable def Yo:FD:=Zaf 2 2 Zap
noncomputable def Zgr:FS :=
 (wE (Zv Wt (Zc (Zh gSb (Zh Zes (Z2 gIx (Zd 0) (fC (.int 0))) (Z2 gIx (Zd 1) (fC (.int 1)))) (Zh Zes (Z2 gIx (Zd 1) (fC (.int 0))) (Z2 gIx (Zd 0) (fC (.int 1))))) (Zc (Zh Zes (Z2 gIx (Zd 0) (fC (.int 1))) (Z2 gIx (Zd 1) (fC (.int 1)))) Zm))) J0)
noncomputable def Zbr:FD:=Zaf 2 2 Zgr
noncomputable def Zdg:FS :=
 (Zz (wE (Zdm (Zc (Zdm Zm) Zm)) (Yt 1))
  (Zz (Jk (iRb (Zc (fC (.int 1)) (Zc (Zd 0) Zm))) (gNm 2)
  (wE (Z2 Zwf (Zd 1) (Y9 1 [2] (Zgs (Zd 1)) (gNm 0) Zfg (Z2 Zwf (Zd 0) (Zdm (Zc (Zd 1) Zm))))) (Yt 1)))
  (wE (Y9 1 [] (Zgs (fBl (Zpc kdL ltI) (Zc (Zd 1) Zm))) (gNm 0) (tV (Zh gGt (Zce Zgx (Zc (Zd 0) Zm)) (fC (.int 0)))) (Zd 0)) J0)))
noncomputable def J3:FD:=Zaf 1 3 Zdg
noncomputable def Zbq:FS :=
 (Zz (wE (Zv Yj (Zc (Zd 0) Zm)) (Yt 2))
  (Zz (wE (Zv Y8 (Zc (Zd 2) (Zc (Zd 0) Zm))) (Yt 3))
  (Zz (wE (Zdm Zm) (Zcd 4))
  (Zz (Jk (Zgs (Zv J3 (Zc (Zce Zgx (Zc (Zd 0) Zm)) Zm))) (gNm 5)
  (Zz (wE (Zv Z0 (Zc (Zd 3) (Zc (Zd 5) (Zc (Zd 1) Zm)))) (Yt 6))
  (Zax (tV (Zh gGt (Zd 6) (fC (.int 0))))
  (W5 4 (Zkx (Zc (Zd 5) (Zc (Zv Yb (Zc (Zd 6) (Zc (Zh Zes (fC (.int 2)) (Zd 2)) Zm))) Zm))))
  fNx)))
  (Zeb 4)))))
noncomputable def Js:FD:=Zaf 2 7 Zbq
noncomputable def Zal:FS :=
 (Zz (wX Z6 (Zc (Zd 0) Zm) Zhj)
  (wE (Zv Js (Zc (Zd 0) (Zc (fC (fnD "split_rule")) Zm))) J0))
noncomputable def Yc:FD:=Zaf 1 1 Zal
noncomputable def Zdz:FS :=
 (wE (Y9 1 [1] (iRa (Zc (Zd 0) Zm)) (gNm 0) Zfg (fIf (tV (Zh (Z1n false) (Zd 0) (Zd 1))) (fC (.int 1)) (fC (.int 0)))) J0)
noncomputable def Za7:FD:=Zaf 2 2 Zdz
noncomputable def Zcz:FS :=
 (wE (Y9 1 [0] (Zgs (Zd 1)) (gNm 0) Zfg (Zv Za7 (Zc (Zd 1) (Zc (Z2 gIx (Zd 0) (fC (.int 0))) Zm)))) J0)
noncomputable def Zan:FD:=Zaf 2 2 Zcz
noncomputable def Yx:FS :=
 (Zz (wE (Y9 1 [0] (iRa (Zc (Zd 0) Zm)) (gNm 0) Zfg (Z05 (Zkx (Zc (fC (.int 0)) (Zc (fC (.int 1)) Zm))) (Zd 1))) (Zcd 2))
  (Zz (Jk (Zea (Zc (Zv Y6 (Zc (Zd 0) Zm)) (Zc (Zd 1) Zm))) (gTp 2 (gCn (gNm 3) (gCn (gNm 4) gNl)))
  (Zz (Zaz 2 (Zd 4) (Z2 gIx (Zd 3) (fC (.int 0))) (Z2 gIx (Zd 3) (fC (.int 1))))
  (Zaz 2 (Zd 4) (Z2 gIx (Zd 3) (fC (.int 1))) (Z2 gIx (Zd 3) (fC (.int 0))))))
  (Zeb 2)))
noncomputable def Yv:FD:=Zaf 2 5 Yx
noncomputable def J2:FS :=
 (Zz (wE (Y9 1 [] (Zgs (Zd 1)) (gNm 0) Zfg (Z2 gIx (Zd 0) (fC (.int 1)))) (Yt 2))
  (Zz (wE (Zv Yq (Zc (Zd 2) Zm)) (Yt 3))
  (Zz (wE (Zv Jb (Zc (Zd 3) (Zc (Zd 2) Zm))) (Yt 4))
  (Zz (wE (Zv Zan (Zc (Zd 0) (Zc (Zd 1) Zm))) (Yt 5))
  (Zz (wE (Zdm Zm) (Zcd 6))
  (Zz (Jk (Zgs (Zv Y6 (Zc (Zd 0) Zm))) (gTp 2 (gCn (gNm 7) (gCn (gNm 8) gNl)))
  (Zz (wE (Y9 2 [7,8] (Zea (Zc (Zd 5) (Zc (Zd 4) Zm))) (gTp 2 (gCn (gNm 0) (gCn (gNm 1) gNl))) (tV (Zh gNe (Z2 gIx (Zd 0) (Zd 2)) (Z2 gIx (Zd 0) (Zd 3)))) (Zd 1)) (Yt 9))
  (W5 6 (Zv Yb (Zc (Zce Z4h (Zc (Zd 9) Zm)) (Zc (Zd 3) Zm))))))
  (Zhe 6 (wE (Zv Yv (Zc (Zd 0) (Zc (Zd 6) Zm))) J0))))))))
noncomputable def Wx:FD:=Zaf 2 10 J2
noncomputable def Zaa:FS :=
 (Zz (wXA Wx (Zce Zgx (Zc (Zd 0) Zm)) Yc (Zc (Zd 0) Zm) (Yt 1))
  (Zz (wE (Zdm Zm) (Zcd 2))
  (Zz (Jk (Zea (Zc (Zd 0) (Zc (Zd 1) Zm))) (gTp 2 (gCn (gNm 3) (gCn (gNm 4) gNl)))
  (W5 2 (Y9 2 [] (Zea (Zc (Zd 3) (Zc (Zd 4) Zm))) (gTp 2 (gCn (gNm 0) (gCn (gNm 1) gNl))) Zfg (Zv Zbr (Zc (Zd 0) (Zc (Zd 1) Zm))))))
  (Zeb 2))))
noncomputable def Yk:FD:=Zaf 1 5 Zaa
noncomputable def Zcw:FS :=
 (Zz (wE (fC .none) (Yt 3))
  (Zz (wE (fC .none) (Yt 4))
  (Zz (Zzb xsL (Zax (tV (Zh gEq (Zd 2) (fC (.int 0))))
  (wX Yo (Zc (Zd 0) (Zc (Zd 1) Zm)) (Yt 4))
  (Zax (tV (Zh gEq (Zd 2) (fC (.int 1))))
  (wX Yc (Zc (Zd 0) Zm) (Yt 4))
  (wX Yk (Zc (Zd 0) Zm) (Yt 4)))) "CutError" 5 (wE (Zd 5) (Yt 3)))
  (Zz (Zax (tV (Zh gIs (Zd 3) (fC .none)))
  (wE (Z2 gIx (Zdm (Zc (fC (.str "none")) (Zc (fC (.str "told")) Zm))) (Zce Zrf (Zc (Zh Zjb (Zd 4) (fC .none)) Zm))) J0)
  fNx)
  (wE (Z2 gIx (Zdm (Zc (fC (.str "other")) (Zc (fC (.str "refused")) Zm))) (Zce Zrf (Zc (Zv Ww (Zc (Zd 3) Zm)) Zm))) J0)))))
noncomputable def Wj:FD:=Zaf 3 6 Zcw
noncomputable def Zdk:FS :=
 (Zz (wE (Zh Zij (Z2 gIx (Ze0 0) (fC (.int 0))) (Zd 1)) (Yt 2))
  (Zz (Z52 0 (Zh Zbi (Z2 gIx (Ze0 0) (fC (.int 0))) (Zd 1)) (fC (.int 0)))
  (wE (Zd 2) J0)))
noncomputable def Zk:FIO:=Zqi 2 3 Zdk
noncomputable def Zb7:FS :=
 (wE (Zh Zcc (fC (.int 1)) (Z5 0 Zk (Zc (Z2 gIx (Zdm (Zc (fC (.int 1)) (Zc (fC (.int 6)) (Zc (fC (.int 12)) Zm)))) (Z5 0 Zk (Zc (fC (.int 3)) Zm))) Zm))) J0)
noncomputable def Zab:FIO:=Zqi 1 1 Zb7
noncomputable def Zc6:FS :=
 (Zz (wE (Zh Zcc (Zh Zcc (Zh Zes (Zh Zij (Zd 0) (Zh Zih (fC (.int 10)) (fC (.int 40)))) (fC (.int 48271))) (Zh Zes (Zh Zes (Zh Zih (fC (.int 3)) (fC (.int 60))) (Zh Zcc (Zd 1) (fC (.int 1)))) (Zh Zcc (Zd 1) (fC (.int 1))))) (Zd 1)) (Yt 2))
  (Zz (wE (Zh Zcc (Zh Zes (Zd 2) (Zd 2)) (Zh Zes (fC (.int 69621)) (Zd 2))) (Yt 2))
  (wE (Zh Zbi (Zh Zij (Zh Zes (Zd 2) (Zd 2)) (Zh Zcc (Zh Zih (fC (.int 10)) (fC (.int 61))) (fC (.int 7)))) (fC (.int 8))) J0)))
noncomputable def Yn:FD:=Zaf 2 3 Zc6
noncomputable def Jw:FS :=
 (Zz (Zax (tV (Zh gGe (Zd 0) (Zh Zih (fC (.int 10)) (fC (.int 18)))))
  (wE (Zdm (Zc (Zh gSb (Zd 0) (Zh Zih (fC (.int 10)) (fC (.int 18)))) Zm)) J0)
  fNx)
  (wE (Zdm (Zc (Zh Zcc (Zh Zes (Zh Zcc (Zh Zes (Zv Yn (Zc (Zd 0) (Zc (fC (.int 1)) Zm))) (Zh Zih (fC (.int 10)) (fC (.int 60)))) (Zv Yn (Zc (Zd 0) (Zc (fC (.int 2)) Zm)))) (Zh Zih (fC (.int 10)) (fC (.int 60)))) (Zv Yn (Zc (Zd 0) (Zc (fC (.int 3)) Zm)))) Zm)) J0))
noncomputable def Jy:FD:=Zaf 1 1 Jw
noncomputable def Zbk:FS :=
 (Zz (wE (Zce Zgx (Zc (Zd 0) Zm)) (Yt 1))
  (Zz (Jk (iRa (Zc (Zd 1) Zm)) (gNm 2)
  (Jk (iRa (Zc (Zd 1) Zm)) (gNm 3)
  (Jk (iRa (Zc (Zd 1) Zm)) (gNm 4)
  (Zax (tV (Zh gGt (Z2 gIx (Z2 gIx (Zd 0) (Zd 2)) (Zd 4)) (Zh Zcc (Z2 gIx (Z2 gIx (Zd 0) (Zd 2)) (Zd 3)) (Z2 gIx (Z2 gIx (Zd 0) (Zd 3)) (Zd 4)))))
  (wE (fC (.bool false)) J0)
  fNx))))
  (wE (fC (.bool true)) J0)))
noncomputable def Wn:FD:=Zaf 1 5 Zbk
noncomputable def Zbs:FS :=
 (Jk (iRa (Zc (Zce Zgx (Zc (Ze0 0) Zm)) Zm)) (gNm 3)
  (Jk (iRa (Zc (Zce Zgx (Zc (Ze0 0) Zm)) Zm)) (gNm 4)
  (Zax (tV (Zh gNe (Zh Z7w (Zh Z6n (Zd 1) (Zd 3)) (fC (.int 1))) (Zh Z7w (Zh Z6n (Zd 1) (Zd 4)) (fC (.int 1)))))
  (Zaz 0 (Zh Zcc (Z2 gIx (Z2 gIx (Ze0 0) (Zd 3)) (Zd 4)) (Zd 2)) (Zd 3) (Zd 4))
  fNx)))
noncomputable def Wr:FIO:=Zqi 3 5 Zbs
noncomputable def W3:FS :=
 (wE (Y9 1 [0] (iRa (Zc (Zd 0) Zm)) (gNm 0) Zfg (Y9 1 [] (iRa (Zc (Zd 1) Zm)) (gNm 0) Zfg (fC (.int 0)))) J0)
noncomputable def Yr:FD:=Zaf 1 1 W3
noncomputable def Zbf:FS :=
 (Zz (wE (Zce Zgx (Zc (Ze0 0) Zm)) (Yt 1))
  (Jk (iRa (Zc (Zd 1) Zm)) (gNm 2)
  (Jk (iRa (Zc (Zd 1) Zm)) (gNm 3)
  (Jk (iRa (Zc (Zd 1) Zm)) (gNm 4)
  (Zaz 0 (Zce Zwo (Zc (Z2 gIx (Z2 gIx (Ze0 0) (Zd 3)) (Zd 4)) (Zc (Zh Zcc (Z2 gIx (Z2 gIx (Ze0 0) (Zd 3)) (Zd 2)) (Z2 gIx (Z2 gIx (Ze0 0) (Zd 2)) (Zd 4))) Zm))) (Zd 3) (Zd 4))))))
noncomputable def Jg:FIO:=Zqi 1 5 Zbf
noncomputable def Zc2:FS :=
 (Zz (wE (Zv Yr (Zc (Zd 1) Zm)) (Zcd 2))
  (Zz (wE (Z5 0 Zk (Zc (fC (.int 4)) Zm)) (Yt 3))
  (Zz (Zax (tV (Zh gNe (Zd 3) (fC (.int 1))))
  (Jk (iRa (Zc (Z5 0 Zk (Zc (fC (.int 7)) Zm)) Zm)) (gNm 4)
  (Zz (wE (Z5 0 Zk (Zc (Zh Z8n (fC (.int 1)) (Zd 1)) Zm)) (Yt 5))
  (wE (Z5 2 Wr (Zc (Zd 5) (Zc (Zh Zcc (fC (.int 1)) (Z5 0 Zk (Zc (Z2 gIx (Zdm (Zc (fC (.int 3)) (Zc (Zh Zih (fC (.int 10)) (fC (.int 20))) Zm))) (Z5 0 Zk (Zc (fC (.int 2)) Zm))) Zm))) Zm))) Zhj)))
  fNx)
  (Zz (Zax (tV (Zh gGt (Zd 3) (fC (.int 0))))
  (Zz (wE (Zv Yr (Zc (Zd 1) Zm)) (Zcd 6))
  (Zz (wE (Z2 gIx (Zdm (Zc (fC (.int 3)) (Zc (fC (.int 7)) (Zc (Zh Zih (fC (.int 10)) (fC (.int 20))) Zm)))) (Z5 0 Zk (Zc (fC (.int 3)) Zm))) (Yt 7))
  (Zz (Jk (iRa (Zc (Zd 1) Zm)) (gNm 8)
  (Jk (iRa (Zc (Zd 8) Zm)) (gNm 9)
  (Zz (Zaz 6 (Z2 gIx (Zdm (Zc (Zh Zcc (fC (.int 1)) (Z5 0 Zk (Zc (Zd 7) Zm))) (Zc (Zd 7) Zm))) (Zce Zrf (Zc (Zh gEq (Zd 3) (fC (.int 3))) Zm))) (Zd 8) (Zd 9))
  (Zz (Zax (tAn (tV (Zh gEq (Zd 3) (fC (.int 3)))) (tV (Zh gEq (Z5 0 Zk (Zc (fC (.int 2)) Zm)) (fC (.int 0)))))
  (Zaz 6 (fC (.int 1)) (Zd 8) (Zd 9))
  fNx)
  (Zaz 6 (Zp9 (Z2 gIx (Z2 gIx (Ze0 6) (Zd 8)) (Zd 9))) (Zd 9) (Zd 8))))))
  (Zz (wE (Z5 6 Jg Zm) Zhj)
  (Jk (iRa (Zc (Zd 1) Zm)) (gNm 8)
  (Zrd 2 (Y9 2 [] (Zea (Zc (Z2 gIx (Ze0 2) (Zd 8)) (Zc (Z2 gIx (Ze0 6) (Zd 8)) Zm))) (gTp 2 (gCn (Zvu 0) (gCn (Zvu 1) gNl))) Zfg (Zh Zcc (Zd 0) (Zd 1))) (Zd 8)))))))
  fNx)
  (Zeb 2)))))
noncomputable def Jr:FIO:=Zqi 2 10 Zc2
noncomputable def Zca:FS :=
 (Zz (wE (Zce Zgx (Zc (Ze0 1) Zm)) (Yt 2))
  (Zz (Zax (tV (Zh gEq (Z5 0 Zk (Zc (fC (.int 3)) Zm)) (fC (.int 0))))
  (Zz (Jk (iRa (Zc (Zd 2) Zm)) (gNm 3)
  (Jk (iRa (Zc (Zd 3) Zm)) (gNm 4)
  (Zz (Zaz 1 (Z5 0 Zk (Zc (Z2 gIx (Zdm (Zc (fC (.int 3)) (Zc (fC (.int 8)) Zm))) (Z5 0 Zk (Zc (fC (.int 2)) Zm))) Zm)) (Zd 3) (Zd 4))
  (Zaz 1 (Zp9 (Z2 gIx (Z2 gIx (Ze0 1) (Zd 3)) (Zd 4))) (Zd 4) (Zd 3)))))
  (Zeb 1))
  fNx)
  (Zz (wE (Z5 0 Zk (Zc (Zd 2) Zm)) (Yt 3))
  (Zz (wE (Zh Zij (Zh Zcc (Zh Zcc (Zd 3) (fC (.int 1))) (Z5 0 Zk (Zc (Zh gSb (Zd 2) (fC (.int 1))) Zm))) (Zd 2)) (Yt 4))
  (Zz (wE (Z2 gIx (Y9 1 [3,4] (iRa (Zc (Zd 2) Zm)) (gNm 0) (tAn (tV (Zh gNe (Zd 0) (Zd 1))) (tV (Zh gNe (Zd 0) (Zd 2)))) (Zd 0)) (Z5 0 Zk (Zc (Zh gSb (Zd 2) (fC (.int 2))) Zm))) (Yt 5))
  (Zz (wE (Zh Zcc (Zh Zcc (Z2 gIx (Z2 gIx (Ze0 1) (Zd 3)) (Zd 5)) (Z2 gIx (Z2 gIx (Ze0 1) (Zd 5)) (Zd 4))) (Z5 0 Zk (Zc (Z2 gIx (Zdm (Zc (fC (.int 2)) (Zc (Zh Zih (fC (.int 10)) (fC (.int 20))) Zm))) (Z5 0 Zk (Zc (fC (.int 2)) Zm))) Zm))) (Yt 6))
  (Zz (Zaz 1 (Zd 6) (Zd 3) (Zd 4))
  (Zz (Zaz 1 (Zd 6) (Zd 4) (Zd 3))
  (Zeb 1)))))))))
noncomputable def J7:FJO:=Z7h 7 Zca
noncomputable def Za9:FS :=
 (Zz (wE (Zce Z2c (Zc (Zd 0) Zm)) (Yt 2))
  (Zz (wE (Zd 1) (Yt 3))
  (Zz (Ziy (tV (Zh gNe (Zd 3) (fC (.int 0)))) (Zz (wE (Zh Zij (Zd 2) (Zd 3)) (Yt 4))
  (Zz (wE (Zd 3) (Yt 2))
  (wE (Zd 4) (Yt 3)))))
  (wE (Zkx (Zc (Zh Zbi (Zd 0) (Zd 2)) (Zc (Zh Zbi (Zd 1) (Zd 2)) Zm))) J0))))
noncomputable def Jh:FD:=Zaf 2 5 Za9
noncomputable def Zcy:FS :=
 (wE (Y9 1 [1] (Zgs (Zd 0)) (gNm 0) Zfg (Y9 1 [1] (Zgs (Zd 0)) (gNm 0) Zfg (Zv Jh (Zc (Zd 0) (Zc (Zd 1) Zm))))) J0)
noncomputable def Wi:FD:=Zaf 2 2 Zcy
noncomputable def Zfl:FS :=
 (Zz (Jk (Zgs (Z2 Zwf (Zdm (Zc (Zh Zih (fC (.int 10)) (fC (.int 18))) Zm)) (fSl (Zd 0) oN (oI (fC (.int 6)))))) (gNm 1)
  (Zz (wE (Zv Jy (Zc (Zd 1) Zm)) (Zcd 2))
  (Zz (wE (Zh Zcc (fC (.int 3)) (Z5 2 Zk (Zc (fC (.int 4)) Zm))) (Yt 3))
  (Zz (Zax (tV (Zh gEq (Z5 2 Zk (Zc (fC (.int 8)) Zm)) (fC (.int 3))))
  (wE (fC (.int 10)) (Yt 3))
  fNx)
  (Zz (wE (Zmn 2 J7 (Z5 2 Jr (Zc (Zd 3) Zm))) (Yt 4))
  (Zz (wE (Z5 2 Zab Zm) (Yt 5))
  (Zz (wE (Zdm (Zc (Zh Zcc (fC (.int 1)) (Z5 2 Zk (Zc (Zh gSb (Zd 3) (fC (.int 1))) Zm))) Zm)) (Yt 6))
  (Zz (wE (Z2 gIx (Zdm (Zc (fC (.str "refused")) (Zc (fC (.str "told")) Zm))) (Zce Zrf (Zc (Zv Wn (Zc (Zd 4) Zm)) Zm))) (Yt 7))
  (Jk (iRa (Zc (Z2 gIx (Zdm (Zc (fC (.int 3)) (Zc (fC (.int 1)) Zm))) (Zce Zrf (Zc (Zvt (Zh gEq (Zd 3) (fC (.int 10))) (Zh gEq (Zd 7) (fC (.str "told")))) Zm))) Zm)) (gNm 8)
  (Zz (wE (Zv Wi (Zc (Zd 4) (Zc (Zd 5) Zm))) (Yt 9))
  (Zax (tO (tV (Zh gNe (Zv Wj (Zc (Zd 9) (Zc (Zd 6) (Zc (Zd 8) Zm)))) (Zd 7))) (tV (Zh gNe (Zd 9) (Zv Wi (Zc (Zd 4) (Zc (Zd 5) Zm))))))
  (wE (fC (.bool false)) J0)
  fNx)))))))))))
  (wE (fC (.bool true)) J0))
noncomputable def Zfk:FD:=Zaf 1 10 Zfl
end My
namespace My
open PySem L2 PySem.Spec
noncomputable def Ze2:FS :=
 (Zz (Zax (tV (Zh gLt (Zd 1) (Zce Zgx (Zc (Zd 0) Zm))))
  (wE (Z2 gIx (Zd 0) (Zd 1)) J0)
  fNx)
  (wE (fC (.int 0)) J0))
noncomputable def Zn6:FD:=Zaf 2 2 Ze2
noncomputable def Zh3:FS :=
 (Zz (Zax (tV (Zh gEq (Zh Zij (Zh Zbi (Zd 0) (fC (.int 7))) (fC (.int 8))) (fC (.int 3))))
  (wE (Zh Zcc (Zh Zcc (Zd 2) (fC (.int 1))) (Zh Zij (Zh Zbi (Zd 0) (fC (.int 56))) (Zh gSb (Zd 3) (Zd 2)))) J0)
  fNx)
  (wE (Zh Zcc (Zd 1) (Zh Zij (Zd 0) (Zh gSb (Zh Zcc (Zd 2) (fC (.int 1))) (Zd 1)))) J0))
noncomputable def Zt2:FD:=Zaf 4 4 Zh3
noncomputable def Zhk:FS :=
 (Zz (wE (Zh Zij (Zh Zes (Zh Zcc (Zh Zcc (Zh Zij (Zd 0) (fC (.int 2147483629))) (Zh Zes (fC (.int 9973)) (Zd 1))) (fC (.int 5))) (fC (.int 48271))) (fC (.int 2147483647))) (Yt 2))
  (Zz (wE (Zh Zij (Zh Zes (Zd 2) (Zd 2)) (fC (.int 2147483587))) (Yt 2))
  (wE (Zh Zbi (Zh Zij (Zh Zes (Zh Zcc (Zd 2) (Zh Zes (fC (.int 7919)) (Zd 1))) (fC (.int 16807))) (fC (.int 2147483563))) (fC (.int 8))) J0)))
noncomputable def Zhw:FD:=Zaf 2 3 Zhk
noncomputable def Ze7:FS :=
 (Zz (wE (Zdm Zm) (Zcd 2))
  (Zz (wE (Zd 0) (Yt 3))
  (Zz (Jk (iRa (Zc (Zd 1) Zm)) (gNm 4)
  (Zz (wE (Zv Zhw (Zc (Zd 0) (Zc (Zd 4) Zm))) (Yt 5))
  (Zz (Zax (tV (Zh gGe (Zd 0) (Zh Zih (fC (.int 10)) (fC (.int 18)))))
  (wE (Zh Zij (Zd 3) (fC (.int 720720))) (Yt 5))
  fNx)
  (Zz (wE (Zh Zbi (Zd 3) (fC (.int 720720))) (Yt 3))
  (W5 2 (Zd 5))))))
  (Zeb 2))))
noncomputable def Zou:FD:=Zaf 2 6 Ze7
noncomputable def Yg(p:List Int):Xa:=.list (p.map Xo)
theorem Zwj{p:List Int}{i:Int}(h0:0≤i)(h1:i<p.length):atI (p.map Xo) i=some (.int (p.getD i.toNat 0)):=by
 rw[Zmp h0,Xm,XJ (by omega)]
 simp[Xr,XJ (show i.toNat<p.length by omega)]
theorem Zlz{a b:FE}{δ:Zg}{p:List Int}{i:Int}(ha:EvV a δ (Yg p))(hb:EvV b δ (.int i))(h0:0≤i)(h1:i<p.length):EvV (Z2 gIx a b) δ (.int (p.getD i.toNat 0)):=Zyj ha hb (Zwj h0 h1)
theorem Z8a:Zih (.int 10) (.int 18)=some (.int 1000000000000000000):=rfl
end My
namespace My
open PySem L2 PySem.Spec
noncomputable def dk(x:Int):OT:=.nd [.fz (.int x)]
theorem Z16(x:Int):(dk x).data= .list [.int x]:=by unfold dk;rw[OT.data_nd];rfl
theorem btc{n:Nat}{m:Int}(h1:decide (-(2^n)<m)=true)(h2:decide (m<2^n)=true):Bt n m:=Bt.of_lt (of_decide_eq_true h1) (of_decide_eq_true h2)
theorem Z43{δ:Zg}{i n:Nat}{e j:FE}{ts:List OT}{d:Xa}{k:Int}(h:EvV e δ d)(hi:δ[i]? =some (some (.nd ts)))(hj:EvV j δ (.int k))(hx:ixN ts.length k=some n):Z52 i e j δ= .nx (δ.set i (some (.nd (ts.set n (.fz d))))):=by
 obtain⟨t,e1,e2⟩:=h
 obtain⟨u,e3,e4⟩:=hj
 rw[Zza,e1,Yw,hi]
 show onO (j δ) _=_
 rw[e3,Yw,e4]
 show onX (ixN ts.length k) _=_
 rw[hx,e2];rfl
theorem Zh8(x:Int){m:Int}(h0:0<m)(hb:Bt 400 m):ToldI Zk (dk x) [.int m] λd t'=>∃r x',d= .int r∧0≤r∧r<m∧t'=dk x':=by
 have i0:∀{δ:Zg},δ[0]? =some (some (dk x))->EvV (Z2 gIx (Ze0 0) (fC (.int 0))) δ (.int x):=λh=>Zyj (Zk0 h (Z16 x)) Zt rfl
 exact Zg3 rfl (Wa (Zei (Zy (Zmg (i0 rfl) Za (by omega))) (Wa (Zei (Z43 (n:=0) (Zn (i0 rfl) Za (Zf5 (Zf0 (by omega) hb))) rfl Zt rfl) (Zm2 (Z8 Za ⟨_,rfl,_,_,rfl,Zm9 h0,Zmz h0,rfl⟩))))))
theorem Ws{δ:Zg}{i:Nat}{x:Int}{as:FA}{many:Int}{Q:Xa->Zg->Prop}(hi:δ[i]? =some (some (dk x)))(ha:EvA as δ [.int many])(h0:0<many)(hb:Bt 400 many)(q:∀r x',0≤r->r<many->Q (.int r) (δ.set i (some (dk x')))):EvP (Z5 i Zk as) δ Q :=
 Zbp hi (Zu7 ha ⟨dk x,hi,(Zh8 x h0 hb).mono λd t' z=>by
  obtain⟨r,x',rfl,r0,r1,rfl⟩:=z
  exact q r x' r0 r1⟩)
theorem Zh2{n:Nat}{t b:Int}(hb:0<b)(hB:Bt n b)(hn:n≤9000:=by decide):Told Jh [.int t,.int b] (frD (Xu t b)):=by
 obtain⟨z',e⟩:=Zjq (f1:=λx y z=>[some (.fz (.int t)),some (.fz (.int b)),some (.fz (.int x)),some (.fz (.int y)),z]) (f2:=λx y z=>[]) (t:=tV (Zh gNe (Zd 3) (fC (.int 0)))) (u:=Zz (wE (Zh Zij (Zd 2) (Zd 3)) (Yt 4)) (Zz (wE (Zd 3) (Yt 2)) (wE (Zd 4) (Yt 3)))) (λx y z=>Zci (Zmi Za Zt rfl)) (λx y z hy=>⟨_,Jm (Zy (Zmg Za Za hy)) (Jm (Zy Za) (Zy Za))⟩) (b.toNat+1) (t.natAbs:Int) b none (by omega) (by omega) (by omega)
 have eg:(JL (t.natAbs:Int) b:Int)=shr t b:=by
  unfold shr
  rw[if_neg (by omega),BX,BX,Uh]
 obtain⟨e1,e2⟩:=Z3n (t:=t) (b:=b) (by omega) hB hn _ eg
 exact Z4 rfl<|Ye (Zy (Zaj (Zb Za Ze) (Zr6 t)))<|Ye (Zy Za)<|Ye (Zk9 _ e (by intro z;cases z)) (Wy (Zgk (Zb (Zn Za Za e1) (Zb (Zn Za Za e2) Ze)) (show 2≤1000 by decide)))
theorem Z5i{a b c lo hi:Int}(ha:lo≤a∧a≤hi)(hb:lo≤b∧b≤hi)(hc:lo≤c∧c≤hi){r:Int}(h0:0≤r)(h1:r<3):∃x,gIx (.list [.int a,.int b,.int c]) (.int r)=some (.fz (.int x))∧lo≤x∧x≤hi:=by
 obtain rfl|rfl|rfl:r=0∨r=1∨r=2:=by omega
 ·exact⟨a,rfl,ha⟩
 ·exact⟨b,rfl,hb⟩
 ·exact⟨c,rfl,hc⟩
theorem Zpv{m n:Nat}{x:Int}(h0:0≤x)(h1:x≤2^m)(h:m<n):Bt n x:=by
 have:(2:Int)^m<2^n:=by
  have:=Nat.pow_lt_pow_right (a:=2) (by decide) h
  exact_mod_cast this
 exact Bt.of_lt (Vp (Int.neg_neg_of_pos (Int.pow_pos (by decide))) h0) (Int.lt_of_le_of_lt h1 this)
theorem Zsc(x:Int):ToldI Zab (dk x) [] λd t'=>∃b x',d= .int b∧1≤b∧b≤12∧t'=dk x':=by
 refine Zg3 rfl (Zm2 (Zbe (Z8 Zt (Zbp rfl (Zae (Zhh (Z8 (Zaw (Zb Zt (Zb Zt (Zb Zt Ze))) (show 3≤1000 by decide)) (Ws rfl (Zb Zt Ze) (by decide) (btc (by decide) (by decide)) λr x1 r0 r1=>?_))))))))
 obtain⟨m,em,m0,m1⟩:=Z5i (a:=1) (b:=6) (c:=12) (lo:=1) (hi:=12) (by decide) (by decide) (by decide) r0 r1
 refine⟨_,em,Zbw ⟨dk x1,rfl,?_⟩⟩
 rw[OT.data_fz]
 refine(Zh8 x1 (m:=m) (by omega) (Bt.mono (m:=4) (Bt.of_lt (by omega) (by omega)) (by decide))).mono λd t' z=>?_
 obtain⟨q,x',rfl,q0,q1,rfl⟩:=z
 exact⟨_,rfl,dk x',rfl,_,x',rfl,by omega,by omega,rfl⟩
theorem Ydx:Zih (.int 10) (.int 40)=some (.int 10000000000000000000000000000000000000000):=rfl
theorem Ybv:Zih (.int 10) (.int 60)=some (.int 1000000000000000000000000000000000000000000000000000000000000):=rfl
theorem Ye4:Zih (.int 10) (.int 61)=some (.int 10000000000000000000000000000000000000000000000000000000000000):=rfl
theorem Z9w:Zih (.int 3) (.int 60)=some (.int 42391158275216203514294433201):=rfl
theorem Zjk(c:Int){k:Int}(h0:0≤k)(h1:k≤3):∃v,Told Yn [.int c,.int k] (.int v)∧Bt 210 v:=by
 have bk:Bt 3 (k+1):=Bt.of_lt (by omega) (by omega)
 have bk0:Bt 3 k:=Bt.of_lt (by omega) (by omega)
 have bc:Bt 134 (c.fmod 10000000000000000000000000000000000000000):=Bt.of_lt (Vp (by decide +kernel) (Zm9 (by decide))) (Int.lt_trans (Zmz (by decide)) (by decide +kernel))
 have b3:Bt 96 42391158275216203514294433201:=btc (by decide +kernel) (by decide +kernel)
 have b4:Bt 16 48271:=btc (by decide +kernel) (by decide +kernel)
 have b5:Bt 17 69621:=btc (by decide +kernel) (by decide +kernel)
 have bn:=((bc.mul b4).add ((b3.mul bk).mul bk)).add bk0
 have key:∃d,Told Yn [.int c,.int k] d∧∃v,d= .int v∧Bt 210 v:=by
  refine Zvc rfl (Zef (Zy (J1 (J1 (Zn (Zmg Za (Zn Zt Zt Ydx) (by decide)) Zt (Ju (Wm bc b4))) (Zn (Zn (Zn Zt Zt Z9w) (J1 Za Zt) (Ju (Wm b3 bk))) (J1 Za Zt) (Ju (Wm (b3.mul bk) bk)))) Za)) ?_)
  generalize c.fmod 10000000000000000000000000000000000000000*48271+42391158275216203514294433201*(k+1)*(k+1)+k=N at bn⊢
  refine Zef (Zy (J1 (Zn Za Za (Ju (Wm bn bn))) (Zn Zt Za (Ju (Wm b5 bn))))) ?_
  have bN:=(bn.mul bn).add (b5.mul bn)
  generalize N*N+69621*N=M at bN⊢
  refine Zk6 (Z1i (Zmg (Zn Za Za (Ju (Wm bN bN))) (J1 (Zn Zt Zt Ye4) Zt) (by decide)) Zt) ⟨_,rfl,?_⟩
  have q0:=Zm9 (i:=M*M) (j:=10000000000000000000000000000000000000000000000000000000000000+7) (by decide)
  have q1:=Zmz (i:=M*M) (j:=10000000000000000000000000000000000000000000000000000000000000+7) (by decide)
  rw[Je (by decide)]
  exact Bt.of_le (x:=(M*M).fmod (10000000000000000000000000000000000000000000000000000000000000+7)) (Bt.of_lt (Vp (by decide +kernel) q0) (Int.lt_trans q1 (by decide +kernel))) (Vi _ _)
 obtain⟨d,h,v,rfl,b⟩:=key
 exact⟨v,h,b⟩
theorem Ybr{as:FA}{δ:Zg}{ts:List OT}(h:as δ=some (ts,δ))(hl:ts.length≤1000):Zdm as δ=some (.nd ts,δ):=by
 rw[Zjm,h]
 exact if_pos (e:=none) (show ts.length≤Xq by rw[Qj];omega)
theorem Z7f{e:FE}{as:FA}{δ:Zg}{o:OT}{ts:List OT}(h:e δ=some (o,δ))(k:as δ=some (ts,δ)):Zc e as δ=some (o :: ts,δ):=by
 rw[Zfe,h]
 show(as δ).bind _=_
 rw[k];rfl
theorem Zsv{e:FE}{δ:Zg}{i:Int}(h:EvV e δ (.int i)):e δ=some (.fz (.int i),δ):=by
 obtain⟨t,e1,e2⟩:=h
 rw[e1,Zke e2]
theorem Znn{e:FE}{δ:Zg}{o:OT}(h:e δ=some (o,δ)):wE e J0 δ= .rt o δ:=by rw[Zbx,h];rfl
theorem Z02(c:Int):∃x,Jy [.int c]= .ok (dk x):=by
 have key:∃x δ',Jw [some (.fz (.int c))]= .rt (dk x) δ':=by
  by_cases h:1000000000000000000≤c
  ·exact⟨c-1000000000000000000,_,Zlu (Za2 (Zci (Z48 Za (Zn Zt Zt Z8a) (decide_eq_true h))) (Znn (Ybr (Z7f (Zsv (Zi9 Za (Zn Zt Zt Z8a))) rfl) (Nat.le_of_ble_eq_true rfl))))⟩
  ·obtain⟨v1,e1,b1⟩:=Zjk c (k:=1) (by decide) (by decide)
   obtain⟨v2,e2,b2⟩:=Zjk c (k:=2) (by decide) (by decide)
   obtain⟨v3,e3,b3⟩:=Zjk c (k:=3) (by decide) (by decide)
   have bp:Bt 200 1000000000000000000000000000000000000000000000000000000000000:=btc (by decide +kernel) (by decide +kernel)
   have st:∀{k v:Int},Told Yn [.int c,.int k] (.int v)->EvV (Zv Yn (Zc (Zd 0) (Zc (fC (.int k)) Zm))) [some (.fz (.int c))] (.int v):=λe=>Zq (Zb Za (Zb Zt Ze)) e
   exact⟨_,_,Jm (W7 (Zci (Z48 Za (Zn Zt Zt Z8a) (decide_eq_false h))) rfl) (Znn (Ybr (Z7f (Zsv (J1 (Zn (J1 (Zn (st e1) (Zn Zt Zt Ybv) (Ju (Wm b1 bp))) (st e2)) (Zn Zt Zt Ybv) (Ju (Wm ((b1.mul bp).add b2) bp))) (st e3))) rfl) (Nat.le_of_ble_eq_true rfl)))⟩
 obtain⟨x,δ',e⟩:=key
 refine⟨x,?_⟩
 unfold Jy
 rw[Zer (np:=1) (by rfl)]
 show(Jw [some (.fz (.int c))]).told=_
 rw[e];rfl
noncomputable def Z7(n:Nat)(f:Nat->Nat->Xa):OT:=.nd ((Xj n).map λi=>.nd ((Xj n).map λj=>.fz (f i j)))
noncomputable def Wl(n:Nat)(f:Nat->Nat->Xa):Xa:=.list ((Xj n).map λi=>.list ((Xj n).map λj=>f i j))
theorem Za0(n:Nat)(f:Nat->Nat->Xa):(Z7 n f).data=Wl n f:=by
 unfold Z7 Wl
 rw[OT.data_nd,Qp]
 refine congrArg QH (Xy λi _=>?_)
 show(OT.nd _).data=_
 rw[OT.data_nd,Qp]
 exact congrArg QH (Xy λj _=>OT.data_fz _)
theorem Zo7{n:Nat}{f g:Nat->Nat->Xa}(h:∀i j,i<n->j<n->f i j=g i j):Z7 n f=Z7 n g:=by
 unfold Z7
 refine congrArg OT.nd (Xy λi hi=>congrArg OT.nd (Xy λj hj=>congrArg OT.fz (h i j (X5.mp hi) (X5.mp hj))))
noncomputable def upG(f:Nat->Nat->Xa)(a b:Nat)(d:Xa):Nat->Nat->Xa:=λi j=>if i=a∧j=b then d else f i j
theorem Zh1{α:Type}{n a:Nat}(f:Nat->α)(x:α):((Xj n).map f).set a x=(Xj n).map λi=>if i=a then x else f i:=by
 refine List.ext_getElem? λi=>?_
 rw[List.getElem?_set,Xg,XH,Xm,Xm]
 by_cases h:a=i
 ·subst h
  by_cases c:a<n
  ·rw[if_pos rfl,if_pos c,QB c];simp
  ·rw[if_pos rfl,if_neg c,JQ (by simp;omega)];rfl
 ·rw[if_neg h]
  by_cases c:i<n
  ·rw[QB c];simp[JM h]
  ·rw[JQ (by simp;omega)];rfl
theorem Zhx{i n:Nat}{e j j2:FE}{δ:Zg}{d:Xa}{f:Nat->Nat->Xa}{a b:Nat}(he:EvV e δ d)(hi:δ[i]? =some (some (Z7 n f)))(hj:EvV j δ (.int a))(ha:a<n)(hk:EvV j2 δ (.int b))(hb:b<n) :
  Zaz i e j j2 δ= .nx (δ.set i (some (Z7 n (upG f a b d)))):=by
 obtain⟨_,e2,d2⟩:=he
 obtain⟨_,e3,d3⟩:=hj
 obtain⟨_,e4,d4⟩:=hk
 unfold Zaz Z7 at*
 rw[Zbx,e2,Yw,hi]
 dsimp only
 rw[Zbx,e3,Yw,d3]
 dsimp only
 rw[Zq9 (by rw[Xg,XH];exact ha)]
 dsimp only
 rw[Xm,QB ha,Option.map_some]
 dsimp only
 rw[Zbx,e4,Yw,d4]
 dsimp only
 rw[Zq9 (by rw[Xg,XH];exact hb)]
 dsimp only
 rw[d2,Zh1,Zh1]
 refine congrArg RS.nx (congrArg (δ.set i) (congrArg some (congrArg OT.nd (Xy λk _=>?_))))
 by_cases c:k=a
 ·subst c
  rw[if_pos rfl]
  refine congrArg OT.nd (Xy λl _=>?_)
  unfold upG
  by_cases c2:l=b
  ·rw[if_pos c2,if_pos ⟨rfl,c2⟩]
  ·rw[if_neg c2,if_neg λz=>c2 z.2]
 ·rw[if_neg c]
  refine congrArg OT.nd (Xy λl _=>?_)
  unfold upG
  rw[if_neg λz=>c z.1]
noncomputable def inG(R:Nat->Nat->Int):Nat->Nat->Xa:=λi j=>.int (R i j)
noncomputable def upR(R:Nat->Nat->Int)(a b:Nat)(v:Int):Nat->Nat->Int:=λi j=>if i=a∧j=b then v else R i j
theorem Z7m(R:Nat->Nat->Int)(a b:Nat)(v:Int):upG (inG R) a b (.int v)=inG (upR R a b v):=by
 funext i j
 unfold upG inG upR
 by_cases c:i=a∧j=b
 ·rw[if_pos c,if_pos c]
 ·rw[if_neg c,if_neg c]
theorem Znm{i n:Nat}{e j j2:FE}{δ:Zg}{v:Int}{R:Nat->Nat->Int}{a b:Nat}(he:EvV e δ (.int v))(hi:δ[i]? =some (some (Z7 n (inG R))))(hj:EvV j δ (.int a))(ha:a<n)(hk:EvV j2 δ (.int b))(hb:b<n) :
  Zaz i e j j2 δ= .nx (δ.set i (some (Z7 n (inG (upR R a b v))))):=by
 rw[←Z7m]
 exact Zhx he hi hj ha hk hb
theorem Zda{n a b i0 i9 i10:Nat}{f:Nat->Nat->Xa}{δ:Zg}(ha:a<n)(hb:b<n)(h6:δ[i0]? =some (some (Z7 n f)))(h9:δ[i9]? =some (some (.fz (.int a))))(h10:δ[i10]? =some (some (.fz (.int b)))):EvV (Z2 gIx (Z2 gIx (Ze0 i0) (Zd i9)) (Zd i10)) δ (f a b):=by
 refine Wb (Wb (Zk0 h6 (Za0 n f)) (Za h9) (d:=.list ((Xj n).map λj=>f a j)) ?_) (Za h10) ?_
 ·unfold Wl
  rw[Zif,Zic,Xm,QB ha];rfl
 ·rw[Zif,Zic,Xm,QB hb];rfl
theorem Zj7{n i0:Nat}{f:Nat->Nat->Xa}{δ:Zg}(h:δ[i0]? =some (some (Z7 n f))):EvV (Zce Zgx (Zc (Ze0 i0) Zm)) δ (.int n):=by
 have:=Zug (δ:=δ) (e:=Ze0 i0) (ds:=(Xj n).map λi=>.list ((Xj n).map λj=>f i j)) (Zk0 h (Za0 n f))
 rwa[Xg,XH]at this
theorem Zk5{n:Nat}(hn:n≤10):Yr [.int n]= .ok (Z7 n (inG λ_ _=>0)):=by
 have e:(Y9 1 [0] (iRa (Zc (Zd 0) Zm)) (gNm 0) Zfg (Y9 1 [] (iRa (Zc (Zd 1) Zm)) (gNm 0) Zfg (fC (.int 0)))) [some (.fz (.int n))]=some (Z7 n (inG λ_ _=>0),[some (.fz (.int n))]) :=
  Zgy (cs:=[some (.fz (.int n))]) (Xj n) (λi:Nat=>Xo (0+(i:Int))) (λi=>.nd ((Xj n).map λj=>.fz (inG (λ_ _=>0) i j))) (Zbz (Zb Za Ze) (by omega)) (by rw[XH,Qj];omega) rfl λi _=>
   Zgy (cs:=[]) (Xj n) (λi:Nat=>Xo (0+(i:Int))) (λj=>.fz (inG (λ_ _=>0) i j)) (Zbz (Zb Za Ze) (by omega)) (by rw[XH,Qj];omega) rfl λj _=>rfl
 unfold Yr
 rw[Zer (np:=1) (by rfl)]
 show(W3 [some (.fz (.int n))]).told=_
 unfold W3
 rw[Znn e];rfl
noncomputable def ph(R:Nat->Nat->Int)(k:Nat):Nat->Nat->Int:=λi j=>min (R i j) (R i k+R k j)
noncomputable def fw(R:Nat->Nat->Int):Nat->Nat->Nat->Int
 | 0=>R
 | k+1=>ph (fw R k) k
structure Nn(R:Nat->Nat->Int):Prop where
 z:∀i,R i i=0
 nn:∀i j,0≤R i j
theorem Nn.ph{R:Nat->Nat->Int}(h:Nn R)(k:Nat):Nn (ph R k) where
 z:=λi=>by
  unfold My.ph
  have:=h.nn i k
  have:=h.nn k i
  rw[h.z];omega
 nn:=λi j=>by
  unfold My.ph
  have:=h.nn i j
  have:=h.nn i k
  have:=h.nn k j
  omega
theorem Nn.fw{R:Nat->Nat->Int}(h:Nn R)(k:Nat):Nn (fw R k):=by
 induction k with
 | zero=>exact h
 | succ k ih=>exact ih.ph k
noncomputable def mix(R:Nat->Nat->Int)(k a b:Nat):Nat->Nat->Int:=λi j=>if i<a∨(i=a∧j<b)then ph R k i j else R i j
theorem Z4w{R:Nat->Nat->Int}(h:Nn R)(k a b i:Nat):mix R k a b i k=R i k:=by
 unfold mix
 split
 ·unfold ph;rw[h.z];have:=h.nn i k;omega
 ·rfl
theorem Z28{R:Nat->Nat->Int}(h:Nn R)(k a b j:Nat):mix R k a b k j=R k j:=by
 unfold mix
 split
 ·unfold ph;rw[h.z];have:=h.nn k j;omega
 ·rfl
theorem Zst(a b:Int):Zwo [.int a,.int b]=some (.int (min a b)):=by
 show some (Xo (if b<a then b else a))=_
 refine congrArg (λz=>some (Xo z)) ?_
 split<;>omega
theorem Zhg{n:Nat}{R S:Nat->Nat->Int}(h:∀i j,i<n->j<n->R i j=S i j):Z7 n (inG R)=Z7 n (inG S):=Zo7 λi j hi hj=>congrArg Xo (h i j hi hj)
theorem Zm0{n:Nat}(hn:n≤10){R:Nat->Nat->Int}(h:Nn R):ToldI Jg (Z7 n (inG R)) [] λ_ t'=>t'=Z7 n (inG (fw R n)):=by
 refine Zg3 rfl (Wa (Zei (Zy (Zj7 rfl)) ?_))
 refine J8 (ds:=Zd4 0 n) (λk δ=>∃z2 z3 z4,δ=[some (Z7 n (inG (fw R k))),some (.fz (.int n)),z2,z3,z4]) (Zbz (Zb Za Ze) (by omega)) ⟨none,none,none,rfl⟩ (λk d δ hd q=>?_) λδ' q=>?_
 ·obtain⟨z2,z3,z4,rfl⟩:=q
  obtain⟨hk,rfl⟩:=Wh hd
  rw[Qz]
  have hN:=h.fw k
  refine⟨_,rfl,J8 (ds:=Zd4 0 n) (λa δ=>∃z3 z4,δ=[some (Z7 n (inG (mix (fw R k) k a 0))),some (.fz (.int n)),some (.fz (.int k)),z3,z4]) (Zbz (Zb Za Ze) (by omega)) ⟨z3,z4,?_⟩ (λa d δ hd q=>?_) λδ' q=>?_⟩
  ·rw[Zhg (R:=mix (fw R k) k 0 0) (S:=fw R k) λi j _ _=>if_neg (by omega)];rfl
  ·obtain⟨z3,z4,rfl⟩:=q
   obtain⟨ha,rfl⟩:=Wh hd
   rw[Qz]
   refine⟨_,rfl,J8 (ds:=Zd4 0 n) (λb δ=>∃z4,δ=[some (Z7 n (inG (mix (fw R k) k a b))),some (.fz (.int n)),some (.fz (.int k)),some (.fz (.int a)),z4]) (Zbz (Zb Za Ze) (by omega)) ⟨z4,rfl⟩ (λb d δ hd q=>?_) λδ' q=>?_⟩
   ·obtain⟨z4,rfl⟩:=q
    obtain⟨hb,rfl⟩:=Wh hd
    rw[Qz]
    have v:min (mix (fw R k) k a b a b) (mix (fw R k) k a b a k+mix (fw R k) k a b k b)=ph (fw R k) k a b:=by
     rw[Z4w hN,Z28 hN,show mix (fw R k) k a b a b=fw R k a b from if_neg (by omega)];rfl
    refine⟨_,rfl,Zei (Znm (n:=n) (a:=a) (b:=b) (v:=ph (fw R k) k a b) (EvV.cast (Zaj (Zb (Zda (f:=inG (mix (fw R k) k a b)) (i0:=0) (i9:=3) (i10:=4) ha hb rfl rfl rfl) (Zb (J1 (Zda (f:=inG (mix (fw R k) k a b)) (i0:=0) (i9:=3) (i10:=2) ha hk rfl rfl rfl) (Zda (f:=inG (mix (fw R k) k a b)) (i0:=0) (i9:=2) (i10:=4) hk hb rfl rfl rfl)) Ze)) (Zst _ _)) (congrArg Xo v)) rfl Za ha Za hb) ⟨some (.fz (.int b)),?_⟩⟩
    rw[Zhg (R:=upR (mix (fw R k) k a b) a b (ph (fw R k) k a b)) (S:=mix (fw R k) k a (b+1)) λi j _ _=>?_]
    ·rfl
    ·unfold upR mix
     by_cases c:i=a∧j=b
     ·rw[if_pos c,if_pos (by omega),c.1,c.2]
     ·rw[if_neg c]
      by_cases c2:i<a∨(i=a∧j<b)
      ·rw[if_pos c2,if_pos (by omega)]
      ·rw[if_neg c2,if_neg (by omega)]
   ·obtain⟨z4,rfl⟩:=q
    refine⟨some (.fz (.int a)),z4,?_⟩
    rw[Y0,Zhg (R:=mix (fw R k) k a n) (S:=mix (fw R k) k (a+1) 0) λi j _ hj=>?_]
    ·unfold mix
     by_cases c:i<a∨(i=a∧j<n)
     ·rw[if_pos c,if_pos (by omega)]
     ·rw[if_neg c,if_neg (by omega)]
  ·obtain⟨z3,z4,rfl⟩:=q
   refine⟨some (.fz (.int k)),z3,z4,?_⟩
   rw[Y0,Zhg (R:=mix (fw R k) k n 0) (S:=fw R (k+1)) λi j hi _=>if_pos (.inl hi)]
 ·obtain⟨z2,z3,z4,rfl⟩:=q
  rw[Y0]
  exact⟨_,rfl,rfl⟩
noncomputable def bb(bits:Int)(i:Nat):Int:=U7 (bits/2^i) 1
noncomputable def adC(R:Nat->Nat->Int)(bits w:Int):Nat->Nat->Int:=λi j=>if bb bits i=bb bits j then R i j else R i j+w
noncomputable def mxC(R:Nat->Nat->Int)(bits w:Int)(a b:Nat):Nat->Nat->Int:=λi j=>if i<a∨(i=a∧j<b)then adC R bits w i j else R i j
theorem Zw3{δ:Zg}{k i:Nat}{bits:Int}(h1:δ[1]? =some (some (.fz (.int bits))))(hk:δ[k]? =some (some (.fz (.int i)))):EvV (Zh Z7w (Zh Z6n (Zd 1) (Zd k)) (fC (.int 1))) δ (.int (bb bits i)):=by
 have e:Z6n (.int bits) (.int i)=some (.int (bits/2^i)):=by
  show(if decide ((0:Int)≤i)=true then some (Xo (bits/2^((i:Int).toNat)))else none)=_
  rw[if_pos (decide_eq_true (by omega)),Q3]
 exact Zn (Zn (Za h1) (Za hk) e) Zt rfl
theorem Zpj{n:Nat}(hn:n≤10)(R:Nat->Nat->Int)(bits w:Int):ToldI Wr (Z7 n (inG R)) [.int bits,.int w] λ_ t'=>t'=Z7 n (inG (adC R bits w)):=by
 refine Zg3 rfl (J8 (ds:=Zd4 0 n) (λa δ=>∃z3 z4,δ=[some (Z7 n (inG (mxC R bits w a 0))),some (.fz (.int bits)),some (.fz (.int w)),z3,z4]) (Zbz (Zb (Zj7 rfl) Ze) (by omega)) ⟨none,none,?_⟩ (λa d δ hd q=>?_) λδ' q=>?_)
 ·rw[Zhg (R:=mxC R bits w 0 0) (S:=R) λi j _ _=>if_neg (by omega)];rfl
 ·obtain⟨z3,z4,rfl⟩:=q
  obtain⟨ha,rfl⟩:=Wh hd
  rw[Qz]
  refine⟨_,rfl,J8 (ds:=Zd4 0 n) (λb δ=>∃z4,δ=[some (Z7 n (inG (mxC R bits w a b))),some (.fz (.int bits)),some (.fz (.int w)),some (.fz (.int a)),z4]) (Zbz (Zb (Zj7 rfl) Ze) (by omega)) ⟨z4,rfl⟩ (λb d δ hd q=>?_) λδ' q=>?_⟩
  ·obtain⟨z4,rfl⟩:=q
   obtain⟨hb,rfl⟩:=Wh hd
   rw[Qz]
   have v:mxC R bits w a b a b=R a b:=if_neg (by omega)
   have up:∀x:Int,x=adC R bits w a b->Z7 n (inG (upR (mxC R bits w a b) a b x))=Z7 n (inG (mxC R bits w a (b+1))):=λx hx=>Zhg λi j _ _=>by
    unfold upR mxC
    by_cases c:i=a∧j=b
    ·rw[if_pos c,if_pos (by omega),hx,c.1,c.2]
    ·rw[if_neg c]
     by_cases c2:i<a∨(i=a∧j<b)
     ·rw[if_pos c2,if_pos (by omega)]
     ·rw[if_neg c2,if_neg (by omega)]
   refine⟨_,rfl,Zmd (Zd6 (Zci (Zmi (Zw3 rfl rfl) (Zw3 rfl rfl) rfl)) ⟨λc=>?_,λc=>?_⟩)⟩
   ·have c':bb bits a≠bb bits b:=by simpa using c
    refine Zei (Znm (n:=n) (a:=a) (b:=b) (v:=R a b+w) (J1 (EvV.cast (Zda (f:=inG (mxC R bits w a b)) (i0:=0) (i9:=3) (i10:=4) ha hb rfl rfl rfl) (congrArg Xo v)) Za) rfl Za ha Za hb) ⟨some (.fz (.int b)),?_⟩
    rw[up _ (show R a b+w=adC R bits w a b from(if_neg c').symm)];rfl
   ·have c':bb bits a=bb bits b:=by simpa using c
    refine Zi8 ⟨some (.fz (.int b)),?_⟩
    rw[Zhg (R:=mxC R bits w a (b+1)) (S:=mxC R bits w a b) λi j _ _=>?_]
    ·rfl
    ·unfold mxC
     by_cases c:i=a∧j=b
     ·rw[if_pos (by omega),if_neg (by omega),c.1,c.2]
      exact if_pos c'
     ·by_cases c2:i<a∨(i=a∧j<b)
      ·rw[if_pos c2,if_pos (by omega)]
      ·rw[if_neg c2,if_neg (by omega)]
  ·obtain⟨z4,rfl⟩:=q
   refine⟨some (.fz (.int a)),z4,?_⟩
   rw[Y0,Zhg (R:=mxC R bits w a n) (S:=mxC R bits w (a+1) 0) λi j _ hj=>?_]
   ·unfold mxC
    by_cases c:i<a∨(i=a∧j<n)
    ·rw[if_pos c,if_pos (by omega)]
    ·rw[if_neg c,if_neg (by omega)]
 ·obtain⟨z3,z4,rfl⟩:=q
  rw[Y0,Zhg (R:=mxC R bits w n 0) (S:=adC R bits w) λi j hi _=>if_pos (.inl hi)]
  exact⟨_,rfl,rfl⟩
theorem Nn.add{R:Nat->Nat->Int}(h:Nn R){bits w:Int}(hw:0≤w):Nn (adC R bits w) where
 z:=λi=>by unfold adC;rw[if_pos rfl];exact h.z i
 nn:=λi j=>by
  unfold adC
  have:=h.nn i j
  split<;>omega
theorem Zuo{F:FD}{as:FA}{δ:Zg}{ds:List Xa}{o:OT}(h:EvA as δ ds)(k:F ds= .ok o):Zv F as δ=some (o,δ):=by
 obtain⟨ts,e1,e2⟩:=h
 rw[Zg1,e1]
 show okO (F (OT.datas ts)) δ=_
 rw[e2,k];rfl
section
variable {δ:Zg}{e j j2:FE}{i:Nat}{N:Zg->Prop}{R:Xa->Zg->Prop}
theorem Zo8(h:EvP e δ λ_ δ'=>N δ'):EpS (wE e Zhj) δ N R:=by
 obtain⟨o,δ',e1,q⟩:=h
 exact .inl ⟨δ',by rw[Zbx,e1];rfl,q⟩
theorem Zcn(h:EvP e δ λd δ'=>∃v S n a b,d= .int v∧δ'[i]? =some (some (Z7 n (inG S)))∧EvV j δ' (.int (a:Nat))∧a<n∧EvV j2 δ' (.int (b:Nat))∧b<n∧N (δ'.set i (some (Z7 n (inG (upR S a b v)))))):EpS (Zaz i e j j2) δ N R:=by
 obtain⟨o,δ',e1,v,S,n,a,b,hd,hi,hj,ha,hk,hb,q⟩:=h
 have e2:Zaz i e j j2 δ=Zaz i (fC (.int v)) j j2 δ':=by
  unfold Zaz
  rw[Zbx,Zbx,e1,Yw,Zke hd,Z5q,Yw]
 exact .inl ⟨_,by rw[e2];exact Znm Zt hi hj ha hk hb,q⟩
end
theorem Zvy{α:Type}{δ:Zg}{it:FI}{g:FG}{me:FE}(xs:List α)(mk f:α->Xa)(hi:EvI it δ (xs.map mk))(hz:xs.length≤1000000)(h:∀x∈xs,∀z0 z1,∃w0 w1,g (mk x) [z0,z1]=some [w0,w1]∧EvV me [w0,w1] (f x)):EvV (Y9 2 [] it g Zfg me) δ (.list (xs.map f)):=by
 obtain⟨ts,δ',e1,z0,z1,rfl,e2⟩:=Z6c (t:=Zfg) (e:=me) (g:=g) (δ:=[none,none])
  (λk acc δ=>∃z0 z1,δ=[z0,z1]∧acc=(xs.take k).map f) (xs.map mk) 0 [] ⟨none,none,rfl,rfl⟩ (λk d acc δ hd q=>by
   obtain⟨z0,z1,rfl,rfl⟩:=q
   rw[Vy]at*
   rw[Xm]at hd
   cases e:xs[k]? with
   | none=>rw[e]at hd;cases hd
   | some p=>
    rw[e]at hd
    cases hd
    have et:xs.take (k+1)=xs.take k ++ [p]:=by rw[List.take_succ,e];rfl
    obtain⟨w0,w1,e1,e2⟩:=h p (Qv e) z0 z1
    refine⟨_,e1,Zd6 rfl ⟨λ_=>Z8 e2 ⟨_,_,rfl,?_⟩,λz=>nomatch z⟩⟩
    rw[et,Q8];rfl)
 rw[Vy,Xg,Uw,List.nil_append]at e2
 refine⟨.nd ts,?_,by rw[OT.data_nd,e2]⟩
 unfold EvI at hi
 unfold Y9
 rw[hi]
 show(if(xs.map mk).length≤Xq then _ else none)=_
 rw[if_pos (by rw[Xg,Qj];omega)]
 show(compLoop _ _ _ _ [none,none]).bind _=_
 rw[e1];rfl
theorem Zkj{α:Type}(xs:List α)(f g:α->Xa):Zn0 (xs.map f) (xs.map g)=xs.map λx=>.tuple [f x,g x]:=by
 unfold Zn0
 rw[List.zip_map',Qp];rfl
theorem Z8y{a b lo hi:Int}(ha:lo≤a∧a≤hi)(hb:lo≤b∧b≤hi)(c:Bool):∃x,gIx (.list [.int a,.int b]) (.int (if c=true then 1 else 0))=some (.fz (.int x))∧lo≤x∧x≤hi:=by
 cases c with
 | true=>exact⟨b,rfl,hb⟩
 | false=>exact⟨a,rfl,ha⟩
theorem Zut(R:Nat->Nat->Int)(a b:Nat)(v w:Int):upR (upR R a b v) a b w=upR R a b w:=by
 funext i j
 unfold upR
 split<;>rfl
theorem Nn.put{R:Nat->Nat->Int}(h:Nn R){a b:Nat}{v:Int}(hab:a≠b)(hv:0≤v):Nn (upR (upR R a b v) b a v) where
 z:=λi=>by
  unfold upR
  rw[if_neg (by omega),if_neg (by omega)];exact h.z i
 nn:=λi j=>by
  unfold upR
  have:=h.nn i j
  split
  ·exact hv
  ·split<;>omega
theorem Zxh{R:Nat->Nat->Int}{M v:Int}(h:∀i j,R i j≤M)(hv:v≤M)(a b:Nat):∀i j,upR R a b v i j≤M:=λi j=>by
 unfold upR
 split
 ·exact hv
 ·exact h i j
theorem Z9f{R:Nat->Nat->Int}{M:Int}(h:∀i j,R i j≤M)(k:Nat):∀i j,fw R k i j≤M:=by
 induction k with
 | zero=>exact h
 | succ k ih=>exact λi j=>Qa (Int.min_le_left ..) (ih i j)
theorem Z7c{R:Nat->Nat->Int}{M w:Int}{k:Nat}(h:∀i j,R i j≤k*M)(hw0:0≤w)(hw:w≤M)(bits:Int):∀i j,adC R bits w i j≤(k+1:Nat)*M:=λi j=>by
 have:=h i j
 rw[Int.natCast_add,Int.add_mul,Int.natCast_one,Int.one_mul]
 unfold adC
 split<;>omega
noncomputable def lE(x:Int)(n:Nat)(o:OT)(kd:Int)(z4 z5 z6 z7 z8 z9:Option OT):Zg:=[some (dk x),some (.fz (.int n)),some o,some (.fz (.int kd)),z4,z5,z6,z7,z8,z9]
theorem Nn.nought:Nn λ_ _=>0:=⟨λ_=>rfl,λ_ _=>Us _⟩
theorem Ztp{a b lo hi:Int}(ha:lo≤a∧a≤hi)(hb:lo≤b∧b≤hi){r:Int}(h0:0≤r)(h1:r<2):∃x,gIx (.list [.int a,.int b]) (.int r)=some (.fz (.int x))∧lo≤x∧x≤hi:=by
 obtain rfl|rfl:r=0∨r=1:=by omega
 ·exact⟨a,rfl,ha⟩
 ·exact⟨b,rfl,hb⟩
theorem Z6e{n:Nat}(h:n≤10):∃m,Z8n (.int 1) (.int n)=some (.int m)∧0<m∧m≤1024:=by
 have f:∀k:Fin 11,k.val=0∨k.val=1∨k.val=2∨k.val=3∨k.val=4∨k.val=5∨k.val=6∨k.val=7∨k.val=8∨k.val=9∨k.val=10:=by decide +kernel
 have f:n=0∨n=1∨n=2∨n=3∨n=4∨n=5∨n=6∨n=7∨n=8∨n=9∨n=10:=f ⟨n,Nat.lt_succ_of_le h⟩
 obtain rfl|rfl|rfl|rfl|rfl|rfl|rfl|rfl|rfl|rfl|rfl:=f
 all_goals exact⟨_,rfl,by decide,by decide⟩
theorem Ybg:Zih (.int 10) (.int 20)=some (.int 100000000000000000000):=rfl
theorem Ybk{n:Nat}(hn:n≤10){M:Int}(hM:M=100000000000000000001)(x kd:Int)(z6 z7 z8 z9:Option OT){RR:Xa->Zg->Prop} :
  EpS (Zax (tV (Zh gNe (Zd 3) (fC (.int 1))))
  (Jk (iRa (Zc (Z5 0 Zk (Zc (fC (.int 7)) Zm)) Zm)) (gNm 4)
  (Zz (wE (Z5 0 Zk (Zc (Zh Z8n (fC (.int 1)) (Zd 1)) Zm)) (Yt 5))
  (wE (Z5 2 Wr (Zc (Zd 5) (Zc (Zh Zcc (fC (.int 1)) (Z5 0 Zk (Zc (Z2 gIx (Zdm (Zc (fC (.int 3)) (Zc (Zh Zih (fC (.int 10)) (fC (.int 20))) Zm))) (Z5 0 Zk (Zc (fC (.int 2)) Zm))) Zm))) Zm))) Zhj)))
  fNx) (lE x n (Z7 n (inG λ_ _=>0)) kd none none z6 z7 z8 z9) (λδ=>∃x R z4 z5,δ=lE x n (Z7 n (inG R)) kd z4 z5 z6 z7 z8 z9∧Nn R∧∀i j,R i j≤(7:Nat)*M) RR:=by
 have M0:0≤M:=by rw[hM];decide +kernel
 refine Zmd (Zd6 (Zci (Zmi Za Zt rfl)) ⟨λ_=>?_,λ_=>Zi8 ⟨_,_,_,_,rfl,Nn.nought,λ_ _=>Int.mul_nonneg (by decide) M0⟩⟩)
 refine Zu8 (Z4g (Zae (Ws rfl (Zb Zt Ze) (by decide) (btc (by decide +kernel) (by decide +kernel)) λr x1 r0 r1=>Zbw ⟨r.toNat,?_,by omega,?_⟩)))
 ·rw[Bx r0]
 refine⟨λk δ=>∃x R z4 z5,δ=lE x n (Z7 n (inG R)) kd z4 z5 z6 z7 z8 z9∧Nn R∧∀i j,R i j≤(k:Nat)*M,⟨_,_,_,_,rfl,Nn.nought,λ_ _=>Int.mul_nonneg (by decide) M0⟩,λk d δ hd q=>?_,λδ' q=>?_⟩
 ·obtain⟨x,R,z4,z5,rfl,hR,bR⟩:=q
  obtain⟨m,em,m0,m1⟩:=Z6e hn
  refine⟨_,rfl,Wa (Zam (Ws rfl (Zb (Zn Zt Za em) Ze) m0 (Bt.mono (m:=11) (Bt.of_lt (by omega) (by omega)) (by decide)) λb x2 b0 b1=>Zo8 (Zbp rfl (Zae (Z8 Za (Zae (Zbe (Z8 Zt (Zbp rfl (Zae (Zhh (Z8 (Zaw (Zb Zt (Zb (Zn Zt Zt Ybg) Ze)) (show 2≤1000 by decide)) (Ws rfl (Zb Zt Ze) (by decide) (btc (by decide +kernel) (by decide +kernel)) λr x3 r0 r1=>?_)))))))))))))⟩
  obtain⟨y,ey,y0,y1⟩:=Ztp (a:=3) (b:=100000000000000000000) (lo:=1) (hi:=100000000000000000000) (by decide +kernel) (by decide +kernel) r0 r1
  refine⟨_,ey,Zbw ⟨dk x3,rfl,?_⟩⟩
  rw[OT.data_fz]
  refine(Zh8 x3 (m:=y) (Vp (by decide) y0) (Zpv (m:=130) (Qa (by decide) y0) (Qa y1 (by decide +kernel)) (by decide))).mono λd t' z=>?_
  obtain⟨q,x',rfl,q0,q1,rfl⟩:=z
  refine⟨_,rfl,Zbw ⟨Z7 n (inG R),rfl,(Zpj (n:=n) (by omega) R b (1+q)).mono λ_ t' z=>?_⟩⟩
  subst z
  have w0:0≤1+q:=by clear y1;omega
  have w1:1+q≤M:=by
   rw[hM]
   generalize 100000000000000000000=W at*
   exact Qa (show 1+q≤y+1 by omega) (Qa (Int.add_le_add_right y1 1) (Int.le_of_eq (by decide +kernel)))
  exact⟨_,_,_,_,rfl,hR.add w0,Z7c bR w0 w1 b⟩
 ·obtain⟨x,R,z4,z5,rfl,hR,bR⟩:=q
  refine⟨_,_,_,_,rfl,hR,λi j=>Qa (bR i j) (Int.mul_le_mul_of_nonneg_right ?_ M0)⟩
  rw[Y0];omega
noncomputable def Z2k(n:Nat)(f:Nat->Int):Xa:=.list ((Xj n).map λj=>.int (f j))
noncomputable def Zd2(n:Nat)(r:Nat->Nat->Int):Xa:=.list ((Xj n).map λi=>Z2k n (r i))
theorem Zg4{α:Type}{n i:Nat}(f:Nat->α)(h:i<n):atI ((Xj n).map f) (i:Int)=some (f i):=by
 rw[Zic,Xm,QB h];rfl
theorem Zz6{n j:Nat}{f:Nat->Int}(h:j<n):gIx (Z2k n f) (.int (j:Int))=some (.fz (.int (f j))):=by
 unfold Z2k;rw[Zif,Zg4 _ h];rfl
theorem Zv6{n i:Nat}{r:Nat->Nat->Int}(h:i<n):gIx (Zd2 n r) (.int (i:Int))=some (.fz (Z2k n (r i))):=by
 unfold Zd2;rw[Zif,Zg4 _ h];rfl
theorem Ztw(n:Nat)(r:Nat->Nat->Int):Zgx [Zd2 n r]=some (.int n):=by
 unfold Zd2;rw[Zra,Xg,XH]
theorem long2{n:Nat}(hn:n≤10){P:Int}(hP:P=100000000000000000000)(x:Int)(o:OT)(kd:Int)(z4 z5 z6 z7 z8 z9:Option OT){RR:Xa->Zg->Prop}{N:Zg->Prop}{S':FS}(next:∀x S z7 z8 z9,Nn S->(∀i j,S i j≤P)->EpS S' (lE x n o kd z4 z5 (some (Z7 n (inG S))) z7 z8 z9) N RR) :
  EpS (Zz (wE (Zv Yr (Zc (Zd 1) Zm)) (Zcd 6))
  (Zz (wE (Z2 gIx (Zdm (Zc (fC (.int 3)) (Zc (fC (.int 7)) (Zc (Zh Zih (fC (.int 10)) (fC (.int 20))) Zm)))) (Z5 0 Zk (Zc (fC (.int 3)) Zm))) (Yt 7))
  (Zz (Jk (iRa (Zc (Zd 1) Zm)) (gNm 8)
  (Jk (iRa (Zc (Zd 8) Zm)) (gNm 9)
  (Zz (Zaz 6 (Z2 gIx (Zdm (Zc (Zh Zcc (fC (.int 1)) (Z5 0 Zk (Zc (Zd 7) Zm))) (Zc (Zd 7) Zm))) (Zce Zrf (Zc (Zh gEq (Zd 3) (fC (.int 3))) Zm))) (Zd 8) (Zd 9))
  (Zz (Zax (tAn (tV (Zh gEq (Zd 3) (fC (.int 3)))) (tV (Zh gEq (Z5 0 Zk (Zc (fC (.int 2)) Zm)) (fC (.int 0)))))
  (Zaz 6 (fC (.int 1)) (Zd 8) (Zd 9))
  fNx)
  (Zaz 6 (Zp9 (Z2 gIx (Z2 gIx (Ze0 6) (Zd 8)) (Zd 9))) (Zd 9) (Zd 8)))))) S'))) (lE x n o kd z4 z5 z6 z7 z8 z9) N RR:=by
 have P1:1≤P:=by rw[hP];decide +kernel
 refine Wa (Zju (Zuo (Zb Za Ze) (Zk5 (n:=n) (by omega))) (Wa (Zam (Zhh (Z8 (Zaw (Zb Zt (Zb Zt (Zb (Zn Zt Zt Ybg) Ze))) (show 3≤1000 by decide)) (Ws rfl (Zb Zt Ze) (by decide) (btc (by decide +kernel) (by decide +kernel)) λr x1 r0 r1=>?_))))))
 obtain⟨m,em,m0,m1⟩:=Z5i (a:=3) (b:=7) (c:=100000000000000000000) (lo:=1) (hi:=P) (by rw[hP];decide +kernel) (by rw[hP];decide +kernel) (by rw[hP];decide +kernel) r0 r1
 refine⟨_,em,?_⟩
 rw[OT.data_fz]
 have bm:Bt 400 m:=Zpv (m:=70) (Qa (by decide) m0) (Qa m1 (by rw[hP];decide +kernel)) (by decide)
 clear em hP
 refine Wa (J8 (ds:=Zd4 0 n) (λ_ δ=>∃x S z8 z9,δ=lE x n o kd z4 z5 (some (Z7 n (inG S))) (some (.fz (.int m))) z8 z9∧Nn S∧∀i j,S i j≤P) (Zbz (Zb Za Ze) (by omega)) ⟨_,_,_,_,rfl,Nn.nought,λ_ _=>by omega⟩ (λa d δ hd q=>?_) λδ' q=>?_)
 ·obtain⟨x,S,z8,z9,rfl,hS,bS⟩:=q
  obtain⟨ha,rfl⟩:=Wh hd
  rw[Qz]
  refine⟨_,rfl,J8 (ds:=Zd4 0 a) (λ_ δ=>∃x S z9,δ=lE x n o kd z4 z5 (some (Z7 n (inG S))) (some (.fz (.int m))) (some (.fz (.int a))) z9∧Nn S∧∀i j,S i j≤P) (Zbz (Zb Za Ze) (by omega)) ⟨_,_,_,rfl,hS,bS⟩ (λb d δ hd q=>?_) λδ' q=>?_⟩
  ·obtain⟨x,S,z9,rfl,hS,bS⟩:=q
   obtain⟨hb,rfl⟩:=Wh hd
   rw[Qz]
   refine⟨_,rfl,Wa (Zcn (Zhh (Zyk (Zae (Zbe (Z8 Zt (Ws rfl (Zb Za Ze) (by omega) bm λr x2 r0 r1=>⟨_,Zmc _ _,Zae (Z8 Za (Zbw ⟨show 2≤1000 by decide,Z8 (Zaj (Zb (Zex Za Zt rfl) Ze) (Zhf _)) ?_⟩))⟩)))))))⟩
   obtain⟨v,ev,v0,v1⟩:=Z8y (a:=1+r) (b:=m) (lo:=1) (hi:=P) (by omega) (by omega) (decide (kd=3))
   refine⟨_,ev,v,S,n,a,b,OT.data_fz _,rfl,Za,ha,Za,by omega,?_⟩
   refine Wa (EpS.mono (N:=λδ=>∃x v,δ=lE x n o kd z4 z5 (some (Z7 n (inG (upR S a b v)))) (some (.fz (.int m))) (some (.fz (.int a))) (some (.fz (.int b)))∧1≤v∧v≤P) (R:=λ_ _=>False) ?_ (λδ q=>?_) λ_ _ z=>z.elim)
   ·refine Zmd (Z4s (Zd6 (Zci (Zex Za Zt rfl)) ⟨λc=>?_,λc=>⟨(λz=>nomatch z),λ_=>Zi8 ⟨_,v,rfl,v0,v1⟩⟩⟩))
    refine Z12 (Zbe (Ws rfl (Zb Zt Ze) (by decide) (btc (by decide +kernel) (by decide +kernel)) λr x3 r0 r1=>Z8 Zt ⟨_,Zuv _ _,_,rfl,λ_=>?_,λ_=>Zi8 ⟨_,v,rfl,v0,v1⟩⟩))
    refine Zcn (Z8 Zt ⟨1,upR S a b v,n,a,b,rfl,rfl,Za,ha,Za,by omega,x3,1,?_,Us _,P1⟩)
    rw[Zut];rfl
   obtain⟨x3,v,rfl,v0,v1⟩:=q
   have val:EvV (Z2 gIx (Z2 gIx (Ze0 6) (Zd 8)) (Zd 9)) (lE x3 n o kd z4 z5 (some (Z7 n (inG (upR S a b v)))) (some (.fz (.int m))) (some (.fz (.int a))) (some (.fz (.int b)))) (.int v):=(Zda (f:=inG (upR S a b v)) (n:=n) (a:=a) (b:=b) (i0:=6) (i9:=8) (i10:=9) ha (by omega) rfl rfl rfl).cast (congrArg Xo (if_pos ⟨rfl,rfl⟩))
   refine Zcn (Z8 (d:=.int v) ?_ ⟨v,upR S a b v,n,b,a,rfl,rfl,Za,by omega,Za,ha,x3,_,_,rfl,hS.put (by omega) (by omega),Zxh (Zxh bS v1 a b) v1 b a⟩)
   obtain⟨t,e1,e2⟩:=val
   exact⟨_,by rw[Zo1,e1,Xf,e2];exact if_pos rfl,OT.data_fz _⟩
  ·obtain⟨x,S,z9,rfl,hS,bS⟩:=q
   exact⟨x,S,_,z9,rfl,hS,bS⟩
 ·obtain⟨x,S,z8,z9,rfl,hS,bS⟩:=q
  exact next x S _ z8 z9 hS bS
noncomputable def EqS(S:FS)(δ:Zg)(N:Zg->Prop)(R:OT->Zg->Prop):Prop:=(∃δ',S δ= .nx δ'∧N δ')∨∃o δ',S δ= .rt o δ'∧R o δ'
section
variable {S S':FS}{δ:Zg}{N:Zg->Prop}{R:OT->Zg->Prop}{t:FT}{i:Nat}
theorem Zgv(h:EpS S δ N λ_ _=>False):EqS S δ N R:=by
 rcases h with h|⟨_,_,_,z⟩
 ·exact .inl h
 ·exact z.elim
theorem Zb6(h:EqS S δ (λδ1=>EqS S' δ1 N R) R):EqS (Zz S S') δ N R:=by
 rcases h with⟨δ1,e,h⟩|⟨o,δ1,e,h⟩
 ·have e2:Zz S S' δ=S' δ1:=by unfold Zz;rw[e]
  rcases h with⟨δ2,e3,q⟩|⟨o,δ2,e3,q⟩
  ·exact .inl ⟨δ2,e2.trans e3,q⟩
  ·exact .inr ⟨o,δ2,e2.trans e3,q⟩
 ·exact .inr ⟨o,δ1,by unfold Zz;rw[e],h⟩
theorem eq_if(h:EpT t δ λb δ1=>(b=true->EqS S δ1 N R)∧(b=false->EqS S' δ1 N R)):EqS (Zax t S S') δ N R:=by
 obtain⟨b,δ1,e,h1,h2⟩:=h
 have e2:Zax t S S' δ=if b=true then S δ1 else S' δ1:=by unfold Zax;rw[e]
 unfold EqS
 rw[e2]
 cases b with
 | true=>rw[if_pos rfl];exact h1 rfl
 | false=>rw[if_neg Xx];exact h2 rfl
theorem Z9g{o:OT}(h:δ[i]? =some (some o))(q:R o (δ.set i none)):EqS (Zeb i) δ N R:=.inr ⟨o,_,by rw[Zop,h,Z13],q⟩
theorem Zzd{np n:Nat}{t0:OT}{ds:List Xa}{Q:OT->OT->Prop}(hl:ds.length+1=np)(h:EqS S (Zha n t0 ds) (λ_=>False) λo δ'=>∃t',δ'[0]? =some (some t')∧Q o t'):∃r t',Zqi np n S t0 ds=some (r,t')∧Q r t':=by
 rw[Zrx hl]
 rcases h with⟨_,_,z⟩|⟨o,δ',e,t',e2,q⟩
 ·exact z.elim
 ·exact⟨o,t',by rw[e];show(match δ'[0]? with|some (some t)=>some (o,t)|_=>none)=_;rw[e2],q⟩
theorem Z1x{n:Nat}{t0 t1:OT}{Q:OT->OT->Prop}(h:EqS S (startJ n t0 t1) (λ_=>False) λo δ'=>∃t',δ'[0]? =some (some t')∧Q o t'):Zwg (Z7h n S) t0 t1 Q:=by
 unfold Zwg Z7h
 rcases h with⟨_,_,z⟩|⟨o,δ',e,t',e2,q⟩
 ·exact z.elim
 ·exact⟨o,t',by rw[e];show(match δ'[0]? with|some (some t)=>some (o,t)|_=>none)=_;rw[e2],q⟩
end
theorem Z6m{α:Type}{δ:Zg}{it:FI}{g:FG}{me:FE}(xs:List α)(mk f:α->Xa)(hi:EvI it δ (xs.map mk))(hz:xs.length≤1000000)(h:∀x∈xs,∀z0 z1,∃w0 w1,g (mk x) [z0,z1]=some [w0,w1]∧me [w0,w1]=some (.fz (f x),[w0,w1])):Y9 2 [] it g Zfg me δ=some (.nd (xs.map λx=>.fz (f x)),δ):=by
 have key:∀(l:List α) (z0 z1:Option OT),(∀x∈l,∀z0 z1,∃w0 w1,g (mk x) [z0,z1]=some [w0,w1]∧me [w0,w1]=some (.fz (f x),[w0,w1]))->∃δ',compLoop g Zfg me (l.map mk) [z0,z1]=some (l.map λx=>.fz (f x),δ'):=by
  intro l
  induction l with
  | nil=>intro z0 z1 _;exact⟨_,rfl⟩
  | cons x l ih=>
   intro z0 z1 h
   obtain⟨w0,w1,e1,e2⟩:=h x (.head _) z0 z1
   obtain⟨δ',e3⟩:=ih w0 w1 λy hy=>h y (.tail _ hy)
   refine⟨δ',?_⟩
   rw[Ql,compLoop,e1]
   have e4:Zfg [w0,w1]=some (true,[w0,w1]):=rfl
   simp only[Xf,e4,if_true,e2,e3,Ql]
 obtain⟨δ',e⟩:=key xs none none h
 unfold EvI at hi
 unfold Y9
 rw[hi]
 show(if(xs.map mk).length≤Xq then _ else none)=_
 rw[if_pos (by rw[Xg,Qj];omega)]
 show(compLoop _ _ _ _ [none,none]).bind _=_
 rw[e];rfl
noncomputable def ad2(R W:Nat->Nat->Int)(k:Nat)(i j:Nat):Int:=if i<k then R i j+W i j else R i j
theorem Yaz{n:Nat}(hn:n≤10)(R W:Nat->Nat->Int)(x kd:Int)(z4 z5 z7 z8 z9:Option OT){RR:Xa->Zg->Prop} :
  EpS (Jk (iRa (Zc (Zd 1) Zm)) (gNm 8)
  (Zrd 2 (Y9 2 [] (Zea (Zc (Z2 gIx (Ze0 2) (Zd 8)) (Zc (Z2 gIx (Ze0 6) (Zd 8)) Zm))) (gTp 2 (gCn (Zvu 0) (gCn (Zvu 1) gNl))) Zfg (Zh Zcc (Zd 0) (Zd 1))) (Zd 8))) (lE x n (Z7 n (inG R)) kd z4 z5 (some (Z7 n (inG W))) z7 z8 z9)
  (λδ=>∃z8,δ=lE x n (Z7 n (inG λi j=>R i j+W i j)) kd z4 z5 (some (Z7 n (inG W))) z7 z8 z9) RR:=by
 refine J8 (ds:=Zd4 0 n) (λk δ=>∃z8,δ=lE x n (Z7 n (inG (ad2 R W k))) kd z4 z5 (some (Z7 n (inG W))) z7 z8 z9) (Zbz (Zb Za Ze) (by omega)) ⟨z8,?_⟩ (λk d δ hd q=>?_) λδ' q=>?_
 ·rw[Zhg (R:=ad2 R W 0) (S:=R) λi j _ _=>if_neg (by omega)]
 ·obtain⟨z8,rfl⟩:=q
  obtain⟨hk,rfl⟩:=Wh hd
  rw[Qz]
  refine⟨_,rfl,Zei (Z0e (n:=k) (ts:=(Xj n).map λi=>.nd ((Xj n).map λj=>.fz (inG (ad2 R W k) i j))) (Z6m (g:=gTp 2 (gCn (Zvu 0) (gCn (Zvu 1) gNl))) (f:=λj=>.int (R k j+W k j)) (Xj n) (λj=>.tuple [.int (R k j),.int (W k j)]) (Zg8 (as:=(Xj n).map λj=>.int (R k j)) (bs:=(Xj n).map λj=>.int (W k j)) (Wb (Zk0 rfl (Za0 n (inG (ad2 R W k)))) (Za (d:=.int k)) ?_) (Wb (Zk0 rfl (Za0 n (inG W))) (Za (d:=.int k)) ?_) (Zkj _ _ _)) (by rw[XH];omega) λj _ z0 z1=>⟨some (.fz (.int (R k j))),some (.fz (.int (W k j))),rfl,Zsv (J1 Za Za)⟩) rfl Za ?_) ⟨some (.fz (.int k)),?_⟩⟩
  ·unfold Wl
   rw[Zif,Zg4 _ hk,Xf]
   refine congrArg (λz=>some (OT.fz (QH z))) (Xy λj _=>congrArg Xo (if_neg (by omega)))
  ·unfold Wl
   rw[Zif,Zg4 _ hk,Xf];rfl
  ·rw[Xg,XH];exact Zq9 hk
  ·rw[Zh1]
   refine congrArg (λo=>lE x n o kd z4 z5 (some (Z7 n (inG W))) z7 (some (.fz (.int k))) z9) ?_
   unfold Z7
   refine congrArg OT.nd (Xy λi _=>?_)
   by_cases c:i=k
   ·rw[if_pos c,c]
    exact congrArg OT.nd (Xy λj _=>congrArg (λz=>OT.fz (Xo z)) (if_pos (by omega)).symm)
   ·rw[if_neg c]
    refine congrArg OT.nd (Xy λj _=>congrArg (λz=>OT.fz (Xo z)) ?_)
    unfold ad2
    by_cases c2:i<k
    ·rw[if_pos c2,if_pos (by omega)]
    ·rw[if_neg c2,if_neg (by omega)]
 ·obtain⟨z8,rfl⟩:=q
  rw[Y0]
  exact⟨z8,by rw[Zhg (R:=ad2 R W n) (S:=λi j=>R i j+W i j) λi j hi _=>if_pos hi]⟩
theorem Zx1{M P:Int}(hM:M=100000000000000000001)(hP:P=100000000000000000000){v:Int}(h1:v≤(7:Nat)*M+P):v≤1000000000000000000000:=by rw[hM,hP]at h1;omega
structure Sm(R:Nat->Nat->Int)(B:Int):Prop where
 lo:∀i j,0≤R i j
 hi:∀i j,R i j≤B
theorem Z0q{n:Nat}(hn:n≤10)(x:Int):∃r t',Jr (dk x) [.int n]=some (r,t')∧∃R x',r=Z7 n (inG R)∧Sm R 1000000000000000000000∧t'=dk x':=by
 obtain⟨M,hM⟩:∃M:Int,M=100000000000000000001:=⟨_,rfl⟩
 obtain⟨P,hP⟩:∃P:Int,P=100000000000000000000:=⟨_,rfl⟩
 have P0:0≤P:=by rw[hP];decide +kernel
 refine Zzd rfl (Zb6 (Zgv (Zju (Zuo (Zb Za Ze) (Zk5 (n:=n) (by omega))) (Zb6 (Zgv (Zam (Ws rfl (Zb Zt Ze) (by decide) (btc (by decide +kernel) (by decide +kernel)) λkd x1 r0 r1=>Zb6 (Zgv ((Ybk hn hM x1 kd none none none none (RR:=λ_ _=>False)).mono (λδ q=>?_) λ_ _ z=>z.elim)))))))))
 obtain⟨x2,R,z4,z5,rfl,hR,bR⟩:=q
 refine Zb6 (Zgv (EpS.mono (N:=λδ=>∃x R z4 z5 z6 z7 z8 z9,δ=lE x n (Z7 n (inG R)) kd z4 z5 z6 z7 z8 z9∧Sm R 1000000000000000000000) (R:=λ_ _=>False) ?_ (λδ q=>?_) λ_ _ z=>z.elim))
 ·refine Zmd (Zd6 (Zci (Zq5 Za Zt rfl)) ⟨λ_=>?_,λ_=>Zi8 ⟨_,_,_,_,_,_,_,_,rfl,λi j=>hR.nn i j,λi j=>Zx1 hM hP (Qa (bR i j) (Int.le_add_of_nonneg_right P0))⟩⟩)
  refine long2 hn hP x2 _ kd z4 z5 none none none none λx S z7 z8 z9 hS bS=>?_
  refine Wa (Zo8 (Zbp rfl (Zbw ⟨_,rfl,(Zm0 (n:=n) (by omega) hS).mono λ_ t' z=>?_⟩)))
  subst z
  refine(Yaz hn R (fw S n) x kd z4 z5 z7 z8 z9 (RR:=λ_ _=>False)).mono (λδ q=>?_) λ_ _ z=>z.elim
  obtain⟨z8,rfl⟩:=q
  exact⟨x,_,_,_,_,_,_,_,rfl,λi j=>Int.add_nonneg (hR.nn i j) ((hS.fw n).nn i j),λi j=>Zx1 hM hP (Int.add_le_add (bR i j) (Z9f bS n i j))⟩
 ·obtain⟨x,R,z4,z5,z6,z7,z8,z9,rfl,hR⟩:=q
  exact Z9g rfl ⟨dk x,rfl,R,x,rfl,hR,rfl⟩
noncomputable def sE(x:Int)(n:Nat)(R:Nat->Nat->Int)(z3 z4 z5 z6:Option OT):Zg:=[some (dk x),some (Z7 n (inG R)),some (.fz (.int n)),z3,z4,z5,z6]
theorem Zw0{R:Nat->Nat->Int}{B v:Int}(h:Sm R B)(h0:0≤v)(h1:v≤B)(a b:Nat):Sm (upR R a b v) B:=by
 constructor<;>intro i j<;>unfold upR<;>split
 ·exact h0
 ·exact h.lo i j
 ·exact h1
 ·exact h.hi i j
noncomputable def oth(a b:Int)(i:Nat):Bool:=!decide ((i:Int)=a)&& !decide ((i:Int)=b)
theorem Z08:∀n:Fin 11,∀a b:Fin 10,n.val-2≤((Xj n.val).filter (oth (a.val:Nat) (b.val:Nat))).length:=by decide +kernel
theorem Z7i{n a b r:Nat}(hn:n≤10)(ha:a<n)(hb:b<n)(hr:r+2<n+0):∃v:Nat,v<n∧((Xj n).filter (oth a b))[r]? =some v:=by
 have h:n-2≤((Xj n).filter (oth a b)).length:=Z08 ⟨n,by omega⟩ ⟨a,by omega⟩ ⟨b,by omega⟩
 have hl:r<((Xj n).filter (oth a b)).length:=X3 (by omega) h
 refine⟨((Xj n).filter (oth a b))[r],?_,XJ hl⟩
 exact X5.mp (Bo.mp (Vf hl)).1
theorem Z5x{n a b:Nat}{δ:Zg}(hn:n≤10)(h2:δ[2]? =some (some (.fz (.int n))))(hb:blk 1 [3,4] δ=[none,some (.fz (.int a)),some (.fz (.int b))]):EvV (Y9 1 [3,4] (iRa (Zc (Zd 2) Zm)) (gNm 0) (tAn (tV (Zh gNe (Zd 0) (Zd 1))) (tV (Zh gNe (Zd 0) (Zd 2)))) (Zd 0)) δ (.list (((Xj n).filter (oth a b)).map λi:Nat=>Xo (0+(i:Int)))):=by
 refine Zji (cs:=[some (.fz (.int a)),some (.fz (.int b))]) (Xj n) (λi:Nat=>Xo (0+(i:Int))) (oth a b) (Zbz (Zb (Za h2) Ze) (by omega)) (by rw[XH];omega) hb (λi _=>?_) λi _ _=>rfl
 unfold oth
 by_cases c:((i:Nat):Int)=a
 ·rw[decide_eq_true c]
  exact Zz3 (Zci (Zmi Za Za (by rw[Qz,decide_eq_true c];rfl)))
 ·rw[decide_eq_false c]
  exact Z8t (Zci (Zmi Za Za (by rw[Qz,decide_eq_false c];rfl))) (Zci (Zmi Za Za (by rw[Qz];rfl)))
theorem Zvp{n a b:Nat}{x:Int}{R:Nat->Nat->Int}{z5 z6:Option OT}(ha:a<n)(hb:b<n):EvV (Zp9 (Z2 gIx (Z2 gIx (Ze0 1) (Zd 3)) (Zd 4))) (sE x n R (some (.fz (.int a))) (some (.fz (.int b))) z5 z6) (.int (R a b)):=by
 obtain⟨t,e1,e2⟩:=Zda (f:=inG R) (n:=n) (a:=a) (b:=b) (i0:=1) (i9:=3) (i10:=4) (δ:=sE x n R (some (.fz (.int a))) (some (.fz (.int b))) z5 z6) ha hb rfl rfl rfl
 exact⟨_,by rw[Zo1,e1,Xf,e2];exact if_pos rfl,OT.data_fz _⟩
theorem Zti{n:Nat}(h3:3≤n)(hn:n≤10)(x:Int){R:Nat->Nat->Int}(hR:Sm R 1000000000000000000000):Zwg J7 (dk x) (Z7 n (inG R)) λr t'=>∃R' x',r=Z7 n (inG R')∧Sm R' 3000000000000000000000∧t'=dk x':=by
 have hR3:Sm R 3000000000000000000000:=⟨hR.lo,λi j=>Qa (hR.hi i j) (by decide +kernel)⟩
 have bn:∀m:Int,0<m->m≤10->Bt 400 m:=λm m0 m1=>Bt.mono (m:=11) (Bt.of_lt (by omega) (by omega)) (by decide)
 refine Z1x (Zb6 (Zgv (Zam (Z8 (Zj7 (n:=n) (i0:=1) rfl) ?_))))
 show EqS _ (sE x n R none none none none) _ _
 refine Zb6 (eq_if (Z12 (Zbe (Ws rfl (Zb Zt Ze) (by decide) (btc (by decide +kernel) (by decide +kernel)) λr x1 r0 r1=>Z8 Zt ⟨_,Zuv _ _,_,rfl,λ_=>?_,λ_=>.inl ⟨_,rfl,?_⟩⟩))))
 ·refine Zb6 (Zgv (J8 (ds:=Zd4 0 n) (λ_ δ=>∃x R z3 z4,δ=sE x n R z3 z4 none none∧Sm R 3000000000000000000000) (Zbz (Zb Za Ze) (by omega)) ⟨_,_,_,_,rfl,hR3⟩ (λa d δ hd q=>?_) λδ' q=>?_))
  ·obtain⟨x,S,z3,z4,rfl,hS⟩:=q
   obtain⟨ha,rfl⟩:=Wh hd
   rw[Qz]
   refine⟨_,rfl,J8 (ds:=Zd4 0 a) (λ_ δ=>∃x R z4,δ=sE x n R (some (.fz (.int a))) z4 none none∧Sm R 3000000000000000000000) (Zbz (Zb Za Ze) (by omega)) ⟨_,_,_,rfl,hS⟩ (λb d δ hd q=>?_) λδ' q=>?_⟩
   ·obtain⟨x,S,z4,rfl,hS⟩:=q
    obtain⟨hb,rfl⟩:=Wh hd
    rw[Qz]
    refine⟨_,rfl,Wa (Zcn (Zbp rfl (Zae (Zhh (Z8 (Zaw (Zb Zt (Zb Zt Ze)) (show 2≤1000 by decide)) (Ws rfl (Zb Zt Ze) (by decide) (btc (by decide +kernel) (by decide +kernel)) λr x3 r0 r1=>?_))))))⟩
    obtain⟨y,ey,y0,y1⟩:=Ztp (a:=3) (b:=8) (lo:=3) (hi:=8) (by decide) (by decide) r0 r1
    refine⟨_,ey,Zbw ⟨dk x3,rfl,?_⟩⟩
    rw[OT.data_fz]
    refine(Zh8 x3 (m:=y) (by omega) (bn y (by omega) (by omega))).mono λd t' z=>?_
    obtain⟨q,x',rfl,q0,q1,rfl⟩:=z
    have hb':b<n:=by omega
    refine⟨q,S,n,a,b,rfl,rfl,Za,ha,Za,hb',?_⟩
    have h1:Sm (upR S a b q) 3000000000000000000000:=Zw0 hS q0 (Qa (show q≤8 by omega) (by decide +kernel)) a b
    have e:upR S a b q a b=q:=if_pos ⟨rfl,rfl⟩
    refine Zcn (Z8 (d:=.int q) ((Zvp (n:=n) (x:=x') (R:=upR S a b q) (z5:=none) (z6:=none) ha hb').cast (congrArg Xo e)) ⟨q,upR S a b q,n,b,a,rfl,rfl,Za,hb',Za,ha,x',_,_,rfl,Zw0 h1 q0 (Qa (show q≤8 by omega) (by decide +kernel)) b a⟩)
   ·obtain⟨x,S,z4,rfl,hS⟩:=q
    exact⟨_,_,_,_,rfl,hS⟩
  ·obtain⟨x,S,z3,z4,rfl,hS⟩:=q
   exact Z9g rfl ⟨dk x,rfl,S,x,rfl,hS,rfl⟩
 ·refine Zb6 (Zgv (Zam (Ws rfl (Zb Za Ze) (by omega) (bn n (by omega) (by omega)) λa x2 a0 a1=>?_)))
  obtain⟨a,rfl⟩:=UG a0
  have ha:a<n:=Int.ofNat_lt.mp a1
  refine Zb6 (Zgv (Zam (Zbe (Zbe (Z8 (J1 Za Zt) (Ws rfl (Zb (Zi9 Za Zt) Ze) (by omega) (bn _ (by omega) (by omega)) λt x3 t0 t1=>⟨_,Zmc _ _,Z8 Za ⟨_,Zx3 (by omega),?_⟩⟩))))))
  have b0:0≤((a:Int)+1+t).fmod n:=Int.fmod_nonneg_of_pos _ (by omega)
  have b1:((a:Int)+1+t).fmod n<n:=Int.fmod_lt_of_pos _ (by omega)
  generalize((a:Int)+1+t).fmod n=b at b0 b1
  obtain⟨b,rfl⟩:=UG b0
  have hb:b<n:=Int.ofNat_lt.mp b1
  show EqS _ (sE x3 n R (some (.fz (.int (a:Nat)))) (some (.fz (.int (b:Nat)))) none none) _ _
  refine Zb6 (Zgv (Zam (Zhh (Z8 (Z5x (n:=n) (a:=a) (b:=b) hn rfl rfl) (Ws rfl (Zb (Zi9 Za Zt) Ze) (by omega) (bn _ (by omega) (by omega)) λr x4 r0 r1=>?_)))))
  obtain⟨r,rfl⟩:=UG r0
  obtain⟨c,hc,ec⟩:=Z7i (r:=r) hn ha hb (by omega)
  refine⟨.fz (.int c),by rw[Zif,Zic,Xm,ec,Option.map_some,Qz];rfl,?_⟩
  rw[OT.data_fz]
  show EqS _ (sE x4 n R (some (.fz (.int (a:Nat)))) (some (.fz (.int (b:Nat)))) (some (.fz (.int (c:Nat)))) none) _ _
  refine Zb6 (Zgv (Zam (Zbe (Z8 (J1 (Zda (f:=inG R) (n:=n) (a:=a) (b:=c) (i0:=1) (i9:=3) (i10:=5) ha hc rfl rfl rfl) (Zda (f:=inG R) (n:=n) (a:=c) (b:=b) (i0:=1) (i9:=5) (i10:=4) hc hb rfl rfl rfl)) (Zbp rfl (Zae (Zhh (Z8 (Zaw (Zb Zt (Zb (Zn Zt Zt Ybg) Ze)) (show 2≤1000 by decide)) (Ws rfl (Zb Zt Ze) (by decide) (btc (by decide +kernel) (by decide +kernel)) λr x5 r0 r1=>?_)))))))))
  obtain⟨y,ey,y0,y1⟩:=Ztp (a:=2) (b:=100000000000000000000) (lo:=1) (hi:=100000000000000000000) (by decide +kernel) (by decide +kernel) r0 r1
  refine⟨_,ey,Zbw ⟨dk x5,rfl,?_⟩⟩
  rw[OT.data_fz]
  refine(Zh8 x5 (m:=y) (Vp (by decide) y0) (Zpv (m:=130) (Qa (by decide) y0) (Qa y1 (by decide +kernel)) (by decide))).mono λd t' z=>?_
  obtain⟨q,x',rfl,q0,q1,rfl⟩:=z
  refine⟨_,Zmc _ _,?_⟩
  have v0:0≤R a c+R c b+q:=Int.add_nonneg (Int.add_nonneg (hR.lo a c) (hR.lo c b)) q0
  have v1:R a c+R c b+q≤3000000000000000000000:=by
   have:=hR.hi a c
   have:=hR.hi c b
   omega
  generalize R a c+R c b+q=v at v0 v1
  show EqS _ (sE x' n R (some (.fz (.int (a:Nat)))) (some (.fz (.int (b:Nat)))) (some (.fz (.int (c:Nat)))) (some (.fz (.int v)))) _ _
  refine Zb6 (Zgv (Zcn (Z8 Za ⟨v,R,n,a,b,rfl,rfl,Za,ha,Za,hb,?_⟩)))
  refine Zb6 (Zgv (Zcn (Z8 Za ⟨v,upR R a b v,n,b,a,rfl,rfl,Za,hb,Za,ha,?_⟩)))
  exact Z9g rfl ⟨dk x',rfl,_,x',rfl,Zw0 (Zw0 hR3 v0 v1 a b) v0 v1 b a,rfl⟩
noncomputable def Zh4{α:Type}(I:Zg->Prop)(u:FS)(δ1:Zg)(r:Option Xa):Prop:=match r with
 | none=>∃δ2,u δ1= .nx δ2∧I δ2
 | some v=>∃o δ2,u δ1= .rt o δ2∧o.data=v
theorem Zvd{α:Type}{I:Zg->Prop}{g:FG}{u:FS}(mk:α->Xa)(f:α->Option Xa):∀(xs:List α) (δ:Zg),I δ->(∀x∈xs,∀δ,I δ->∃δ1,g (mk x) δ=some δ1∧Zh4 (α:=α) I u δ1 (f x))->Zh4 (α:=α) I (forLoop g u (xs.map mk)) δ (xs.findSome? f):=by
 intro xs
 induction xs with
 | nil=>exact λδ h _=>⟨δ,rfl,h⟩
 | cons x xs ih=>
  intro δ h t
  obtain⟨δ1,e1,r⟩:=t x (.head _) δ h
  rw[List.findSome?_cons]
  cases q:f x with
  | none=>
   rw[q]at r
   obtain⟨δ2,e2,h2⟩:=r
   have e:forLoop g u ((x :: xs).map mk) δ=forLoop g u (xs.map mk) δ2:=by
    rw[Ql,forLoop,e1]
    dsimp only
    rw[e2]
   unfold Zh4
   rw[e]
   exact ih δ2 h2 λy hy=>t y (.tail _ hy)
  | some v=>
   rw[q]at r
   obtain⟨o,δ2,e2,d⟩:=r
   refine⟨o,δ2,?_,d⟩
   rw[Ql,forLoop,e1]
   dsimp only
   rw[e2]
theorem Zny{α β:Type}{I J:Zg->Prop}{it:FI}{g:FG}{u:FS}{δ:Zg}(mk:α->Xa)(f:α->Option Xa)(xs:List α)(hi:EvI it δ (xs.map mk))(h0:J δ)(hJ:∀δ,J δ->I δ)(t:∀x∈xs,∀δ,J δ->∃δ1,g (mk x) δ=some δ1∧Zh4 (α:=α) J u δ1 (f x)):Zh4 (α:=β) I (Jk it g u) δ (xs.findSome? f):=by
 have h:=Zvd (I:=J) (g:=g) (u:=u) mk f xs δ h0 t
 cases q:xs.findSome? f with
 | none=>
  rw[q]at h
  obtain⟨δ2,e,h2⟩:=h
  exact⟨δ2,Zgm hi e,hJ δ2 h2⟩
 | some v=>
  rw[q]at h
  obtain⟨o,δ2,e,d⟩:=h
  exact⟨o,δ2,Zgm hi e,d⟩
theorem Zss{α:Type}{I:Zg->Prop}{t:FT}{S S':FS}{δ:Zg}{r:Option Xa}(h:EvT t δ true)(k:Zh4 (α:=α) I S δ r):Zh4 (α:=α) I (Zax t S S') δ r:=by
 cases r with
 | none=>
  obtain⟨δ2,e,h2⟩:=k
  exact⟨δ2,Za2 h e,h2⟩
 | some v=>
  obtain⟨o,δ2,e,d⟩:=k
  exact⟨o,δ2,Za2 h e,d⟩
theorem Zqw{α:Type}{I:Zg->Prop}{t:FT}{S:FS}{δ:Zg}(h:EvT t δ false)(k:I δ):Zh4 (α:=α) I (Zax t S fNx) δ none:=⟨δ,W7 h rfl,k⟩
theorem Zpe{α:Type}{I:Zg->Prop}{e:FE}{δ:Zg}{v:Xa}(h:EvV e δ v):Zh4 (α:=α) I (wE e J0) δ (some v):=by
 obtain⟨o,h1,h2⟩:=Zx9 h
 exact⟨o,δ,h1,h2⟩
theorem Zua{α:Type}{I:Zg->Prop}{S S':FS}{δ:Zg}{r:Option Xa}{v0:Xa}(h:Zh4 (α:=α) I S δ r)(k:∀δ,I δ->Zkw S' δ v0):Zkw (Zz S S') δ (r.getD v0):=by
 cases r with
 | none=>
  obtain⟨δ2,e,h2⟩:=h
  exact Ye e (k δ2 h2)
 | some v=>
  obtain⟨o,δ2,e,d⟩:=h
  exact Zkc ⟨o,δ2,e,d⟩
noncomputable def frG(T:Nat->Nat->Rat):Nat->Nat->Xa:=λi j=>frD (T i j)
theorem Z03{q r:Rat}(bq:Bt 400 q.num)(dq:Bt 400 (q.den:Int))(br:Bt 400 r.num)(dr:Bt 400 (r.den:Int)):Told Zet [frD q,frD r] (frD (q+r)):=by
 rw[←Zn8]
 exact Z4 rfl<|Wy<|Zq (Zb (J1 (Zn (Wb (d:=.int q.num) Za Zt rfl) (Wb (d:=.int (r.den:Int)) Za Zt rfl) (Ju (Wm bq dr))) (Zn (Wb (d:=.int r.num) Za Zt rfl) (Wb (d:=.int (q.den:Int)) Za Zt rfl) (Ju (Wm br dq)))) (Zb (Zn (Wb (d:=.int (q.den:Int)) Za Zt rfl) (Wb (d:=.int (r.den:Int)) Za Zt rfl) (Ju (Wm dq dr))) Ze)) (Zek (Int.ne_of_gt (Int.mul_pos (Zah q) (Zah r))) (dq.mul dr))
theorem Zwx{q r:Rat}{m n:Nat}(bq:Bt m q.num)(dq:Bt m (q.den:Int))(br:Bt n r.num)(dr:Bt n (r.den:Int))(hmn:m+n≤100000000:=by decide):Told Zbb [frD q,frD r] (.bool (decide (q<r))) :=
 Z4 rfl<|Wy<|Z0v (Zn (Wb (d:=.int q.num) Za Zt rfl) (Wb (d:=.int (r.den:Int)) Za Zt rfl) (Ju (Wm bq dr hmn))) (Zn (Wb (d:=.int r.num) Za Zt rfl) (Wb (d:=.int (q.den:Int)) Za Zt rfl) (Ju (Wm br dq (by omega)))) (decide_eq_decide.mpr (Zqz q r))
structure Tq(T:Nat->Nat->Rat):Prop where
 num:∀i j,Bt 400 (T i j).num
 den:∀i j,Bt 400 ((T i j).den:Int)
theorem Zqf{n a b i0 i9 i10:Nat}{f:Nat->Nat->Xa}{δ:Zg}(ha:a<n)(hb:b<n)(h6:δ[i0]? =some (some (.fz (Wl n f))))(h9:δ[i9]? =some (some (.fz (.int a))))(h10:δ[i10]? =some (some (.fz (.int b)))):EvV (Z2 gIx (Z2 gIx (Zd i0) (Zd i9)) (Zd i10)) δ (f a b):=by
 refine Wb (Wb (Za h6) (Za h9) (d:=.list ((Xj n).map λj=>f a j)) ?_) (Za h10) ?_
 ·unfold Wl
  rw[Zif,Zic,Xm,QB ha];rfl
 ·rw[Zif,Zic,Xm,QB hb];rfl
theorem Zv5{n:Nat}{T:Nat->Nat->Rat}(h:Tq T){i j k:Nat}(hi:i<n)(hj:j<n)(hk:k<n):Told Jz [Wl n (frG T),.int i,.int j,.int k] (.bool (decide (T i j+T j k<T i k))):=by
 have e:T i j+T j k=Xu ((T i j).num*((T j k).den:Int)+(T j k).num*((T i j).den:Int)) (((T i j).den:Int)*((T j k).den:Int)):=(Zn8 _ _).symm
 have dp:((T i j).den:Int)*((T j k).den:Int)≠0:=Int.ne_of_gt (Int.mul_pos (Zah _) (Zah _))
 have bn:Bt 2000 (T i j+T j k).num:=by
  rw[e]
  exact Zi5 dp ((((h.num i j).mul (h.den j k)).add ((h.num j k).mul (h.den i j))).mono (by decide))
 have bd:Bt 2000 ((T i j+T j k).den:Int):=by
  rw[e]
  exact Zqu dp (((h.den i j).mul (h.den j k)).mono (by decide))
 exact Z4 rfl<|Wy<|Zq (Zb (Zq (Zb (Zqf (i0:=0) (i9:=1) (i10:=2) hi hj rfl rfl rfl) (Zb (Zqf (i0:=0) (i9:=2) (i10:=3) hj hk rfl rfl rfl) Ze)) (Z03 (h.num i j) (h.den i j) (h.num j k) (h.den j k))) (Zb (Zqf (i0:=0) (i9:=1) (i10:=3) hi hk rfl rfl rfl) Ze)) (Zwx bn bd (h.num i k) (h.den i k))
noncomputable def mkI(i:Nat):Xa:=.int (i:Int)
theorem Ya3{n:Nat}{as:FA}{δ:Zg}(h:EvA as δ [.int n])(hn:n≤10):EvI (iRa as) δ ((Xj n).map mkI):=by
 have e:Zd4 0 n=(Xj n).map mkI:=by
  unfold Zd4
  exact Xy λi _=>congrArg Xo (Qz _)
 exact e▸Zbz h (by omega)
noncomputable def sc3(n:Nat)(c:Nat->Nat->Nat->Bool)(v:Nat->Nat->Nat->Xa):Option Xa:=(Xj n).findSome? λi=>(Xj n).findSome? λj=>(Xj n).findSome? λk=>if c i j k=true then some (v i j k)else none
theorem Zg2{n:Nat}{c:Nat->Nat->Nat->Bool}{v:Nat->Nat->Nat->Xa}:(∀i j k,i<n->j<n->k<n->c i j k=false)∧sc3 n c v=none∨(∃i j k,i<n∧j<n∧k<n∧c i j k=true)∧∃i j k,sc3 n c v=some (v i j k):=by
 cases q:sc3 n c v with
 | none=>
  refine .inl ⟨λi j k hi hj hk=>?_,rfl⟩
  unfold sc3 at q
  have:=Ua.mp q i (X5.mpr hi)
  have:=Ua.mp this j (X5.mpr hj)
  have:=Ua.mp this k (X5.mpr hk)
  cases e:c i j k with
  | false=>rfl
  | true=>rw[if_pos e]at this;cases this
 | some d=>
  unfold sc3 at q
  obtain⟨i,hi,q⟩:=Vu q
  obtain⟨j,hj,q⟩:=Vu q
  obtain⟨k,hk,q⟩:=Vu q
  by_cases e:c i j k=true
  ·rw[if_pos e]at q
   cases q
   exact .inr ⟨⟨i,j,k,X5.mp hi,X5.mp hj,X5.mp hk,e⟩,i,j,k,rfl⟩
  ·rw[if_neg e]at q;cases q
theorem Zyf{n:Nat}(hn:n≤10){t:FT}{S S':FS}{d0 v0:Xa}(c:Nat->Nat->Nat->Bool)(v:Nat->Nat->Nat->Xa)(ht:∀i j k,i<n->j<n->k<n->EvT t [some (.fz d0),some (.fz (.int n)),some (.fz (mkI i)),some (.fz (mkI j)),some (.fz (mkI k))] (c i j k))(hS:∀i j k,Zh4 (α:=Nat) (λ_=>False) S [some (.fz d0),some (.fz (.int n)),some (.fz (mkI i)),some (.fz (mkI j)),some (.fz (mkI k))] (some (v i j k)))
  (hS':∀z2 z3 z4,Zkw S' [some (.fz d0),some (.fz (.int n)),z2,z3,z4] v0):Zkw (Zz (Jk (iRa (Zc (Zd 1) Zm)) (gNm 2) (Jk (iRa (Zc (Zd 1) Zm)) (gNm 3) (Jk (iRa (Zc (Zd 1) Zm)) (gNm 4) (Zax t S fNx)))) S') [some (.fz d0),some (.fz (.int n)),none,none,none] ((sc3 n c v).getD v0):=by
 refine Zua (α:=Nat) (I:=λδ=>∃z2 z3 z4,δ=[some (.fz d0),some (.fz (.int n)),z2,z3,z4]) ?_ λδ q=>?_
 ·refine Zny (α:=Nat) (J:=λδ=>∃z2 z3 z4,δ=[some (.fz d0),some (.fz (.int n)),z2,z3,z4]) mkI _ (Xj n) (Ya3 (Zb Za Ze) hn) ⟨none,none,none,rfl⟩ (λ_ h=>h) λi hi δ q=>?_
  obtain⟨z2,z3,z4,rfl⟩:=q
  refine⟨_,rfl,Zny (α:=Nat) (J:=λδ=>∃z3 z4,δ=[some (.fz d0),some (.fz (.int n)),some (.fz (mkI i)),z3,z4]) mkI _ (Xj n) (Ya3 (Zb Za Ze) hn) ⟨z3,z4,rfl⟩ (λδ h=>by obtain⟨z3,z4,e⟩:=h;exact⟨_,z3,z4,e⟩) λj hj δ q=>?_⟩
  obtain⟨z3,z4,rfl⟩:=q
  refine⟨_,rfl,Zny (α:=Nat) (J:=λδ=>∃z4,δ=[some (.fz d0),some (.fz (.int n)),some (.fz (mkI i)),some (.fz (mkI j)),z4]) mkI _ (Xj n) (Ya3 (Zb Za Ze) hn) ⟨z4,rfl⟩ (λδ h=>by obtain⟨z4,e⟩:=h;exact⟨_,z4,e⟩) λk hk δ q=>?_⟩
  obtain⟨z4,rfl⟩:=q
  refine⟨_,rfl,?_⟩
  have:=ht i j k (X5.mp hi) (X5.mp hj) (X5.mp hk)
  cases e:c i j k with
  | true=>
   rw[e]at this
   rw[if_pos rfl]
   exact Zss this (hS i j k)
  | false=>
   rw[e]at this
   rw[if_neg Xx]
   exact Zqw this ⟨_,rfl⟩
 ·obtain⟨z2,z3,z4,rfl⟩:=q
  exact hS' z2 z3 z4
theorem Zyh{n:Nat}{f:Nat->Nat->Xa}{δ:Zg}(h:δ[0]? =some (some (.fz (Wl n f)))):EvV (Zce Zgx (Zc (Zd 0) Zm)) δ (.int n):=by
 have:=Zug (δ:=δ) (e:=Zd 0) (ds:=(Xj n).map λi=>.list ((Xj n).map λj=>f i j)) (Za h)
 rwa[Xg,XH]at this
noncomputable def shR(T:Nat->Nat->Rat)(i j k:Nat):Bool:=decide (T i j+T j k<T i k)
noncomputable def tpI(i j k:Nat):Xa:=.tuple [.int i,.int j,.int k]
theorem Zej{n:Nat}(hn:n≤10){T:Nat->Nat->Rat}(h:Tq T):Told Jv [Wl n (frG T)] ((sc3 n (shR T) tpI).getD .none) :=
 Z4 rfl<|Ye (Zy (Zyh rfl))<|Zyf hn (shR T) tpI (λi j k hi hj hk=>Zvq (Zq (Zb Za (Zb Za (Zb Za (Zb Za Ze)))) (Zv5 h hi hj hk))) (λi j k=>Zpe (Zgk (Zb Za (Zb Za (Zb Za Ze))) (show 3≤1000 by decide))) λ_ _ _=>Wy Zt
theorem Zl7{n:Nat}(hn:n≤10){T:Nat->Nat->Rat}(h:Tq T)(q:sc3 n (shR T) tpI=none):Told Z6 [Wl n (frG T)] .none:=by
 have e:=Zej hn h
 rw[q]at e
 exact Zre rfl (W7 (Zci (Zn (Zq (Zb Za Ze) e) Zt rfl)) rfl)
theorem Zon{np n:Nat}{S:FS}{ds:List Xa}{c:Str}{δ':Zg}(hl:ds.length=np)(h:S (Zgp n ds)= .ex c δ'):Zaf np n S ds= .exn c:=by rw[Zer hl,h];rfl
theorem Zma{n:Nat}(hn:n≤10){T:Nat->Nat->Rat}(h:Tq T){i j k:Nat}(q:sc3 n (shR T) tpI=some (tpI i j k)):Z6 [Wl n (frG T)]= .exn "NoTable" :=by
 have e:=Zej hn h
 rw[q]at e
 have e2:W2 (Zgp 1 [Wl n (frG T)])= .ex "NoTable" _:=Za2 (Zci (Zn (Zq (Zb Za Ze) e) Zt rfl)) rfl
 exact Zon rfl e2
noncomputable def shI(R:Nat->Nat->Int)(i j k:Nat):Bool:=decide (R i j+R j k<R i k)
theorem Zqb{n:Nat}(hn:n≤10)(R:Nat->Nat->Int):Told Wn [Wl n (inG R)] ((sc3 n (shI R) λ_ _ _=>.bool false).getD (.bool true)) :=
 Z4 rfl<|Ye (Zy (Zyh rfl))<|Zyf hn (shI R) (λ_ _ _=>.bool false) (λi j k hi hj hk=>Zci (Zq5 (Zqf (f:=inG R) (i0:=0) (i9:=2) (i10:=4) hi hk rfl rfl rfl) (J1 (Zqf (f:=inG R) (i0:=0) (i9:=2) (i10:=3) hi hj rfl rfl rfl) (Zqf (f:=inG R) (i0:=0) (i9:=3) (i10:=4) hj hk rfl rfl rfl)) rfl)) (λi j k=>Zpe Zt) λ_ _ _=>Wy Zt
theorem Zi3{n x y i j:Nat}{S:Nat->Nat->Int}{δ:Zg}(hx:x<n)(hy:y<n)(h0:δ[0]? =some (some (.fz (Zd2 n S))))(h1:δ[i]? =some (some (.fz (.int x))))(h2:δ[j]? =some (some (.fz (.int y)))):EvV (Z2 gIx (Z2 gIx (Zd 0) (Zd i)) (Zd j)) δ (.int (S x y)):=Wb (Wb (Za h0) (Za h1) (Zv6 hx)) (Za h2) (Zz6 hy)
theorem Z1h{it:FI}{g:FG}{S S':FS}{δ:Zg}{ds:List Xa}{Q:Xa->Prop}(I:Nat->Zg->Prop)(hi:EvI it δ ds)(h0:I 0 δ)(turn:∀(i:Nat) (d:Xa) (δ:Zg),ds[i]? =some d->I i δ->(∃δ1 δ2,g d δ=some δ1∧S δ1= .nx δ2∧I (i+1) δ2)∨∃δ1,g d δ=some δ1∧Zp3 S δ1 Q)(fin:∀δ',I ds.length δ'->Zp3 S' δ' Q):Zp3 (Zz (Jk it g S) S') δ Q:=by
 have key:(∃δ',forLoop g S ds δ= .nx δ'∧I ds.length δ')∨∃o δ',forLoop g S ds δ= .rt o δ'∧Q o.data:=by
  clear fin hi
  induction ds generalizing δ I with
  | nil=>exact .inl ⟨δ,rfl,h0⟩
  | cons d ds ih=>
   rcases turn 0 d δ rfl h0 with⟨δ1,δ2,e1,e2,h1⟩|⟨δ1,e1,d',⟨o,δ2,e2,hd⟩,hq⟩
   ·rcases ih (δ:=δ2) (λi δ=>I (i+1) δ) h1 λi d' δ hd hi=>turn (i+1) d' δ (by simpa using hd) hi with⟨δ',e3,h3⟩|⟨o,δ',e3,h3⟩
    ·refine .inl ⟨δ',?_,h3⟩
     rw[Ji,e1]
     dsimp only
     rw[e2]
     exact e3
    ·refine .inr ⟨o,δ',?_,h3⟩
     rw[Ji,e1]
     dsimp only
     rw[e2]
     exact e3
   ·refine .inr ⟨o,δ2,?_,by rw[hd];exact hq⟩
    rw[Ji,e1]
    dsimp only
    rw[e2]
 rcases key with⟨δ',e,h⟩|⟨o,δ',e,h⟩
 ·exact Zef (Zgm hi e) (fin δ' h)
 ·exact Zwn ⟨_,⟨o,δ',Zgm hi e,rfl⟩,h⟩
noncomputable def Zuz(p:List Int)(lo hi:Option Int):List Int:=(p.drop (HT.sIx p.length 0 lo)).take (HT.sIx p.length p.length hi-HT.sIx p.length 0 lo)
theorem Zvw(p:List Int)(lo hi:Option Int):cutD (p.map Xo) lo hi=(Zuz p lo hi).map Xo:=by
 unfold cutD Zuz
 rw[Xg,List.map_take,List.map_drop]
theorem Ztm{p:List Int}{k:Nat}(h:k≤p.length):Zuz p (some (k:Int)) none=p.drop k:=by
 unfold Zuz
 rw[HT.sIx_none,HT.sIx_nat,Nat.min_eq_left h,List.take_of_length_le (by rw[JT];omega)]
theorem Z3o{e:FE}{δ:Zg}{r p:List Int}{lo hi:FO}{l h:Option Int}(he:EvV e δ (Yg r))(hl:EvO lo δ l)(hh:EvO hi δ h)(hp:Zuz r l h=p):EvV (fSl e lo hi) δ (Yg p):=hp▸(Z9l (ds:=r.map Xo) he hl hh).cast (by rw[Zvw];rfl)
theorem getD_mem{p:List Int}{i:Nat}(h:i<p.length):p.getD i 0∈p:=by
 rw[Xr,XJ h];exact Vf h
noncomputable def rl(S:Nat->Nat->Int)(i j k l:Nat):Int:=max (max (S i j+S k l) (S i k+S j l)) (S i l+S j k)-(S i j+S k l)
theorem Zjo{n i j k l:Nat}{S:Nat->Nat->Int}(hi:i<n)(hj:j<n)(hk:k<n)(hl:l<n):Told Yl [Zd2 n S,.int i,.int j,.int k,.int l] (.tuple [.int (S i j+S k l),.int (S i k+S j l),.int (S i l+S j k)]) :=
 Z4 rfl<|Wy<|Zgk (Zb (J1 (Zi3 hi hj rfl rfl rfl) (Zi3 hk hl rfl rfl rfl)) (Zb (J1 (Zi3 hi hk rfl rfl rfl) (Zi3 hj hl rfl rfl rfl)) (Zb (J1 (Zi3 hi hl rfl rfl rfl) (Zi3 hj hk rfl rfl rfl)) Ze))) (show 3≤1000 by decide)
theorem Zjh(a b c:Int):Told Ym [.tuple [.int a,.int b,.int c]] (.int (max (max a b) c-a)) :=
 Z4 rfl<|Wy<|Zi9 (Zaj (Zb Za Ze) (show Zw1 [.tuple [.int a,.int b,.int c]]=some (.int (max (max a b) c))from rfl)) (Wb (d:=.int a) Za Zt rfl)
theorem Z4f{a b:FE}{δ:Zg}{i j:Int}(ha:EvV a δ (.int i))(hb:EvV b δ (.int j)):EvV (Zce Zwo (Zc a (Zc b Zm))) δ (.int (min i j)):=Zaj (Zb ha (Zb hb Ze)) (My.Zst i j)
noncomputable def Zmj(p:List Int)(i:Nat):List (Int×Int):=(Xj i).flatMap λk=>(p.drop k).map λy=>(p.getD k 0,y)
noncomputable def dbl(p:List Int):List (Int×Int):=Zmj p p.length
theorem Zix(p:List Int)(i:Nat):Zmj p (i+1)=Zmj p i ++ (p.drop i).map λy=>(p.getD i 0,y):=by
 unfold Zmj;rw[U3,List.flatMap_append,List.flatMap_cons,List.flatMap_nil,QL]
theorem Zt4(p:List Int)(i:Nat):(Zmj p i).length≤i*p.length:=by
 induction i with
 | zero=>exact Bh _
 | succ i ih=>
  rw[Zix,Qx,Xg,JT,Nat.succ_mul]
  omega
theorem Zm7{p:List Int}{x:Int×Int}:x∈dbl p↔∃k j,k≤j∧j<p.length∧x=(p.getD k 0,p.getD j 0):=by
 unfold dbl Zmj
 rw[Ux]
 constructor
 ·rintro⟨k,hk,h⟩
  obtain⟨y,hy,rfl⟩:=XQ.mp h
  obtain⟨j,hj,rfl⟩:=List.getElem_of_mem hy
  rw[JT]at hj
  refine⟨k,k+j,by omega,by omega,?_⟩
  rw[List.getElem_drop,Xr (i:=k+j),XJ (by omega)];rfl
 ·rintro⟨k,j,h1,h2,rfl⟩
  refine⟨k,X5.mpr (by omega),XQ.mpr ⟨_,?_,rfl⟩⟩
  have:p.getD j 0=(p.drop k).getD (j-k) 0:=by
   rw[Xr,Xr,List.getElem?_drop,show k+(j-k)=j by omega]
  rw[this]
  exact getD_mem (by rw[JT];omega)
theorem Zi6{p:List Int}{x:Int×Int}(h:x∈dbl p):x.1∈p∧x.2∈p:=by
 obtain⟨k,j,h1,h2,rfl⟩:=Zm7.mp h
 exact⟨getD_mem (by omega),getD_mem h2⟩
theorem Zsy{p:List Int}{i:Nat}{d:Xa}(h:(p.map Xo)[i]? =some d):i<p.length∧d= .int (p.getD i 0):=by
 rw[Xm]at h
 cases e:p[i]? with
 | none=>rw[e]at h;cases h
 | some x=>
  rw[e]at h
  cases h
  exact⟨(Xk.mp e).1,by rw[Xr,e];rfl⟩
theorem Ze1(p:List Int)(hl:p.length≤100):Told W0 [Yg p] (.list ((dbl p).map prD)):=by
 refine Z4 rfl<|Ye Zlj<|Zs7 (ds:=Zj2 (p.map Xo)) (λi δ=>∃z1 z2 z3,δ=[some (.fz (Yg p)),some (.nd (((Zmj p i).map prD).map OT.fz)),z1,z2,z3]) (Zzz Za) ⟨_,_,_,rfl⟩ (λi d δ hd q=>?_) λδ' q=>?_
 ·obtain⟨z1,z2,z3,rfl⟩:=q
  obtain⟨x,hx,rfl⟩:=Zl2 hd
  obtain⟨hi,rfl⟩:=Zsy hx
  have ln:=Zt4 p i
  have l2:i*p.length≤100*100:=Nat.mul_le_mul (by omega) hl
  refine Zoi (ds:=(p.drop i).map Xo) (λj δ=>∃z,δ=[some (.fz (Yg p)),some (.nd (((Zmj p i ++ ((p.drop i).take j).map λy=>(p.getD i 0,y)).map prD).map OT.fz)),some (.fz (.int i)),some (.fz (.int (p.getD i 0))),z]) rfl (Zat (Z3o Za (Yb3 Za) Yb4 (Ztm (by omega)))) ⟨z3,by rw[List.take_zero,List.map_nil,QL];rfl⟩ (λj d δ hd q=>?_) λδ' q=>?_
  ·obtain⟨z,rfl⟩:=q
   obtain⟨hj,rfl⟩:=Zsy hd
   refine⟨_,_,rfl,.inl (Zmo (Zgk (Zb Za (Zb Za Ze)) (show 2≤1000 by decide)) rfl (by rw[Xg,Xg,Qx,Xg,Uy,JT];omega)),some (.fz (.int ((p.drop i).getD j 0))),?_⟩
   have e:(p.drop i).take (j+1)=(p.drop i).take j ++ [(p.drop i).getD j 0]:=by
    rw[List.take_succ,Xr,XJ hj];rfl
   rw[e]
   simp only[Q8,Vb]
   rfl
  ·obtain⟨z,rfl⟩:=q
   rw[Xg,Uw,←Zix]
   exact⟨_,_,_,rfl⟩
 ·obtain⟨z1,z2,z3,rfl⟩:=q
  refine Z8d rfl ?_
  rw[OT.data_nd,OT.map_fz]
  unfold Zj2
  rw[Xg,List.length_zipIdx,Xg];rfl
noncomputable def away(n:Nat)(p:List Int):List Int:=((Xj n).filter λi:Nat=>!decide ((i:Int)∈p)).map λi:Nat=>(i:Int)
theorem Ze6{n:Nat}{p:List Int}{x:Int}:x∈away n p↔0≤x∧x<n∧x∉p:=by
 unfold away
 rw[XQ]
 constructor
 ·rintro⟨i,hi,rfl⟩
  obtain⟨h1,h2⟩:=Bo.mp hi
  have:=X5.mp h1
  exact⟨by omega,by omega,by simpa using h2⟩
 ·rintro⟨h1,h2,h3⟩
  refine⟨x.toNat,Bo.mpr ⟨X5.mpr (by omega),?_⟩,by omega⟩
  rw[show((x.toNat:Nat):Int)=x by omega,decide_eq_false h3];rfl
theorem Zun(n:Nat)(p:List Int):(away n p).length≤n:=by
 unfold away
 rw[Xg]
 exact QF (U9 _ _) (Nat.le_of_eq XH)
theorem Zle(neg:Bool)(x:Int)(p:List Int):Z1n neg (.int x) (Yg p)=some (.bool (if neg then !decide (x∈p)else decide (x∈p))):=by
 have e:memS (.int x) (p.map Xo)=decide (x∈p):=by
  unfold memS
  rw[List.any_map]
  rw[Bool.eq_iff_iff,List.any_eq_true,decide_eq_true_eq]
  constructor
  ·rintro⟨y,hy,h⟩
   have:(y==x)=true:=h
   rw[←eq_of_beq this];exact hy
  ·intro h
   exact⟨x,h,(show(x==x)=true from beq_self_eq_true x)⟩
 have s:(p.map Xo).all scD=true:=by
  rw[VD]
  intro d hd
  obtain⟨y,_,rfl⟩:=XQ.mp hd
  rfl
 show(if(scD (.int x)&&(p.map Xo).all scD)=true then some (PyData.bool (if neg then !memS (.int x) (p.map Xo)else memS (.int x) (p.map Xo)))else none)=_
 rw[s,e];rfl
theorem Z0m{n:Nat}{p:List Int}{caps:List Nat}{it:FI}{δ:Zg}(hi:EvI it δ (Zd4 0 n))(hn:n≤1000)(hb:blk 1 caps δ=[none,some (.fz (Yg p))]):EvV (Y9 1 caps it (gNm 0) (tV (Zh (Z1n true) (Zd 0) (Zd 1))) (Zd 0)) δ (Yg (away n p)):=by
 refine(Zji (cs:=[some (.fz (Yg p))]) (Xj n) (λi:Nat=>Xo (0+(i:Int))) (λi=>!decide ((i:Int)∈p)) hi (by rw[XH];omega) hb (λx _=>Zci (Zn Za Za ?_)) λx _ _=>rfl).cast ?_
 ·rw[Zle,Qz];rfl
 ·unfold away Yg
  rw[Qp]
  refine congrArg QH (Xy λi _=>?_)
  show Xo (0+(i:Int))=Xo i
  rw[Qz]
noncomputable def rlI(S:Nat->Nat->Int)(p q:Int×Int):Int:=rl S p.1.toNat p.2.toNat q.1.toNat q.2.toNat
noncomputable def Lst(S:Nat->Nat->Int)(A B:List Int)(m:Int):Prop:=(∃p∈dbl A,∃q∈dbl B,m=rlI S p q)∧∀p∈dbl A,∀q∈dbl B,m≤rlI S p q
theorem Lst.exists(S:Nat->Nat->Int){A B:List Int}{p q:Int×Int}(hp:p∈dbl A)(hq:q∈dbl B):∃m,Lst S A B m:=by
 obtain⟨vs,hv⟩:∃vs,vs=(dbl A).flatMap λp=>(dbl B).map λq=>rlI S p q:=⟨_,rfl⟩
 have mem:∀x,x∈vs↔∃p∈dbl A,∃q∈dbl B,x=rlI S p q:=λx=>by
  rw[hv,Ux]
  constructor
  ·rintro⟨p,hp,h⟩
   obtain⟨q,hq,rfl⟩:=XQ.mp h
   exact⟨p,hp,q,hq,rfl⟩
  ·rintro⟨p,hp,q,hq,rfl⟩
   exact⟨p,hp,XQ.mpr ⟨q,hq,rfl⟩⟩
 have hm:=(mem _).mpr ⟨p,hp,q,hq,rfl⟩
 obtain⟨h1,h2⟩:=Zsk (ns:=vs) (List.length_pos_of_mem hm)
 exact⟨Ya6 vs,(mem _).mp h1,λp hp q hq=>h2 _ ((mem _).mpr ⟨p,hp,q,hq,rfl⟩)⟩
theorem Zq0{n:Nat}{S:Nat->Nat->Int}{δ:Zg}{ea eb ec ee:FE}{a b c e:Int}(h0:δ[0]? =some (some (.fz (Zd2 n S))))(h2:δ[2]? =some (some (.fz (fnD "split_rule"))))(ha:EvV ea δ (.int a))(hb:EvV eb δ (.int b))(hc:EvV ec δ (.int c))(he:EvV ee δ (.int e))(ba:0≤a∧a<n)(bb:0≤b∧b<n)(bc:0≤c∧c<n)(be:0≤e∧e<n) :
  EvV (Ze5 2 "split_rule" Ym (Zc (Zv Yl (Zc (Zd 0) (Zc ea (Zc eb (Zc ec (Zc ee Zm)))))) Zm)) δ (.int (rlI S (a,b) (c,e))):=by
 have t:=Zjo (S:=S) (n:=n) (i:=a.toNat) (j:=b.toNat) (k:=c.toNat) (l:=e.toNat) (by omega) (by omega) (by omega) (by omega)
 rw[Bx ba.1,Bx bb.1,Bx bc.1,Bx be.1]at t
 exact Zwv h2 (Zb (Zq (Zb (Za h0) (Zb ha (Zb hb (Zb hc (Zb he Ze))))) t) Ze) (Zjh _ _ _)
noncomputable def Z5y(n:Nat)(S:Nat->Nat->Int)(A B:List Int)(least:Int)(z6 z7 z8 z9:Option OT):Zg:=[some (.fz (Zd2 n S)),some (.fz (Yg A)),some (.fz (fnD "split_rule")),some (.fz (Yg B)),some (.fz (.list ((dbl B).map prD))),some (.fz (.int least)),z6,z7,z8,z9]
theorem Zn2{n:Nat}{S:Nat->Nat->Int}{A:List Int}(hn:n≤100)(hl:A.length≤100)(hA:∀x∈A,1≤x∧x<n)(ne:A≠[]):∃m,Lst S A (away n A) m∧Told Z0 [Zd2 n S,Yg A,fnD "split_rule"] (.int (max 0 m)):=by
 have hp:0<A.length:=List.length_pos_iff.mpr ne
 have n0:0<n:=by have:=hA _ (getD_mem hp);omega
 obtain⟨B,hB⟩:∃B,B=away n A:=⟨_,rfl⟩
 have b0:(0:Int)∈B:=by rw[hB];exact Ze6.mpr ⟨by decide,by omega,λz=>absurd (hA 0 z).1 (by decide)⟩
 have inB:∀x∈B,0≤x∧x<n:=λx hx=>by rw[hB]at hx;obtain⟨h1,h2,_⟩:=Ze6.mp hx;exact⟨h1,h2⟩
 have inA:∀x∈A,0≤x∧x<n:=λx hx=>⟨Qa (by decide) (hA x hx).1,(hA x hx).2⟩
 have a00:(A.getD 0 0,A.getD 0 0)∈dbl A:=Zm7.mpr ⟨0,0,Qn _,hp,rfl⟩
 have b00:((0:Int),(0:Int))∈dbl B:=by
  obtain⟨j,hj,e⟩:=List.getElem_of_mem b0
  exact Zm7.mpr ⟨j,j,Qn _,hj,by rw[Xr,XJ hj,e];rfl⟩
 obtain⟨m,hm⟩:=Lst.exists S a00 b00
 rw[←hB]
 refine⟨m,hm,?_⟩
 have lB:B.length≤100:=by rw[hB];exact QF (Zun n A) hn
 have inner:∀(p:Int×Int) (least:Int) (z8 z9:Option OT),p∈dbl A->(∃p∈dbl A,∃q∈dbl B,least=rlI S p q)->∃δ',Jk (Zgs (Zd 4)) (gTp 2 (gCn (gNm 8) (gCn (gNm 9) gNl)))
   (wE (Zce Zwo (Zc (Zd 5) (Zc (Ze5 2 "split_rule" Ym (Zc (Zv Yl (Zc (Zd 0) (Zc (Zd 6) (Zc (Zd 7) (Zc (Zd 8) (Zc (Zd 9) Zm)))))) Zm)) Zm))) (Yt 5))
   (Z5y n S A B least (some (.fz (.int p.1))) (some (.fz (.int p.2))) z8 z9)= .nx δ'∧
   ∃least' z8 z9,δ'=(Z5y n S A B least' (some (.fz (.int p.1))) (some (.fz (.int p.2))) z8 z9)∧(∃p∈dbl A,∃q∈dbl B,least'=rlI S p q)∧least'≤least∧∀q∈dbl B,least'≤rlI S p q:=λp least z8 z9 hp hin=>by
  obtain⟨p1,p2⟩:=Zi6 hp
  obtain⟨δ',e,least',z8,z9,rfl,h1,h2,h3⟩:=Zhs (S:=wE (Zce Zwo (Zc (Zd 5) (Zc (Ze5 2 "split_rule" Ym (Zc (Zv Yl (Zc (Zd 0) (Zc (Zd 6) (Zc (Zd 7) (Zc (Zd 8) (Zc (Zd 9) Zm)))))) Zm)) Zm))) (Yt 5)) (g:=gTp 2 (gCn (gNm 8) (gCn (gNm 9) gNl))) (it:=Zgs (Zd 4)) (ds:=(dbl B).map prD) (δ:=(Z5y n S A B least (some (.fz (.int p.1))) (some (.fz (.int p.2))) z8 z9))
   (λi δ=>∃least' z8 z9,δ=(Z5y n S A B least' (some (.fz (.int p.1))) (some (.fz (.int p.2))) z8 z9)∧(∃p∈dbl A,∃q∈dbl B,least'=rlI S p q)∧least'≤least∧∀j q,j<i->(dbl B)[j]? =some q->least'≤rlI S p q) (Zat Za) ⟨least,z8,z9,rfl,hin,Us _,λj q hj=>absurd hj (BW j)⟩ λi d δ hd q=>by
   obtain⟨least',z8,z9,rfl,h1,h2,h3⟩:=q
   rw[Xm]at hd
   cases e:(dbl B)[i]? with
   | none=>rw[e]at hd;cases hd
   | some q=>
    rw[e]at hd
    cases hd
    have hq:=Qv e
    obtain⟨q1,q2⟩:=Zi6 hq
    refine⟨_,_,rfl,.inl (Zy (Z4f Za (Zq0 rfl rfl Za Za Za Za (inA _ p1) (inA _ p2) (inB _ q1) (inB _ q2)))),min least' (rlI S p q),some (.fz (.int q.1)),some (.fz (.int q.2)),rfl,?_,Qa (Int.min_le_left ..) h2,λj q' hj hq'=>?_⟩
    ·rcases U5 least' (rlI S p q)with z|z
     ·rw[Int.min_eq_left z];exact h1
     ·rw[Int.min_eq_right z];exact⟨p,hp,q,hq,rfl⟩
    ·by_cases cj:j=i
     ·subst cj;rw[e]at hq';cases hq';exact Int.min_le_right ..
     ·exact Qa (Int.min_le_left ..) (h3 j q' (Nat.lt_of_le_of_ne (Nat.le_of_lt_succ hj) cj) hq')
  refine⟨_,e,least',z8,z9,rfl,h1,h2,λq hq=>?_⟩
  obtain⟨j,hj⟩:=JX hq
  exact h3 j q (by rw[Xg];exact(Xk.mp hj).1) hj
 have key:∃d,Told Z0 [Zd2 n S,Yg A,fnD "split_rule"] d∧d= .int (max 0 m):=by
  refine Zvc rfl<|Zef (Zy (hB▸Z0m (Zbz (Zb (Zaj (Zb Za Ze) (Ztw n S)) Ze) (QF hn (by decide))) (QF hn (by decide)) rfl))<|Zef (Zy (Zq (Zb Za Ze) (Ze1 B lB)))<|
   Zef (Zy (Zq0 rfl rfl (Zlz Za Zt (by decide) (by omega)) (Zlz Za Zt (by decide) (by omega)) Zt Zt (inA _ (getD_mem hp)) (inA _ (getD_mem hp)) ⟨by decide,by omega⟩ ⟨by decide,by omega⟩))<|
   Z1h (ds:=(dbl A).map prD) (λi δ=>∃least z6 z7 z8 z9,δ=(Z5y n S A B least z6 z7 z8 z9)∧(∃p∈dbl A,∃q∈dbl B,least=rlI S p q)∧(∀j p,j<i->(dbl A)[j]? =some p->∀q∈dbl B,least≤rlI S p q)∧(0<i->0<least))
    (Zat (Zq (Zb Za Ze) (Ze1 A hl))) ⟨_,none,none,none,none,rfl,⟨_,a00,_,b00,rfl⟩,λj p hj=>absurd hj (BW j),λz=>absurd z (Br 0)⟩ (λi d δ hd q=>?_) λδ' q=>?_
  ·obtain⟨least,z6,z7,z8,z9,rfl,h1,h2,h3⟩:=q
   rw[Xm]at hd
   cases e:(dbl A)[i]? with
   | none=>rw[e]at hd;cases hd
   | some p=>
    rw[e]at hd
    cases hd
    have hp':=Qv e
    obtain⟨δ',e1,least',z8,z9,rfl,g1,g2,g3⟩:=inner p least z8 z9 hp' h1
    by_cases c:least'≤0
    ·refine .inr ⟨_,rfl,Zef e1 (Z0f (Zci (Z5v Za Zt (decide_eq_true c))) (Zk6 Zt ?_))⟩
     obtain⟨p',hp2,q',hq2,e2⟩:=g1
     have:=hm.2 p' hp2 q' hq2
     rw[←e2]at this
     rw[Vl (Qa this c)]
    ·refine .inl ⟨_,_,rfl,Jm e1 (W7 (Zci (Z5v Za Zt (decide_eq_false c))) rfl),least',_,_,_,_,rfl,g1,λj p' hj hp2 q hq=>?_,λ_=>Int.lt_of_not_ge c⟩
     by_cases cj:j=i
     ·subst cj;rw[e]at hp2;cases hp2;exact g3 q hq
     ·exact Qa g2 (h2 j p' (Nat.lt_of_le_of_ne (Nat.le_of_lt_succ hj) cj) hp2 q hq)
  ·obtain⟨least,z6,z7,z8,z9,rfl,h1,h2,h3⟩:=q
   rw[Xg]at h2 h3
   refine Zk6 Za ?_
   have l0:=h3 (List.length_pos_of_mem a00)
   have e:least=m:=by
    refine Int.le_antisymm ?_ ?_
    ·obtain⟨⟨p,hp',q,hq,e⟩,_⟩:=hm
     rw[e]
     obtain⟨j,hj⟩:=JX hp'
     exact h2 j p (Xk.mp hj).1 hj q hq
    ·obtain⟨p,hp',q,hq,e⟩:=h1
     rw[e]
     exact hm.2 p hp' q hq
   rw[←e,Vh (Int.le_of_lt l0)]
 obtain⟨d,h,rfl⟩:=key
 exact h
theorem Znu{t b:Int}(hb:b≠0):((Xu t b).den:Int)∣b:=by
 rw[Rat.den_divInt,if_neg hb]
 have:(b.natAbs/b.gcd t:Nat)∣b.natAbs:=Nat.div_dvd_of_dvd (by rw[BX];exact Nat.gcd_dvd_left ..)
 exact Int.ofNat_dvd_left.mpr this
theorem Zp0{a m k:Int}(hk:0<k)(hm:0<m):Xu (k*a) (m*k)=Xu a m:=by
 rw[Int.mul_comm k a]
 exact Rat.divInt_mul_right (by omega)
noncomputable def Zbj(n:Nat)(R:Nat->Nat->Int)(b:Int):List (List Rat):=(Xj n).map λi=>(Xj n).map λj=>Xu (R i j) b
theorem Zyu(T:List (List Rat)):Zgx [tbD T]=some (.int T.length):=by
 unfold tbD
 rw[Zra,Xg]
theorem Zjy(n:Nat)(R:Nat->Nat->Int)(b:Int):(Zbj n R b).length=n:=by unfold Zbj;simp
theorem Zr1{k x y:Int}(hk:0<k):max (k*x) (k*y)=k*max x y:=by
 rcases U5 x y with h|h
 ·rw[Vh h,Vh (BL h (by omega))]
 ·rw[Vl h,Vl (BL h (by omega))]
theorem Zvv{k x:Int}(hk:0<k):max 0 (k*x)=k*max 0 x:=by
 rcases U5 0 x with h|h
 ·rw[Vh h,Vh (Int.mul_nonneg (by omega) h)]
 ·rw[Vl h,Vl (Vo (by omega) h),Int.mul_zero]
theorem Ztv{S R:Nat->Nat->Int}{k:Int}(hk:0<k){n i j l m:Nat}(h:∀i j,i<n->j<n->k*S i j=R i j)(hi:i<n)(hj:j<n)(hl:l<n)(hm:m<n):rl R i j l m=k*rl S i j l m:=by
 unfold rl
 rw[←h i l hi hl,←h j m hj hm,←h i m hi hm,←h j l hj hl,←h i j hi hj,←h l m hl hm,←Int.mul_add,←Int.mul_add,←Int.mul_add,Zr1 hk,Zr1 hk,←Int.mul_sub]
theorem Lst.scaled{S R:Nat->Nat->Int}{k:Int}(hk:0<k){n:Nat}{A B:List Int}(h:∀i j,i<n->j<n->k*S i j=R i j)(hA:∀x∈A,0≤x∧x<n)(hB:∀x∈B,0≤x∧x<n){m:Int}(hm:Lst S A B m):Lst R A B (k*m):=by
 have e:∀p∈dbl A,∀q∈dbl B,rlI R p q=k*rlI S p q:=λp hp q hq=>by
  obtain⟨p1,p2⟩:=Zi6 hp
  obtain⟨q1,q2⟩:=Zi6 hq
  have:=hA _ p1
  have:=hA _ p2
  have:=hB _ q1
  have:=hB _ q2
  exact Ztv hk h (by omega) (by omega) (by omega) (by omega)
 obtain⟨⟨p,hp,q,hq,e1⟩,h2⟩:=hm
 exact⟨⟨p,hp,q,hq,by rw[e p hp q hq,e1]⟩,λp hp q hq=>by rw[e p hp q hq];exact BL (h2 p hp q hq) (by omega)⟩
theorem Zlc{n:Nat}{R:Nat->Nat->Int}{b:Int}{A:List Int}(hn:n≤100)(hl:A.length≤100)(hA:∀x∈A,1≤x∧x<n)(ne:A≠[])(hb:0<b)(bb:Bt 300 b)(bR:∀i j,i<n->j<n->Bt 300 (R i j)) :
  ∃m,Lst R A (away n A) m∧Told Ja [tbD (Zbj n R b),Yg A,fnD "split_rule"] (frD (Xu (max 0 m) (2*b))):=by
 have hz:∀r∈Zbj n R b,r.length≤1000:=λr hr=>by
  unfold Zbj at hr
  obtain⟨x,_,rfl⟩:=XQ.mp hr
  rw[Xg,XH];omega
 have hB:Z2b (Zbj n R b) b:=λr hr q hq=>by
  unfold Zbj at hr
  obtain⟨x,_,rfl⟩:=XQ.mp hr
  obtain⟨y,_,rfl⟩:=XQ.mp hq
  exact Znu (by omega)
 have hN:∀r∈Zbj n R b,∀q∈r,Bt 300 q.num:=λr hr q hq=>by
  unfold Zbj at hr
  obtain⟨x,hx,rfl⟩:=XQ.mp hr
  obtain⟨y,hy,rfl⟩:=XQ.mp hq
  exact Zi5 (by omega) (bR x y (X5.mp hx) (X5.mp hy))
 obtain⟨m,e1,m0,hm,k,rfl⟩:=Zdn hb bb (by decide) (Zbj n R b) hz hB
 have k0:0<k:=by
  by_cases c:0<k
  ·exact c
  ·have:=Vo (a:=m) (b:=k) (by omega) (by omega)
   omega
 have bm:Bt 300 m:=Zhr hb ⟨k,rfl⟩ bb
 have e2:=Zff m0 bm (Zbj n R (m*k)) (by rw[Zjy];omega) hz hm hN
 have sc:∀x y,x<n->y<n->k*scI m (Xu (R x y) (m*k))=R x y:=λx y hx hy=>by
  have hd:((Xu (R x y) (m*k)).den:Int)∣m:=hm _ (XQ.mpr ⟨x,X5.mpr hx,rfl⟩) _ (XQ.mpr ⟨y,X5.mpr hy,rfl⟩)
  have:=Zr7 hd
  have e:((k*scI m (Xu (R x y) (m*k)):Int):Rat)=((R x y:Int):Rat):=by
   have nk:((k:Int):Rat)≠0:=by
    intro z
    have:k=0:=by exact_mod_cast z
    omega
   have nm:((m:Int):Rat)≠0:=by
    intro z
    have:m=0:=by exact_mod_cast z
    omega
   rw[Vk,this,Qq,Vk]
   rw[Rat.mul_comm,Rat.mul_assoc]
   exact Ug (λz=>(Rat.mul_eq_zero.mp z).elim nm nk)
  exact_mod_cast e
 obtain⟨S,hS⟩:∃S:Nat->Nat->Int,S= λi j=>scI m (Xu (R i j) (m*k)):=⟨_,rfl⟩
 have sc':∀x y,x<n->y<n->k*S x y=R x y:=λx y hx hy=>by rw[hS];exact sc x y hx hy
 have er:QH ((Zbj n R (m*k)).map λr=>.list (r.map λq=>.int (scI m q)))=Zd2 n S:=by
  rw[hS]
  unfold Zbj Zd2
  rw[Qp]
  refine congrArg QH (Xy λi _=>?_)
  show QH _=Z2k _ _
  rw[Qp];rfl
 rw[er]at e2
 obtain⟨mS,h1,e3⟩:=Zn2 (S:=S) hn hl hA ne
 refine⟨k*mS,h1.scaled k0 sc' (λx hx=>⟨by have:=(hA x hx).1;omega,(hA x hx).2⟩) λx hx=>?_,?_⟩
 ·obtain⟨a1,a2,_⟩:=Ze6.mp hx
  exact⟨a1,a2⟩
 have eF:=Zew (n:=302) (t:=max 0 mS) (b:=2*m) (by omega) (Bt.mul (m:=2) (Bt.of_lt (by decide) (by decide)) bm)
 rw[Zvv k0,show 2*(m*k)=(2*m)*k by rw[Int.mul_assoc],Zp0 k0 (by omega)]
 exact Z4 rfl<|Ye (Zy (Zq (Zb Za Ze) e1))<|Ye (Zy (Zq (Zb (Zq (Zb Za (Zb Za Ze)) e2) (Zb Za (Zb Za Ze))) e3))<|Yby (Zb Za (Zb (Zrr Zt Za) Ze)) eF
theorem Zjv(n:Nat)(R:Nat->Nat->Int)(b:Int):tbD (Zbj n R b)=Wl n (frG λi j=>Xu (R i j) b):=by
 unfold tbD Zbj Wl
 rw[Qp]
 refine congrArg QH (Xy λi _=>?_)
 show Zlh _=_
 unfold Zlh
 rw[Qp];rfl
theorem Zyr{x y z b:Int}(hb:0<b)(h:x≤y+z):Xu x b≤Xu y b+Xu z b:=by
 have e:Xu y b+Xu z b=Xu (y+z) b:=by
  rw[Qq,Qq,Qq,BK,BK,BK,Rat.intCast_add,Rat.add_mul]
 rw[e]
 refine(Rat.le_iff_sub_nonneg _ _).mpr ?_
 have e2:Xu (y+z) b-Xu x b=Xu (y+z-x) b:=by
  rw[Qq,Qq,Qq,BK,BK,BK,Rat.intCast_sub,Rat.sub_eq_add_neg,Rat.sub_eq_add_neg,Rat.add_mul,Rat.neg_mul]
 rw[e2]
 exact Zs1 (by omega) hb
theorem Zrq{y z b:Int}:Xu y b+Xu z b=Xu (y+z) b:=by
 rw[Qq,Qq,Qq,BK,BK,BK,Rat.intCast_add,Rat.add_mul]
theorem Z5w{x y z b:Int}(hb:0<b):Xu y b+Xu z b<Xu x b↔y+z<x:=by
 constructor
 ·intro h
  refine Int.not_le.mp λz=>?_
  exact absurd h (Rat.not_lt.mpr (Zyr hb z))
 ·intro h
  refine Rat.not_le.mp λw=>?_
  rw[Zrq]at w
  have nb:((b:Int):Rat)≠0:=by
   intro e
   have:b=0:=by exact_mod_cast e
   omega
  have b0:(0:Rat)≤((b:Int):Rat):=by exact_mod_cast Int.le_of_lt hb
  have w2:=Rat.mul_le_mul_of_nonneg_right w b0
  rw[Qq,Qq,Ug nb,Ug nb]at w2
  have:x≤y+z:=by exact_mod_cast w2
  omega
theorem Z2y{R:Nat->Nat->Int}{b:Int}(hb:0<b):(shR λi j=>Xu (R i j) b)=shI R:=by
 funext i j k
 exact decide_eq_decide.mpr (Z5w hb)
theorem Z56{R:Nat->Nat->Int}{b:Int}(hb:0<b)(bb:Bt 300 b)(bR:∀i j,Bt 300 (R i j)):Tq λi j=>Xu (R i j) b where
 num:=λi j=>Zi5 (by omega) ((bR i j).mono (by decide))
 den:=λi j=>Zqu (by omega) (bb.mono (by decide))
theorem Zls{n:Nat}(hn:n≤10)(R:Nat->Nat->Int){b:Int}(hb:0<b)(bb:Bt 300 b):Told Wi [Wl n (inG R),.int b] (tbD (Zbj n R b)):=by
 rw[Zjv]
 exact Z4 rfl<|Wy<|Zdx (cs:=[some (.fz (.int b))]) (Xj n) (λi=>.list ((Xj n).map λj=>inG R i j)) (λi=>.list ((Xj n).map λj=>frG (λi j=>Xu (R i j) b) i j)) (Zat Za) (by rw[XH];omega) rfl λi _=>
  Zdx (cs:=[some (.fz (.int b))]) (Xj n) (λj=>inG R i j) (λj=>frG (λi j=>Xu (R i j) b) i j) (Zat Za) (by rw[XH];omega) rfl λj _=>Zq (Zb Za (Zb Za Ze)) (Zh2 hb bb)
noncomputable def ctD(p:List Int×Rat):Xa:=.tuple [Yg p.1,frD p.2]
noncomputable def Zpm(L:List (List Int×Rat)):Xa:=.list (L.map ctD)
noncomputable def Z3i(L:List (List Int×Rat)):OT:=.nd ((L.map ctD).map OT.fz)
theorem Zrb(L:List (List Int×Rat)):(Z3i L).data=Zpm L:=by unfold Z3i Zpm;rw[OT.data_nd,OT.map_fz]
theorem Zok{α:Type}(f g:α->Xa)(L:List α):Zn0 (L.map f) (L.map g)=L.map λp=>.tuple [f p,g p]:=by
 induction L with
 | nil=>rfl
 | cons x L ih=>exact congrArg (_ :: ·) ih
theorem Z0k{t:FT}{a b:FE}{δ:Zg}{d:Xa}(h:EvT t δ true)(k:EvV a δ d):EvV (fIf t a b) δ d:=by
 obtain⟨o,e1,e2⟩:=k
 exact⟨o,by unfold fIf;unfold EvT at h;rw[h];exact e1,e2⟩
theorem Zzx{t:FT}{a b:FE}{δ:Zg}{d:Xa}(h:EvT t δ false)(k:EvV b δ d):EvV (fIf t a b) δ d:=by
 obtain⟨o,e1,e2⟩:=k
 exact⟨o,by unfold fIf;unfold EvT at h;rw[h];exact e1,e2⟩
noncomputable def sd(p:List Int×Rat)(i:Nat):Int:=if(i:Int)∈p.1 then 1 else 0
noncomputable def Zfm(n:Nat)(p:List Int×Rat):Xa:=.list ((Xj n).map λi=>.int (sd p i))
theorem Znk{n:Nat}(hn:n≤10)(p:List Int×Rat):Told Za7 [.int n,Yg p.1] (Zfm n p) :=
 Z4 rfl<|Wy<|Zdx (cs:=[some (.fz (Yg p.1))]) (Xj n) (λi:Nat=>Xo (0+(i:Int))) (λi=>.int (sd p i)) (Zbz (Zb Za Ze) (by omega)) (by rw[XH];omega) rfl λi _=>by
  have t:∀{b:Bool},decide ((i:Int)∈p.1)=b->EvT (tV (Zh (Z1n false) (Zd 0) (Zd 1))) [some (.fz (.int (0+(i:Int)))),some (.fz (Yg p.1))] b:=λhb=>hb▸Zci (Zn Za Za (by rw[Zle,Qz];rfl))
  unfold sd
  by_cases c:(i:Int)∈p.1
  ·rw[if_pos c];exact Z0k (t (decide_eq_true c)) Zt
  ·rw[if_neg c];exact Zzx (t (decide_eq_false c)) Zt
theorem Zlg{n:Nat}(hn:n≤10)(L:List (List Int×Rat))(hl:L.length<64):Told Zan [.int n,Zpm L] (.list (L.map (Zfm n))) :=
 Z4 rfl<|Wy<|Zdx (cs:=[some (.fz (.int n))]) L ctD (Zfm n) (Zat Za) (by omega) rfl λp _=>Zq (Zb Za (Zb (Wb (d:=Yg p.1) Za Zt rfl) Ze)) (Znk hn p)
noncomputable def prt(i j:Nat)(p:List Int×Rat):Bool:=!decide (sd p i=sd p j)
noncomputable def SmL(L:List (List Int×Rat))(i j:Nat):Rat:=((L.filter (prt i j)).map λp=>p.2).sum
noncomputable def Zik(L:List (List Int×Rat)):Nat×Nat->Xa:=λp=>frD (SmL L p.1 p.2)
theorem Zxk{m:Int}:∀(L:List (List Int×Rat)),(∀p∈L,(p.2.den:Int)∣m)->(((L.map λp=>scI m p.2).sum:Int):Rat)=(L.map λp=>p.2).sum*(m:Rat)
 | [],_=>by simp
 | p :: L,h=>by
  rw[Ql,Ql,List.sum_cons,List.sum_cons,Rat.intCast_add,Zr7 (h p (.head _)),Zxk L λq hq=>h q (.tail _ hq),Rat.add_mul]
theorem Z07{m:Int}(hm:0<m)(L:List (List Int×Rat))(h:∀p∈L,(p.2.den:Int)∣m):Xu (L.map λp=>scI m p.2).sum m=(L.map λp=>p.2).sum:=by
 have m0:(m:Rat)≠0:=λz=>by
  have:=Rat.intCast_inj.mp (z.trans (Rat.intCast_zero).symm)
  omega
 rw[Qq,Zxk L h,BK,Rat.mul_assoc,Rat.mul_inv_cancel _ m0,Rat.mul_one]
theorem Zuh(es:List Int):Z4h [Yg es]=some (.int es.sum):=by
 show(Zin (es.map Xo)).bind _=_
 rw[Zh9];rfl
theorem Zp1{n:Nat}{m:Int}{L:List (List Int×Rat)}{a b:Nat}{δ:Zg}(ha:a<n)(hb:b<n)(hl:L.length<64)(h5:δ[5]? =some (some (.fz (.list (L.map (Zfm n))))))(h4:δ[4]? =some (some (.fz (.list (L.map λp=>.int (scI m p.2))))))(hk:blk 2 [7,8] δ=[none,none,some (.fz (.int a)),some (.fz (.int b))]) :
  EvV (Y9 2 [7,8] (Zea (Zc (Zd 5) (Zc (Zd 4) Zm))) (gTp 2 (gCn (gNm 0) (gCn (gNm 1) gNl))) (tV (Zh gNe (Z2 gIx (Zd 0) (Zd 2)) (Z2 gIx (Zd 0) (Zd 3)))) (Zd 1)) δ (Yg ((L.filter (prt a b)).map λp=>scI m p.2)):=by
 have hi:EvI (Zea (Zc (Zd 5) (Zc (Zd 4) Zm))) δ (L.map λp=>.tuple [Zfm n p,.int (scI m p.2)]):=Zg8 (Za h5) (Za h4) (Zok (Zfm n) (λp=>.int (scI m p.2)) L)
 obtain⟨ts,δ',e1,z0,z1,rfl,e2⟩:=Z6c (t:=tV (Zh gNe (Z2 gIx (Zd 0) (Zd 2)) (Z2 gIx (Zd 0) (Zd 3)))) (e:=Zd 1) (g:=gTp 2 (gCn (gNm 0) (gCn (gNm 1) gNl))) (δ:=[none,none,some (.fz (.int a)),some (.fz (.int b))])
  (λk acc δ=>∃z0 z1,δ=[z0,z1,some (.fz (.int a)),some (.fz (.int b))]∧acc=(((L.take k).filter (prt a b)).map λp=>scI m p.2).map Xo) (L.map λp=>.tuple [Zfm n p,.int (scI m p.2)]) 0 [] ⟨none,none,rfl,by simp⟩ (λk d acc δ hd q=>by
   obtain⟨z0,z1,rfl,rfl⟩:=q
   rw[Vy]at*
   rw[Xm]at hd
   cases e:L[k]? with
   | none=>rw[e]at hd;cases hd
   | some p=>
    rw[e]at hd
    cases hd
    have et:L.take (k+1)=L.take k ++ [p]:=by rw[List.take_succ,e];rfl
    have at':∀{c:Nat},c<n->gIx (Zfm n p) (.int (c:Int))=some (.fz (.int (sd p c))):=λhc=>by
     unfold Zfm
     rw[Zif,Zic,Xm,QB hc];rfl
    refine⟨_,rfl,Zd6 (Zci (Zmi (Wb (d:=.int (sd p a)) Za Za (at' ha)) (Wb (d:=.int (sd p b)) Za Za (at' hb)) (p:=prt a b p) rfl)) ⟨λc=>?_,λc=>?_⟩⟩
    ·refine Z8 (d:=.int (scI m p.2)) Za ⟨_,_,rfl,?_⟩
     rw[et,List.filter_append,List.filter_cons_of_pos c,List.filter_nil,Q8,Q8];rfl
    ·refine⟨_,_,rfl,?_⟩
     rw[et,List.filter_append,List.filter_cons_of_neg (by rw[c];decide),List.filter_nil,QL])
 rw[Vy,Xg,Uw,List.nil_append]at e2
 refine⟨.nd ts,?_,by rw[OT.data_nd,e2];rfl⟩
 unfold EvI at hi
 unfold Y9
 rw[hi]
 show(if(L.map λp=>PyData.tuple [Zfm n p,.int (scI m p.2)]).length≤Xq then _ else none)=_
 rw[if_pos (by rw[Xg,Qj];omega),hk,e1];rfl
noncomputable def Ziu:Xa:=.tuple [.int 0,.int 1]
noncomputable def Zme(g:Nat×Nat->Xa)(i j:Nat):Xa:=if i<j then g (i,j)else if j<i then g (j,i)else Ziu
theorem Zga{n:Nat}(hn:n≤10)(g:Nat×Nat->Xa):Yv [.int n,.list ((Wd n).map g)]= .ok (Z7 n (Zme g)):=by
 have e0:(Y9 1 [0] (iRa (Zc (Zd 0) Zm)) (gNm 0) Zfg (Z05 (Zkx (Zc (fC (.int 0)) (Zc (fC (.int 1)) Zm))) (Zd 1))) [some (.fz (.int n)),some (.fz (.list ((Wd n).map g))),none,none,none]=some (Z7 n λ_ _=>Ziu,[some (.fz (.int n)),some (.fz (.list ((Wd n).map g))),none,none,none]):=by
  have er:∀v:Option OT,(Z05 (Zkx (Zc (fC (.int 0)) (Zc (fC (.int 1)) Zm))) (Zd 1)) [v,some (.fz (.int n))]=some (.nd (Xz n (.fz Ziu)),[v,some (.fz (.int n))]):=λv=>by
   have e2:(Zkx (Zc (fC (.int 0)) (Zc (fC (.int 1)) Zm))) [v,some (.fz (.int n))]=fC Ziu [v,some (.fz (.int n))]:=by
    rw[Zth]
    exact if_pos (e:=none) (show 2≤Xq by rw[Qj];omega)
   rw[←Z50 (d:=Ziu) (n:=n) (by omega)]
   rw[Znt,Znt,e2]
  rw[Zgy (cs:=[some (.fz (.int n))]) (Xj n) (λi:Nat=>Xo (0+(i:Int))) (λ_=>.nd (Xz n (.fz Ziu))) (Zbz (Zb Za Ze) (by omega)) (by rw[XH,Qj];omega) rfl λx _=>er _]
  unfold Z7
  have ec:((Xj n).map λ_=>OT.fz Ziu)=Xz n (OT.fz Ziu):=by rw[List.map_const',XH]
  rw[←ec]
 have key:∃δ',Yx [some (.fz (.int n)),some (.fz (.list ((Wd n).map g))),none,none,none]= .rt (Z7 n (Zme g)) δ':=by
  obtain⟨δ',e1,f,z3,z4,rfl,h1,h2⟩:=Zhs (it:=Zea (Zc (Zv Y6 (Zc (Zd 0) Zm)) (Zc (Zd 1) Zm))) (g:=gTp 2 (gCn (gNm 3) (gCn (gNm 4) gNl))) (S:=Zz (Zaz 2 (Zd 4) (Z2 gIx (Zd 3) (fC (.int 0))) (Z2 gIx (Zd 3) (fC (.int 1)))) (Zaz 2 (Zd 4) (Z2 gIx (Zd 3) (fC (.int 1))) (Z2 gIx (Zd 3) (fC (.int 0)))))
   (δ:=[some (.fz (.int n)),some (.fz (.list ((Wd n).map g))),some (Z7 n λ_ _=>Ziu),none,none]) (ds:=(Wd n).map λp=>.tuple [ptD p,g p])
   (λk δ=>∃(f:Nat->Nat->Xa) (z3 z4:Option OT),δ=[some (.fz (.int n)),some (.fz (.list ((Wd n).map g))),some (Z7 n f),z3,z4]∧(∀i,f i i=Ziu)∧∀l p,l<k->(Wd n)[l]? =some p->f p.1 p.2=g p∧f p.2 p.1=g p)
   (Zg8 (Zq (Zb Za Ze) (Zhl n (by omega))) Za (Zok ptD g _)) ⟨_,none,none,rfl,λ_=>rfl,λl p hl=>absurd hl (BW l)⟩ (λk d δ hd q=>by
    obtain⟨f,z3,z4,rfl,h1,h2⟩:=q
    rw[Xm]at hd
    cases e:(Wd n)[k]? with
    | none=>rw[e]at hd;cases hd
    | some p=>
     rw[e]at hd
     cases hd
     obtain⟨m1,m2⟩:=Zfn (Qv e)
     have i0:∀{δ:Zg},δ[3]? =some (some (.fz (ptD p)))->EvV (Z2 gIx (Zd 3) (fC (.int 0))) δ (.int (p.1:Int)):=λh=>Wb (Za h) Zt rfl
     have i1:∀{δ:Zg},δ[3]? =some (some (.fz (ptD p)))->EvV (Z2 gIx (Zd 3) (fC (.int 1))) δ (.int (p.2:Int)):=λh=>Wb (Za h) Zt rfl
     refine⟨_,_,rfl,.inl (Jm (Zhx (n:=n) (f:=f) (a:=p.1) (b:=p.2) (d:=g p) Za rfl (i0 rfl) (by omega) (i1 rfl) (by omega)) (Zhx (n:=n) (a:=p.2) (b:=p.1) (d:=g p) Za rfl (i1 rfl) (by omega) (i0 rfl) (by omega))),_,_,_,rfl,λi=>?_,λl q hl hq=>?_⟩
     ·unfold upG
      rw[if_neg (by omega),if_neg (by omega)]
      exact h1 i
     ·by_cases c:q=p
      ·subst c
       unfold upG
       exact⟨by split<;>(try rfl);rw[if_pos ⟨rfl,rfl⟩],by rw[if_pos ⟨rfl,rfl⟩]⟩
      ·have hl':l<k:=by
        rcases Nat.lt_or_ge l k with z|z
        ·exact z
        ·have:l=k:=by omega
         subst this
         rw[e]at hq
         cases hq
         exact absurd rfl c
       obtain⟨q1,q2⟩:=Zfn (Qv hq)
       have ne:¬(q.1=p.1∧q.2=p.2):=λz=>c (Prod.ext z.1 z.2)
       obtain⟨g1,g2⟩:=h2 l q hl' hq
       unfold upG
       rw[if_neg (by omega),if_neg (by omega),if_neg (by omega),if_neg (by omega)]
       exact⟨g1,g2⟩)
  rw[Xg]at h2
  refine⟨[some (.fz (.int n)),some (.fz (.list ((Wd n).map g))),none,z3,z4],Jm (Ztq e0) (Jm e1 ?_)⟩
  have eG:Z7 n f=Z7 n (Zme g):=Zo7 λi j hi hj=>?_
  ·rw[eG];rfl
  unfold Zme
  rcases Nat.lt_trichotomy i j with c|c|c
  ·obtain⟨l,hl⟩:=JX (Zi2 c hj)
   rw[if_pos c]
   exact(h2 l _ (Xk.mp hl).1 hl).1
  ·subst c
   rw[if_neg (Br _),if_neg (Br _)]
   exact h1 i
  ·obtain⟨l,hl⟩:=JX (Zi2 c hi)
   rw[if_neg (by omega),if_pos c]
   exact(h2 l _ (Xk.mp hl).1 hl).2
 obtain⟨δ',e⟩:=key
 unfold Yv
 rw[Zer (np:=2) (by rfl)]
 show(Yx [some (.fz (.int n)),some (.fz (.list ((Wd n).map g))),none,none,none]).told=_
 rw[e];rfl
theorem Z1d{F:FD}{as:FA}{δ:Zg}{ds:List Xa}{o:OT}(h:EvA as δ ds)(k:F ds= .ok o):wE (Zv F as) J0 δ= .rt o δ:=by rw[Zbx,Zuo h k];rfl
theorem Znx{n:Nat}(hn:n≤10)(L:List (List Int×Rat))(hl:L.length<64){B:Int}(B0:0<B)(bB:Bt 200 B)(hw:∀p∈L,(p.2.den:Int)∣B∧Bt 200 p.2.num):Wx [.int n,Zpm L]= .ok (Z7 n (Zme (Zik L))):=by
 obtain⟨m,eB,m0,m1,m2⟩:=Zc0 (n:=200) B0 bB (by decide) (L.map λp=>(p.2.num,(p.2.den:Int))) λp hp=>by
  obtain⟨q,hq,rfl⟩:=XQ.mp hp
  exact⟨Zah q.2,(hw q hq).1⟩
 have bm:Bt 200 m:=Zhr B0 m2 bB
 have dm:∀p∈L,(p.2.den:Int)∣m:=λp hp=>m1 (p.2.num,(p.2.den:Int)) (XQ.mpr ⟨p,hp,rfl⟩)
 have eW:(L.map λp=>(p.2.num,(p.2.den:Int))).map prD=(L.map λp=>p.2).map frD:=by rw[Qp,Qp];rfl
 rw[eW]at eB
 have eT:=Zgj (n:=200) m0 bm (L.map λp=>p.2) (by rw[Xg];omega) λq hq=>by
  obtain⟨p,hp,rfl⟩:=XQ.mp hq
  exact⟨dm p hp,(hw p hp).2⟩
 rw[Qp]at eT
 have lp:(Wd n).length≤100:=by
  have:=Zg7 n n
  have e:Zjl n n=Wd n:=rfl
  rw[e]at this
  exact QF this (Nat.mul_le_mul hn hn)
 have key:∃δ',J2 [some (.fz (.int n)),some (.fz (Zpm L)),none,none,none,none,none,none,none,none]= .rt (Z7 n (Zme (Zik L))) δ':=by
  obtain⟨δ',e1,z7,z8,z9,rfl⟩:=Zhs (it:=Zgs (Zv Y6 (Zc (Zd 0) Zm))) (g:=gTp 2 (gCn (gNm 7) (gCn (gNm 8) gNl)))
   (S:=Zz (wE (Y9 2 [7,8] (Zea (Zc (Zd 5) (Zc (Zd 4) Zm))) (gTp 2 (gCn (gNm 0) (gCn (gNm 1) gNl))) (tV (Zh gNe (Z2 gIx (Zd 0) (Zd 2)) (Z2 gIx (Zd 0) (Zd 3)))) (Zd 1)) (Yt 9)) (W5 6 (Zv Yb (Zc (Zce Z4h (Zc (Zd 9) Zm)) (Zc (Zd 3) Zm)))))
   (δ:=[some (.fz (.int n)),some (.fz (Zpm L)),some (.fz (.list ((L.map λp=>p.2).map frD))),some (.fz (.int m)),some (.fz (.list (L.map λp=>.int (scI m p.2)))),some (.fz (.list (L.map (Zfm n)))),some (.nd []),none,none,none]) (ds:=(Wd n).map ptD)
   (λk δ=>∃z7 z8 z9,δ=[some (.fz (.int n)),some (.fz (Zpm L)),some (.fz (.list ((L.map λp=>p.2).map frD))),some (.fz (.int m)),some (.fz (.list (L.map λp=>.int (scI m p.2)))),some (.fz (.list (L.map (Zfm n)))),some (.nd ((((Wd n).take k).map (Zik L)).map OT.fz)),z7,z8,z9])
   (Zat (Zq (Zb Za Ze) (Zhl n (by omega)))) ⟨none,none,none,rfl⟩ (λk d δ hd q=>by
    obtain⟨z7,z8,z9,rfl⟩:=q
    rw[Xm]at hd
    cases e:(Wd n)[k]? with
    | none=>rw[e]at hd;cases hd
    | some p=>
     rw[e]at hd
     cases hd
     obtain⟨q1,q2⟩:=Zfn (Qv e)
     have eF:Told Yb [.int ((L.filter (prt p.1 p.2)).map λp=>scI m p.2).sum,.int m] (Zik L p):=by
      have:=Zew (t:=((L.filter (prt p.1 p.2)).map λp=>scI m p.2).sum) (b:=m) (n:=200) (by omega) bm
      rwa[Z07 m0 _ λp hp=>dm p (Bo.mp hp).1]at this
     have et:(Wd n).take (k+1)=(Wd n).take k ++ [p]:=by rw[List.take_succ,e];rfl
     refine⟨_,_,rfl,.inl (Jm (Zy (Zp1 (n:=n) (m:=m) (L:=L) (a:=p.1) (b:=p.2) (by omega) q2 hl rfl rfl rfl)) (Zmo (d:=Zik L p) (Zq (Zb (Zaj (Zb Za Ze) (Zuh _)) (Zb Za Ze)) eF) rfl ?_)),some (.fz (.int (p.1:Int))),some (.fz (.int (p.2:Int))),some (.fz (Yg ((L.filter (prt p.1 p.2)).map λp=>scI m p.2))),?_⟩
     ·rw[Xg,Xg]
      exact QF (List.length_take_le' ..) (by omega)
     ·rw[et,Q8,Q8];rfl)
  rw[Xg,Uw]at e1
  have ef:(OT.nd (((Wd n).map (Zik L)).map OT.fz)).data= .list ((Wd n).map (Zik L)):=by rw[OT.data_nd,OT.map_fz]
  refine⟨[some (.fz (.int n)),some (.fz (Zpm L)),some (.fz (.list ((L.map λp=>p.2).map frD))),some (.fz (.int m)),some (.fz (.list (L.map λp=>.int (scI m p.2)))),some (.fz (.list (L.map (Zfm n)))),some (.fz (.list ((Wd n).map (Zik L)))),z7,z8,z9],?_⟩
  refine Jm (Zy (EvV.cast (Zdx (cs:=[]) L ctD (λp=>frD p.2) (Zat Za) (by omega) rfl λp _=>Wb (d:=frD p.2) Za Zt rfl) (y:=.list ((L.map λp=>p.2).map frD)) (by rw[Qp];rfl))) ?_
  refine Jm (Zy (Zq (Zb Za Ze) eB)) (Jm (Zy (Zq (Zb Za (Zb Za Ze)) eT)) (Jm (Zy (Zq (Zb Za (Zb Za Ze)) (Zlg hn L hl))) (Jm Zlj (Jm e1 (Zqp rfl ?_)))))
  rw[ef]
  exact Z1d (Zb Za (Zb Za Ze)) (Zga hn (Zik L))
 obtain⟨δ',e⟩:=key
 unfold Wx
 rw[Zer (np:=2) (by rfl)]
 show(J2 [some (.fz (.int n)),some (.fz (Zpm L)),none,none,none,none,none,none,none,none]).told=_
 rw[e];rfl
noncomputable def sdL:Nat->List (List Int)
 | 0=>[[]]
 | k+1=>sdL k ++ (sdL k).map λs=>s ++ [(k:Int)+1]
theorem Z1b(k:Nat):(sdL k).length=2^k:=by
 induction k with
 | zero=>rfl
 | succ k ih=>rw[sdL,Qx,Xg,ih,Nat.pow_succ];omega
theorem Zyg(k:Nat):∀s∈sdL k,s.length≤k∧s.Pairwise (·<·)∧∀x∈s,1≤x∧x≤k:=by
 induction k with
 | zero=>intro s hs;rw[XC.mp hs];exact⟨Qn _,.nil,λ_ m=>nomatch m⟩
 | succ k ih=>
  intro s hs
  rcases QC.mp hs with hs|hs
  ·obtain⟨h1,h2,h3⟩:=ih s hs
   exact⟨by omega,h2,λx hx=>by have:=h3 x hx;omega⟩
  ·obtain⟨r,hr,rfl⟩:=XQ.mp hs
   obtain⟨h1,h2,h3⟩:=ih r hr
   refine⟨by rw[Qx];exact VG h1,List.pairwise_append.mpr ⟨h2,List.pairwise_singleton ..,λx hx y hy=>?_⟩,λx hx=>?_⟩
   ·rw[XC.mp hy]
    have:=h3 x hx
    omega
   ·rcases QC.mp hx with z|z
    ·have:=h3 x z;omega
    ·rw[XC.mp z];omega
theorem members{α β:Type}{f:α->β}{L:List α}:∀{l:List β},(∀d∈l,∃p∈L,d=f p)->∃L1:List α,l=L1.map f∧(∀p∈L1,p∈L)∧L1.length=l.length
 | [],_=>⟨[],rfl,(λ_ m=>nomatch m),rfl⟩
 | d :: l,h=>by
  obtain⟨p,hp,rfl⟩:=h d (.head _)
  obtain⟨L1,e,h1,h2⟩:=members λd m=>h d (.tail _ m)
  exact⟨p :: L1,by rw[e];rfl,λq hq=>(Xl.mp hq).elim (λe=>e▸hp) (h1 q),congrArg Nat.succ h2⟩
theorem sorted_ints(L:List (List Int))(h:L.length<64):∃L1:List (List Int),Zpc kdL ltI [.list (L.map Yg)]=some (.nd ((L1.map Yg).map OT.fz))∧(∀p∈L1,p∈L)∧L1.length=L.length:=by
 have pm:=Zk3 PyData.none (lk kdL ltI (L.map Yg)) (L.map Yg)
 obtain⟨L1,e,h1,h2⟩:=members (f:=Yg) (L:=L) (l:=sLay PyData.none (lk kdL ltI (L.map Yg)) (L.map Yg)) λd m=>by
  obtain⟨p,hp,rfl⟩:=XQ.mp (pm.mem_iff.mp m)
  exact⟨p,hp,rfl⟩
 refine⟨L1,?_,h1,by rw[h2,pm.length_eq,Xg]⟩
 show(if(decide ((L.map Yg).length<64)&&(L.map Yg).all λd=>(kdL d).isSome)=true then some (OT.nd ((sLay PyData.none (lk kdL ltI (L.map Yg)) (L.map Yg)).map OT.fz))else none)=_
 rw[if_pos,e]
 rw[XN,decide_eq_true_eq,Xg,VD]
 refine⟨h,λd m=>?_⟩
 obtain⟨p,_,rfl⟩:=XQ.mp m
 show(Zin (p.map Xo)).isSome=true
 rw[Zh9];rfl
theorem Zm4{n:Nat}(h0:1≤n)(hn:n≤6):∃Ls:List (List Int),Told J3 [.int n] (.list (Ls.map Yg))∧(∀s∈Ls,s∈sdL (n-1)∧s≠[])∧Ls.length<64:=by
 have p2:∀{k:Nat},k≤5->(sdL k).length≤32:=fun{k} hk=>by
  rw[Z1b]
  exact QF (VL (by decide) hk) (by decide)
 have l64:(sdL (n-1)).length<64:=Nat.lt_of_le_of_lt (p2 (by omega)) (by decide)
 obtain⟨L1,eS,hS,lS⟩:=sorted_ints (sdL (n-1)) l64
 refine⟨L1.filter λs=>decide (0<s.length),?_,λs hs=>?_,Nat.lt_of_le_of_lt (U9 ..) (lS▸l64)⟩
 ·refine Z4 rfl<|Ye (Zy (Zaw (Zb (Zaw Ze (show 0≤1000 by decide)) Ze) (show 1≤1000 by decide)))<|
   Zs7 (ds:=Zd4 1 (n-1)) (λk δ=>∃z2,δ=[some (.fz (.int n)),some (.fz (.list ((sdL k).map Yg))),z2]) (Z42 (m:=1) (Zb Zt (Zb Za Ze)) (by decide) (by omega)) ⟨none,rfl⟩ (λk d δ hd q=>?_) λδ' q=>?_
  ·obtain⟨z2,rfl⟩:=q
   obtain⟨hk,rfl⟩:=Wh hd
   have lk:=p2 (k:=k) (by omega)
   refine⟨_,_,rfl,.inl (Zy (EvV.cast (Zo5 (ds:=(sdL k).map Yg) (es:=(sdL k).map λs=>Yg (s ++ [(k:Int)+1])) Za (Zdx (cs:=[some (.fz (.int (1+(k:Int))))]) (sdL k) Yg (λs=>Yg (s ++ [(k:Int)+1])) (Zat Za) (by omega) rfl λs hs=>?_) (by rw[Xg,Xg];omega)) (y:=.list ((sdL (k+1)).map Yg)) ?_)),_,rfl⟩
   ·have ls:=(Zyg k s hs).1
    exact(Zo5 (ds:=s.map Xo) (es:=[.int (1+(k:Int))]) Za (Zaw (Zb Za Ze) (show 1≤1000 by decide)) (by rw[Xg];show _+1≤_;omega)).cast (by unfold Yg;rw[Q8,Int.add_comm];rfl)
   ·rw[sdL,Q8,Qp];rfl
  ·obtain⟨z2,rfl⟩:=q
   rw[Y0]
   refine Wy (Zji (cs:=[]) L1 Yg (λs=>decide (0<s.length)) (Zat (Z8v (Zb Za Ze) eS (by rw[OT.data_nd,OT.map_fz]))) (by omega) rfl (λs _=>Zci (Zq5 (Zug (ds:=s.map Xo) Za) Zt (decide_eq_decide.mpr (by rw[Xg];omega)))) λs _ _=>rfl)
 ·obtain⟨h1,h2⟩:=Bo.mp hs
  exact⟨hS s h1,List.length_pos_iff.mp (of_decide_eq_true h2)⟩
theorem Yah{S:Nat->Nat->Int}{n:Nat}{B:Int}(hS:∀x y,x<n->y<n->0≤S x y∧S x y≤B){i j k l:Nat}(hi:i<n)(hj:j<n)(hk:k<n)(hl:l<n):rl S i j k l≤2*B:=by
 have:=hS i j hi hj
 have:=hS k l hk hl
 have:=hS i k hi hk
 have:=hS j l hj hl
 have:=hS i l hi hl
 have:=hS j k hj hk
 unfold rl
 omega
theorem Z10{n:Nat}(hn:n≤100){R:Nat->Nat->Int}{b B:Int}(hR:Sm R B)(hb:0<b)(bb:Bt 300 b)(bR:∀i j,Bt 300 (R i j)):∃m S,Told Yj [tbD (Zbj n R b)] (.int m)∧Told Y8 [.int m,tbD (Zbj n R b)] (Zd2 n S)∧0<m∧m≤b∧Bt 300 m∧∀x y,x<n->y<n->0≤S x y∧S x y≤B:=by
 have hz:∀r∈Zbj n R b,r.length≤1000:=λr hr=>by
  unfold Zbj at hr
  obtain⟨x,_,rfl⟩:=XQ.mp hr
  rw[Xg,XH];omega
 have hB:Z2b (Zbj n R b) b:=λr hr q hq=>by
  unfold Zbj at hr
  obtain⟨x,_,rfl⟩:=XQ.mp hr
  obtain⟨y,_,rfl⟩:=XQ.mp hq
  exact Znu (by omega)
 have hN:∀r∈Zbj n R b,∀q∈r,Bt 300 q.num:=λr hr q hq=>by
  unfold Zbj at hr
  obtain⟨x,hx,rfl⟩:=XQ.mp hr
  obtain⟨y,hy,rfl⟩:=XQ.mp hq
  exact Zi5 (by omega) (bR x y)
 obtain⟨m,e1,m0,hm,k,rfl⟩:=Zdn hb bb (by decide) (Zbj n R b) hz hB
 have k0:0<k:=by
  by_cases c:0<k
  ·exact c
  ·have:=Vo (a:=m) (b:=k) (by omega) (by omega)
   omega
 have bm:Bt 300 m:=Zhr hb ⟨k,rfl⟩ bb
 have e2:=Zff m0 bm (Zbj n R (m*k)) (by rw[Zjy];omega) hz hm hN
 have sc:∀x y,x<n->y<n->k*scI m (Xu (R x y) (m*k))=R x y:=λx y hx hy=>by
  have hd:((Xu (R x y) (m*k)).den:Int)∣m:=hm _ (XQ.mpr ⟨x,X5.mpr hx,rfl⟩) _ (XQ.mpr ⟨y,X5.mpr hy,rfl⟩)
  have:=Zr7 hd
  have e:((k*scI m (Xu (R x y) (m*k)):Int):Rat)=((R x y:Int):Rat):=by
   have nk:((k:Int):Rat)≠0:=by
    intro z
    have:k=0:=by exact_mod_cast z
    omega
   have nm:((m:Int):Rat)≠0:=by
    intro z
    have:m=0:=by exact_mod_cast z
    omega
   rw[Vk,this,Qq,Vk]
   rw[Rat.mul_comm,Rat.mul_assoc]
   exact Ug (λz=>(Rat.mul_eq_zero.mp z).elim nm nk)
  exact_mod_cast e
 obtain⟨S,hS⟩:∃S:Nat->Nat->Int,S= λi j=>scI m (Xu (R i j) (m*k)):=⟨_,rfl⟩
 have sc':∀x y,x<n->y<n->k*S x y=R x y:=λx y hx hy=>by rw[hS];exact sc x y hx hy
 have er:QH ((Zbj n R (m*k)).map λr=>.list (r.map λq=>.int (scI m q)))=Zd2 n S:=by
  rw[hS]
  unfold Zbj Zd2
  rw[Qp]
  refine congrArg QH (Xy λi _=>?_)
  show QH _=Z2k _ _
  rw[Qp];rfl
 rw[er]at e2
 refine⟨m,S,e1,e2,m0,?_,bm,λx y hx hy=>?_⟩
 ·have:=BL (show 1≤k by omega) (show 0≤m by omega)
  omega
 ·have h1:=sc' x y hx hy
  have r0:=hR.lo x y
  have r1:=hR.hi x y
  have s0:0≤S x y:=by
   refine Int.not_lt.mp λz=>?_
   have:=Int.mul_neg_of_pos_of_neg k0 z
   omega
  have:=Int.mul_le_mul_of_nonneg_right (show 1≤k by omega) s0
  exact⟨s0,by omega⟩
noncomputable def Wq(bot:Int)(q:Rat):Prop:=∃x,q=Xu x (2*bot)∧0≤x∧x≤6000000000000000000000
theorem Z2z{b:Int}(h0:0<b)(h1:b≤12):Bt 300 b:=Bt.mono (m:=4) (Bt.of_lt (by omega) (by omega)) (by decide)
theorem Zwm{R:Nat->Nat->Int}(h:Sm R 3000000000000000000000)(i j:Nat):Bt 300 (R i j):=Zpv (m:=80) (h.lo i j) (Qa (h.hi i j) (by decide +kernel)) (by decide)
theorem Ztx{n:Nat}{R:Nat->Nat->Int}{b:Int}{δ:Zg}(h:δ[0]? =some (some (.fz (tbD (Zbj n R b))))):EvV (Zce Zgx (Zc (Zd 0) Zm)) δ (.int n):=Zaj (Zb (Za h) Ze) (by rw[Zyu,Zjy])
theorem Zng{n:Nat}(h1:1≤n)(hn:n≤6){R:Nat->Nat->Int}{b:Int}(hR:Sm R 3000000000000000000000)(hb:0<b)(b12:b≤12):∃L bot,Told Js [tbD (Zbj n R b),fnD "split_rule"] (Zpm L)∧L.length<64∧0<bot∧bot≤12∧∀p∈L,Wq bot p.2:=by
 obtain⟨m,S,e1,e2,m0,m1,bm,hS⟩:=Z10 (n:=n) (by omega) hR hb (Z2z hb b12) (Zwm hR)
 obtain⟨Ls,eC,hL,lL⟩:=Zm4 h1 hn
 obtain⟨δ',e3,L,z5,z6,rfl,l3,hW⟩:=Zhs (it:=Zgs (Zv J3 (Zc (Zce Zgx (Zc (Zd 0) Zm)) Zm))) (g:=gNm 5) (S:=(Zz (wE (Zv Z0 (Zc (Zd 3) (Zc (Zd 5) (Zc (Zd 1) Zm)))) (Yt 6))
  (Zax (tV (Zh gGt (Zd 6) (fC (.int 0))))
  (W5 4 (Zkx (Zc (Zd 5) (Zc (Zv Yb (Zc (Zd 6) (Zc (Zh Zes (fC (.int 2)) (Zd 2)) Zm))) Zm))))
  fNx))) (δ:=[some (.fz (tbD (Zbj n R b))),some (.fz (fnD "split_rule")),some (.fz (.int m)),some (.fz (Zd2 n S)),some (.nd []),none,none]) (ds:=Ls.map Yg)
  (λk δ=>∃L z5 z6,δ=[some (.fz (tbD (Zbj n R b))),some (.fz (fnD "split_rule")),some (.fz (.int m)),some (.fz (Zd2 n S)),some (Z3i L),z5,z6]∧L.length≤k∧∀p∈L,Wq m p.2) (Zat (Zq (Zb (Ztx rfl) Ze) eC)) ⟨[],none,none,rfl,Qn _,λp hp=>nomatch hp⟩ (λk d δ hd q=>by
   obtain⟨L,z5,z6,rfl,lk,hW⟩:=q
   rw[Xm]at hd
   cases e:Ls[k]? with
   | none=>rw[e]at hd;cases hd
   | some s=>
    rw[e]at hd
    cases hd
    have kl:k<Ls.length:=(Xk.mp e).1
    obtain⟨s1,s2⟩:=hL s (Qv e)
    obtain⟨a1,_,a3⟩:=Zyg _ s s1
    have hA:∀x∈s,1≤x∧x<n:=λx hx=>⟨(a3 x hx).1,by have:=(a3 x hx).2;omega⟩
    obtain⟨mS,hm,eL⟩:=Zn2 (S:=S) (A:=s) (n:=n) (by omega) (by omega) hA s2
    have hle:mS≤6000000000000000000000:=by
     obtain⟨⟨p,hp,q,hq,e⟩,_⟩:=hm
     obtain⟨p1,p2⟩:=Zi6 hp
     obtain⟨q1,q2⟩:=Zi6 hq
     have b1:=hA _ p1
     have b2:=hA _ p2
     obtain⟨c1,c2,_⟩:=Ze6.mp q1
     obtain⟨c3,c4,_⟩:=Ze6.mp q2
     rw[e]
     exact Qa (Yah hS (show p.1.toNat<n by omega) (show p.2.toNat<n by omega) (show q.1.toNat<n by omega) (show q.2.toNat<n by omega)) (by decide +kernel)
    have eF:=Zew (n:=302) (t:=max 0 mS) (b:=2*m) (by omega) (Bt.mul (m:=2) (Bt.of_lt (by decide) (by decide)) bm)
    by_cases c:0<max 0 mS
    ·refine⟨_,_,rfl,.inl (Jm (Zy (Zq (Zb Za (Zb Za (Zb Za Ze))) eL)) (Za2 (Zci (Zq5 Za Zt (decide_eq_true c))) (Zmo (d:=ctD (s,Xu (max 0 mS) (2*m))) (ts:=(L.map ctD).map OT.fz) (Zgk (Zb Za (Zb (Zq (Zb Za (Zb (Zrr Zt Za) Ze)) eF) Ze)) (show 2≤1000 by decide)) rfl (by rw[Xg,Xg];omega)))),L ++ [(s,Xu (max 0 mS) (2*m))],some (.fz (Yg s)),some (.fz (.int (max 0 mS))),?_,?_,λp hp=>?_⟩
     ·show _=[_,_,_,_,some (Z3i (L ++ [(s,Xu (max 0 mS) (2*m))])),some (.fz (Yg s)),some (.fz (.int (max 0 mS)))]
      unfold Z3i
      rw[Q8,Q8];rfl
     ·rw[Qx];exact VG lk
     ·rcases QC.mp hp with hp|hp
      ·exact hW p hp
      ·rw[XC.mp hp]
       exact⟨max 0 mS,rfl,by omega,by omega⟩
    ·exact⟨_,_,rfl,.inl (Jm (Zy (Zq (Zb Za (Zb Za (Zb Za Ze))) eL)) (W7 (Zci (Zq5 Za Zt (decide_eq_false c))) rfl)),L,_,_,rfl,Nat.le_succ_of_le lk,hW⟩)
 refine⟨L,m,Z4 rfl<|Ye (Zy (Zq (Zb Za Ze) e1))<|Ye (Zy (Zq (Zb Za (Zb Za Ze)) e2))<|Ye Zlj<|Ye e3 (Z8d rfl (Zrb L)),?_,m0,by omega,hW⟩
 rw[Xg]at l3
 omega
theorem Ztl{S S':FS}{δ δ':Zg}{c:Str}(h:S δ= .ex c δ'):Zz S S' δ= .ex c δ':=by unfold Zz;rw[h]
section
variable {n:Nat}{R:Nat->Nat->Int}{b:Int}
noncomputable def LgR(n:Nat)(R:Nat->Nat->Int):Prop:=sc3 n (shI R) tpI=none
theorem Zsg(hn:n≤10)(hR:Sm R 3000000000000000000000)(hb:0<b)(b12:b≤12)(h:LgR n R):Told Z6 [tbD (Zbj n R b)] .none:=by
 rw[Zjv]
 exact Zl7 hn (Z56 hb (Z2z hb b12) (Zwm hR)) (by rw[Z2y hb];exact h)
theorem Zq2(hn:n≤10)(hR:Sm R 3000000000000000000000)(hb:0<b)(b12:b≤12)(h:¬LgR n R):Z6 [tbD (Zbj n R b)]= .exn "NoTable" :=by
 rw[Zjv]
 have e:sc3 n (shR λi j=>Xu (R i j) b) tpI=sc3 n (shI R) tpI:=by rw[Z2y hb]
 rcases Zg2 (n:=n) (c:=shI R) (v:=tpI)with z|⟨_,i,j,k,z⟩
 ·exact(h z.2).elim
 ·exact Zma hn (Z56 hb (Z2z hb b12) (Zwm hR)) (e.trans z)
theorem Zmx(hn:n≤10)(hR:Sm R 3000000000000000000000)(hb:0<b)(b12:b≤12)(h:LgR n R){A:List Int}(hl:A.length≤10)(hA:∀x∈A,1≤x∧x<n)(ne:A≠[]):∃q,Told Yo [tbD (Zbj n R b),Yg A] (frD q):=by
 obtain⟨m,hm,eW⟩:=Zlc (R:=R) (b:=b) (A:=A) (n:=n) (by omega) (by omega) hA ne hb (Z2z hb b12) λi j _ _=>Zwm hR i j
 exact⟨_,Z4 rfl<|Ye (Z6z (Zb Za Ze) (Zsg hn hR hb b12 h) λo _=>rfl) (Yby (Zb Za (Zb Za (Zb Zt Ze))) eW)⟩
theorem Zmt(hn:n≤10)(hR:Sm R 3000000000000000000000)(hb:0<b)(b12:b≤12)(h:¬LgR n R)(d:Xa):Yo [tbD (Zbj n R b),d]= .exn "NoTable" :=
 Zon rfl (Ztl (Zh7 (Zb Za Ze) (Zq2 hn hR hb b12 h)))
theorem Zpf(h1:1≤n)(hn:n≤6)(hR:Sm R 3000000000000000000000)(hb:0<b)(b12:b≤12)(h:LgR n R):∃L bot,Told Yc [tbD (Zbj n R b)] (Zpm L)∧L.length<64∧0<bot∧bot≤12∧∀p∈L,Wq bot p.2:=by
 obtain⟨L,bot,e,l,b0,b1,hW⟩:=Zng h1 hn hR hb b12
 exact⟨L,bot,Z4 rfl<|Ye (Z6z (Zb Za Ze) (Zsg (by omega) hR hb b12 h) λo _=>rfl) (Wy (Zq (Zb Za (Zb Zt Ze)) e)),l,b0,b1,hW⟩
theorem Zn3(hn:n≤10)(hR:Sm R 3000000000000000000000)(hb:0<b)(b12:b≤12)(h:¬LgR n R):Yc [tbD (Zbj n R b)]= .exn "NoTable" :=
 Zon rfl (Ztl (Zh7 (Zb Za Ze) (Zq2 hn hR hb b12 h)))
theorem Z4x(hn:n≤10)(hR:Sm R 3000000000000000000000)(hb:0<b)(b12:b≤12)(h:¬LgR n R):∀{F:FD},F=Yk->F [tbD (Zbj n R b)]= .exn "NoTable" :=by
 intro F hF
 subst hF
 exact Zon rfl (Ztl (Z57 (Ztx rfl) (Zb Za Ze) (Zn3 hn hR hb b12 h)))
end
theorem Zve{q r:Rat}(bq:Bt 400 q.num)(dq:Bt 400 (q.den:Int))(br:Bt 400 r.num)(dr:Bt 400 (r.den:Int)):Told Zbr [frD q,frD r] (frD (q-r)):=by
 rw[←Ztg]
 exact Z4 rfl<|Wy<|Zq (Zb (Zi9 (Zn (Wb (d:=.int q.num) Za Zt rfl) (Wb (d:=.int (r.den:Int)) Za Zt rfl) (Ju (Wm bq dr))) (Zn (Wb (d:=.int r.num) Za Zt rfl) (Wb (d:=.int (q.den:Int)) Za Zt rfl) (Ju (Wm br dq)))) (Zb (Zn (Wb (d:=.int (q.den:Int)) Za Zt rfl) (Wb (d:=.int (r.den:Int)) Za Zt rfl) (Ju (Wm dq dr))) Ze)) (Zek (Int.ne_of_gt (Int.mul_pos (Zah q) (Zah r))) (dq.mul dr))
theorem Zyc{bot:Int}:∀(xs:List Rat),(∀q∈xs,Wq bot q)->∃y,xs.sum=Xu y (2*bot)∧0≤y∧y≤(xs.length:Int)*6000000000000000000000
 | [],_=>⟨0,by rw[List.sum_nil,Rat.zero_divInt],Us _,by decide⟩
 | q :: xs,h=>by
  obtain⟨y,e,y0,y1⟩:=Zyc xs λr hr=>h r (.tail _ hr)
  obtain⟨x,ex,x0,x1⟩:=h q (.head _)
  refine⟨x+y,by rw[List.sum_cons,e,ex,Zrq],by omega,?_⟩
  rw[Bw,Int.natCast_add,Int.add_mul,Int.natCast_one,Int.one_mul]
  omega
structure Q4(q:Rat):Prop where
 num:Bt 400 q.num
 den:Bt 400 (q.den:Int)
theorem Z0u{y b:Int}(hb:0<b)(bb:b≤24)(y0:0≤y)(y1:y≤600000000000000000000000):Q4 (Xu y b) :=
 ⟨Zi5 (by omega) (Zpv (m:=100) y0 (Qa y1 (by decide +kernel)) (by decide)),Zqu (by omega) (Bt.mono (m:=5) (Bt.of_lt (by omega) (by omega)) (by decide))⟩
noncomputable def Qm(L:List (List Int×Rat))(i j:Nat):Rat:=if i<j then SmL L i j else if j<i then SmL L j i else 0
theorem Z9x(L:List (List Int×Rat))(i j:Nat):Zme (Zik L) i j=frD (Qm L i j):=by
 unfold Zme Qm
 split
 ·rfl
 ·split
  ·rfl
  ·rfl
theorem Zxw{L:List (List Int×Rat)}{bot:Int}(hl:L.length<64)(b0:0<bot)(b1:bot≤12)(hW:∀p∈L,Wq bot p.2)(i j:Nat):Q4 (SmL L i j):=by
 unfold SmL
 obtain⟨y,e,y0,y1⟩:=Zyc (bot:=bot) ((L.filter (prt i j)).map λp=>p.2) λq hq=>by
  obtain⟨p,hp,rfl⟩:=XQ.mp hq
  exact hW p (Bo.mp hp).1
 rw[e]
 refine Z0u (by omega) (by omega) y0 (Qa y1 ?_)
 have:(L.filter (prt i j)).length≤L.length:=U9 ..
 rw[Xg]
 omega
theorem Z7t{L:List (List Int×Rat)}{bot:Int}(hl:L.length<64)(b0:0<bot)(b1:bot≤12)(hW:∀p∈L,Wq bot p.2)(i j:Nat):Q4 (Qm L i j):=by
 unfold Qm
 split
 ·exact Zxw hl b0 b1 hW i j
 ·split
  ·exact Zxw hl b0 b1 hW j i
  ·have:=Z0u (y:=0) (b:=1) (by decide) (by decide) (by decide) (by decide)
   rwa[Rat.zero_divInt]at this
section
variable {n:Nat}{R:Nat->Nat->Int}{b:Int}
theorem Z4e(h1:1≤n)(hn:n≤6)(hR:Sm R 3000000000000000000000)(hb:0<b)(b12:b≤12)(h:LgR n R):∃ds,Told Yk [tbD (Zbj n R b)] (.list ds):=by
 obtain⟨L,bot,eS,hl,b0,b1,hW⟩:=Zpf h1 hn hR hb b12 h
 have eT:Told Wx [.int n,Zpm L] (Wl n (frG (Qm L))):=by
  refine⟨_,Znx (n:=n) (by omega) L hl (B:=2*bot) (by omega) (Bt.mono (m:=6) (Bt.of_lt (by omega) (by omega)) (by decide)) λp hp=>?_,?_⟩
  ·obtain⟨x,e,x0,x1⟩:=hW p hp
   rw[e]
   exact⟨Znu (by omega),Zi5 (by omega) (Zpv (m:=100) x0 (Qa x1 (by decide +kernel)) (by decide))⟩
  ·rw[Za0]
   unfold Wl
   exact congrArg QH (Xy λi _=>congrArg QH (Xy λj _=>Z9x L i j))
 obtain⟨T,hT⟩:∃T:Nat->Nat->Rat,T= λi j=>Xu (R i j) b:=⟨_,rfl⟩
 have eg:tbD (Zbj n R b)=Wl n (frG T):=by rw[hT];exact Zjv n R b
 have qT:∀i j,Q4 (T i j):=λi j=>by rw[hT];exact Z0u hb (by omega) (hR.lo i j) (Qa (hR.hi i j) (by decide +kernel))
 have hlen:EvV (Zce Zgx (Zc (Zd 0) Zm)) [some (.fz (tbD (Zbj n R b))),none,none,none,none] (.int n):=Ztx rfl
 rw[eg]at eS hlen⊢
 have gd:∀f,Wl n f= .list ((Xj n).map λi=>.list ((Xj n).map λj=>f i j)):=λf=>rfl
 obtain⟨δ',e3,ts,z3,z4,rfl,l3⟩:=Zhs (it:=Zea (Zc (Zd 0) (Zc (Zd 1) Zm))) (g:=gTp 2 (gCn (gNm 3) (gCn (gNm 4) gNl))) (S:=W5 2 (Y9 2 [] (Zea (Zc (Zd 3) (Zc (Zd 4) Zm))) (gTp 2 (gCn (gNm 0) (gCn (gNm 1) gNl))) Zfg (Zv Zbr (Zc (Zd 0) (Zc (Zd 1) Zm)))))
  (δ:=[some (.fz (Wl n (frG T))),some (.fz (Wl n (frG (Qm L)))),some (.nd []),none,none]) (ds:=(Xj n).map λi=>.tuple [.list ((Xj n).map λj=>frG T i j),.list ((Xj n).map λj=>frG (Qm L) i j)])
  (λk δ=>∃ts z3 z4,δ=[some (.fz (Wl n (frG T))),some (.fz (Wl n (frG (Qm L)))),some (.nd ts),z3,z4]∧ts.length≤k) (Zg8 (Za (d:=Wl n (frG T)) rfl) (Za (d:=Wl n (frG (Qm L))) rfl) (Zkj _ _ _)) ⟨[],none,none,rfl,Qn _⟩ (λk d δ hd q=>by
   obtain⟨ts,z3,z4,rfl,lk⟩:=q
   rw[Xm]at hd
   have hk:k<n:=by
    refine Nat.lt_of_not_le λz=>?_
    rw[JQ (by rw[XH];exact z)]at hd
    cases hd
   rw[QB hk]at hd
   cases hd
   refine⟨_,_,rfl,.inl (Zmo (ts:=ts) (Zvy (Xj n) (λj=>.tuple [frG T k j,frG (Qm L) k j]) (λj=>frD (T k j-Qm L k j)) (Zg8 (Za rfl) (Za rfl) (Zkj _ _ _)) (by rw[XH];omega) λj _ z0 z1=>⟨_,_,rfl,Zq (Zb (Za rfl) (Zb (Za rfl) Ze)) (Zve (qT k j).num (qT k j).den (Z7t hl b0 b1 hW k j).num (Z7t hl b0 b1 hW k j).den)⟩) rfl (by omega)),_,_,_,rfl,?_⟩
   rw[Qx];exact VG lk)
 exact⟨_,Z4 rfl<|Ye (Z6d (r:=.nx [some (.fz (Wl n (frG T))),some (.fz (Wl n (frG (Qm L)))),none,none,none]) hlen (Zb Za Ze) eS eT λo ho=>by rw[Zia,ho];rfl)<|Ye Zlj<|Ye e3 (Z8d rfl (OT.data_nd ts))⟩
end
theorem Z3b{xs:List Str}{u h0:FS}{D:Str}{k:Nat}{δ δ':Zg}(h:u δ= .nx δ'):Zzb xs u D k h0 δ= .nx δ':=by unfold Zzb;rw[h]
theorem Zku:Told Ww [exD "NoTable"] (.bool true) :=
 Z4 rfl<|Ye (W7 (Zvq (Zzi (p:=false) (x :="NoTable") Za rfl (by decide +kernel))) rfl) (Wy (Zoq (Zxg (p:=true) (x :="NoTable") Za rfl (by decide +kernel)) (Zxg (p:=true) (x :="NoTable") Za rfl (by decide +kernel))))
noncomputable def aE(t s:Xa)(w:Int)(f:Xa):Zg:=[some (.fz t),some (.fz s),some (.fz (.int w)),some (.fz .none),some (.fz f),none]
section
variable {t s d:Xa}{w:Int}
theorem Zf6(hd:Zjb d .none=some (.bool true))(h:(Zax (tV (Zh gEq (Zd 2) (fC (.int 0))))
  (wX Yo (Zc (Zd 0) (Zc (Zd 1) Zm)) (Yt 4))
  (Zax (tV (Zh gEq (Zd 2) (fC (.int 1))))
  (wX Yc (Zc (Zd 0) Zm) (Yt 4))
  (wX Yk (Zc (Zd 0) Zm) (Yt 4)))) (aE t s w .none)= .nx (aE t s w d)):Told Wj [t,s,.int w] (.str "told") :=
 Z4 rfl<|Ye (Zy Zt)<|Ye (Zy Zt)<|Ye (Z3b h)<|Zkc (Zt7 (Zci (Zn Za Zt rfl)) (Wy (Wb (Zaw (Zb Zt (Zb Zt Ze)) (show 2≤1000 by decide)) (Zaj (Zb (Zn Za Zt hd) Ze) (Zhf true)) rfl)))
theorem Zhp(h:(Zax (tV (Zh gEq (Zd 2) (fC (.int 0))))
  (wX Yo (Zc (Zd 0) (Zc (Zd 1) Zm)) (Yt 4))
  (Zax (tV (Zh gEq (Zd 2) (fC (.int 1))))
  (wX Yc (Zc (Zd 0) Zm) (Yt 4))
  (wX Yk (Zc (Zd 0) Zm) (Yt 4)))) (aE t s w .none)= .ex "NoTable" (aE t s w .none)):Told Wj [t,s,.int w] (.str "refused") :=
 Z4 rfl<|Ye (Zy Zt)<|Ye (Zy Zt)<|Ye (Z7o h (by decide +kernel) (Zy (Za (d:=exD "NoTable") rfl)))<|Ye (W7 (Zci (Zn (Za (d:=exD "NoTable") rfl) Zt rfl)) rfl) (Wy (Wb (Zaw (Zb Zt (Zb Zt Ze)) (show 2≤1000 by decide)) (Zaj (Zb (Zq (Zb (Za (d:=exD "NoTable") rfl) Ze) Zku) Ze) (Zhf true)) rfl))
end
theorem Z1c{d:Xa}{n:Nat}(h:Sh n d)(hn:n≤64)(hp:Wo d=true):gEq d d=some (.bool true)∧gNe d d=some (.bool false):=by
 have s:=(h.shp hn).ok
 unfold gEq gNe
 rw[if_pos (by rw[s];rfl),if_pos (by rw[s];rfl),Zoo hp]
 exact⟨rfl,rfl⟩
theorem Zui{w:Str}(h:Vq w=true):Sh 0 (.str w):=⟨by rw[JV];exact h,Nat.le_of_eq rfl⟩
theorem Zhd(w:Str):Wo (.str w)=true:=by rw[Wo]
theorem Zow{w:Str}(h:Vq w=true):gNe (.str w) (.str w)=some (.bool false)∧gEq (.str w) (.str w)=some (.bool true):=by
 have:=Z1c (Zui h) (by decide) (Zhd w)
 exact⟨this.2,this.1⟩
theorem Z4u{a b:Str}(ha:Vq a=true)(hb:Vq b=true)(h:a≠b):gNe (.str a) (.str b)=some (.bool true)∧gEq (.str a) (.str b)=some (.bool false):=by
 have s1:=((Zui ha).shp (by decide)).ok
 have s2:=((Zui hb).shp (by decide)).ok
 unfold gNe gEq
 rw[if_pos (by rw[s1,s2];rfl),if_pos (by rw[s1,s2];rfl),Z2q (Zhd a) (Zhd b) λz=>h (Xa.str.inj z)]
 exact⟨rfl,rfl⟩
theorem Znq:Vq "told"=true:=by decide +kernel
theorem Zi7:Vq "refused"=true:=by decide +kernel
theorem Z17:gEq (.str "refused") (.str "told")=some (.bool false):=(Z4u Zi7 Znq (by decide +kernel)).2
noncomputable def Zw8(l:Bool):Str:=if l=true then"told"else"refused"
theorem Z4y(l:Bool):Vq (Zw8 l)=true:=by cases l;exact Zi7;exact Znq
theorem Z54(l:Bool):gEq (.str (Zw8 l)) (.str "told")=some (.bool l):=by
 cases l
 ·exact Z17
 ·exact(Zow Znq).2
section
variable {n:Nat}{R:Nat->Nat->Int}{b:Int}
open Classical in
theorem Zup(h1:1≤n)(hn:n≤10)(hR:Sm R 3000000000000000000000)(hb:0<b)(b12:b≤12){y:Int}(y0:1≤y)(y1:y<n){l:Bool}(hl:l=true↔LgR n R){w:Nat}(hw:w<3)(hq:l=true->w=0∨n≤6):Told Wj [tbD (Zbj n R b),Yg [y],.int (w:Int)] (.str (Zw8 l)):=by
 have ww:w=0∨w=1∨w=2:=by omega
 cases l with
 | true=>
  have h:=hl.mp rfl
  obtain rfl|rfl|rfl:=ww
  ·obtain⟨q,e⟩:=Zmx (A:=[y]) hn hR hb b12 h (show 1≤10 by decide) (λx hx=>by rw[XC.mp hx];exact⟨y0,y1⟩) (by intro z;cases z)
   exact Zf6 (d:=frD q) rfl (Za2 (Zci (Zex Za Zt rfl)) (Z6z (Zb Za (Zb Za Ze)) e λo ho=>by rw[Zia,ho];rfl))
  ·obtain⟨L,bot,e,_⟩:=Zpf h1 ((hq rfl).resolve_left (by decide)) hR hb b12 h
   exact Zf6 (d:=Zpm L) rfl (W7 (Zci (Zex Za Zt rfl)) (Za2 (Zci (Zex Za Zt rfl)) (Z6z (Zb Za Ze) e λo ho=>by rw[Zia,ho];rfl)))
  ·obtain⟨ds,e⟩:=Z4e h1 ((hq rfl).resolve_left (by decide)) hR hb b12 h
   exact Zf6 (d:=.list ds) rfl (W7 (Zci (Zex Za Zt rfl)) (W7 (Zci (Zex Za Zt rfl)) (Z6z (Zb Za Ze) e λo ho=>by rw[Zia,ho];rfl)))
 | false=>
  have h:¬LgR n R:=λz=>nomatch hl.mpr z
  obtain rfl|rfl|rfl:=ww
  ·exact Zhp (Za2 (Zci (Zex Za Zt rfl)) (Zh7 (Zb Za (Zb Za Ze)) (Zmt hn hR hb b12 h (Yg [y]))))
  ·exact Zhp (W7 (Zci (Zex Za Zt rfl)) (Za2 (Zci (Zex Za Zt rfl)) (Zh7 (Zb Za Ze) (Zn3 hn hR hb b12 h))))
  ·exact Zhp (W7 (Zci (Zex Za Zt rfl)) (W7 (Zci (Zex Za Zt rfl)) (Zh7 (Zb Za Ze) (Z4x hn hR hb b12 h rfl))))
theorem Zru(hn:n≤10)(R:Nat->Nat->Int):∃l:Bool,Told Wn [Wl n (inG R)] (.bool l)∧(l=true↔LgR n R):=by
 have e:=Zqb hn R
 rcases Zg2 (n:=n) (c:=shI R) (v:=λ_ _ _=>PyData.bool false)with z|⟨⟨i,j,k,hi,hj,hk,z⟩,_,_,_,z2⟩
 ·rw[z.2]at e
  refine⟨true,e,λ_=>?_,λ_=>rfl⟩
  rcases Zg2 (n:=n) (c:=shI R) (v:=tpI)with w|⟨⟨i,j,k,hi,hj,hk,w⟩,_⟩
  ·exact w.2
  ·rw[z.1 i j k hi hj hk]at w;cases w
 ·rw[z2]at e
  refine⟨false,e,λy=>(nomatch y),λy=>?_⟩
  rcases Zg2 (n:=n) (c:=shI R) (v:=tpI)with w|⟨_,i,j,k,w⟩
  ·rw[w.1 i j k hi hj hk]at z;cases z
  ·rw[show sc3 n (shI R) tpI=none from y]at w;cases w
end
theorem Z0g{F:FIO}{as:FA}{δ:Zg}{ds:List Xa}{i:Nat}{t r t':OT}(h0:δ[i]? =some (some t))(ha:EvA as δ ds)(hF:F t ds=some (r,t')):Z5 i F as δ=some (r,δ.set i (some t')):=by
 obtain⟨ts,e1,e2⟩:=ha
 rw[Zlw,h0]
 show(as δ).bind _=_
 rw[e1]
 show atO δ[i]? _=_
 rw[h0]
 show(F t (OT.datas ts)).bind _=_
 rw[e2,hF];rfl
noncomputable def lw(ns:List Int)(z1 z2 z3 z4 z5 z6 z7 z8 z9:Option OT):Zg:=[some (.fz (Yg ns)),z1,z2,z3,z4,z5,z6,z7,z8,z9]
theorem Z1m{it:FI}{g:FG}{S:FS}{δ:Zg}{ds:List Xa}{N:Zg->Prop}{R:Xa->Zg->Prop}(I:Zg->Prop)(hi:EvI it δ ds)(h0:I δ)(turn:∀d∈ds,∀δ,I δ->∃δ1,g d δ=some δ1∧EpS S δ1 I R)(fin:∀δ',I δ'->N δ'):EpS (Jk it g S) δ N R :=
 J8 (λ_=>I) hi h0 (λ_ d δ hd q=>turn d (Qv hd) δ q) fin
theorem Zu1(ns:List Int)(hl:ns.length≤63):Zfk [.list (ns.map Xo)]= .ok (.fz (.bool true)):=by
 show Zfk [Yg ns]=_
 have key:EpS Zfl (lw ns none none none none none none none none none) (λ_=>False) λd _=>d= .bool true:=by
  refine Wa (Z1m (ds:=(1000000000000000000 :: Zuz ns none (some 6)).map Xo) (λδ=>∃z1 z2 z3 z4 z5 z6 z7 z8 z9,δ=lw ns z1 z2 z3 z4 z5 z6 z7 z8 z9)
   (Zat (Zo5 (ds:=[.int 1000000000000000000]) (es:=(Zuz ns none (some 6)).map Xo) (Zaw (Zb (Zn Zt Zt Z8a) Ze) (show 1≤1000 by decide)) (Z3o (r:=ns) Za Yb4 (Yb3 Zt) rfl) ?_)) ⟨_,_,_,_,_,_,_,_,_,rfl⟩ (λd hd δ q=>?_) λδ' q=>?_)
  ·have:(Zuz ns none (some 6)).length≤ns.length:=by
    unfold Zuz
    rw[Uy,JT];omega
   rw[Xg]
   show 1+_≤_
   omega
  ·obtain⟨z1,z2,z3,z4,z5,z6,z7,z8,z9,rfl⟩:=q
   obtain⟨c,_,rfl⟩:=XQ.mp hd
   clear hd
   obtain⟨x0,eD⟩:=Z02 c
   refine⟨_,rfl,Wa (Zju (Zuo (Zb Za Ze) eD) (Wa (Zam (Zbe (Z8 Zt (Ws rfl (Zb Zt Ze) (by decide) (btc (by decide +kernel) (by decide +kernel)) λr x1 r0 r1=>⟨_,Zmc _ _,?_⟩))))))⟩
   show EpS _ (lw ns (some (.fz (.int c))) (some (dk x1)) (some (.fz (.int (3+r)))) z4 z5 z6 z7 z8 z9) _ _
   refine Wa (EpS.mono (N:=λδ=>∃(x:Int) (n:Nat),δ=lw ns (some (.fz (.int c))) (some (dk x)) (some (.fz (.int n))) z4 z5 z6 z7 z8 z9∧3≤n∧(n≤6∨n=10)) (R:=λ_ _=>False) ?_ (λδ q=>?_) λ_ _ z=>z.elim)
   ·refine Zmd (Z12 (Zbe (Ws rfl (Zb Zt Ze) (by decide) (btc (by decide +kernel) (by decide +kernel)) λr2 x2 _ _=>Z8 Zt ⟨_,Zuv _ _,_,rfl,λ_=>Zei (Zy Zt) ⟨x2,10,rfl,by decide,.inr rfl⟩,λ_=>Zi8 ⟨x2,(3+r).toNat,?_,by omega,.inl (by omega)⟩⟩)))
    rw[Bx (by omega)];rfl
   obtain⟨x2,n,rfl,n3,nn⟩:=q
   have n10:n≤10:=by omega
   obtain⟨r1',t1,eL,R0,x3,rfl,hR0,rfl⟩:=Z0q (n:=n) n10 x2
   obtain⟨o,t2,eJ,R,x4,rfl,hR,rfl⟩:=Z5s (i:=2) (a:=Z5 2 Jr (Zc (Zd 3) Zm)) (δ:=lw ns (some (.fz (.int c))) (some (dk x2)) (some (.fz (.int n))) z4 z5 z6 z7 z8 z9) rfl (Z0g rfl (Zb Za Ze) eL) rfl (Zti n3 n10 x3 hR0)
   refine Wa (Zam ⟨_,_,eJ,?_⟩)
   rw[Za0]
   show EpS _ (lw ns (some (.fz (.int c))) (some (dk x4)) (some (.fz (.int n))) (some (.fz (Wl n (inG R)))) z5 z6 z7 z8 z9) _ _
   refine Wa (Zam (Zbp rfl (Zbw ⟨dk x4,rfl,(Zsc x4).mono λd t z=>?_⟩)))
   obtain⟨b,x5,rfl,b0,b1,rfl⟩:=z
   have bp:0<b:=by omega
   refine Wa (Zam (Zyk (Zae (Zbe (Z8 Zt (Ws rfl (Zb (Zi9 Za Zt) Ze) (by omega) (Bt.mono (m:=11) (Bt.of_lt (by omega) (by omega)) (by decide)) λy x6 y0 y1=>⟨_,Zmc _ _,Zbw ⟨show 1≤1000 by decide,?_⟩⟩))))))
   show EpS _ (lw ns (some (.fz (.int c))) (some (dk x6)) (some (.fz (.int n))) (some (.fz (Wl n (inG R)))) (some (.fz (.int b))) (some (.fz (Yg [1+y]))) z7 z8 z9) _ _
   obtain⟨l,eI,hL⟩:=Zru n10 R
   have eT:Told Wi [Wl n (inG R),.int b] (tbD (Zbj n R b)):=Zls (n:=n) n10 R bp (Z2z bp b1)
   refine Wa (Zei (Zy (d:=.str (Zw8 l)) (Wb (Zaw (Zb Zt (Zb Zt Ze)) (show 2≤1000 by decide)) (Zaj (Zb (Zq (Zb Za Ze) eI) Ze) (Zhf l)) (by cases l<;>rfl))) ?_)
   show EpS _ (lw ns (some (.fz (.int c))) (some (dk x6)) (some (.fz (.int n))) (some (.fz (Wl n (inG R)))) (some (.fz (.int b))) (some (.fz (Yg [1+y]))) (some (.fz (.str (Zw8 l)))) z8 z9) _ _
   obtain⟨K,K3,hK,eK⟩:∃K:Nat,K≤3∧(∀w,w<K->l=true->w=0∨n≤6)∧EvI (iRa (Zc (Z2 gIx (Zdm (Zc (fC (.int 3)) (Zc (fC (.int 1)) Zm))) (Zce Zrf (Zc (Zvt (Zh gEq (Zd 3) (fC (.int 10))) (Zh gEq (Zd 7) (fC (.str "told")))) Zm))) Zm)) (lw ns (some (.fz (.int c))) (some (dk x6)) (some (.fz (.int n))) (some (.fz (Wl n (inG R)))) (some (.fz (.int b))) (some (.fz (Yg [1+y]))) (some (.fz (.str (Zw8 l)))) z8 z9) (Zd4 0 K):=by
    by_cases e:(n:Int)=10
    ·have h:=Zoq (δ:=lw ns (some (.fz (.int c))) (some (dk x6)) (some (.fz (.int n))) (some (.fz (Wl n (inG R)))) (some (.fz (.int b))) (some (.fz (Yg [1+y]))) (some (.fz (.str (Zw8 l)))) z8 z9) (Zex (p:=true) (Za (i:=3) rfl) Zt (decide_eq_true e)) (Zn (Za (i:=7) rfl) Zt (Z54 l))
     cases l with
     | true=>exact⟨1,by decide,λw hw _=>.inl (by omega),Zbz (n:=1) (Zb (Wb (Zaw (Zb Zt (Zb Zt Ze)) (show 2≤1000 by decide)) (Zaj (Zb h Ze) (Zhf true)) rfl) Ze) (by decide)⟩
     | false=>exact⟨3,by decide,λw hw z=>(nomatch z),Zbz (n:=3) (Zb (Wb (Zaw (Zb Zt (Zb Zt Ze)) (show 2≤1000 by decide)) (Zaj (Zb h Ze) (Zhf false)) rfl) Ze) (by decide)⟩
    ·exact⟨3,by decide,λw hw _=>.inr (by omega),Zbz (n:=3) (Zb (Wb (Zaw (Zb Zt (Zb Zt Ze)) (show 2≤1000 by decide)) (Zaj (Zb (Zwk (Zex (p:=false) (Za rfl) Zt (decide_eq_false e))) Ze) (Zhf false)) rfl) Ze) (by decide)⟩
   refine J8 (ds:=Zd4 0 K) (λ_ δ=>∃z8 z9,δ=lw ns (some (.fz (.int c))) (some (dk x6)) (some (.fz (.int n))) (some (.fz (Wl n (inG R)))) (some (.fz (.int b))) (some (.fz (Yg [1+y]))) (some (.fz (.str (Zw8 l)))) z8 z9) eK ⟨_,_,rfl⟩ (λw d δ hd q=>?_) λδ' q=>?_
   ·obtain⟨z8,z9,rfl⟩:=q
    obtain⟨hw,rfl⟩:=Wh hd
    rw[Qz]
    have eA:=Zup (n:=n) (R:=R) (b:=b) (by omega) n10 hR bp b1 (y:=1+y) (by omega) (by omega) hL (w:=w) (by omega) (hK w hw)
    refine⟨_,rfl,Wa (Zei (Zy (Zq (Zb Za (Zb Za Ze)) eT)) ?_)⟩
    exact Zei (W7 (Yax (Zci (Zn (Zq (Zb Za (Zb Za (Zb Za Ze))) eA) (Za rfl) (Zow (Z4y l)).1)) (Zci (Zn (Za (d:=tbD (Zbj n R b)) rfl) (Zq (Zb (Za rfl) (Zb (Za rfl) Ze)) eT) (Zwb (Yav _) (Zv9 _) (by decide))))) rfl) ⟨_,_,rfl⟩
   ·obtain⟨z8,z9,rfl⟩:=q
    exact⟨_,_,_,_,_,_,_,_,_,rfl⟩
  ·obtain⟨z1,z2,z3,z4,z5,z6,z7,z8,z9,rfl⟩:=q
   exact Zm2 (Z8 Zt rfl)
 rcases key with⟨_,_,z⟩|⟨o,δ',e,h⟩
 ·exact z.elim
 ·exact Told.ok (Z4 rfl ⟨o,δ',e,h⟩)
end My
namespace L2
open PySem PySem.Spec PyProof.Rows
structure Ei(K:Xb)(x:Str)(st:Stmt)(f:Addr)(fd:Xp):Prop where
 a:Qe K XD x=some (some (.ref f))
 F:Fun K x x st f fd
structure En(K:Xb)(mg:Str->Option Xc)(x:Str)(st:Stmt)(ps:List Str)(f:Addr)(fd:Xp):Prop where
 F:Fun K x x st f fd
 b:Binds K fd ps []
 m:mg x=some (.ref f)
structure Ec(K:Xb)(mg:Str->Option Xc)(x:Str)(f:Addr):Prop where
 m:mg x=some (.ref f)
 a:Vm K x f
section
variable {K:Xb}{h:Heap}{mg:Str->Option Xc}{x:Str}{st:Stmt}{f:Addr}{fd:Xp}
theorem en0(X:K.In h)(G:h.Ns XD mg)(q:Ei K x st f fd){ps:List Str}(hb:∀(kV doc pm:Xc) (an:Option Addr) (cdv ct:Xc) (us:List Xc),us.length=ps.length->bindArgs (Vd x x (Zfi st) (Jf st) (Zj st) .none kV doc pm an cdv ct) ⟨us,[]⟩=pure (ps.zip us)):En K mg x st ps f fd:=⟨q.F,q.F.binds hb,PySem.W.mg_of X G q.a⟩
noncomputable abbrev Bd(x:Str)(st:Stmt)(ps:List Str)(us:List Xc):Prop:=∀(kV doc pm:Xc) (an:Option Addr) (cdv ct:Xc),bindArgs (Vd x x (Zfi st) (Jf st) (Zj st) .none kV doc pm an cdv ct) ⟨us,[]⟩=pure (ps.zip us)
theorem l_c{us:List Xc}{n:Nat}(h:us.length=n+1):∃u vs,us=u :: vs∧vs.length=n:=by
 cases us with
 | nil=>cases h
 | cons u vs=>exact⟨u,vs,rfl,Nat.succ.inj h⟩
theorem en1(X:K.In h)(G:h.Ns XD mg)(q:Ei K x st f fd){p0:Str}(hb:∀v0,Bd x st [p0] [v0]:=by exact λ_ _ _ _ _ _ _=>rfl):En K mg x st [p0] f fd:=en0 X G q λa b c d e g us hl=>by
 have h0:us.length=1:=hl
 obtain⟨u0,us0,e0,h1⟩:=l_c h0
 cases JZ h1
 subst e0
 exact hb u0 a b c d e g
theorem en2(X:K.In h)(G:h.Ns XD mg)(q:Ei K x st f fd){p0 p1:Str}(hb:∀v0 v1,Bd x st [p0,p1] [v0,v1]:=by exact λ_ _ _ _ _ _ _ _=>rfl):En K mg x st [p0,p1] f fd:=en0 X G q λa b c d e g us hl=>by
 have h0:us.length=2:=hl
 obtain⟨u0,us0,e0,h1⟩:=l_c h0
 obtain⟨u1,us1,e1,h2⟩:=l_c h1
 cases JZ h2
 subst e1
 subst e0
 exact hb u0 u1 a b c d e g
theorem en3(X:K.In h)(G:h.Ns XD mg)(q:Ei K x st f fd){p0 p1 p2:Str}(hb:∀v0 v1 v2,Bd x st [p0,p1,p2] [v0,v1,v2]:=by exact λ_ _ _ _ _ _ _ _ _=>rfl):En K mg x st [p0,p1,p2] f fd:=en0 X G q λa b c d e g us hl=>by
 have h0:us.length=3:=hl
 obtain⟨u0,us0,e0,h1⟩:=l_c h0
 obtain⟨u1,us1,e1,h2⟩:=l_c h1
 obtain⟨u2,us2,e2,h3⟩:=l_c h2
 cases JZ h3
 subst e2
 subst e1
 subst e0
 exact hb u0 u1 u2 a b c d e g
theorem en4(X:K.In h)(G:h.Ns XD mg)(q:Ei K x st f fd){p0 p1 p2 p3:Str}(hb:∀v0 v1 v2 v3,Bd x st [p0,p1,p2,p3] [v0,v1,v2,v3]:=by exact λ_ _ _ _ _ _ _ _ _ _=>rfl):En K mg x st [p0,p1,p2,p3] f fd:=en0 X G q λa b c d e g us hl=>by
 have h0:us.length=4:=hl
 obtain⟨u0,us0,e0,h1⟩:=l_c h0
 obtain⟨u1,us1,e1,h2⟩:=l_c h1
 obtain⟨u2,us2,e2,h3⟩:=l_c h2
 obtain⟨u3,us3,e3,h4⟩:=l_c h3
 cases JZ h4
 subst e3
 subst e2
 subst e1
 subst e0
 exact hb u0 u1 u2 u3 a b c d e g
theorem en5(X:K.In h)(G:h.Ns XD mg)(q:Ei K x st f fd){p0 p1 p2 p3 p4:Str}(hb:∀v0 v1 v2 v3 v4,Bd x st [p0,p1,p2,p3,p4] [v0,v1,v2,v3,v4]:=by exact λ_ _ _ _ _ _ _ _ _ _ _=>rfl):En K mg x st [p0,p1,p2,p3,p4] f fd:=en0 X G q λa b c d e g us hl=>by
 have h0:us.length=5:=hl
 obtain⟨u0,us0,e0,h1⟩:=l_c h0
 obtain⟨u1,us1,e1,h2⟩:=l_c h1
 obtain⟨u2,us2,e2,h3⟩:=l_c h2
 obtain⟨u3,us3,e3,h4⟩:=l_c h3
 obtain⟨u4,us4,e4,h5⟩:=l_c h4
 cases JZ h5
 subst e4
 subst e3
 subst e2
 subst e1
 subst e0
 exact hb u0 u1 u2 u3 u4 a b c d e g
theorem ec(X:K.In h)(G:h.Ns XD mg)(a:Qe K XD x=some (some (.ref f))):Ec K mg x f:=⟨PySem.W.mg_of X G a,a⟩
end
theorem fsc{N P:List Str}{sc:V5}(h1:sc.kind= .function:=by rfl)(h2:sc.isCoroutine=false:=by rfl)(h3:sc.isGenerator=false:=by rfl)(h4:N.Nodup:=by decide +kernel)(h5:N.take P.length=P:=by rfl)(h6:∀x∈P,sc.names.lookup x=some .local∨sc.names.lookup x=some .cell:=by decide +kernel)(h7:∀y∈sc.names,y.2≠ .free:=by decide +kernel):Zo N P sc:=⟨h1,h2,h3,h4,h5,h6,h7⟩
end L2
namespace My
open PySem L2 PySem.Spec
noncomputable def top(i:Nat):Stmt:=PySem.Challenge.pw_farcuts_k49_no_long_table.main.body.getD i (.Pass ⟨0,0,0,0⟩)
noncomputable abbrev Zaq:Stmt:=top 59
noncomputable abbrev Zfx:Stmt:=top 19
noncomputable abbrev Jq:Stmt:=top 14
noncomputable abbrev Zfp:Stmt:=top 15
noncomputable abbrev Zt9:Stmt:=top 17
noncomputable abbrev Zcr:Stmt:=top 40
noncomputable abbrev Zco:Stmt:=top 41
noncomputable abbrev Zdt:Stmt:=top 43
noncomputable abbrev Zdc:Stmt:=top 44
noncomputable abbrev Zfu:Stmt:=top 13
noncomputable abbrev Zfh:Stmt:=top 16
noncomputable abbrev Zc7:Stmt:=top 35
noncomputable abbrev Zc9:Stmt:=top 34
noncomputable abbrev Jo:Stmt:=top 36
noncomputable abbrev Zbg:Stmt:=top 24
noncomputable abbrev Zbt:Stmt:=top 26
noncomputable abbrev Zeq:Stmt:=top 25
noncomputable abbrev Zdr:Stmt:=top 27
noncomputable abbrev Zeu:Stmt:=top 37
noncomputable abbrev Zeo:Stmt:=top 45
noncomputable abbrev Znh:Stmt:=top 18
noncomputable abbrev Zf3:Stmt:=top 29
noncomputable abbrev Zcl:Stmt:=top 38
noncomputable abbrev Zep:Stmt:=top 46
noncomputable abbrev Zf8:Stmt:=top 30
noncomputable abbrev Zen:Stmt:=top 31
noncomputable abbrev Zfo:Stmt:=top 21
noncomputable abbrev Zar:Stmt:=top 22
noncomputable abbrev Zft:Stmt:=top 32
noncomputable abbrev Zds:Stmt:=top 47
noncomputable abbrev Zev:Stmt:=top 61
noncomputable abbrev Zfq:Stmt:=top 51
noncomputable abbrev Zdy:Stmt:=top 58
noncomputable abbrev Zfs:Stmt:=top 49
noncomputable abbrev Zf2:Stmt:=top 50
noncomputable abbrev Zcs:Stmt:=top 60
noncomputable abbrev Zck:Stmt:=top 55
noncomputable abbrev Zde:Stmt:=top 54
noncomputable abbrev Zbu:Stmt:=top 56
noncomputable abbrev Zfy:Stmt:=top 57
noncomputable abbrev Zc1:Stmt:=top 62
noncomputable abbrev Zby:Stmt:=top 52
noncomputable abbrev Zem:Stmt:=top 53
noncomputable abbrev Z1f:Stmt:=top 63
set_option genInjectivity false in
set_option genSizeOfSpec false in
structure Txt(K:Xb)(mg:Str->Option Xc)(f:Nat->Addr)(fd:Nat->Xp)(cls:Nat->Addr):Prop where
 e_law_is_refused:En K mg "_law_is_refused" Zaq ["caught"] (f 0) (fd 0)
 e_is_below:En K mg "is_below" Zfx ["q","r"] (f 1) (fd 1)
 e_greatest_divisor:En K mg "greatest_divisor" Jq ["a","b"] (f 2) (fd 2)
 e_in_least:En K mg "in_least" Zfp ["top","bottom"] (f 3) (fd 3)
 e_plus:En K mg "plus" Zt9 ["q","r"] (f 4) (fd 4)
 e_is_short_by:En K mg "is_short_by" Zcr ["table","i","j","k"] (f 5) (fd 5)
 e_first_short:En K mg "first_short" Zco ["table"] (f 6) (fd 6)
 e_check_long:En K mg "check_long" Zdt ["table"] (f 7) (fd 7)
 e_split_rule:En K mg "split_rule" Zdc ["sums"] (f 8) (fd 8)
 e_is_whole:En K mg "is_whole" Zfu ["thing"] (f 9) (fd 9)
 e_fraction:En K mg "fraction" Zfh ["top","bottom"] (f 10) (fd 10)
 e_doubles_of:En K mg "doubles_of" Zc7 ["points"] (f 11) (fd 11)
 e_three_sums:En K mg "three_sums" Zc9 ["rows","i","j","k","l"] (f 12) (fd 12)
 e_least_over_sides:En K mg "least_over_sides" Jo ["rows","cut","rule"] (f 13) (fd 13)
 e_shared_bottom:En K mg "shared_bottom" Zbg ["numbers"] (f 14) (fd 14)
 e_table_bottom:En K mg "table_bottom" Zbt ["table"] (f 15) (fd 15)
 e_tops_over:En K mg "tops_over" Zeq ["bottom","numbers"] (f 16) (fd 16)
 e_table_over:En K mg "table_over" Zdr ["bottom","table"] (f 17) (fd 17)
 e_weight_by:En K mg "weight_by" Zeu ["table","cut","rule"] (f 18) (fd 18)
 e_cut_index:En K mg "cut_index" Zeo ["table","cut"] (f 19) (fd 19)
 e_minus:En K mg "minus" Znh ["q","r"] (f 20) (fd 20)
 e_all_cuts:En K mg "all_cuts" Zf3 ["n"] (f 21) (fd 21)
 e_weighted_by:En K mg "weighted_by" Zcl ["table","rule"] (f 22) (fd 22)
 e_splits_of:En K mg "splits_of" Zep ["table"] (f 23) (fd 23)
 e_sides_of:En K mg "sides_of" Zf8 ["n","cut"] (f 24) (fd 24)
 e_all_sides:En K mg "all_sides" Zen ["n","cuts"] (f 25) (fd 25)
 e_pairs_of:En K mg "pairs_of" Zfo ["n"] (f 26) (fd 26)
 e_table_of_pairs:En K mg "table_of_pairs" Zar ["n","distances"] (f 27) (fd 27)
 e_table_of:En K mg "table_of" Zft ["n","cuts"] (f 28) (fd 28)
 e_rest_table:En K mg "rest_table" Zds ["table"] (f 29) (fd 29)
 e_law_asked:En K mg "_law_asked" Zev ["table","side","way"] (f 30) (fd 30)
 e_law_take:En K mg "_law_take" Zfq ["deck","many"] (f 31) (fd 31)
 e_law_bottom:En K mg "_law_bottom" Zdy ["deck"] (f 32) (fd 32)
 e_law_stir:En K mg "_law_stir" Zfs ["cell","k"] (f 33) (fd 33)
 e_law_deck:En K mg "_law_deck" Zf2 ["cell"] (f 34) (fd 34)
 e_law_is_long:En K mg "_law_is_long" Zcs ["rows"] (f 35) (fd 35)
 e_law_add_cut:En K mg "_law_add_cut" Zck ["rows","bits","weight"] (f 36) (fd 36)
 e_law_nought:En K mg "_law_nought" Zde ["n"] (f 37) (fd 37)
 e_law_shortest:En K mg "_law_shortest" Zbu ["rows"] (f 38) (fd 38)
 e_law_long:En K mg "_law_long" Zfy ["deck","n"] (f 39) (fd 39)
 e_law_spoilt:En K mg "_law_spoilt" Zc1 ["deck","rows"] (f 40) (fd 40)
 e_law_fraction:En K mg "_law_fraction" Zby ["top","bottom"] (f 41) (fd 41)
 e_law_table:En K mg "_law_table" Zem ["rows","bottom"] (f 42) (fd 42)
 e_law:En K mg "law" Z1f ["script"] (f 43) (fd 43)
 fa_split_rule:Vm K "split_rule" (f 8)
 z_ValueError:mg "ValueError"=none
 z_abs:mg "abs"=none
 z_bool:mg "bool"=none
 z_enumerate:mg "enumerate"=none
 z_int:mg "int"=none
 z_isinstance:mg "isinstance"=none
 z_len:mg "len"=none
 z_max:mg "max"=none
 z_min:mg "min"=none
 z_range:mg "range"=none
 z_sorted:mg "sorted"=none
 z_sum:mg "sum"=none
 z_zip:mg "zip"=none
 c_CutError:Ec K mg "CutError" (cls 0)
 c_NoCut:Ec K mg "NoCut" (cls 1)
 c_NoName:Ec K mg "NoName" (cls 2)
 c_NoNumber:Ec K mg "NoNumber" (cls 3)
 c_NoOrder:Ec K mg "NoOrder" (cls 4)
 c_NoPoint:Ec K mg "NoPoint" (cls 5)
 c_NoRow:Ec K mg "NoRow" (cls 6)
 c_NoTable:Ec K mg "NoTable" (cls 7)
 c_NoText:Ec K mg "NoText" (cls 8)
 c_NoWeb:Ec K mg "NoWeb" (cls 9)
 c_TooMany:Ec K mg "TooMany" (cls 10)
 x_NoNumber:Zcj K (cls 3)
 x_NoTable:Zcj K (cls 7)
 r_CutError:Zj8 K (cls 0)
 r_NoNumber:Zj8 K (cls 3)
 r_NoTable:Zj8 K (cls 7)
 u_NoNumber_CutError:Be K (.ref (cls 3)) (.ref (cls 0))=some true
 kt_NoNumber_NoTable:Qh K (.ref (cls 3)) (.ref (cls 7))=some false
 kt_NoNumber_ValueError:Qh K (.ref (cls 3)) (.type "ValueError")=some true
 ka_NoNumber_0:Bp K (.ref (cls 3)) [.ref (cls 1),.ref (cls 2),.ref (cls 3),.ref (cls 4),.ref (cls 5),.ref (cls 6),.ref (cls 8),.ref (cls 9),.ref (cls 10)]=some true
 u_NoTable_CutError:Be K (.ref (cls 7)) (.ref (cls 0))=some true
 kt_NoTable_NoTable:Qh K (.ref (cls 7)) (.ref (cls 7))=some true
 kt_NoTable_ValueError:Qh K (.ref (cls 7)) (.type "ValueError")=some true
 ka_NoTable_0:Bp K (.ref (cls 7)) [.ref (cls 1),.ref (cls 2),.ref (cls 3),.ref (cls 4),.ref (cls 5),.ref (cls 6),.ref (cls 8),.ref (cls 9),.ref (cls 10)]=some false
theorem Txt.kx_NoTable{K:Xb}{mg:Str->Option Xc}{f:Nat->Addr}{fd:Nat->Xp}{cls:Nat->Addr}(T:Txt K mg f fd cls):∀x∈xsL,∃C,Vm K x C∧Qh K (.ref C) (.ref (cls 7))=some (Zpt x "NoTable"):=λx hx=>by
 simp only[xsL,Xl,JS,or_false]at hx
 rcases hx with rfl|rfl
 ·exact⟨_,T.c_NoNumber.a,T.kt_NoNumber_NoTable.trans (congrArg some (by decide +kernel))⟩
 ·exact⟨_,T.c_NoTable.a,T.kt_NoTable_NoTable.trans (congrArg some (by decide +kernel))⟩
theorem Txt.kx_ValueError{K:Xb}{mg:Str->Option Xc}{f:Nat->Addr}{fd:Nat->Xp}{cls:Nat->Addr}(T:Txt K mg f fd cls):∀x∈xsL,∃C,Vm K x C∧Qh K (.ref C) (.type "ValueError")=some (Zpt x "ValueError"):=λx hx=>by
 simp only[xsL,Xl,JS,or_false]at hx
 rcases hx with rfl|rfl
 ·exact⟨_,T.c_NoNumber.a,T.kt_NoNumber_ValueError.trans (congrArg some (by decide +kernel))⟩
 ·exact⟨_,T.c_NoTable.a,T.kt_NoTable_ValueError.trans (congrArg some (by decide +kernel))⟩
theorem Txt.kxt_0{K:Xb}{mg:Str->Option Xc}{f:Nat->Addr}{fd:Nat->Xp}{cls:Nat->Addr}(T:Txt K mg f fd cls):∀x∈xsL,∃C,Vm K x C∧Bp K (.ref C) [.ref (cls 1),.ref (cls 2),.ref (cls 3),.ref (cls 4),.ref (cls 5),.ref (cls 6),.ref (cls 8),.ref (cls 9),.ref (cls 10)]=some ((["NoCut","NoName","NoNumber","NoOrder","NoPoint","NoRow","NoText","NoWeb","TooMany"]:List Str).any (Zpt x)):=λx hx=>by
 simp only[xsL,Xl,JS,or_false]at hx
 rcases hx with rfl|rfl
 ·exact⟨_,T.c_NoNumber.a,T.ka_NoNumber_0.trans (congrArg some (by decide +kernel))⟩
 ·exact⟨_,T.c_NoTable.a,T.ka_NoTable_0.trans (congrArg some (by decide +kernel))⟩
theorem Txt.ku_CutError{K:Xb}{mg:Str->Option Xc}{f:Nat->Addr}{fd:Nat->Xp}{cls:Nat->Addr}(T:Txt K mg f fd cls):∀x∈xsL,Zpt x "CutError"=true->∃C,Vm K x C∧Zcj K C∧Be K (.ref C) (.ref (cls 0))=some true:=λx hx=>by
 simp only[xsL,Xl,JS,or_false]at hx
 rcases hx with rfl|rfl
 ·exact λ_=>⟨_,T.c_NoNumber.a,T.x_NoNumber,T.u_NoNumber_CutError⟩
 ·exact λ_=>⟨_,T.c_NoTable.a,T.x_NoTable,T.u_NoTable_CutError⟩
section
variable {P:X6}{w:Qt}{K:Xb}{mg:Str->Option Xc}{base:Heap}
theorem Zgc:Zo ["caught"] ["caught"] (Zj Zaq):=fsc
theorem Zgb{f:Nat->Addr}{fd:Nat->Xp}{cls:Nat->Addr}(T:Txt K mg f fd cls):FnOk P w K mg base CX0 1 (f 0) (fd 0) ["caught"] (spD K (sD Ww)):=by
 refine Yd T.e_law_is_refused.F Zgc (S:=Zai) rfl rfl (λcdv A outer s H E hr=>?_)
 have hu:=hr.units
 exact(xsq (xif (Zgf (Zge (Zwq T.kxt_0 (Zz0 (Y5 (Za5 (v:=.ref (cls 1)) (by rfl) T.c_NoCut.m rfl) (Y5 (Za5 (v:=.ref (cls 2)) (by rfl) T.c_NoName.m rfl) (Y5 (Za5 (v:=.ref (cls 3)) (by rfl) T.c_NoNumber.m rfl) (Y5 (Za5 (v:=.ref (cls 4)) (by rfl) T.c_NoOrder.m rfl) (Y5 (Za5 (v:=.ref (cls 5)) (by rfl) T.c_NoPoint.m rfl) (Y5 (Za5 (v:=.ref (cls 6)) (by rfl) T.c_NoRow.m rfl) (Y5 (Za5 (v:=.ref (cls 8)) (by rfl) T.c_NoText.m rfl) (Y5 (Za5 (v:=.ref (cls 9)) (by rfl) T.c_NoWeb.m rfl) (Y5 (Za5 (v:=.ref (cls 10)) (by rfl) T.c_TooMany.m rfl) Zgo))))))))) (λ_ _ _ h=>h) (.cons (.own _) (.cons (.own _) (.cons (.own _) (.cons (.own _) (.cons (.own _) (.cons (.own _) (.cons (.own _) (.cons (.own _) (.cons (.own _) .nil))))))))) (by show 9≤Xq;decide) (by rfl) T.z_isinstance L2.B.boot_isinstance (xv 0))) (λ_=>rfl))) (Zi (xrt (Zhz Zsp))) xnl) (Zi (xrt (Znv (Z18 (Zsx T.kx_NoTable (Zxd (Za5 (v:=.ref (cls 7)) (by rfl) T.c_NoTable.m rfl) (.own _) (by rfl) T.z_isinstance L2.B.boot_isinstance (xv 0))) (Z0z (Zsx T.kx_ValueError (Zxd (Zt0 (v:=.ty "ValueError") (by rfl) T.z_ValueError PyProof.Rows.Boot.«ValueError» rfl) (.ty _) (by rfl) T.z_isinstance L2.B.boot_isinstance (xv 0)))))))))
theorem Zni:Zo ["q","r"] ["q","r"] (Zj Zfx):=fsc
theorem Zmw{f:Nat->Addr}{fd:Nat->Xp}{cls:Nat->Addr}(T:Txt K mg f fd cls):FnOk P w K mg base CX0 1 (f 1) (fd 1) ["q","r"] (spD K (sD Zbb)):=by
 refine Yd T.e_is_below.F Zni (S:=Zdw) rfl rfl (λcdv A outer s H E hr=>?_)
 have hu:=hr.units
 exact(Zi (xrt (W6 Ydf (Zs6 Z3a Zlt (Ziv (xix (xv 0) xci) (xix (xv 1) xci)) (Ziv (xix (xv 1) xci) (xix (xv 0) xci)) (hm:=(Zbn _))))))
theorem Yi:Zo ["a","b","left"] ["a","b"] (Zj Jq):=fsc
theorem Zbd{f:Nat->Addr}{fd:Nat->Xp}{cls:Nat->Addr}(T:Txt K mg f fd cls):FnOk P w K mg base CX0 1 (f 2) (fd 2) ["a","b"] (spD K (sD Z9)):=by
 refine Yd T.e_greatest_divisor.F Yi (S:=Jl) rfl rfl (λcdv A outer s H E hr=>?_)
 have hu:=hr.units
 exact(xsq (xst 0 Yi.nd (Zb5 Z1v (Zl3 Zs2 Zjx (by rfl) T.z_abs L2.B.boot_abs (xa1 (xv 0))))) (xsq (xst 1 Yi.nd (Zb5 Z1v (Zl3 Zs2 Zjx (by rfl) T.z_abs L2.B.boot_abs (xa1 (xv 1))))) (xsq (Zn4 (Zpa Xw (xne hu (xv 1) xci) (xsq (xst 2 Yi.nd (Z2g (xv 0) (xv 1))) (xsq (xst 0 Yi.nd (xv 1)) (Zi (xst 1 Yi.nd (xv 2))))))) (Zi (xrt (xv 0))))))
theorem Zez:Zo ["top","bottom","shared"] ["top","bottom"] (Zj Zfp):=fsc
theorem Zcu{f:Nat->Addr}{fd:Nat->Xp}{cls:Nat->Addr}(T:Txt K mg f fd cls):FnOk P w K mg base CX0 2 (f 3) (fd 3) ["top","bottom"] (spD K (sD Wt)):=by
 have G_greatest_divisor:=Zbd (P:=P) (w:=w) (base:=base) T
 refine Yd T.e_in_least.F Zez (S:=Zdb) rfl rfl (λcdv A outer s H E hr=>?_)
 have hu:=hr.units
 exact(xsq (xst 2 Zez.nd (xcl G_greatest_divisor (hr.mono (by decide)) T.e_greatest_divisor.m T.e_greatest_divisor.F.kp T.e_greatest_divisor.b (Zf (xv 0) (xa1 (xv 1))))) (xsq (xif (xlt (xv 1) xci) (Zi (xst 2 Zez.nd (Z49 (Yac (xv 2))))) xnl) (Zi (xrt (xtp (Zf (Zxn (xv 0) (xv 2)) (xa1 (Zxn (xv 1) (xv 2)))))))))
theorem Z0b:Zo ["q","r"] ["q","r"] (Zj Zt9):=fsc
theorem Z14{f:Nat->Addr}{fd:Nat->Xp}{cls:Nat->Addr}(T:Txt K mg f fd cls):FnOk P w K mg base CX0 3 (f 4) (fd 4) ["q","r"] (spD K (sD Zet)):=by
 have G_in_least:=Zcu (P:=P) (w:=w) (base:=base) T
 refine Yd T.e_plus.F Z0b (S:=Zg6) rfl rfl (λcdv A outer s H E hr=>?_)
 have hu:=hr.units
 exact(Zi (xrt (xcl G_in_least (hr.mono (by decide)) T.e_in_least.m T.e_in_least.F.kp T.e_in_least.b (Zf (Zgn (Ziv (xix (xv 0) xci) (xix (xv 1) xci)) (Ziv (xix (xv 1) xci) (xix (xv 0) xci))) (xa1 (Ziv (xix (xv 0) xci) (xix (xv 1) xci)))))))
theorem Ziq:Zo ["table","i","j","k"] ["table","i","j","k"] (Zj Zcr):=fsc
theorem Zim{f:Nat->Addr}{fd:Nat->Xp}{cls:Nat->Addr}(T:Txt K mg f fd cls):FnOk P w K mg base CX0 4 (f 5) (fd 5) ["table","i","j","k"] (spD K (sD Jz)):=by
 have G_is_below:=Zmw (P:=P) (w:=w) (base:=base) T
 have G_plus:=Z14 (P:=P) (w:=w) (base:=base) T
 refine Yd T.e_is_short_by.F Ziq (S:=Zbm) rfl rfl (λcdv A outer s H E hr=>?_)
 have hu:=hr.units
 exact(Zi (xrt (xcl G_is_below (hr.mono (by decide)) T.e_is_below.m T.e_is_below.F.kp T.e_is_below.b (Zf (xcl G_plus (hr.mono (by decide)) T.e_plus.m T.e_plus.F.kp T.e_plus.b (Zf (xix (xix (xv 0) (xv 1)) (xv 2)) (xa1 (xix (xix (xv 0) (xv 2)) (xv 3))))) (xa1 (xix (xix (xv 0) (xv 1)) (xv 3)))))))
theorem W9:Zo ["table","n","i","j","k"] ["table"] (Zj Zco):=fsc
theorem Zed{f:Nat->Addr}{fd:Nat->Xp}{cls:Nat->Addr}(T:Txt K mg f fd cls):FnOk P w K mg base CX0 5 (f 6) (fd 6) ["table"] (spD K (sD Jv)):=by
 have G_is_short_by:=Zim (P:=P) (w:=w) (base:=base) T
 refine Yd T.e_first_short.F W9 (S:=Zbo) rfl rfl (λcdv A outer s H E hr=>?_)
 have hu:=hr.units
 exact(xsq (xst 1 W9.nd (xln T.z_len (xa1 (xv 0)))) (xsq (xfr Xw rfl (Zas (Zw (by rfl) T.z_range (xa1 (xv 1)))) (xg 2 W9.nd) (Zi (xfr Xw rfl (Zas (Zw (by rfl) T.z_range (xa1 (xv 1)))) (xg 3 W9.nd) (Zi (xfr Xw rfl (Zas (Zw (by rfl) T.z_range (xa1 (xv 1)))) (xg 4 W9.nd) (Zi (xif (Zgf (Zge (xcl G_is_short_by (hr.mono (by decide)) T.e_is_short_by.m T.e_is_short_by.F.kp T.e_is_short_by.b (Zf (xv 0) (Zf (xv 2) (Zf (xv 3) (xa1 (xv 4)))))) (λ_=>rfl))) (Zi (xrt (xtp (Zf (xv 2) (Zf (xv 3) (xa1 (xv 4))))))) xnl))))))) (Zi (xrt (Zhz Zid)))))
theorem Ze8:Zo ["table"] ["table"] (Zj Zdt):=fsc
theorem Zay{f:Nat->Addr}{fd:Nat->Xp}{cls:Nat->Addr}(T:Txt K mg f fd cls):FnOk P w K mg base CX0 6 (f 7) (fd 7) ["table"] (spD K (sD Z6)):=by
 have G_first_short:=Zed (P:=P) (w:=w) (base:=base) T
 refine Yd T.e_check_long.F Ze8 (S:=W2) rfl rfl (λcdv A outer s H E hr=>?_)
 have hu:=hr.units
 exact(Zi (xif (Zdi Zns (Zc5 Zmy Znc (xcl G_first_short (hr.mono (by decide)) T.e_first_short.m T.e_first_short.F.kp T.e_first_short.b (xa1 (xv 0))) (Zhz Zid) (hm:=(Zbn _)))) (Zi Zkp) xnl))
theorem Zag{f:Nat->Addr}{fd:Nat->Xp}{cls:Nat->Addr}(T:Txt K mg f fd cls):FnOk P w K mg base (CX1 P w) 6 (f 7) (fd 7) ["table"] (spX K (sX K Z6)):=by
 have G_first_short:=Zed (P:=P) (w:=w) (base:=base) T
 refine Zi4 T.e_check_long.F Ze8 (S:=W2) rfl rfl (λcdv A outer s H E hr=>?_)
 have hu:=hr.units
 exact(Zb0 (Zwh (Zvb (Zdi Zns (Zc5 Zmy Znc (xcl G_first_short (hr.mono (by decide)) T.e_first_short.m T.e_first_short.F.kp T.e_first_short.b (xa1 (xv 0))) (Zhz Zid) (hm:=(Zbn _)))) (Zb0 (Zoa T.c_NoTable.a (Zpg rfl hr.hd (by rfl) T.c_NoTable.m T.r_NoTable))) (Zmh _))))
theorem Zkk:Zo ["sums"] ["sums"] (Zj Zdc):=fsc
theorem Jx{f:Nat->Addr}{fd:Nat->Xp}{cls:Nat->Addr}(T:Txt K mg f fd cls):FnOk P w K mg base CX0 1 (f 8) (fd 8) ["sums"] (spD K (sD Ym)):=by
 refine Yd T.e_split_rule.F Zkk (S:=Zb4) rfl rfl (λcdv A outer s H E hr=>?_)
 have hu:=hr.units
 exact(Zi (xrt (Z2d (Zb5 Z66 (Zl3 Zzu (Ztj rfl (by rfl)) (by rfl) T.z_max L2.B.boot_max (xa1 (xv 0)))) (xix (xv 0) xci))))
theorem Zm3:Zo ["thing"] ["thing"] (Zj Zfu):=fsc
theorem Zhm{f:Nat->Addr}{fd:Nat->Xp}{cls:Nat->Addr}(T:Txt K mg f fd cls):FnOk P w K mg base CX0 1 (f 9) (fd 9) ["thing"] (spD K (sD Wu)):=by
 refine Yd T.e_is_whole.F Zm3 (S:=Zd1) rfl rfl (λcdv A outer s H E hr=>?_)
 have hu:=hr.units
 exact(Zi (xrt (Znv (Z18 (Zya (Z29 (by decide) (by rfl) T.z_isinstance L2.B.boot_isinstance (by rfl) T.z_int L2.B.boot_int (xv 0))) (Z0z (Zzn (Ybl (Zya (Z29 (by decide) (by rfl) T.z_isinstance L2.B.boot_isinstance (by rfl) T.z_bool L2.B.boot_bool (xv 0))))))))))
theorem Zhi:Zo ["top","bottom"] ["top","bottom"] (Zj Zfh):=fsc
theorem Zcp{f:Nat->Addr}{fd:Nat->Xp}{cls:Nat->Addr}(T:Txt K mg f fd cls):FnOk P w K mg base CX0 3 (f 10) (fd 10) ["top","bottom"] (spD K (sD Yb)):=by
 have G_in_least:=Zcu (P:=P) (w:=w) (base:=base) T
 have G_is_whole:=Zhm (P:=P) (w:=w) (base:=base) T
 refine Yd T.e_fraction.F Zhi (S:=Za6) rfl rfl (λcdv A outer s H E hr=>?_)
 have hu:=hr.units
 exact(xsq (xif (MW.mt (Zne (Zm6 (xno (Zgf (Zge (xcl G_is_whole (hr.mono (by decide)) T.e_is_whole.m T.e_is_whole.F.kp T.e_is_whole.b (xa1 (xv 0))) (λ_=>rfl)))) (Zne (Zm6 (xno (Zgf (Zge (xcl G_is_whole (hr.mono (by decide)) T.e_is_whole.m T.e_is_whole.F.kp T.e_is_whole.b (xa1 (xv 1))) (λ_=>rfl)))) (Zo6 (xeq hu (xv 1) xci))))))) (Zi Zkp) xnl) (Zi (xrt (xcl G_in_least (hr.mono (by decide)) T.e_in_least.m T.e_in_least.F.kp T.e_in_least.b (Zf (xv 0) (xa1 (xv 1)))))))
theorem Zbl{f:Nat->Addr}{fd:Nat->Xp}{cls:Nat->Addr}(T:Txt K mg f fd cls):FnOk P w K mg base (CX1 P w) 3 (f 10) (fd 10) ["top","bottom"] (spX K (sX K Yb)):=by
 have G_in_least:=Zcu (P:=P) (w:=w) (base:=base) T
 have G_is_whole:=Zhm (P:=P) (w:=w) (base:=base) T
 refine Zi4 T.e_fraction.F Zhi (S:=Za6) rfl rfl (λcdv A outer s H E hr=>?_)
 have hu:=hr.units
 exact(Zje (Zwh (Zvb (MW.mt (Zne (Zm6 (xno (Zgf (Zge (xcl G_is_whole (hr.mono (by decide)) T.e_is_whole.m T.e_is_whole.F.kp T.e_is_whole.b (xa1 (xv 0))) (λ_=>rfl)))) (Zne (Zm6 (xno (Zgf (Zge (xcl G_is_whole (hr.mono (by decide)) T.e_is_whole.m T.e_is_whole.F.kp T.e_is_whole.b (xa1 (xv 1))) (λ_=>rfl)))) (Zo6 (xeq hu (xv 1) xci))))))) (Zb0 (Zoa T.c_NoNumber.a (Zpg rfl hr.hd (by rfl) T.c_NoNumber.m T.r_NoNumber))) (Zmh _))) (xif (MW.mt (Zne (Zm6 (xno (Zgf (Zge (xcl G_is_whole (hr.mono (by decide)) T.e_is_whole.m T.e_is_whole.F.kp T.e_is_whole.b (xa1 (xv 0))) (λ_=>rfl)))) (Zne (Zm6 (xno (Zgf (Zge (xcl G_is_whole (hr.mono (by decide)) T.e_is_whole.m T.e_is_whole.F.kp T.e_is_whole.b (xa1 (xv 1))) (λ_=>rfl)))) (Zo6 (xeq hu (xv 1) xci))))))) (Zi Zkp) xnl) (Zmh _))
theorem J4:Zo ["points","doubles","place","point","other"] ["points"] (Zj Zc7):=fsc
theorem Zkm{f:Nat->Addr}{fd:Nat->Xp}{cls:Nat->Addr}(T:Txt K mg f fd cls):FnOk P w K mg base CX0 1 (f 11) (fd 11) ["points"] (spD K (sD W0)):=by
 refine Yd T.e_doubles_of.F J4 (S:=Zcb) rfl rfl (λcdv A outer s H E hr=>?_)
 have hu:=hr.units
 exact(xsq (xso 1 J4.nd (xls xa0)) (xsq (xfr Xw rfl (Z0c (Zyx (by rfl) T.z_enumerate L2.B.boot_enumerate (xa1 (xv 0)))) (xg2 rfl (xg 2 J4.nd) (xg 3 J4.nd)) (Zi (xfr Xw rfl (xil (Z69 (Z2x (xv 0) (Zrv (Zs0 (xv 2))) (Zr5 Zs5)))) (xg 4 J4.nd) (Zi (Zd0 (Zdv 1 (xtp (Zf (xv 3) (xa1 (xv 4)))))))))) (Zi (Zdq (Zc3 1)))))
theorem Zkg:Zo ["rows","i","j","k","l"] ["rows","i","j","k","l"] (Zj Zc9):=fsc
theorem Zjn{f:Nat->Addr}{fd:Nat->Xp}{cls:Nat->Addr}(T:Txt K mg f fd cls):FnOk P w K mg base CX0 1 (f 12) (fd 12) ["rows","i","j","k","l"] (spD K (sD Yl)):=by
 refine Yd T.e_three_sums.F Zkg (S:=Zb8) rfl rfl (λcdv A outer s H E hr=>?_)
 have hu:=hr.units
 exact(Zi (xrt (xtp (Zf (Zgn (xix (xix (xv 0) (xv 1)) (xv 2)) (xix (xix (xv 0) (xv 3)) (xv 4))) (Zf (Zgn (xix (xix (xv 0) (xv 1)) (xv 3)) (xix (xix (xv 0) (xv 2)) (xv 4))) (xa1 (Zgn (xix (xix (xv 0) (xv 1)) (xv 4)) (xix (xix (xv 0) (xv 2)) (xv 3)))))))))
theorem Zu:Zo ["rows","cut","rule","others","beyond","least","a","b","c","e"] ["rows","cut","rule"] (Zj Jo):=fsc
theorem Jd{f:Nat->Addr}{fd:Nat->Xp}{cls:Nat->Addr}(T:Txt K mg f fd cls):FnOk P w K mg base CX0 2 (f 13) (fd 13) ["rows","cut","rule"] (spD K (sD Z0)):=by
 have G_doubles_of:=Zkm (P:=P) (w:=w) (base:=base) T
 have G_split_rule:=Jx (P:=P) (w:=w) (base:=base) T
 have G_three_sums:=Zjn (P:=P) (w:=w) (base:=base) T
 refine Yd T.e_least_over_sides.F Zu (S:=J5) rfl rfl (λcdv A outer s H E hr=>?_)
 have hu:=hr.units
 exact(xsq (Zna (Zd8 (i:=3) (own:=["point"]) (caps:=[1]) (N':=["point","cut"]) false Zu.nd rfl (Qo rfl) (by exact⟨rfl,by decide +kernel,rfl,by decide +kernel,rfl,rfl⟩) (by rfl) (by decide) (Zas (Zw (by rfl) T.z_range (xa1 (xln T.z_len (xa1 (xv 0)))))) (λ_ _ _ _ _=>(xg 0 (by show QV (["point","cut"]:List Str);decide +kernel))) (λ_ _ _ _ _=>(Zka (Zdi Z5z (Zc5 (Zsu rfl) Z25 (xv 0) (xv 1) (hm:=(by with_unfolding_all rfl)))))) (λ_ _ _ _ _=>(xv 0)))) (xsq (xst 4 Zu.nd (xcl G_doubles_of (hr.mono (by decide)) T.e_doubles_of.m T.e_doubles_of.F.kp T.e_doubles_of.b (xa1 (xv 3)))) (xsq (xst 5 Zu.nd (Zpd (Zrz (i:=2) G_split_rule (hr.mono (by decide)) T.fa_split_rule T.e_split_rule.F.kp T.e_split_rule.b Jp (xa1 (xcl G_three_sums (hr.mono (by decide)) T.e_three_sums.m T.e_three_sums.F.kp T.e_three_sums.b (Zf (xv 0) (Zf (xix (xv 1) xci) (Zf (xix (xv 1) xci) (Zf xci (xa1 xci)))))))))) (xsq (xfr Xw rfl (xil (xcl G_doubles_of (hr.mono (by decide)) T.e_doubles_of.m T.e_doubles_of.F.kp T.e_doubles_of.b (xa1 (xv 1)))) (xg2 rfl (xg 6 Zu.nd) (xg 7 Zu.nd)) (xsq (xfr Xw rfl (xil (xv 4)) (xg2 rfl (xg 8 Zu.nd) (xg 9 Zu.nd)) (Zi (xst 5 Zu.nd (Zb5 Z44 (Zl3 Zud (Zmq (by rfl)) (by rfl) T.z_min L2.B.boot_min (Zf (xv 5) (xa1 (Zpd (Zrz (i:=2) G_split_rule (hr.mono (by decide)) T.fa_split_rule T.e_split_rule.F.kp T.e_split_rule.b Jp (xa1 (xcl G_three_sums (hr.mono (by decide)) T.e_three_sums.m T.e_three_sums.F.kp T.e_three_sums.b (Zf (xv 0) (Zf (xv 6) (Zf (xv 7) (Zf (xv 8) (xa1 (xv 9))))))))))))))))) (Zi (xif (xle (xv 5) xci) (Zi (xrt xci)) xnl)))) (Zi (xrt (xv 5)))))))
theorem Jc:Zo ["numbers","bottom","q"] ["numbers"] (Zj Zbg):=fsc
theorem Zcv{f:Nat->Addr}{fd:Nat->Xp}{cls:Nat->Addr}(T:Txt K mg f fd cls):FnOk P w K mg base CX0 2 (f 14) (fd 14) ["numbers"] (spD K (sD Yq)):=by
 have G_greatest_divisor:=Zbd (P:=P) (w:=w) (base:=base) T
 refine Yd T.e_shared_bottom.F Jc (S:=Zau) rfl rfl (λcdv A outer s H E hr=>?_)
 have hu:=hr.units
 exact(xsq (xst 1 Jc.nd xci) (xsq (xfr Xw rfl (xil (xv 0)) (xg 2 Jc.nd) (Zi (xst 1 Jc.nd (Ziv (Zxn (xv 1) (xcl G_greatest_divisor (hr.mono (by decide)) T.e_greatest_divisor.m T.e_greatest_divisor.F.kp T.e_greatest_divisor.b (Zf (xv 1) (xa1 (xix (xv 2) xci))))) (xix (xv 2) xci))))) (Zi (xrt (xv 1)))))
theorem Jt:Zo ["table","bottom","row"] ["table"] (Zj Zbt):=fsc
theorem Za8{f:Nat->Addr}{fd:Nat->Xp}{cls:Nat->Addr}(T:Txt K mg f fd cls):FnOk P w K mg base CX0 3 (f 15) (fd 15) ["table"] (spD K (sD Yj)):=by
 have G_shared_bottom:=Zcv (P:=P) (w:=w) (base:=base) T
 refine Yd T.e_table_bottom.F Jt (S:=Zbc) rfl rfl (λcdv A outer s H E hr=>?_)
 have hu:=hr.units
 exact(xsq (xst 1 Jt.nd xci) (xsq (xfr Xw rfl (xil (xv 0)) (xg 2 Jt.nd) (Zi (xst 1 Jt.nd (xcl G_shared_bottom (hr.mono (by decide)) T.e_shared_bottom.m T.e_shared_bottom.F.kp T.e_shared_bottom.b (xa1 (Zsb (Zms Zv3 (Z71 (Zj0 rfl) Zos (xls (xa1 (xtp (Zf xci (xa1 (xv 1)))))) (xv 2))))))))) (Zi (xrt (xv 1)))))
theorem Zll:Zo ["bottom","numbers"] ["bottom","numbers"] (Zj Zeq):=fsc
theorem Zgq{f:Nat->Addr}{fd:Nat->Xp}{cls:Nat->Addr}(T:Txt K mg f fd cls):FnOk P w K mg base CX0 1 (f 16) (fd 16) ["bottom","numbers"] (spD K (sD Jb)):=by
 refine Yd T.e_tops_over.F Zll (S:=Zcx) rfl rfl (λcdv A outer s H E hr=>?_)
 have hu:=hr.units
 exact(Zi (xrt (J9 (Zb9 (own:=["q"]) (caps:=[0]) (N':=["q","bottom"]) (by exact⟨rfl,by decide +kernel,rfl,by decide +kernel,rfl,rfl⟩) (by rfl) (by decide) (xil (xv 1)) (λ_ _ _ _ _=>(xg 0 (by show QV (["q","bottom"]:List Str);decide +kernel))) (λ_ _ _ _ _=>(Zad Zac)) (λ_ _ _ _ _=>(Ziv (xix (xv 0) xci) (Zxn (xv 1) (xix (xv 0) xci))))))))
theorem Zkq:Zo ["bottom","table"] ["bottom","table"] (Zj Zdr):=fsc
theorem Zcg{f:Nat->Addr}{fd:Nat->Xp}{cls:Nat->Addr}(T:Txt K mg f fd cls):FnOk P w K mg base CX0 2 (f 17) (fd 17) ["bottom","table"] (spD K (sD Y8)):=by
 have G_tops_over:=Zgq (P:=P) (w:=w) (base:=base) T
 refine Yd T.e_table_over.F Zkq (S:=Zb2) rfl rfl (λcdv A outer s H E hr=>?_)
 have hu:=hr.units
 exact(Zi (xrt (J9 (Zb9 (own:=["row"]) (caps:=[0]) (N':=["row","bottom"]) (by exact⟨rfl,by decide +kernel,rfl,by decide +kernel,rfl,rfl⟩) (by rfl) (by decide) (xil (xv 1)) (λ_ _ _ _ _=>(xg 0 (by show QV (["row","bottom"]:List Str);decide +kernel))) (λ_ _ _ _ _=>(Zad Zac)) (λ_ _ _ _ _=>(xcl G_tops_over (hr.mono (by decide)) T.e_tops_over.m T.e_tops_over.F.kp T.e_tops_over.b (Zf (xv 1) (xa1 (xv 0)))))))))
theorem Jj:Zo ["table","cut","rule","bottom","least"] ["table","cut","rule"] (Zj Zeu):=fsc
theorem Zgi{f:Nat->Addr}{fd:Nat->Xp}{cls:Nat->Addr}(T:Txt K mg f fd cls):FnOk P w K mg base CX0 4 (f 18) (fd 18) ["table","cut","rule"] (spD K (sD Ja)):=by
 have G_fraction:=Zcp (P:=P) (w:=w) (base:=base) T
 have GX_fraction:=Zbl (P:=P) (w:=w) (base:=base) T
 have G_least_over_sides:=Jd (P:=P) (w:=w) (base:=base) T
 have G_table_bottom:=Za8 (P:=P) (w:=w) (base:=base) T
 have G_table_over:=Zcg (P:=P) (w:=w) (base:=base) T
 refine Yd T.e_weight_by.F Jj (S:=Zao) rfl rfl (λcdv A outer s H E hr=>?_)
 have hu:=hr.units
 exact(xsq (xst 3 Jj.nd (xcl G_table_bottom (hr.mono (by decide)) T.e_table_bottom.m T.e_table_bottom.F.kp T.e_table_bottom.b (xa1 (xv 0)))) (xsq (xst 4 Jj.nd (xcl G_least_over_sides (hr.mono (by decide)) T.e_least_over_sides.m T.e_least_over_sides.F.kp T.e_least_over_sides.b (Zf (xcl G_table_over (hr.mono (by decide)) T.e_table_over.m T.e_table_over.F.kp T.e_table_over.b (Zf (xv 3) (xa1 (xv 0)))) (Zf (xv 1) (xa1 (xv 2)))))) (Zi (Zws (xrt (xcl G_fraction (hr.mono (by decide)) T.e_fraction.m T.e_fraction.F.kp T.e_fraction.b (Zf (xv 4) (xa1 (Ziv xci (xv 3))))))))))
theorem Ze3{f:Nat->Addr}{fd:Nat->Xp}{cls:Nat->Addr}(T:Txt K mg f fd cls):FnOk P w K mg base (CX1 P w) 4 (f 18) (fd 18) ["table","cut","rule"] (spX K (sX K Ja)):=by
 have G_fraction:=Zcp (P:=P) (w:=w) (base:=base) T
 have GX_fraction:=Zbl (P:=P) (w:=w) (base:=base) T
 have G_least_over_sides:=Jd (P:=P) (w:=w) (base:=base) T
 have G_table_bottom:=Za8 (P:=P) (w:=w) (base:=base) T
 have G_table_over:=Zcg (P:=P) (w:=w) (base:=base) T
 refine Zi4 T.e_weight_by.F Jj (S:=Zao) rfl rfl (λcdv A outer s H E hr=>?_)
 have hu:=hr.units
 exact(Zje (Z21 _) (xst 3 Jj.nd (xcl G_table_bottom (hr.mono (by decide)) T.e_table_bottom.m T.e_table_bottom.F.kp T.e_table_bottom.b (xa1 (xv 0)))) (Zje (Z21 _) (xst 4 Jj.nd (xcl G_least_over_sides (hr.mono (by decide)) T.e_least_over_sides.m T.e_least_over_sides.F.kp T.e_least_over_sides.b (Zf (xcl G_table_over (hr.mono (by decide)) T.e_table_over.m T.e_table_over.F.kp T.e_table_over.b (Zf (xv 3) (xa1 (xv 0)))) (Zf (xv 1) (xa1 (xv 2)))))) (Zb0 (Zxt (Zdp (Zc4 GX_fraction (hr.mono (by decide)) (by rfl) T.e_fraction.m T.e_fraction.F.kp T.e_fraction.b (Zf (xv 4) (xa1 (Ziv xci (xv 3))))))))))
theorem Zgl:Zo ["table","cut"] ["table","cut"] (Zj Zeo):=fsc
theorem Zk1{f:Nat->Addr}{fd:Nat->Xp}{cls:Nat->Addr}(T:Txt K mg f fd cls):FnOk P w K mg base CX0 7 (f 19) (fd 19) ["table","cut"] (spD K (sD Yo)):=by
 have G_check_long:=Zay (P:=P) (w:=w) (base:=base) T
 have GX_check_long:=Zag (P:=P) (w:=w) (base:=base) T
 have G_split_rule:=Jx (P:=P) (w:=w) (base:=base) T
 have G_weight_by:=Zgi (P:=P) (w:=w) (base:=base) T
 have GX_weight_by:=Ze3 (P:=P) (w:=w) (base:=base) T
 refine Yd T.e_cut_index.F Zgl (S:=Zap) rfl rfl (λcdv A outer s H E hr=>?_)
 have hu:=hr.units
 exact(xsq (Zws (Zf4 (Zf9 (xcl G_check_long (hr.mono (by decide)) T.e_check_long.m T.e_check_long.F.kp T.e_check_long.b (xa1 (xv 0)))))) (Zi (Zws (xrt (xcl G_weight_by (hr.mono (by decide)) T.e_weight_by.m T.e_weight_by.F.kp T.e_weight_by.b (Zf (xv 0) (Zf (xv 1) (xa1 (Zhz (Z86 (by rfl) T.e_split_rule.m T.fa_split_rule))))))))))
theorem Zjg{f:Nat->Addr}{fd:Nat->Xp}{cls:Nat->Addr}(T:Txt K mg f fd cls):FnOk P w K mg base (CX1 P w) 7 (f 19) (fd 19) ["table","cut"] (spX K (sX K Yo)):=by
 have G_check_long:=Zay (P:=P) (w:=w) (base:=base) T
 have GX_check_long:=Zag (P:=P) (w:=w) (base:=base) T
 have G_split_rule:=Jx (P:=P) (w:=w) (base:=base) T
 have G_weight_by:=Zgi (P:=P) (w:=w) (base:=base) T
 have GX_weight_by:=Ze3 (P:=P) (w:=w) (base:=base) T
 refine Zi4 T.e_cut_index.F Zgl (S:=Zap) rfl rfl (λcdv A outer s H E hr=>?_)
 have hu:=hr.units
 exact(Zje (Zrh (Zdp (Zc4 GX_check_long (hr.mono (by decide)) (by rfl) T.e_check_long.m T.e_check_long.F.kp T.e_check_long.b (xa1 (xv 0))))) (Zws (Zf4 (Zf9 (xcl G_check_long (hr.mono (by decide)) T.e_check_long.m T.e_check_long.F.kp T.e_check_long.b (xa1 (xv 0)))))) (Zb0 (Zxt (Zdp (Zc4 GX_weight_by (hr.mono (by decide)) (by rfl) T.e_weight_by.m T.e_weight_by.F.kp T.e_weight_by.b (Zf (xv 0) (Zf (xv 1) (xa1 (Zhz (Z86 (by rfl) T.e_split_rule.m T.fa_split_rule))))))))))
theorem Zus:Zo ["q","r"] ["q","r"] (Zj Znh):=fsc
theorem Zo0{f:Nat->Addr}{fd:Nat->Xp}{cls:Nat->Addr}(T:Txt K mg f fd cls):FnOk P w K mg base CX0 3 (f 20) (fd 20) ["q","r"] (spD K (sD Zbr)):=by
 have G_in_least:=Zcu (P:=P) (w:=w) (base:=base) T
 refine Yd T.e_minus.F Zus (S:=Zgr) rfl rfl (λcdv A outer s H E hr=>?_)
 have hu:=hr.units
 exact(Zi (xrt (xcl G_in_least (hr.mono (by decide)) T.e_in_least.m T.e_in_least.F.kp T.e_in_least.b (Zf (Z2d (Ziv (xix (xv 0) xci) (xix (xv 1) xci)) (Ziv (xix (xv 1) xci) (xix (xv 0) xci))) (xa1 (Ziv (xix (xv 0) xci) (xix (xv 1) xci)))))))
theorem Zcf:Zo ["n","sides","point"] ["n"] (Zj Zf3):=fsc
theorem Znp{f:Nat->Addr}{fd:Nat->Xp}{cls:Nat->Addr}(T:Txt K mg f fd cls):FnOk P w K mg base CX0 1 (f 21) (fd 21) ["n"] (spD K (sD J3)):=by
 refine Yd T.e_all_cuts.F Zcf (S:=Zdg) rfl rfl (λcdv A outer s H E hr=>?_)
 have hu:=hr.units
 exact(xsq (xst 1 Zcf.nd (xls (xa1 (xls xa0)))) (xsq (xfr Xw rfl (Z6j (Zkz (by rfl) T.z_range (Zf xci (xa1 (xv 0))))) (xg 2 Zcf.nd) (Zi (xst 1 Zcf.nd (Zsb (Zms Zv3 (Z71 (Zj0 rfl) Zos (xv 1) (J9 (Zb9 (own:=["side"]) (caps:=[2]) (N':=["side","point"]) (by exact⟨rfl,by decide +kernel,rfl,by decide +kernel,rfl,rfl⟩) (by rfl) (by decide) (xil (xv 1)) (λ_ _ _ _ _=>(xg 0 (by show QV (["side","point"]:List Str);decide +kernel))) (λ_ _ _ _ _=>(Zad Zac)) (λ_ _ _ _ _=>(Zsb (Zms Zv3 (Z71 (Zj0 rfl) Zos (xv 0) (xls (xa1 (xv 1))))))))))))))) (Zi (xrt (J9 (Zb9 (own:=["side"]) (caps:=[]) (N':=["side"]) (by exact⟨rfl,by decide +kernel,rfl,by decide +kernel,rfl,rfl⟩) (by rfl) (by decide) (xil (Z8u Zy7 (Yeu Zuy (Zpn Z4a rfl hu) (by rfl) T.z_sorted L2.B.boot_sorted (xa1 (xv 1))))) (λ_ _ _ _ _=>(xg 0 (by show QV (["side"]:List Str);decide +kernel))) (λ_ _ _ _ _=>(Zka (xgt (xln T.z_len (xa1 (xv 0))) xci))) (λ_ _ _ _ _=>(xv 0))))))))
theorem Wk:Zo ["table","rule","bottom","rows","weighted","cut","least"] ["table","rule"] (Zj Zcl):=fsc
theorem Zeh{f:Nat->Addr}{fd:Nat->Xp}{cls:Nat->Addr}(T:Txt K mg f fd cls):FnOk P w K mg base CX0 4 (f 22) (fd 22) ["table","rule"] (spD K (sD Js)):=by
 have G_all_cuts:=Znp (P:=P) (w:=w) (base:=base) T
 have G_fraction:=Zcp (P:=P) (w:=w) (base:=base) T
 have GX_fraction:=Zbl (P:=P) (w:=w) (base:=base) T
 have G_least_over_sides:=Jd (P:=P) (w:=w) (base:=base) T
 have G_table_bottom:=Za8 (P:=P) (w:=w) (base:=base) T
 have G_table_over:=Zcg (P:=P) (w:=w) (base:=base) T
 refine Yd T.e_weighted_by.F Wk (S:=Zbq) rfl rfl (λcdv A outer s H E hr=>?_)
 have hu:=hr.units
 exact(xsq (xst 2 Wk.nd (xcl G_table_bottom (hr.mono (by decide)) T.e_table_bottom.m T.e_table_bottom.F.kp T.e_table_bottom.b (xa1 (xv 0)))) (xsq (xst 3 Wk.nd (xcl G_table_over (hr.mono (by decide)) T.e_table_over.m T.e_table_over.F.kp T.e_table_over.b (Zf (xv 2) (xa1 (xv 0))))) (xsq (xso 4 Wk.nd (xls xa0)) (xsq (xfr Xw rfl (xil (xcl G_all_cuts (hr.mono (by decide)) T.e_all_cuts.m T.e_all_cuts.F.kp T.e_all_cuts.b (xa1 (xln T.z_len (xa1 (xv 0)))))) (xg 5 Wk.nd) (xsq (xst 6 Wk.nd (xcl G_least_over_sides (hr.mono (by decide)) T.e_least_over_sides.m T.e_least_over_sides.F.kp T.e_least_over_sides.b (Zf (xv 3) (Zf (xv 5) (xa1 (xv 1)))))) (Zi (xif (xgt (xv 6) xci) (Zi (Zd0 (Zdv 4 (xtp (Zf (xv 5) (xa1 (xcl G_fraction (hr.mono (by decide)) T.e_fraction.m T.e_fraction.F.kp T.e_fraction.b (Zf (xv 6) (xa1 (Ziv xci (xv 2))))))))))) xnl)))) (Zi (Zdq (Zc3 4)))))))
theorem Zgd:Zo ["table"] ["table"] (Zj Zep):=fsc
theorem Zdh{f:Nat->Addr}{fd:Nat->Xp}{cls:Nat->Addr}(T:Txt K mg f fd cls):FnOk P w K mg base CX0 7 (f 23) (fd 23) ["table"] (spD K (sD Yc)):=by
 have G_check_long:=Zay (P:=P) (w:=w) (base:=base) T
 have GX_check_long:=Zag (P:=P) (w:=w) (base:=base) T
 have G_split_rule:=Jx (P:=P) (w:=w) (base:=base) T
 have G_weighted_by:=Zeh (P:=P) (w:=w) (base:=base) T
 refine Yd T.e_splits_of.F Zgd (S:=Zal) rfl rfl (λcdv A outer s H E hr=>?_)
 have hu:=hr.units
 exact(xsq (Zws (Zf4 (Zf9 (xcl G_check_long (hr.mono (by decide)) T.e_check_long.m T.e_check_long.F.kp T.e_check_long.b (xa1 (xv 0)))))) (Zi (xrt (xcl G_weighted_by (hr.mono (by decide)) T.e_weighted_by.m T.e_weighted_by.F.kp T.e_weighted_by.b (Zf (xv 0) (xa1 (Zhz (Z86 (by rfl) T.e_split_rule.m T.fa_split_rule))))))))
theorem Zct{f:Nat->Addr}{fd:Nat->Xp}{cls:Nat->Addr}(T:Txt K mg f fd cls):FnOk P w K mg base (CX1 P w) 7 (f 23) (fd 23) ["table"] (spX K (sX K Yc)):=by
 have G_check_long:=Zay (P:=P) (w:=w) (base:=base) T
 have GX_check_long:=Zag (P:=P) (w:=w) (base:=base) T
 have G_split_rule:=Jx (P:=P) (w:=w) (base:=base) T
 have G_weighted_by:=Zeh (P:=P) (w:=w) (base:=base) T
 refine Zi4 T.e_splits_of.F Zgd (S:=Zal) rfl rfl (λcdv A outer s H E hr=>?_)
 have hu:=hr.units
 exact(Zje (Zrh (Zdp (Zc4 GX_check_long (hr.mono (by decide)) (by rfl) T.e_check_long.m T.e_check_long.F.kp T.e_check_long.b (xa1 (xv 0))))) (Zws (Zf4 (Zf9 (xcl G_check_long (hr.mono (by decide)) T.e_check_long.m T.e_check_long.F.kp T.e_check_long.b (xa1 (xv 0)))))) (Zmh _))
theorem Zmv:Zo ["n","cut"] ["n","cut"] (Zj Zf8):=fsc
theorem Znf{f:Nat->Addr}{fd:Nat->Xp}{cls:Nat->Addr}(T:Txt K mg f fd cls):FnOk P w K mg base CX0 1 (f 24) (fd 24) ["n","cut"] (spD K (sD Za7)):=by
 refine Yd T.e_sides_of.F Zmv (S:=Zdz) rfl rfl (λcdv A outer s H E hr=>?_)
 have hu:=hr.units
 exact(Zi (xrt (J9 (Zb9 (own:=["point"]) (caps:=[1]) (N':=["point","cut"]) (by exact⟨rfl,by decide +kernel,rfl,by decide +kernel,rfl,rfl⟩) (by rfl) (by decide) (Zas (Zw (by rfl) T.z_range (xa1 (xv 0)))) (λ_ _ _ _ _=>(xg 0 (by show QV (["point","cut"]:List Str);decide +kernel))) (λ_ _ _ _ _=>(Zad Zac)) (λ_ _ _ _ _=>(Zsb (Yad (Yfd (Zdi Z5z (Zc5 (Z46 rfl) Z25 (xv 0) (xv 1) (hm:=(by with_unfolding_all rfl)))) xci xci))))))))
theorem Zk2:Zo ["n","cuts"] ["n","cuts"] (Zj Zen):=fsc
theorem Zla{f:Nat->Addr}{fd:Nat->Xp}{cls:Nat->Addr}(T:Txt K mg f fd cls):FnOk P w K mg base CX0 2 (f 25) (fd 25) ["n","cuts"] (spD K (sD Zan)):=by
 have G_sides_of:=Znf (P:=P) (w:=w) (base:=base) T
 refine Yd T.e_all_sides.F Zk2 (S:=Zcz) rfl rfl (λcdv A outer s H E hr=>?_)
 have hu:=hr.units
 exact(Zi (xrt (J9 (Zb9 (own:=["weighted"]) (caps:=[0]) (N':=["weighted","n"]) (by exact⟨rfl,by decide +kernel,rfl,by decide +kernel,rfl,rfl⟩) (by rfl) (by decide) (xil (xv 1)) (λ_ _ _ _ _=>(xg 0 (by show QV (["weighted","n"]:List Str);decide +kernel))) (λ_ _ _ _ _=>(Zad Zac)) (λ_ _ _ _ _=>(xcl G_sides_of (hr.mono (by decide)) T.e_sides_of.m T.e_sides_of.F.kp T.e_sides_of.b (Zf (xv 1) (xa1 (xix (xv 0) xci)))))))))
theorem Zcq:Zo ["n","pairs","i","j"] ["n"] (Zj Zfo):=fsc
theorem Zhv{f:Nat->Addr}{fd:Nat->Xp}{cls:Nat->Addr}(T:Txt K mg f fd cls):FnOk P w K mg base CX0 1 (f 26) (fd 26) ["n"] (spD K (sD Y6)):=by
 refine Yd T.e_pairs_of.F Zcq (S:=Zdo) rfl rfl (λcdv A outer s H E hr=>?_)
 have hu:=hr.units
 exact(xsq (xso 1 Zcq.nd (xls xa0)) (xsq (xfr Xw rfl (Zas (Zw (by rfl) T.z_range (xa1 (xv 0)))) (xg 2 Zcq.nd) (Zi (xfr Xw rfl (Z6j (Zkz (by rfl) T.z_range (Zf (Zgn (xv 2) xci) (xa1 (xv 0))))) (xg 3 Zcq.nd) (Zi (Zd0 (Zdv 1 (xtp (Zf (xv 2) (xa1 (xv 3)))))))))) (Zi (Zdq (Zc3 1)))))
theorem Wz:Zo ["n","distances","table","pair","distance"] ["n","distances"] (Zj Zar):=fsc
theorem Zfj{f:Nat->Addr}{fd:Nat->Xp}{cls:Nat->Addr}(T:Txt K mg f fd cls):FnOk P w K mg base CX0 2 (f 27) (fd 27) ["n","distances"] (spD K (sD Yv)):=by
 have G_pairs_of:=Zhv (P:=P) (w:=w) (base:=base) T
 refine Yd T.e_table_of_pairs.F Wz (S:=Yx) rfl rfl (λcdv A outer s H E hr=>?_)
 have hu:=hr.units
 exact(xsq (Zwu (Zd8 (i:=2) (own:=["point"]) (caps:=[0]) (N':=["point","n"]) true Wz.nd rfl (Qo rfl) (by exact⟨rfl,by decide +kernel,rfl,by decide +kernel,rfl,rfl⟩) (by rfl) (by decide) (Zas (Zw (by rfl) T.z_range (xa1 (xv 0)))) (λ_ _ _ _ _=>(xg 0 (by show QV (["point","n"]:List Str);decide +kernel))) (λ_ _ _ _ _=>(Zad Zac)) (λ_ _ _ _ _=>(Z58 (Ya4 (xtp (Zf xci (xa1 xci))) (xv 1)))))) (xsq (xfr Xw rfl (Zh6 (Zhb (by rfl) T.z_zip L2.B.boot_zip (Zf (xcl G_pairs_of (hr.mono (by decide)) T.e_pairs_of.m T.e_pairs_of.F.kp T.e_pairs_of.b (xa1 (xv 0))) (xa1 (xv 1))))) (xg2 rfl (xg 3 Wz.nd) (xg 4 Wz.nd)) (xsq (Zba (Zbh 2 (xv 4) (xix (xv 3) xci) (xix (xv 3) xci) (λ_ _=>rfl))) (Zi (Zba (Zbh 2 (xv 4) (xix (xv 3) xci) (xix (xv 3) xci) (λ_ _=>rfl)))))) (Zi (Zdq (Zc3 2)))))
theorem We:Zo ["n","cuts","weights","bottom","tops","sides","distances","i","j","parting"] ["n","cuts"] (Zj Zft):=fsc
theorem Zib{f:Nat->Addr}{fd:Nat->Xp}{cls:Nat->Addr}(T:Txt K mg f fd cls):FnOk P w K mg base CX0 4 (f 28) (fd 28) ["n","cuts"] (spD K (sD Wx)):=by
 have G_all_sides:=Zla (P:=P) (w:=w) (base:=base) T
 have G_fraction:=Zcp (P:=P) (w:=w) (base:=base) T
 have GX_fraction:=Zbl (P:=P) (w:=w) (base:=base) T
 have G_pairs_of:=Zhv (P:=P) (w:=w) (base:=base) T
 have G_shared_bottom:=Zcv (P:=P) (w:=w) (base:=base) T
 have G_table_of_pairs:=Zfj (P:=P) (w:=w) (base:=base) T
 have G_tops_over:=Zgq (P:=P) (w:=w) (base:=base) T
 refine Yd T.e_table_of.F We (S:=J2) rfl rfl (λcdv A outer s H E hr=>?_)
 have hu:=hr.units
 exact(xsq (Zna (Zd8 (i:=2) (own:=["weighted"]) (caps:=[]) (N':=["weighted"]) false We.nd rfl (Qo rfl) (by exact⟨rfl,by decide +kernel,rfl,by decide +kernel,rfl,rfl⟩) (by rfl) (by decide) (xil (xv 1)) (λ_ _ _ _ _=>(xg 0 (by show QV (["weighted"]:List Str);decide +kernel))) (λ_ _ _ _ _=>(Zad Zac)) (λ_ _ _ _ _=>(xix (xv 0) xci)))) (xsq (xst 3 We.nd (xcl G_shared_bottom (hr.mono (by decide)) T.e_shared_bottom.m T.e_shared_bottom.F.kp T.e_shared_bottom.b (xa1 (xv 2)))) (xsq (xst 4 We.nd (xcl G_tops_over (hr.mono (by decide)) T.e_tops_over.m T.e_tops_over.F.kp T.e_tops_over.b (Zf (xv 3) (xa1 (xv 2))))) (xsq (xst 5 We.nd (xcl G_all_sides (hr.mono (by decide)) T.e_all_sides.m T.e_all_sides.F.kp T.e_all_sides.b (Zf (xv 0) (xa1 (xv 1))))) (xsq (xso 6 We.nd (xls xa0)) (xsq (xfr Xw rfl (xil (xcl G_pairs_of (hr.mono (by decide)) T.e_pairs_of.m T.e_pairs_of.F.kp T.e_pairs_of.b (xa1 (xv 0)))) (xg2 rfl (xg 7 We.nd) (xg 8 We.nd)) (xsq (Zna (Zd8 (i:=9) (own:=["side","top"]) (caps:=[7,8]) (N':=["side","top","i","j"]) false We.nd rfl (Qo rfl) (by exact⟨rfl,by decide +kernel,rfl,by decide +kernel,rfl,rfl⟩) (by rfl) (by decide) (Zh6 (Zhb (by rfl) T.z_zip L2.B.boot_zip (Zf (xv 5) (xa1 (xv 4))))) (λ_ _ _ _ _=>(xg2 rfl (xg 0 (by show QV (["side","top","i","j"]:List Str);decide +kernel)) (xg 1 (by show QV (["side","top","i","j"]:List Str);decide +kernel)))) (λ_ _ _ _ _=>(Zka (xne hu (xix (xv 0) (xv 2)) (xix (xv 0) (xv 3))))) (λ_ _ _ _ _=>(xv 1)))) (Zi (Zd0 (Zdv 6 (xcl G_fraction (hr.mono (by decide)) T.e_fraction.m T.e_fraction.F.kp T.e_fraction.b (Zf (Zb5 Z9v (Zl3 Z38 (Zro rfl (by rfl)) (by rfl) T.z_sum L2.B.boot_sum (xa1 (xv 9)))) (xa1 (xv 3))))))))) (Zi (Zq1 (Zta 6 (xrt (xcl G_table_of_pairs (hr.mono (by decide)) T.e_table_of_pairs.m T.e_table_of_pairs.F.kp T.e_table_of_pairs.b (Zf (xv 0) (xa1 (xv 6))))))))))))))
theorem Wf:Zo ["table","parted","rest","row","parted_row"] ["table"] (Zj Zds):=fsc
theorem Zkl{f:Nat->Addr}{fd:Nat->Xp}{cls:Nat->Addr}(T:Txt K mg f fd cls):FnOk P w K mg base CX0 8 (f 29) (fd 29) ["table"] (spD K (sD Yk)):=by
 have G_minus:=Zo0 (P:=P) (w:=w) (base:=base) T
 have G_splits_of:=Zdh (P:=P) (w:=w) (base:=base) T
 have GX_splits_of:=Zct (P:=P) (w:=w) (base:=base) T
 have G_table_of:=Zib (P:=P) (w:=w) (base:=base) T
 refine Yd T.e_rest_table.F Wf (S:=Zaa) rfl rfl (λcdv A outer s H E hr=>?_)
 have hu:=hr.units
 exact(xsq (Z2l (xst 1 Wf.nd (xcl G_table_of (hr.mono (by decide)) T.e_table_of.m T.e_table_of.F.kp T.e_table_of.b (Zf (xln T.z_len (xa1 (xv 0))) (xa1 (xcl G_splits_of (hr.mono (by decide)) T.e_splits_of.m T.e_splits_of.F.kp T.e_splits_of.b (xa1 (xv 0)))))))) (xsq (xso 2 Wf.nd (xls xa0)) (xsq (xfr Xw rfl (Zh6 (Zhb (by rfl) T.z_zip L2.B.boot_zip (Zf (xv 0) (xa1 (xv 1))))) (xg2 rfl (xg 3 Wf.nd) (xg 4 Wf.nd)) (Zi (Zd0 (Zdv 2 (J9 (Zb9 (own:=["q","r"]) (caps:=[]) (N':=["q","r"]) (by exact⟨rfl,by decide +kernel,rfl,by decide +kernel,rfl,rfl⟩) (by rfl) (by decide) (Zh6 (Zhb (by rfl) T.z_zip L2.B.boot_zip (Zf (xv 3) (xa1 (xv 4))))) (λ_ _ _ _ _=>(xg2 rfl (xg 0 (by show QV (["q","r"]:List Str);decide +kernel)) (xg 1 (by show QV (["q","r"]:List Str);decide +kernel)))) (λ_ _ _ _ _=>(Zad Zac)) (λ_ _ _ _ _=>(xcl G_minus (hr.mono (by decide)) T.e_minus.m T.e_minus.F.kp T.e_minus.b (Zf (xv 0) (xa1 (xv 1))))))))))) (Zi (Zdq (Zc3 2))))))
theorem Zit{f:Nat->Addr}{fd:Nat->Xp}{cls:Nat->Addr}(T:Txt K mg f fd cls):FnOk P w K mg base (CX1 P w) 8 (f 29) (fd 29) ["table"] (spX K (sX K Yk)):=by
 have G_minus:=Zo0 (P:=P) (w:=w) (base:=base) T
 have G_splits_of:=Zdh (P:=P) (w:=w) (base:=base) T
 have GX_splits_of:=Zct (P:=P) (w:=w) (base:=base) T
 have G_table_of:=Zib (P:=P) (w:=w) (base:=base) T
 refine Zi4 T.e_rest_table.F Wf (S:=Zaa) rfl rfl (λcdv A outer s H E hr=>?_)
 have hu:=hr.units
 exact(Zje (Zod (Yba (Z45 (by rfl) T.e_table_of.m T.e_table_of.F.kp (Z0h (xln T.z_len (xa1 (xv 0))) (Z1a (Zdp (Zc4 GX_splits_of (hr.mono (by decide)) (by rfl) T.e_splits_of.m T.e_splits_of.F.kp T.e_splits_of.b (xa1 (xv 0))))))))) (Z2l (xst 1 Wf.nd (xcl G_table_of (hr.mono (by decide)) T.e_table_of.m T.e_table_of.F.kp T.e_table_of.b (Zf (xln T.z_len (xa1 (xv 0))) (xa1 (xcl G_splits_of (hr.mono (by decide)) T.e_splits_of.m T.e_splits_of.F.kp T.e_splits_of.b (xa1 (xv 0)))))))) (Zmh _))
theorem Wc:Zo ["table","side","way","caught","found","e"] ["table","side","way"] (Zj Zev):=fsc
theorem Zlx{f:Nat->Addr}{fd:Nat->Xp}{cls:Nat->Addr}(T:Txt K mg f fd cls):FnOk P w K mg base CX0 9 (f 30) (fd 30) ["table","side","way"] (spD K (sD Wj)):=by
 have G_law_is_refused:=Zgb (P:=P) (w:=w) (base:=base) T
 have G_cut_index:=Zk1 (P:=P) (w:=w) (base:=base) T
 have GX_cut_index:=Zjg (P:=P) (w:=w) (base:=base) T
 have G_rest_table:=Zkl (P:=P) (w:=w) (base:=base) T
 have GX_rest_table:=Zit (P:=P) (w:=w) (base:=base) T
 have G_splits_of:=Zdh (P:=P) (w:=w) (base:=base) T
 have GX_splits_of:=Zct (P:=P) (w:=w) (base:=base) T
 refine Yd T.e_law_asked.F Wc (S:=Zcw) rfl rfl (λcdv A outer s H E hr=>?_)
 have hu:=hr.units
 exact(xsq (xst 3 Wc.nd (Zhz Zid)) (xsq (xst 4 Wc.nd (Zhz Zid)) (xsq (Z4v T.ku_CutError (Z23 (i:=5) Wc.nd rfl rfl (by rfl) T.c_CutError.m T.r_CutError (Zi (xif (xeq hu (xv 2) xci) (Zi (Zws (xst 4 Wc.nd (xcl G_cut_index (hr.mono (by decide)) T.e_cut_index.m T.e_cut_index.F.kp T.e_cut_index.b (Zf (xv 0) (xa1 (xv 1))))))) (Zi (xif (xeq hu (xv 2) xci) (Zi (Zws (xst 4 Wc.nd (xcl G_splits_of (hr.mono (by decide)) T.e_splits_of.m T.e_splits_of.F.kp T.e_splits_of.b (xa1 (xv 0)))))) (Zi (Zws (xst 4 Wc.nd (xcl G_rest_table (hr.mono (by decide)) T.e_rest_table.m T.e_rest_table.F.kp T.e_rest_table.b (xa1 (xv 0)))))))))) (Zb0 (Zwh (Zvb (xeq hu (xv 2) xci) (Zb0 (Zod (Zdp (Zc4 GX_cut_index (hr.mono (by decide)) (by rfl) T.e_cut_index.m T.e_cut_index.F.kp T.e_cut_index.b (Zf (xv 0) (xa1 (xv 1))))))) (Zb0 (Zwh (Zvb (xeq hu (xv 2) xci) (Zb0 (Zod (Zdp (Zc4 GX_splits_of (hr.mono (by decide)) (by rfl) T.e_splits_of.m T.e_splits_of.F.kp T.e_splits_of.b (xa1 (xv 0)))))) (Zb0 (Zod (Zdp (Zc4 GX_rest_table (hr.mono (by decide)) (by rfl) T.e_rest_table.m T.e_rest_table.F.kp T.e_rest_table.b (xa1 (xv 0)))))))))))) (λ_=>(Zi (xst 3 Wc.nd (xv 5)))))) (xsq (xif (Zdi Yd7 (Zc5 Z2n Z4k (xv 3) (Zhz Zid) (hm:=(Zbn _)))) (Zi (xrt (xix (xls (Zf (Zhz Zht) (xa1 (Zhz Zht)))) (Zb5 Zsl (Zq4 Zli Zdf (by rfl) T.z_int L2.B.boot_int (xa1 (W6 Zns (Zs6 Zmy Znc (xv 4) (Zhz Zid) (hm:=(Zbn _)))))))))) xnl) (Zi (xrt (xix (xls (Zf (Zhz Zht) (xa1 (Zhz Zht)))) (Zb5 Zsl (Zq4 Zli Zdf (by rfl) T.z_int L2.B.boot_int (xa1 (xcl G_law_is_refused (hr.mono (by decide)) T.e_law_is_refused.m T.e_law_is_refused.F.kp T.e_law_is_refused.b (xa1 (xv 3)))))))))))))
theorem Zhu:Zo ["deck","many","taken"] ["deck","many"] (Zj Zfq):=fsc
theorem Zch{f:Nat->Addr}{fd:Nat->Xp}{cls:Nat->Addr}(T:Txt K mg f fd cls):FnOk P w K mg base CX0 1 (f 31) (fd 31) ["deck","many"] (spI K (sI Zk)):=by
 refine Zly T.e_law_take.F Zhu (S:=Zdk) rfl rfl (λcdv A outer s H E hr=>?_)
 have hu:=hr.units
 exact(xsq (xst 2 Zhu.nd (Z2g (xix (xo 0) xci) (xv 1))) (xsq (Z7u (Z31 0 (Zxn (xix (xo 0) xci) (xv 1)) xci)) (Zi (xrt (xv 2)))))
theorem Zj1:Zo ["deck"] ["deck"] (Zj Zdy):=fsc
theorem Zjr{f:Nat->Addr}{fd:Nat->Xp}{cls:Nat->Addr}(T:Txt K mg f fd cls):FnOk P w K mg base CX0 2 (f 32) (fd 32) ["deck"] (spI K (sI Zab)):=by
 have G_law_take:=Zch (P:=P) (w:=w) (base:=base) T
 refine Zly T.e_law_bottom.F Zj1 (S:=Zb7) rfl rfl (λcdv A outer s H E hr=>?_)
 have hu:=hr.units
 exact(Zi (xrt (Zgn xci (Z3 (Yp (i:=0) G_law_take (hr.mono (by decide)) (by rfl) T.e_law_take.m T.e_law_take.F.kp T.e_law_take.b Jp (xa1 (xix (xls (Zf xci (Zf xci (xa1 xci)))) (Z3 (Yp (i:=0) G_law_take (hr.mono (by decide)) (by rfl) T.e_law_take.m T.e_law_take.F.kp T.e_law_take.b Jp (xa1 xci))))))))))
theorem Zey:Zo ["cell","k","number"] ["cell","k"] (Zj Zfs):=fsc
theorem Zm8{f:Nat->Addr}{fd:Nat->Xp}{cls:Nat->Addr}(T:Txt K mg f fd cls):FnOk P w K mg base CX0 1 (f 33) (fd 33) ["cell","k"] (spD K (sD Yn)):=by
 refine Yd T.e_law_stir.F Zey (S:=Zc6) rfl rfl (λcdv A outer s H E hr=>?_)
 have hu:=hr.units
 exact(xsq (xst 2 Zey.nd (Zgn (Zgn (Ziv (Z2g (xv 0) (Ztu xci xci)) xci) (Ziv (Ziv (Ztu xci xci) (Zgn (xv 1) xci)) (Zgn (xv 1) xci))) (xv 1))) (xsq (xst 2 Zey.nd (Zgn (Ziv (xv 2) (xv 2)) (Ziv xci (xv 2)))) (Zi (xrt (Zxn (Z2g (Ziv (xv 2) (xv 2)) (Zgn (Ztu xci xci) xci)) xci)))))
theorem Znl:Zo ["cell"] ["cell"] (Zj Zf2):=fsc
theorem Zno{f:Nat->Addr}{fd:Nat->Xp}{cls:Nat->Addr}(T:Txt K mg f fd cls):FnOk P w K mg base CX0 2 (f 34) (fd 34) ["cell"] (spD K (sD Jy)):=by
 have G_law_stir:=Zm8 (P:=P) (w:=w) (base:=base) T
 refine Yd T.e_law_deck.F Znl (S:=Jw) rfl rfl (λcdv A outer s H E hr=>?_)
 have hu:=hr.units
 exact(xsq (xif (xge (xv 0) (Ztu xci xci)) (Zi (xrt (xls (xa1 (Z2d (xv 0) (Ztu xci xci)))))) xnl) (Zi (xrt (xls (xa1 (Zgn (Ziv (Zgn (Ziv (xcl G_law_stir (hr.mono (by decide)) T.e_law_stir.m T.e_law_stir.F.kp T.e_law_stir.b (Zf (xv 0) (xa1 xci))) (Ztu xci xci)) (xcl G_law_stir (hr.mono (by decide)) T.e_law_stir.m T.e_law_stir.F.kp T.e_law_stir.b (Zf (xv 0) (xa1 xci)))) (Ztu xci xci)) (xcl G_law_stir (hr.mono (by decide)) T.e_law_stir.m T.e_law_stir.F.kp T.e_law_stir.b (Zf (xv 0) (xa1 xci)))))))))
theorem W8:Zo ["rows","n","one","by","other"] ["rows"] (Zj Zcs):=fsc
theorem Zil{f:Nat->Addr}{fd:Nat->Xp}{cls:Nat->Addr}(T:Txt K mg f fd cls):FnOk P w K mg base CX0 1 (f 35) (fd 35) ["rows"] (spD K (sD Wn)):=by
 refine Yd T.e_law_is_long.F W8 (S:=Zbk) rfl rfl (λcdv A outer s H E hr=>?_)
 have hu:=hr.units
 exact(xsq (xst 1 W8.nd (xln T.z_len (xa1 (xv 0)))) (xsq (xfr Xw rfl (Zas (Zw (by rfl) T.z_range (xa1 (xv 1)))) (xg 2 W8.nd) (Zi (xfr Xw rfl (Zas (Zw (by rfl) T.z_range (xa1 (xv 1)))) (xg 3 W8.nd) (Zi (xfr Xw rfl (Zas (Zw (by rfl) T.z_range (xa1 (xv 1)))) (xg 4 W8.nd) (Zi (xif (xgt (xix (xix (xv 0) (xv 2)) (xv 4)) (Zgn (xix (xix (xv 0) (xv 2)) (xv 3)) (xix (xix (xv 0) (xv 3)) (xv 4)))) (Zi (xrt (Zhz Zsp))) xnl))))))) (Zi (xrt (Zhz Zsp)))))
theorem Zb1:Zo ["rows","bits","weight","one","other"] ["rows","bits","weight"] (Zj Zck):=fsc
theorem Zis{f:Nat->Addr}{fd:Nat->Xp}{cls:Nat->Addr}(T:Txt K mg f fd cls):FnOk P w K mg base CX0 1 (f 36) (fd 36) ["rows","bits","weight"] (spI K (sI Wr)):=by
 refine Zly T.e_law_add_cut.F Zb1 (S:=Zbs) rfl rfl (λcdv A outer s H E hr=>?_)
 have hu:=hr.units
 exact(Zi (xfr Xw rfl (Zas (Zw (by rfl) T.z_range (xa1 (xln T.z_len (xa1 (xo 0)))))) (xg 3 Zb1.nd) (Zi (xfr Xw rfl (Zas (Zw (by rfl) T.z_range (xa1 (xln T.z_len (xa1 (xo 0)))))) (xg 4 Zb1.nd) (Zi (xif (xne hu (W6 Z5r (Zh0 Zyl Zjf (W6 Z3r (Zh0 Zxq Zqk (xv 1) (xv 3))) xci)) (W6 Z5r (Zh0 Zyl Zjf (W6 Z3r (Zh0 Zxq Zqk (xv 1) (xv 4))) xci))) (Zi (Zba (Zbh 0 (Zgn (xix (xix (xo 0) (xv 3)) (xv 4)) (xv 2)) (xv 3) (xv 4) (λ_ _=>rfl)))) xnl))))))
theorem Zjt:Zo ["n"] ["n"] (Zj Zde):=fsc
theorem Zkh{f:Nat->Addr}{fd:Nat->Xp}{cls:Nat->Addr}(T:Txt K mg f fd cls):FnOk P w K mg base CX0 1 (f 37) (fd 37) ["n"] (spD K (sD Yr)):=by
 refine Yd T.e_law_nought.F Zjt (S:=W3) rfl rfl (λcdv A outer s H E hr=>?_)
 have hu:=hr.units
 exact(Zi (xrt (J9 (Zb9 (own:=["one"]) (caps:=[0]) (N':=["one","n"]) (by exact⟨rfl,by decide +kernel,rfl,by decide +kernel,rfl,rfl⟩) (by rfl) (by decide) (Zas (Zw (by rfl) T.z_range (xa1 (xv 0)))) (λ_ _ _ _ _=>(xg 0 (by show QV (["one","n"]:List Str);decide +kernel))) (λ_ _ _ _ _=>(Zad Zac)) (λ_ _ _ _ _=>(J9 (Zb9 (own:=["other"]) (caps:=[]) (N':=["other"]) (by exact⟨rfl,by decide +kernel,rfl,by decide +kernel,rfl,rfl⟩) (by rfl) (by decide) (Zas (Zw (by rfl) T.z_range (xa1 (xv 1)))) (λ_ _ _ _ _=>(xg 0 (by show QV (["other"]:List Str);decide +kernel))) (λ_ _ _ _ _=>(Zad Zac)) (λ_ _ _ _ _=>xci))))))))
theorem Wv:Zo ["rows","n","by","one","other"] ["rows"] (Zj Zbu):=fsc
theorem Zh5{f:Nat->Addr}{fd:Nat->Xp}{cls:Nat->Addr}(T:Txt K mg f fd cls):FnOk P w K mg base CX0 1 (f 38) (fd 38) ["rows"] (spI K (sI Jg)):=by
 refine Zly T.e_law_shortest.F Wv (S:=Zbf) rfl rfl (λcdv A outer s H E hr=>?_)
 have hu:=hr.units
 exact(xsq (xst 1 Wv.nd (xln T.z_len (xa1 (xo 0)))) (Zi (xfr Xw rfl (Zas (Zw (by rfl) T.z_range (xa1 (xv 1)))) (xg 2 Wv.nd) (Zi (xfr Xw rfl (Zas (Zw (by rfl) T.z_range (xa1 (xv 1)))) (xg 3 Wv.nd) (Zi (xfr Xw rfl (Zas (Zw (by rfl) T.z_range (xa1 (xv 1)))) (xg 4 Wv.nd) (Zi (Zba (Zbh 0 (Zb5 Z44 (Zl3 Zud (Zmq (by rfl)) (by rfl) T.z_min L2.B.boot_min (Zf (xix (xix (xo 0) (xv 3)) (xv 4)) (xa1 (Zgn (xix (xix (xo 0) (xv 3)) (xv 2)) (xix (xix (xo 0) (xv 2)) (xv 4))))))) (xv 3) (xv 4) (λ_ _=>rfl)))))))))))
theorem Y4:Zo ["deck","n","rows","kind","k","bits","ways","most","one","other"] ["deck","n"] (Zj Zfy):=fsc
theorem Znd{f:Nat->Addr}{fd:Nat->Xp}{cls:Nat->Addr}(T:Txt K mg f fd cls):FnOk P w K mg base CX0 2 (f 39) (fd 39) ["deck","n"] (spI K (sI Jr)):=by
 have G_law_add_cut:=Zis (P:=P) (w:=w) (base:=base) T
 have G_law_nought:=Zkh (P:=P) (w:=w) (base:=base) T
 have G_law_shortest:=Zh5 (P:=P) (w:=w) (base:=base) T
 have G_law_take:=Zch (P:=P) (w:=w) (base:=base) T
 refine Zly T.e_law_long.F Y4 (S:=Zc2) rfl rfl (λcdv A outer s H E hr=>?_)
 have hu:=hr.units
 exact(xsq (xso 2 Y4.nd (xcl G_law_nought (hr.mono (by decide)) T.e_law_nought.m T.e_law_nought.F.kp T.e_law_nought.b (xa1 (xv 1)))) (xsq (xst 3 Y4.nd (Z3 (Yp (i:=0) G_law_take (hr.mono (by decide)) (by rfl) T.e_law_take.m T.e_law_take.F.kp T.e_law_take.b Jp (xa1 xci)))) (xsq (xif (xne hu (xv 3) xci) (Zi (xfr Xw rfl (Zas (Zw (by rfl) T.z_range (xa1 (Z3 (Yp (i:=0) G_law_take (hr.mono (by decide)) (by rfl) T.e_law_take.m T.e_law_take.F.kp T.e_law_take.b Jp (xa1 xci)))))) (xg 4 Y4.nd) (xsq (xst 5 Y4.nd (Z3 (Yp (i:=0) G_law_take (hr.mono (by decide)) (by rfl) T.e_law_take.m T.e_law_take.F.kp T.e_law_take.b Jp (xa1 (W6 Yan (Zh0 Z3p Z4t xci (xv 1))))))) (Zi (Zf4 (Zf9 (Z3 (Yp (i:=2) G_law_add_cut (hr.mono (by decide)) (by rfl) T.e_law_add_cut.m T.e_law_add_cut.F.kp T.e_law_add_cut.b Jp (Zf (xv 5) (xa1 (Zgn xci (Z3 (Yp (i:=0) G_law_take (hr.mono (by decide)) (by rfl) T.e_law_take.m T.e_law_take.F.kp T.e_law_take.b Jp (xa1 (xix (xls (Zf xci (xa1 (Ztu xci xci)))) (Z3 (Yp (i:=0) G_law_take (hr.mono (by decide)) (by rfl) T.e_law_take.m T.e_law_take.F.kp T.e_law_take.b Jp (xa1 xci)))))))))))))))))) xnl) (xsq (xif (xgt (xv 3) xci) (xsq (xso 6 Y4.nd (xcl G_law_nought (hr.mono (by decide)) T.e_law_nought.m T.e_law_nought.F.kp T.e_law_nought.b (xa1 (xv 1)))) (xsq (xst 7 Y4.nd (xix (xls (Zf xci (Zf xci (xa1 (Ztu xci xci))))) (Z3 (Yp (i:=0) G_law_take (hr.mono (by decide)) (by rfl) T.e_law_take.m T.e_law_take.F.kp T.e_law_take.b Jp (xa1 xci))))) (xsq (xfr Xw rfl (Zas (Zw (by rfl) T.z_range (xa1 (xv 1)))) (xg 8 Y4.nd) (Zi (xfr Xw rfl (Zas (Zw (by rfl) T.z_range (xa1 (xv 8)))) (xg 9 Y4.nd) (xsq (Zba (Zbh 6 (xix (xls (Zf (Zgn xci (Z3 (Yp (i:=0) G_law_take (hr.mono (by decide)) (by rfl) T.e_law_take.m T.e_law_take.F.kp T.e_law_take.b Jp (xa1 (xv 7))))) (xa1 (xv 7)))) (Zb5 Zsl (Zq4 Zli Zdf (by rfl) T.z_int L2.B.boot_int (xa1 (W6 Z8j (Zs6 (Zoj hu) Zv7 (xv 3) xci (hm:=(Zbn _)))))))) (xv 8) (xv 9) (λ_ _=>rfl))) (xsq (xif (MW.mt (Zx0 (Zx5 (xeq hu (xv 3) xci) (Ztn (xeq hu (Z3 (Yp (i:=0) G_law_take (hr.mono (by decide)) (by rfl) T.e_law_take.m T.e_law_take.F.kp T.e_law_take.b Jp (xa1 xci))) xci))))) (Zi (Zba (Zbh 6 xci (xv 8) (xv 9) (λ_ _=>rfl)))) xnl) (Zi (Zba (Zbh 6 (Zsq (Zxe (xix (xix (xo 6) (xv 8)) (xv 9)))) (xv 9) (xv 8) (λ_ _=>rfl))))))))) (xsq (Zf4 (Zf9 (Z3 (Yp (i:=6) G_law_shortest (hr.mono (by decide)) (by rfl) T.e_law_shortest.m T.e_law_shortest.F.kp T.e_law_shortest.b Jp xa0)))) (Zi (xfr Xw rfl (Zas (Zw (by rfl) T.z_range (xa1 (xv 1)))) (xg 8 Y4.nd) (Zi (Z1j (Zzl 2 (J9 (Zb9 (own:=["number","more"]) (caps:=[]) (N':=["number","more"]) (by exact⟨rfl,by decide +kernel,rfl,by decide +kernel,rfl,rfl⟩) (by rfl) (by decide) (Zh6 (Zhb (by rfl) T.z_zip L2.B.boot_zip (Zf (xix (xo 2) (xv 8)) (xa1 (xix (xo 6) (xv 8)))))) (λ_ _ _ _ _=>(Zxy (Zyi (n:=2) (by rfl) (Zg5 (Zlq (Zoc (Zot (i:=0) (by show QV (["number","more"]:List Str);decide +kernel))) (Zg5 (Zlq (Zoc (Zot (i:=1) (by show QV (["number","more"]:List Str);decide +kernel))) (Ztf Zrl)))))))) (λ_ _ _ _ _=>(Zad Zac)) (λ_ _ _ _ _=>(Zgn (xv 0) (xv 1))))) (xv 8)))))))))) xnl) (Zi (Zdq (Zc3 2)))))))
theorem Yy:Zo ["deck","rows","n","one","other","by","far"] ["deck","rows"] (Zj Zc1):=fsc
theorem Zj5{f:Nat->Addr}{fd:Nat->Xp}{cls:Nat->Addr}(T:Txt K mg f fd cls):FnOk P w K mg base CX0 2 (f 40) (fd 40) ["deck","rows"] (spJ K (sJ J7)):=by
 have G_law_take:=Zch (P:=P) (w:=w) (base:=base) T
 refine Z6l T.e_law_spoilt.F Yy (S:=Zca) rfl rfl (λcdv A outer s H E hr=>?_)
 have hu:=hr.units
 exact(xsq (xst 2 Yy.nd (xln T.z_len (xa1 (xo 1)))) (xsq (xif (xeq hu (Z3 (Yp (i:=0) G_law_take (hr.mono (by decide)) (by rfl) T.e_law_take.m T.e_law_take.F.kp T.e_law_take.b Jp (xa1 xci))) xci) (xsq (xfr Xw rfl (Zas (Zw (by rfl) T.z_range (xa1 (xv 2)))) (xg 3 Yy.nd) (Zi (xfr Xw rfl (Zas (Zw (by rfl) T.z_range (xa1 (xv 3)))) (xg 4 Yy.nd) (xsq (Zba (Zbh 1 (Z3 (Yp (i:=0) G_law_take (hr.mono (by decide)) (by rfl) T.e_law_take.m T.e_law_take.F.kp T.e_law_take.b Jp (xa1 (xix (xls (Zf xci (xa1 xci))) (Z3 (Yp (i:=0) G_law_take (hr.mono (by decide)) (by rfl) T.e_law_take.m T.e_law_take.F.kp T.e_law_take.b Jp (xa1 xci))))))) (xv 3) (xv 4) (λ_ _=>rfl))) (Zi (Zba (Zbh 1 (Zsq (Zxe (xix (xix (xo 1) (xv 3)) (xv 4)))) (xv 4) (xv 3) (λ_ _=>rfl)))))))) (Zi (Zdq (Zc3 1)))) xnl) (xsq (Ztd (Zsn (i:=3) Yy.nd rfl (Qg rfl) (Z3 (Yp (i:=0) G_law_take (hr.mono (by decide)) (by rfl) T.e_law_take.m T.e_law_take.F.kp T.e_law_take.b Jp (xa1 (xv 2)))))) (xsq (Ztd (Zsn (i:=4) Yy.nd rfl (Qg rfl) (Z2g (Zgn (Zgn (xv 3) xci) (Z3 (Yp (i:=0) G_law_take (hr.mono (by decide)) (by rfl) T.e_law_take.m T.e_law_take.F.kp T.e_law_take.b Jp (xa1 (Z2d (xv 2) xci))))) (xv 2)))) (xsq (xst 5 Yy.nd (xix (J9 (Zb9 (own:=["point"]) (caps:=[3,4]) (N':=["point","one","other"]) (by exact⟨rfl,by decide +kernel,rfl,by decide +kernel,rfl,rfl⟩) (by rfl) (by decide) (Zas (Zw (by rfl) T.z_range (xa1 (xv 2)))) (λ_ _ _ _ _=>(xg 0 (by show QV (["point","one","other"]:List Str);decide +kernel))) (λ_ _ _ _ _=>(Zka (MW.mt (Zx0 (Zx5 (xne hu (xv 0) (xv 1)) (Ztn (xne hu (xv 0) (xv 2)))))))) (λ_ _ _ _ _=>(xv 0)))) (Z3 (Yp (i:=0) G_law_take (hr.mono (by decide)) (by rfl) T.e_law_take.m T.e_law_take.F.kp T.e_law_take.b Jp (xa1 (Z2d (xv 2) xci)))))) (xsq (xst 6 Yy.nd (Zgn (Zgn (xix (xix (xo 1) (xv 3)) (xv 5)) (xix (xix (xo 1) (xv 5)) (xv 4))) (Z3 (Yp (i:=0) G_law_take (hr.mono (by decide)) (by rfl) T.e_law_take.m T.e_law_take.F.kp T.e_law_take.b Jp (xa1 (xix (xls (Zf xci (xa1 (Ztu xci xci)))) (Z3 (Yp (i:=0) G_law_take (hr.mono (by decide)) (by rfl) T.e_law_take.m T.e_law_take.F.kp T.e_law_take.b Jp (xa1 xci))))))))) (xsq (Zba (Zbh 1 (xv 6) (xv 3) (xv 4) (λ_ _=>rfl))) (xsq (Zba (Zbh 1 (xv 6) (xv 4) (xv 3) (λ_ _=>rfl))) (Zi (Zdq (Zc3 1)))))))))))
theorem Y7:Zo ["top","bottom","one","other","rest"] ["top","bottom"] (Zj Zby):=fsc
theorem Zie{f:Nat->Addr}{fd:Nat->Xp}{cls:Nat->Addr}(T:Txt K mg f fd cls):FnOk P w K mg base CX0 1 (f 41) (fd 41) ["top","bottom"] (spD K (sD Jh)):=by
 refine Yd T.e_law_fraction.F Y7 (S:=Za9) rfl rfl (λcdv A outer s H E hr=>?_)
 have hu:=hr.units
 exact(xsq (xst 2 Y7.nd (Zb5 Z1v (Zl3 Zs2 Zjx (by rfl) T.z_abs L2.B.boot_abs (xa1 (xv 0))))) (xsq (xst 3 Y7.nd (xv 1)) (xsq (Zn4 (Zpa Xw (xne hu (xv 3) xci) (xsq (xst 4 Y7.nd (Z2g (xv 2) (xv 3))) (xsq (xst 2 Y7.nd (xv 3)) (Zi (xst 3 Y7.nd (xv 4))))))) (Zi (xrt (xtp (Zf (Zxn (xv 0) (xv 2)) (xa1 (Zxn (xv 1) (xv 2))))))))))
theorem Zl1:Zo ["rows","bottom"] ["rows","bottom"] (Zj Zem):=fsc
theorem Zl9{f:Nat->Addr}{fd:Nat->Xp}{cls:Nat->Addr}(T:Txt K mg f fd cls):FnOk P w K mg base CX0 2 (f 42) (fd 42) ["rows","bottom"] (spD K (sD Wi)):=by
 have G_law_fraction:=Zie (P:=P) (w:=w) (base:=base) T
 refine Yd T.e_law_table.F Zl1 (S:=Zcy) rfl rfl (λcdv A outer s H E hr=>?_)
 have hu:=hr.units
 exact(Zi (xrt (J9 (Zb9 (own:=["row"]) (caps:=[1]) (N':=["row","bottom"]) (by exact⟨rfl,by decide +kernel,rfl,by decide +kernel,rfl,rfl⟩) (by rfl) (by decide) (xil (xv 0)) (λ_ _ _ _ _=>(xg 0 (by show QV (["row","bottom"]:List Str);decide +kernel))) (λ_ _ _ _ _=>(Zad Zac)) (λ_ _ _ _ _=>(J9 (Zb9 (own:=["number"]) (caps:=[1]) (N':=["number","bottom"]) (by exact⟨rfl,by decide +kernel,rfl,by decide +kernel,rfl,rfl⟩) (by rfl) (by decide) (xil (xv 0)) (λ_ _ _ _ _=>(xg 0 (by show QV (["number","bottom"]:List Str);decide +kernel))) (λ_ _ _ _ _=>(Zad Zac)) (λ_ _ _ _ _=>(xcl G_law_fraction (hr.mono (by decide)) T.e_law_fraction.m T.e_law_fraction.F.kp T.e_law_fraction.b (Zf (xv 0) (xa1 (xv 1))))))))))))
theorem Zdj:Zo ["script","cell","deck","n","rows","bottom","side","due","way","handed"] ["script"] (Zj Z1f):=fsc
theorem Z3s{f:Nat->Addr}{fd:Nat->Xp}{cls:Nat->Addr}(T:Txt K mg f fd cls):FnOk P w K mg base CX0 10 (f 43) (fd 43) ["script"] (spD K (sD Zfk)):=by
 have G_law_asked:=Zlx (P:=P) (w:=w) (base:=base) T
 have G_law_bottom:=Zjr (P:=P) (w:=w) (base:=base) T
 have G_law_deck:=Zno (P:=P) (w:=w) (base:=base) T
 have G_law_is_long:=Zil (P:=P) (w:=w) (base:=base) T
 have G_law_long:=Znd (P:=P) (w:=w) (base:=base) T
 have G_law_spoilt:=Zj5 (P:=P) (w:=w) (base:=base) T
 have G_law_table:=Zl9 (P:=P) (w:=w) (base:=base) T
 have G_law_take:=Zch (P:=P) (w:=w) (base:=base) T
 refine Yd T.e_law.F Zdj (S:=Zfl) rfl rfl (λcdv A outer s H E hr=>?_)
 have hu:=hr.units
 exact(xsq (xfr Xw rfl (xil (Zsb (Zms Zv3 (Z71 (Zj0 rfl) Zos (xls (xa1 (Ztu xci xci))) (Z69 (Z2x (xv 0) (Zr5 Zs5) (Zrv (Zs0 xci)))))))) (xg 1 Zdj.nd) (xsq (xso 2 Zdj.nd (xcl G_law_deck (hr.mono (by decide)) T.e_law_deck.m T.e_law_deck.F.kp T.e_law_deck.b (xa1 (xv 1)))) (xsq (xst 3 Zdj.nd (Zgn xci (Z3 (Yp (i:=2) G_law_take (hr.mono (by decide)) (by rfl) T.e_law_take.m T.e_law_take.F.kp T.e_law_take.b Jp (xa1 xci))))) (xsq (xif (xeq hu (Z3 (Yp (i:=2) G_law_take (hr.mono (by decide)) (by rfl) T.e_law_take.m T.e_law_take.F.kp T.e_law_take.b Jp (xa1 xci))) xci) (Zi (xst 3 Zdj.nd xci)) xnl) (xsq (xst 4 Zdj.nd (Zuw (Z01 (i:=2) G_law_spoilt (hr.mono (by decide)) (by rfl) T.e_law_spoilt.m T.e_law_spoilt.F.kp T.e_law_spoilt.b Jp (Z3 (Yp (i:=2) G_law_long (hr.mono (by decide)) (by rfl) T.e_law_long.m T.e_law_long.F.kp T.e_law_long.b Jp (xa1 (xv 3))))))) (xsq (xst 5 Zdj.nd (Z3 (Yp (i:=2) G_law_bottom (hr.mono (by decide)) (by rfl) T.e_law_bottom.m T.e_law_bottom.F.kp T.e_law_bottom.b Jp xa0))) (xsq (xst 6 Zdj.nd (xls (xa1 (Zgn xci (Z3 (Yp (i:=2) G_law_take (hr.mono (by decide)) (by rfl) T.e_law_take.m T.e_law_take.F.kp T.e_law_take.b Jp (xa1 (Z2d (xv 3) xci)))))))) (xsq (xst 7 Zdj.nd (xix (xls (Zf (Zhz Zht) (xa1 (Zhz Zht)))) (Zb5 Zsl (Zq4 Zli Zdf (by rfl) T.z_int L2.B.boot_int (xa1 (xcl G_law_is_long (hr.mono (by decide)) T.e_law_is_long.m T.e_law_is_long.F.kp T.e_law_is_long.b (xa1 (xv 4)))))))) (Zi (xfr Xw rfl (Zas (Zw (by rfl) T.z_range (xa1 (xix (xls (Zf xci (xa1 xci))) (Zb5 Zsl (Zq4 Zli Zdf (by rfl) T.z_int L2.B.boot_int (xa1 (Znv (Z18 (W6 Z8j (Zs6 (Zoj hu) Zv7 (xv 3) xci (hm:=(Zbn _)))) (Z0z (W6 Z8j (Zs6 (Zoj hu) Zv7 (xv 7) (Zhz Zht) (hm:=(Zbn _)))))))))))))) (xg 8 Zdj.nd) (xsq (xst 9 Zdj.nd (xcl G_law_table (hr.mono (by decide)) T.e_law_table.m T.e_law_table.F.kp T.e_law_table.b (Zf (xv 4) (xa1 (xv 5))))) (Zi (xif (MW.mt (Zne (Zm6 (xne hu (xcl G_law_asked (hr.mono (by decide)) T.e_law_asked.m T.e_law_asked.F.kp T.e_law_asked.b (Zf (xv 9) (Zf (xv 6) (xa1 (xv 8))))) (xv 7)) (Zo6 (xne hu (xv 9) (xcl G_law_table (hr.mono (by decide)) T.e_law_table.m T.e_law_table.F.kp T.e_law_table.b (Zf (xv 4) (xa1 (xv 5))))))))) (Zi (xrt (Zhz Zsp))) xnl))))))))))))) (Zi (xrt (Zhz Zsp))))
theorem Zy9{f:Nat->Addr}{fd:Nat->Xp}{cls:Nat->Addr}(T:Txt K mg f fd cls):FnOk P w K mg base CX0 10 (f 43) (fd 43) ["script"] (spD K Z6x):=(Z3s T).imp λvs H Q E q=>by
 obtain⟨L,ds,k,h1,⟨ns,e,hl,hk⟩,h3⟩:=q
 exact⟨L,ds,k,h1,⟨_,by rw[e];exact Zu1 ns hl,hk⟩,h3⟩
end
theorem Z5o{l:PySem.W.OpenLaw}{w:Qt}{K:Xb}{h:Heap}{mg:Str->Option Xc}{fa:Addr}(X:K.In h)(G:h.Ns XD mg)(hfa:mg "law"=some (.ref fa))
  (q1:Ei K "_law_is_refused" Zaq f1 d1)
  (q2:Ei K "is_below" Zfx f2 d2)
  (q3:Ei K "greatest_divisor" Jq f3 d3)
  (q4:Ei K "in_least" Zfp f4 d4)
  (q5:Ei K "plus" Zt9 f5 d5)
  (q6:Ei K "is_short_by" Zcr f6 d6)
  (q7:Ei K "first_short" Zco f7 d7)
  (q8:Ei K "check_long" Zdt f8 d8)
  (q9:Ei K "split_rule" Zdc f9 d9)
  (q10:Ei K "is_whole" Zfu f10 d10)
  (q11:Ei K "fraction" Zfh f11 d11)
  (q12:Ei K "doubles_of" Zc7 f12 d12)
  (q13:Ei K "three_sums" Zc9 f13 d13)
  (q14:Ei K "least_over_sides" Jo f14 d14)
  (q15:Ei K "shared_bottom" Zbg f15 d15)
  (q16:Ei K "table_bottom" Zbt f16 d16)
  (q17:Ei K "tops_over" Zeq f17 d17)
  (q18:Ei K "table_over" Zdr f18 d18)
  (q19:Ei K "weight_by" Zeu f19 d19)
  (q20:Ei K "cut_index" Zeo f20 d20)
  (q21:Ei K "minus" Znh f21 d21)
  (q22:Ei K "all_cuts" Zf3 f22 d22)
  (q23:Ei K "weighted_by" Zcl f23 d23)
  (q24:Ei K "splits_of" Zep f24 d24)
  (q25:Ei K "sides_of" Zf8 f25 d25)
  (q26:Ei K "all_sides" Zen f26 d26)
  (q27:Ei K "pairs_of" Zfo f27 d27)
  (q28:Ei K "table_of_pairs" Zar f28 d28)
  (q29:Ei K "table_of" Zft f29 d29)
  (q30:Ei K "rest_table" Zds f30 d30)
  (q31:Ei K "_law_asked" Zev f31 d31)
  (q32:Ei K "_law_take" Zfq f32 d32)
  (q33:Ei K "_law_bottom" Zdy f33 d33)
  (q34:Ei K "_law_stir" Zfs f34 d34)
  (q35:Ei K "_law_deck" Zf2 f35 d35)
  (q36:Ei K "_law_is_long" Zcs f36 d36)
  (q37:Ei K "_law_add_cut" Zck f37 d37)
  (q38:Ei K "_law_nought" Zde f38 d38)
  (q39:Ei K "_law_shortest" Zbu f39 d39)
  (q40:Ei K "_law_long" Zfy f40 d40)
  (q41:Ei K "_law_spoilt" Zc1 f41 d41)
  (q42:Ei K "_law_fraction" Zby f42 d42)
  (q43:Ei K "_law_table" Zem f43 d43)
  (q44:Ei K "law" Z1f f44 d44)
  (z0:Qe K XD "ValueError"=some none)
  (z1:Qe K XD "abs"=some none)
  (z2:Qe K XD "bool"=some none)
  (z3:Qe K XD "enumerate"=some none)
  (z4:Qe K XD "int"=some none)
  (z5:Qe K XD "isinstance"=some none)
  (z6:Qe K XD "len"=some none)
  (z7:Qe K XD "max"=some none)
  (z8:Qe K XD "min"=some none)
  (z9:Qe K XD "range"=some none)
  (z10:Qe K XD "sorted"=some none)
  (z11:Qe K XD "sum"=some none)
  (z12:Qe K XD "zip"=some none)
  (cc_CutError:Qe K XD "CutError"=some (some (.ref C_CutError)))
  (cc_NoCut:Qe K XD "NoCut"=some (some (.ref C_NoCut)))
  (cc_NoName:Qe K XD "NoName"=some (some (.ref C_NoName)))
  (cc_NoNumber:Qe K XD "NoNumber"=some (some (.ref C_NoNumber)))
  (cc_NoOrder:Qe K XD "NoOrder"=some (some (.ref C_NoOrder)))
  (cc_NoPoint:Qe K XD "NoPoint"=some (some (.ref C_NoPoint)))
  (cc_NoRow:Qe K XD "NoRow"=some (some (.ref C_NoRow)))
  (cc_NoTable:Qe K XD "NoTable"=some (some (.ref C_NoTable)))
  (cc_NoText:Qe K XD "NoText"=some (some (.ref C_NoText)))
  (cc_NoWeb:Qe K XD "NoWeb"=some (some (.ref C_NoWeb)))
  (cc_TooMany:Qe K XD "TooMany"=some (some (.ref C_TooMany)))
  (x_NoNumber:Zcj K C_NoNumber)
  (x_NoTable:Zcj K C_NoTable)
  (r_CutError:Zj8 K C_CutError)
  (r_NoNumber:Zj8 K C_NoNumber)
  (r_NoTable:Zj8 K C_NoTable)
  (u_NoNumber_CutError:Be K (.ref C_NoNumber) (.ref C_CutError)=some true)
  (kt_NoNumber_NoTable:Qh K (.ref C_NoNumber) (.ref C_NoTable)=some false)
  (kt_NoNumber_ValueError:Qh K (.ref C_NoNumber) (.type "ValueError")=some true)
  (ka_NoNumber_0:Bp K (.ref C_NoNumber) [.ref C_NoCut,.ref C_NoName,.ref C_NoNumber,.ref C_NoOrder,.ref C_NoPoint,.ref C_NoRow,.ref C_NoText,.ref C_NoWeb,.ref C_TooMany]=some true)
  (u_NoTable_CutError:Be K (.ref C_NoTable) (.ref C_CutError)=some true)
  (kt_NoTable_NoTable:Qh K (.ref C_NoTable) (.ref C_NoTable)=some true)
  (kt_NoTable_ValueError:Qh K (.ref C_NoTable) (.type "ValueError")=some true)
  (ka_NoTable_0:Bp K (.ref C_NoTable) [.ref C_NoCut,.ref C_NoName,.ref C_NoNumber,.ref C_NoOrder,.ref C_NoPoint,.ref C_NoRow,.ref C_NoText,.ref C_NoWeb,.ref C_TooMany]=some false)
  :∃fd:Xp,(∀(s:Xd) (v:Xc),BindsTo s fd ⟨[v],[]⟩ [("script",v)])∧∀base:Heap,K.In base->base.Ns XD mg->FnOk l.prog w K mg base CX0 10 fa fd ["script"] (spD K Z6x):=by
 have e:=hfa.symm.trans (PySem.W.mg_of X G q44.a)
 cases e
 have T:Txt K mg (λk=>[f1,f2,f3,f4,f5,f6,f7,f8,f9,f10,f11,f12,f13,f14,f15,f16,f17,f18,f19,f20,f21,f22,f23,f24,f25,f26,f27,f28,f29,f30,f31,f32,f33,f34,f35,f36,f37,f38,f39,f40,f41,f42,f43,f44].getD k 0) (λk=>[d1,d2,d3,d4,d5,d6,d7,d8,d9,d10,d11,d12,d13,d14,d15,d16,d17,d18,d19,d20,d21,d22,d23,d24,d25,d26,d27,d28,d29,d30,d31,d32,d33,d34,d35,d36,d37,d38,d39,d40,d41,d42,d43,d44].getD k d44) (λk=>[C_CutError,C_NoCut,C_NoName,C_NoNumber,C_NoOrder,C_NoPoint,C_NoRow,C_NoTable,C_NoText,C_NoWeb,C_TooMany].getD k 0):=⟨en1 X G q1,en2 X G q2,en2 X G q3,en2 X G q4,en2 X G q5,en4 X G q6,en1 X G q7,en1 X G q8,en1 X G q9,en1 X G q10,en2 X G q11,en1 X G q12,en5 X G q13,en3 X G q14,en1 X G q15,en1 X G q16,en2 X G q17,en2 X G q18,en3 X G q19,en2 X G q20,en2 X G q21,en1 X G q22,en2 X G q23,en1 X G q24,en2 X G q25,en2 X G q26,en1 X G q27,en2 X G q28,en2 X G q29,en1 X G q30,en3 X G q31,en2 X G q32,en1 X G q33,en2 X G q34,en1 X G q35,en1 X G q36,en3 X G q37,en1 X G q38,en1 X G q39,en2 X G q40,en2 X G q41,en2 X G q42,en2 X G q43,en1 X G q44,q9.a,Qw X G z0,Qw X G z1,Qw X G z2,Qw X G z3,Qw X G z4,Qw X G z5,Qw X G z6,Qw X G z7,Qw X G z8,Qw X G z9,Qw X G z10,Qw X G z11,Qw X G z12,ec X G cc_CutError,ec X G cc_NoCut,ec X G cc_NoName,ec X G cc_NoNumber,ec X G cc_NoOrder,ec X G cc_NoPoint,ec X G cc_NoRow,ec X G cc_NoTable,ec X G cc_NoText,ec X G cc_NoWeb,ec X G cc_TooMany,x_NoNumber,x_NoTable,r_CutError,r_NoNumber,r_NoTable,u_NoNumber_CutError,kt_NoNumber_NoTable,kt_NoNumber_ValueError,ka_NoNumber_0,u_NoTable_CutError,kt_NoTable_NoTable,kt_NoTable_ValueError,ka_NoTable_0⟩
 refine⟨d44,λs v=>?_,λbase _ _=>Zy9 (P:=l.prog) (w:=w) (base:=base) T⟩
 obtain⟨_,_,_,_,_,_,_,_,_,rfl,_,_⟩:=q44.F.ex
 exact .of_eq rfl
theorem walk{l:PySem.W.OpenLaw}{q:X6}{loose:List Str}{XP:(Str->Option Xc)->Heap->Prop}{YP:Qt->Heap->Prop}{d:DefRec}{K:Params->Xb}(hn:l.most=some 63)(hdf:d.params.defaults=[])
  (hY:∀(w:Qt) (h:Heap),YP w h->(K w.params).In h)
  (F:∀(w:Qt) (mg:Str->Option Xc) (fa:Addr) (h:Heap),(K w.params).In h->h.Ns XD mg->mg d.name=some (.ref fa) ->
   ∃fd:Xp,(∀(s:Xd) (u:Xc),BindsTo s fd ⟨[u],[]⟩ [("script",u)])∧∀base:Heap,(K w.params).In base->base.Ns XD mg->FnOk l.prog w (K w.params) mg base CX0 10 fa fd ["script"] (spD (K w.params) Z6x)) :
  PySem.W.WalkO q loose XP YP l.row.toRowW d [] (λf vs=>PySem.call f vs) :=
 L2.Zz5 (n:=63) (k:=10) (x :="script") (CX:=λ_=>CX0) (sp:=λw=>spD (K w.params) Z6x) hn (by decide) hdf ⟨rfl,by decide,by decide⟩ hY F (λ_ _ a ns hl _ hS=>Z32 hl hS) λ_ _ _ _ _ z=>z
end My
open PySem PySem.W PyProof.Rows
theorem PySem.W.Fast.tw17754970681590772887:True:=trivial
theorem PySem.W.Fast.tw12316860524071490636:True:=trivial
theorem PySem.W.Fast.tw8251622795494118562:True:=trivial
theorem PySem.W.Fast.tw13421675978454899031:True:=trivial
theorem PySem.W.Fast.tw16524946855482314080:True:=trivial
theorem PySem.W.Fast.tw13145434268124851922:True:=trivial
theorem PySem.W.Fast.tw14470663240851118744:True:=trivial
theorem PySem.W.Fast.tw7830868549448240139:True:=trivial
theorem PySem.W.Fast.tw13838666327729989966:True:=trivial
theorem PySem.W.Fast.tw12935788912248964441:True:=trivial
theorem PySem.W.Fast.tw1012277010571876317:True:=trivial
theorem PySem.W.Fast.tw77480624481388222:True:=trivial
theorem PySem.W.Fast.tw1264586488429048612:True:=trivial
theorem PySem.W.Fast.tw3674237210507437997:True:=trivial
theorem PySem.W.Fast.tw14130212607538381424:True:=trivial
theorem PySem.W.Fast.tw13482636394933550369:True:=trivial
theorem PySem.W.Fast.tw17869142209654763020:True:=trivial
theorem PySem.W.Fast.tw17895367923469756416:True:=trivial
theorem PySem.W.Fast.tw13217427955565654225:True:=trivial
theorem PySem.W.Fast.tw8289591391816720939:True:=trivial
theorem PySem.W.Fast.tw9124103040516925587:True:=trivial
theorem PySem.W.Fast.tw755192692368274730:True:=trivial
theorem PySem.W.Fast.tw6315364861761165821:True:=trivial
theorem PySem.W.Fast.tw571375601916286943:True:=trivial
theorem PySem.W.Fast.tw14678807281135084468:True:=trivial
theorem PySem.W.Fast.tw12329888992713438051:True:=trivial
theorem PySem.W.Fast.tw4471427485023019659:True:=trivial
theorem PySem.W.Fast.tw13040054464241033016:True:=trivial
theorem PySem.W.Fast.tw11576529918703470817:True:=trivial
theorem PySem.W.Fast.tw10724853750633732999:True:=trivial
theorem PySem.W.Fast.tw2112451453732082167:True:=trivial
theorem PySem.W.Fast.tw1080404392813573500:True:=trivial
theorem PySem.W.Fast.tw806690507677749779:True:=trivial
theorem PySem.W.Fast.tw7909607010679967703:True:=trivial
theorem PySem.W.Fast.tw5954240756504441424:True:=trivial
theorem PySem.W.Fast.tw5317007920678419945:True:=trivial
theorem PySem.W.Fast.tw14897833335932564047:True:=trivial
theorem PySem.W.Fast.tw3049132256399074714:True:=trivial
theorem PySem.W.Fast.tw11116851453404145265:True:=trivial
theorem PySem.W.Fast.tw5235260240407230309:True:=trivial
theorem PySem.W.Fast.tw2939342835093422106:True:=trivial
theorem PySem.W.Fast.tw17559817060466776215:True:=trivial
theorem PySem.W.Fast.tw13695451567619351336:True:=trivial
theorem PySem.W.Fast.tw10320847040860228074:True:=trivial
theorem PySem.W.Fast.tw11038772835755960662:True:=trivial
theorem PySem.W.Fast.tw3764187572619975187:True:=trivial
theorem PySem.W.Fast.tw2657326412959605398:True:=trivial
theorem PySem.W.Fast.tw1322005584439835027:True:=trivial
theorem PySem.W.Fast.tw5991327793474772735:True:=trivial
theorem PySem.W.Fast.tw15380657929670211360:True:=trivial
theorem PySem.W.Fast.tw5477266166983104965:True:=trivial
theorem PySem.W.Fast.tw17424084232113308560:True:=trivial
theorem PySem.W.Fast.tw10767898649746648101:True:=trivial
theorem PySem.W.Fast.tw6549880684290083168:True:=trivial
theorem PySem.W.Fast.tw3659298165685128394:True:=trivial
theorem PySem.W.Fast.tw15993516360167594838:True:=trivial
theorem PySem.W.Fast.tw7116664099466352823:True:=trivial
theorem PySem.W.Fast.tw5693651464597798897:True:=trivial
theorem PySem.W.Fast.tw1913363711202689196:True:=trivial
theorem PySem.W.Fast.tw1494133753702436320:True:=trivial
set_option maxRecDepth 100000 in
set_option maxHeartbeats 0 in
theorem PySem.Challenge.cw_farcuts_k49_no_long_table_holds : PySem.Challenge.rw_farcuts_k49_no_long_table.Holds := by
 w_on;o_law;k_head;(case hw=>w_witness2)
 k_fill
 refine My.walk (l:=PySem.Challenge.rw_farcuts_k49_no_long_table) rfl rfl (λw h Y=>PySem.W.kIn_of Y) ?F
 case F=>
  intro w mg fa h KX G hmg
  refine' My.Z5o KX G hmg ?_ ?_ ?_ ?_ ?_ ?_ ?_ ?_ ?_ ?_ ?_ ?_ ?_ ?_ ?_ ?_ ?_ ?_ ?_ ?_ ?_ ?_ ?_ ?_ ?_ ?_ ?_ ?_ ?_ ?_ ?_ ?_ ?_ ?_ ?_ ?_ ?_ ?_ ?_ ?_ ?_ ?_ ?_ ?_ ?_ ?_ ?_ ?_ ?_ ?_ ?_ ?_ ?_ ?_ ?_ ?_ ?_ ?_ ?_ ?_ ?_ ?_ ?_ ?_ ?_ ?_ ?_ ?_ ?_ ?_ ?_ ?_ ?_ ?_ ?_ ?_ ?_ ?_ ?_ ?_ ?_
  all_goals try (first|(refine' ⟨?a,L2.Z6k ?l ?c ?k⟩;(case a=>k_is);(case l=>k_is);(case c=>k_is);(case k=>k_is))|k_is|kit_is|(show PySem.W.excIn _ _ _ _=true;k_exc)|(refine' ⟨?_,?_,?_,?_,?_,?_,?_,?_,?_,?_,?_⟩<;>first|k_is|kit_is|(show PySem.W.isClsIn _ _=true;k_is)))
#print axioms PySem.Challenge.cw_farcuts_k49_no_long_table_holds
