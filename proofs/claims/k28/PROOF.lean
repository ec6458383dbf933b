import PyProof.Rows.All
import Wide.All
import OpenK.AllK
import Wide.FinOn
import PyProof.EqAt
import PyProof.EqKinds
import PyProof.TupleCall
import PyProof.P3In
import PyProof.ZipIter
import PyProof.ListRange
import PyProof.SetRoads
import PyProof.Rows.SetFrom
import PyProof.Rows.SeqMore2
import KE.RegKIsAll
import PyProof.StrWalks
import PyProof.EnumMake
import PyProof.Conv_int
import PyProof.Conv_int_bool
import PyProof.StrBlockI
import PyProof.Draws
import PySem.Challenge.RW_farcuts_k28_rings_told
set_option Elab.async false
set_option linter.all false
set_option maxRecDepth 100000
set_option genSizeOfSpec false
set_option genInjectivity false
/-! THE HAND LAYER, for ints, bools, texts, own classes, LISTS and tuples (index, slices, in, append, pop ..), calls, loops. Paste it whole ahead of your own text; what your proof does not reach may be deleted. -/
open Array renaming length_toList->V0
open Bool renaming false_ne_true->Xp,and_eq_true->Xx,false_eq_true->BW,and_true->Va,eq_false_iff->Uv
open False renaming elim->Bm
open ForInStep renaming yield->JK
open Int renaming toNat_natCast->Qs,zero_add->JS,gcd->JT,gcd_eq_natAbs_gcd_natAbs->BZ,toNat_of_nonneg->V6,natAbs_ediv_le_natAbs->Ut
open List renaming getD_eq_getElem?_getD->Xd,getElem?_eq_getElem->Xh,length_map->Xi,mem_cons->Xl,getElem?_eq_some_iff->Xn,replicate->Xr,size_toArray->Xu,getElem?_set_ne->Xv,map_congr_left->Xw,getElem?_map->Xy,range->Xz,map_cons->XF,mem_singleton->XH,map_map->XN,mem_append_right->XQ,length_append->XX,mem_map->X4,getElem?_set_self->X7,nodup_cons->Qd,length_range->Qk,length_drop->Qq,mem_range->Qt,length_set->Qv,append_nil->Qw,mem_append->Qz,getElem?_eq_none_iff->QD,map_append->QF,length_take->QG,lookup_cons->QR,mem_of_getElem?->QV,filterMap_cons->QZ,getElem?_eq_none->Q0,getElem?_append_right->Q3,Nodup->Q6,eq_nil_of_length_eq_zero->Q7,append_assoc->Q8,not_mem_nil->JF,nodup_append->JQ,getElem?_append_left->JW,length_cons->Bb,getElem_mem->Bc,all_eq_true->Be,mem_append_left->Bg,getElem?_range->Bk,length_replicate->Bo,drop_eq_getElem_cons->Bv,replicate_succ->BL,getElem?_replicate->BP,flatten_cons->Ve,map_nil->Vj,getElem?_drop->Vp,getElem?_cons_succ->Vq,toArray->Vu,drop_zero->Vv,drop_eq_nil_of_le->Vw,length_singleton->VG,mem_cons_of_mem->VL,mem_filter->VP,mem_cons_self->V9,map_replicate->Ua,map_inj_right->Ub,forIn_nil->Uc,filterMap_map->Ud,mem_or_eq_of_mem_set->Um,getElem?_nil->Ur,ext_getElem?->Us,sum_cons->Ux,set_eq_of_length_le->Uy,all_cons->Uz,filter_cons_of_pos->UV,filter_cons_of_neg->UW,range_succ_eq_map->U5
open List.Sublist renaming append_left->Vf,refl->Vn,append_right->VM
open Nat renaming ne_of_lt->Xq,ne_of_gt->XM,lt_of_lt_of_le->X3,le_refl->Qp,le_trans->QK,zero_le->Q9,le_of_lt->Vz,lt_succ_self->VJ,not_lt_zero->V4,lt_trans->V8,lt_irrefl->UL,succ_le_succ->U0,le_add_right->U3
open Ne renaming symm->Q4
open Option renaming bind_some->Xc,some->Qh,getD_some->VD,isSome_iff_exists->Ul,bind_eq_some_iff->Uw
open Option.some renaming inj->QC
open Or renaming inr->X8,inl->Qj
open PyProof.Rows renaming IntsAre->Bl,seqObj->BR,callWith_type1->BV,ClsAt->VR,envOfC->Uj,slot_tupleiter_next->Uk,AllBare->U7
open PySem renaming PyData->Xa,Value->Xe,Shared->Xf,wpAny_bind->Xg,starEach->Xk,sizeLine->Xo,FuncData->XC,mainGlobals->XJ,wpAny->XR,sizeLine_eq->X5,Program->X6,model->Qa,wpAny_pure->Qe,bootBuiltins->Qg,Around->Qo,World->Qu,assignEach->QH,wpAny_loadPart'->QS,wpAny_mono->QT,backTo->QW,wpAny_field->JL,sliceBounds->JM,mem_of_lookup->JP,foldedSetIterable->JV,cellsFrom->JX,NameKind->Bh,Keyword->Bp,IsPair->Bq,attributeBase->Br,swapsWith->Bs,pushCells->Bu,wpAny_loadPart_at->BK,wpAny_seqItems->BX,keywordEach->Vb,wpAny_setField_rec->Vc,wpAny_passesOwn->Vh,compareOp->Vo,binaryOp->Vs,wpAny_Call_Name_kw->Vx,assign->Vy,wpAny_callSpecial?_slot->VB,wpAny_truthy_bool->VH,Scope->VN,wpAny_call_entry->V1,behindInMarks->V5,backToKw->V7,wpAny_execs_nil->Ug,pushCells_keeps->Uh,letOwnedTupleGo->Ui,Apart->Uo,call_meets->UG,IsZip->UT,wpAny_newObj_type->U4,Builtin->U6,wpAny_holding->U8,rawInt->U9
open PySem.Builtin.Int renaming intBits->JG,intTooBig->Uu
open PySem.Builtin.List renaming listTooLong->Vg
open PySem.Builtin.SmallTypes renaming nextOf->QL,ownedTupleIsFree->Ba,ownedTupleHandOut->Ue
open PySem.F renaming plainAttrs_list->JD,type_list_append->Vl,slot_list_append->Vm,excBase_ValueError->V3
open PySem.Heap renaming get?_push_of_some->Xm,lt_size->XD,get?_push_size->Qc,size_push->JC,SameBut->Vk
open PySem.NameKind renaming free->QQ,cell->JZ
open PySem.Obj renaming mapSeq->JR
open PySem.PassesOwn renaming never->Qi
open PySem.PyData renaming int->Xj,eqv->Qx,list->Qy,canLayAll0->JH,canLay0->Bf,strOk->Vr,eqvAll->VF
open PySem.SeqAt renaming EqAt->JN,shaped->Bw,canLay_of_shaped->Vt
open PySem.Value renaming ref->QB,none->Q5,builtin->Uq,int->UJ
open PySem.W renaming Frag->Xb,nsIn->Ql,kitOne->Qm,mg_none_of->QJ,kia_one->QM,Looks->QX,hideAll->JB,subIn->Bj,kitAny->Bx,keepIn->By,findIn->BJ,hideAll_none->Vd,fnOf->Vi,of_hideAll->V2
open Rat renaming divInt->Qn
namespace L2
open PySem PySem.Spec PyProof.Rows
noncomputable abbrev Key:=Sum Int Str
noncomputable def Z22:Key->Xe->Bool
 | .inl k,v=>Xe.isInt k v
 | .inr x,v=>Xe.isStrOf x v
noncomputable def Ybm(w:Qu):Key->Int
 | .inl k=>hashInt k
 | .inr x=>hashStr w x
theorem We:∀{k:Key} {v:Xe},Z22 k v=true->(∃i t,k=Sum.inl i∧v=UJ i t)∨(∃x t,k=Sum.inr x∧v=Value.str x t)
 | .inl i,v,h=>by
  obtain⟨t,e⟩:=Value.isInt_shape (k:=i) (v:=v) h
  exact .inl ⟨i,t,rfl,e⟩
 | .inr x,v,h=>by
  obtain⟨t,e⟩:=Xe.isStrOf_shape (x:=x) (v:=v) h
  exact .inr ⟨x,t,rfl,e⟩
theorem Z21(a b:Int):decide ((Sum.inl a:Key)=Sum.inl b)=(a==b):=by
 by_cases e:a=b
 ·subst e;simp
 ·have h:¬(Sum.inl a:Key)=Sum.inl b:=λq=>e (Sum.inl.inj q)
  rw[decide_eq_false h]
  exact(beq_eq_false_iff_ne.mpr e).symm
theorem Z2j(a b:Str):decide ((Sum.inr a:Key)=Sum.inr b)=decide (a=b):=by
 by_cases e:a=b
 ·subst e;simp
 ·have h:¬(Sum.inr a:Key)=Sum.inr b:=λq=>e (Sum.inr.inj q)
  rw[decide_eq_false h,decide_eq_false e]
theorem Z4g(a:Int)(b:Str):decide ((Sum.inl a:Key)=Sum.inr b)=false:=decide_eq_false (λq=>nomatch q)
theorem Z4l(a:Str)(b:Int):decide ((Sum.inr a:Key)=Sum.inl b)=false:=decide_eq_false (λq=>nomatch q)
noncomputable def Zm9(prog:X6)(w:Qu):PySem.KeyKind prog w Key where
 is:=Z22
 hash:=Ybm w
 inj:=λv a b ha hb=>by
  rcases We ha with⟨i,t,rfl,rfl⟩|⟨x,t,rfl,rfl⟩
  ·rcases We hb with⟨j,u,rfl,e⟩|⟨y,u,rfl,e⟩
   ·injection e with e1 _;rw[e1]
   ·exact nomatch e
  ·rcases We hb with⟨j,u,rfl,e⟩|⟨y,u,rfl,e⟩
   ·exact nomatch e
   ·injection e with e1 _;rw[e1]
 byValue:=λk v h=>by
  rcases We h with⟨i,t,rfl,rfl⟩|⟨x,t,rfl,rfl⟩<;>rfl
 pyHash:=λhv h=>by
  rcases We hv with⟨i,t,rfl,rfl⟩|⟨x,t,rfl,rfl⟩
  ·exact wpAny_pyHash_int h
  ·exact wpAny_pyHash_str h
 eqBool:=λhu hv h=>by
  rcases We hu with⟨i,t,rfl,rfl⟩|⟨x,t,rfl,rfl⟩
  ·rcases We hv with⟨j,u,rfl,rfl⟩|⟨y,u,rfl,rfl⟩
   ·rw[Z21]at h;exact wpAny_eqBool_int h
   ·rw[Z4g]at h;exact SeqAt.EqAt.int_str i t y u _ _ _ _ h
  ·rcases We hv with⟨j,u,rfl,rfl⟩|⟨y,u,rfl,rfl⟩
   ·rw[Z4l]at h;exact SeqAt.EqAt.str_int x t j u _ _ _ _ h
   ·rw[Z2j]at h;exact wpAny_eqBool_str h
 «strs»:=λk x t v h=>by
  rcases We h with⟨i,u,rfl,e⟩|⟨y,u,rfl,e⟩
  ·exact nomatch e
  ·injection e with e1 _
   subst e1
   cases v<;>rfl
inductive V where
 | non|bl (b:Bool)|int (i:Int)|str (x:Str)|byt (b:Array UInt8)|flt (b:UInt64)|ref (a:Addr)|ty (n:String)
noncomputable def RelV:V->Xe->Prop
 | .non,u=>u=Q5
 | .bl b,u=>u=Value.bool b
 | .int i,u=>∃t,u=UJ i t
 | .str x,u=>∃t,u=Value.str x t
 | .byt b,u=>∃t,u=Xe.bytes b t
 | .flt b,u=>∃t,u=Xe.float b t
 | .ref a,u=>u=QB a
 | .ty n,u=>u=Xe.type n
noncomputable abbrev Vals:List V->List Xe->Prop:=Paired RelV
theorem Vals.length{xs:List V}{us:List Xe}(r:Vals xs us):xs.length=us.length:=Paired.length r
theorem Vals.get{xs:List V}{us:List Xe}{i:Nat}{x:V}(h:Vals xs us)(e:xs[i]? =some x):∃u,us[i]? =some u∧RelV x u:=by
 induction h generalizing i with
 | nil=>exact(Option.some_ne_none _ (e.symm.trans Ur)).elim
 | cons r t ih=>
  cases i with
  | zero=>exact⟨_,rfl,QC e▸r⟩
  | succ i=>exact ih e
theorem Vals.set{x:V}{u:Xe}(r:RelV x u){xs:List V}{us:List Xe}(i:Nat)(h:Vals xs us):Vals (xs.set i x) (us.set i u):=by
 induction h generalizing i with
 | nil=>exact .nil
 | cons q t ih=>
  cases i with
  | zero=>exact .cons r t
  | succ i=>exact .cons q (ih i)
theorem Vals.append{xs ys:List V}{us ws:List Xe}(h:Vals xs us)(s:Vals ys ws):Vals (xs ++ ys) (us ++ ws):=by
 induction h with
 | nil=>exact s
 | cons r t ih=>exact .cons r ih
theorem Vals.take{xs:List V}{us:List Xe}(n:Nat)(h:Vals xs us):Vals (xs.take n) (us.take n):=by
 induction h generalizing n with
 | nil=>rw[List.take_nil,List.take_nil];exact .nil
 | cons r t ih=>
  cases n with
  | zero=>exact .nil
  | succ n=>exact .cons r (ih n)
theorem Vals.drop{xs:List V}{us:List Xe}(n:Nat)(h:Vals xs us):Vals (xs.drop n) (us.drop n):=by
 induction h generalizing n with
 | nil=>rw[List.drop_nil,List.drop_nil];exact .nil
 | cons r t ih=>
  cases n with
  | zero=>exact .cons r t
  | succ n=>exact ih n
noncomputable def Z7w:Option V->Option Xe->Prop
 | some v,some u=>RelV v u
 | none,none=>True
 | _,_=>False
noncomputable def KV{κ:Type}:List (κ×V)->List (κ×Xe)->Prop:=Paired λ(p:κ×V) (q:κ×Xe)=>p.1=q.1∧RelV p.2 q.2
noncomputable def kV:Key->V
 | .inl i=>.int i
 | .inr x=>.str x
inductive HO where
  | lst (xs:List V)
  | tup (xs:List V)
  | dK (kvs:List (Key×V))|dT (kvs:List (List Key×V))
  | set (S:Int->Bool) (n:Nat)
  | ins (C dx:Addr) (fs:List (Str×V))
  | own (x:Addr)
  | xd (fs:List (Str×V))
  | met (f x:Addr)
  | rng (lo hi:Int)
  | frz (o:Obj) (u:HO)
  | tbl (ps:Array Xe)
  | ext (φ:Heap->Prop)
noncomputable abbrev Hp:=Addr->Option HO
noncomputable def upd(H:Hp)(a:Addr)(o:HO):Hp:=λb=>if b=a then some o else H b
theorem Zv{H:Hp}{a:Addr}{o:HO}:upd H a o a=some o:=by unfold upd;rw[if_pos rfl]
theorem Zr{H:Hp}{a b:Addr}{o:HO}(h:b≠a):upd H a o b=H b:=by unfold upd;rw[if_neg h]
theorem Yx{H:Hp}{a b:Addr}{o:HO}(h:H a=some o)(h':H b=none):a≠b:=by
 intro e;subst e;rw[h]at h';cases h'
section
variable (P:X6)(w:Qu)
noncomputable def ObjOk(H:Hp)(h:Heap)(a:Addr):HO->Prop
 | .lst xs=>xs.length≤Xo∧∃(its:List Xe) (n:Nat),Vals xs its∧h.get? a=some { cls:=.type "list",data:=.seq its.toArray n }
 | .tup xs=>xs.length≤Xo∧∃its:List Xe,Vals xs its∧IsTup h a its.toArray
 | .dK kvs=>kvs.length≤Xo∧(a==sysModules)=false∧∃vs,KV kvs vs∧h.DictOf (Zm9 P w) a vs
 | .dT kvs=>kvs.length≤Xo∧(a==sysModules)=false∧∃xs:List (List Key×Addr×Xe),
   Paired (λ(p:List Key×V) (q:List Key×Addr×Xe)=>p.1=q.1∧H q.2.1=some (.tup (p.1.map kV))∧RelV p.2 q.2.2) kvs xs∧
   ∃o es ep,h.get? a=some o∧o.ExactDict∧o.data= .dict es ep∧es.toList=xs.map (entryOfKey (tupleKind (Zm9 P w)))∧(xs.map (·.1)).Nodup
 | .set S n=>h.SetOf (intKind P w) a S n
 | .ins C dx fs=>H dx=some (.own a)∧fs.length≤1000∧dx≠a∧h.get? a=some (PySem.W.instObj C dx)∧
   ∃mA,h.Ns1 dx mA∧(∀f,Z7w (fs.lookup f) (mA f))∧PySem.Within mA (fs.map (·.1))
 | .own _=>∃o,h.get? a=some o
 | .xd fs=>∃mA,h.Ns1 a mA∧∀f,Z7w (fs.lookup f) (mA f)
 | .rng lo hi=>∃t u v,h.get? a=some { cls:=.type "range",data:=.fields #[.int lo t,.int hi u,.int 1 v] }
 | .frz o u=>h.get? a=some o∧ObjOk H h a u
 | .tbl ps=>h.get? a=some { cls:=.none,data:=.fields ps }
 | .met f x=>h.get? a=some (PySem.W.methodObj (.ref f) (.ref x))
 | .ext φ=>φ h∧(∃o,h.get? a=some o)∧∀h1 h2:Heap,φ h1->(∀o,h1.get? a=some o->h2.get? a=some o)->φ h2
noncomputable def HOk(H:Hp)(h:Heap):Prop:=∀a o,H a=some o->ObjOk P w H h a o
end
section
variable {P:X6}{w:Qu}{H H':Hp}{h h':Heap}{a:Addr}{o:HO}
theorem ObjOk.lt(x:ObjOk P w H h a o):a<h.objs.size:=by
 cases o with
 | lst xs=>obtain⟨_,_,_,_,e⟩:=x;exact XD e
 | tup xs=>obtain⟨_,_,_,p⟩:=x;exact p.lt
 | dK kvs=>obtain⟨_,_,_,_,o,_,_,e,_⟩:=x;exact XD e
 | dT kvs=>obtain⟨_,_,_,_,o,_,_,e,_⟩:=x;exact XD e
 | set S n=>obtain⟨o,_,_,_,e,_⟩:=x;exact XD e
 | ins C dx fs=>obtain⟨_,_,_,e,_⟩:=x;exact XD e
 | own y=>obtain⟨_,e⟩:=x;exact XD e
 | xd fs=>obtain⟨_,⟨_,_,_,e,_⟩,_⟩:=x;exact XD e
 | rng lo hi=>obtain⟨_,_,_,e⟩:=x;exact XD e
 | frz ob u=>obtain⟨e,_⟩:=x;exact XD e
 | tbl ps=>exact XD (show h.get? a=some _ from x)
 | met f y=>exact XD (show h.get? a=some _ from x)
 | ext φ=>obtain⟨_,⟨_,e⟩,_⟩:=x;exact XD e
theorem Paired.mapP{α β:Type}{F G:α->β->Prop}{l₁:List α}{l₂:List β}(h:Paired F l₁ l₂)(f:∀a b,F a b->G a b):Paired G l₁ l₂:=by
 induction h with
 | nil=>exact .nil
 | cons r t ih=>exact .cons (f _ _ r) ih
theorem ObjOk.stay(x:ObjOk P w H h a o)(k:∀b u,(b=a∨H b=some (.own a))->h.get? b=some u->h'.get? b=some u)
  (ho:∀b,H b=some (.own a)->H' b=some (.own a)) (ht:∀b xs,H b=some (.tup xs)->H' b=some (.tup xs)):ObjOk P w H' h' a o:=by
 induction o with
 | lst xs=>obtain⟨z,its,n,r,e⟩:=x;exact⟨z,its,n,r,k _ _ (.inl rfl) e⟩
 | tup xs=>obtain⟨z,its,r,ob,e,c⟩:=x;exact⟨z,its,r,ob,k _ _ (.inl rfl) e,c⟩
 | dK kvs=>obtain⟨z,y,vs,r,ob,es,ep,e,c⟩:=x;exact⟨z,y,vs,r,ob,es,ep,k _ _ (.inl rfl) e,c⟩
 | dT kvs=>
  obtain⟨z,y,xs,r,ob,es,ep,e,c⟩:=x
  exact⟨z,y,xs,Paired.mapP r λp q z=>⟨z.1,ht _ _ z.2.1,z.2.2⟩,ob,es,ep,k _ _ (.inl rfl) e,c⟩
 | set S n=>obtain⟨ob,es,ep,t,e,c⟩:=x;exact⟨ob,es,ep,t,k _ _ (.inl rfl) e,c⟩
 | ins C dx fs=>
  obtain⟨d,z,ne,e,mA,⟨od,es,ep,e2,c⟩,r⟩:=x
  exact⟨ho _ d,z,ne,k _ _ (.inl rfl) e,mA,⟨od,es,ep,k _ _ (.inr d) e2,c⟩,r⟩
 | own y=>obtain⟨ob,e⟩:=x;exact⟨ob,k _ _ (.inl rfl) e⟩
 | xd fs=>obtain⟨mA,⟨od,es,ep,e,c⟩,r⟩:=x;exact⟨mA,⟨od,es,ep,k _ _ (.inl rfl) e,c⟩,r⟩
 | rng lo hi=>obtain⟨t,u,v,e⟩:=x;exact⟨t,u,v,k _ _ (.inl rfl) e⟩
 | frz ob u ih=>obtain⟨e,q⟩:=x;exact⟨k _ _ (.inl rfl) e,ih q⟩
 | tbl ps=>
  have e:h.get? a=some { cls:=.none,data:=.fields ps }:=x
  show h'.get? a=some { cls:=.none,data:=.fields ps }
  exact k a _ (.inl rfl) e
 | met f y=>
  have e:h.get? a=some (PySem.W.methodObj (.ref f) (.ref y)):=x
  show h'.get? a=some (PySem.W.methodObj (.ref f) (.ref y))
  exact k a _ (.inl rfl) e
 | ext φ=>obtain⟨p,⟨o,e⟩,st⟩:=x;exact⟨st _ _ p λo q=>k _ _ (.inl rfl) q,⟨o,k _ _ (.inl rfl) e⟩,st⟩
theorem HOk.lt(x:HOk P w H h)(e:H a=some o):a<h.objs.size:=(x a o e).lt
theorem HOk.fresh(x:HOk P w H h)(e:h.objs.size≤a):H a=none:=by
 cases q:H a with
 | none=>rfl
 | some u=>exact absurd (X3 (x.lt q) e) (UL _)
theorem HOk.kept(x:HOk P w H h)(k:∀b u,h.get? b=some u->h'.get? b=some u):HOk P w H h':=λa o e=>
 (x a o e).stay (λb u _ q=>k b u q) (λ_ q=>q) λ_ _ q=>q
theorem HOk.laid(x:HOk P w H h)(k:∀b u,h.get? b=some u->h'.get? b=some u)(hp:h.objs.size≤a)(new:ObjOk P w (upd H a o) h' a o):HOk P w (upd H a o) h':=λb u e=>by
 have hn:=x.fresh hp
 by_cases hb:b=a
 ·subst hb;rw[Zv]at e;cases e;exact new
 ·rw[Zr hb]at e
  exact(x b u e).stay (λc v _ q=>k c v q) (λc q=>by rw[Zr (Yx q hn)];exact q) λc xs q=>by rw[Zr (Yx q hn)];exact q
end
noncomputable def Rd(H:Hp)(a:Addr)(u:HO):Prop:=H a=some u∨∃o,H a=some (.frz o u)
theorem Rd.ok{P:X6}{w:Qu}{H:Hp}{h:Heap}{a:Addr}{u:HO}(r:Rd H a u)(x:HOk P w H h):ObjOk P w H h a u:=by
 rcases r with r|⟨o,r⟩
 ·exact x a u r
 ·obtain⟨_,q⟩:=x a _ r
  exact q
noncomputable def Mut:Option HO->Prop
 | some (.lst _)=>True
 | some (.dK _)=>True
 | some (.dT _)=>True
 | some (.set _ _)=>True
 | some (.ins _ _ _)=>True
 | some (.ext _)=>True
 | _=>False
section
variable {P:X6}{w:Qu}{H:Hp}{h h':Heap}{x e:Addr}{o':HO}
theorem HOk.write(ok:HOk P w H h)(mu:Mut (H x))(he:e=x∨H e=some (.own x))(k:∀b u,b≠e->h.get? b=some u->h'.get? b=some u)(heo:∃u,h'.get? e=some u)
  (new:ObjOk P w (upd H x o') h' x o'):HOk P w (upd H x o') h':=λb u q=>by
 have nown:∀c y,H c=some (.own y)->c≠x:=λc y r z=>by subst z;rw[r]at mu;exact mu
 have ntup:∀c xs,H c=some (.tup xs)->c≠x:=λc xs r z=>by subst z;rw[r]at mu;exact mu
 by_cases hb:b=x
 ·subst hb;rw[Zv]at q;cases q;exact new
 ·rw[Zr hb]at q
  by_cases hbe:b=e
  ·have q':H b=some (.own x):=by
    rcases he with z|z
    ·exact absurd (hbe.trans z) hb
    ·rw[hbe];exact z
   rw[q]at q';cases q'
   obtain⟨v,hv⟩:=heo
   exact⟨v,by rw[hbe];exact hv⟩
  ·refine(ok b u q).stay (λc v hc r=>k c v ?_ r) (λc r=>by rw[Zr (nown c b r)];exact r) λc xs r=>by rw[Zr (ntup c xs r)];exact r
   rcases hc with rfl|hc
   ·exact hbe
   ·rintro rfl
    rcases he with z|z
    ·exact nown c b hc z
    ·rw[hc]at z;cases z;exact hb rfl
end
structure Un(fs ex:List Addr)(H H':Hp)(h h':Heap):Prop where
 keep:∀b o,h.get? b=some o->H b=none->b∉fs->b∉ex->h'.get? b=some o
 slot:∀b o,h.get? b=some o->H b=none->b∈fs->b∉ex->∃sl,h'.get? b=some { o with slots:=sl }
 free:∀b o,h.get? b=some o->H b=none->b∉ex->H' b=none
 there:∀b o,h.get? b=some o->b∉ex->∃o',h'.get? b=some o'
 tups:∀b xs,H b=some (.tup xs)->H' b=some (.tup xs)
 frzs:∀b o u,H b=some (.frz o u)->H' b=some (.frz o u)
 tbls:∀b ps,H b=some (.tbl ps)->∃more,H' b=some (.tbl (ps ++ more))
section
variable {fs fs' ex ex':List Addr}{H H1 H2:Hp}{h h1 h2 h':Heap}{a x e:Addr}{o:HO}
theorem Un.any(u:Un fs ex H H1 h h1){b:Addr}{ob:Obj}(q:h.get? b=some ob)(n:H b=none)(hx:b∉ex):∃sl,h1.get? b=some { ob with slots:=sl }:=by
 by_cases hb:b∈fs
 ·exact u.slot b ob q n hb hx
 ·exact⟨ob.slots,u.keep b ob q n hb hx⟩
theorem Un.kept(k:∀b u,h.get? b=some u->h'.get? b=some u):Un fs ex H H h h' :=
 ⟨λb ob q _ _ _=>k b ob q,λb ob q _ _ _=>⟨ob.slots,k b ob q⟩,λ_ _ _ n _=>n,λb ob q _=>⟨ob,k b ob q⟩,λ_ _ q=>q,λ_ _ _ q=>q,λ_ ps q=>⟨#[],by rw[q];simp⟩⟩
theorem Un.refl:Un fs ex H H h h:=Un.kept λ_ _ q=>q
theorem Un.laid(k:∀b u,h.get? b=some u->h'.get? b=some u)(hp:h.objs.size≤a)(hn:H a=none):Un fs ex H (upd H a o) h h' where
 keep:=λb u q _ _ _=>k b u q
 slot:=λb u q _ _ _=>⟨u.slots,k b u q⟩
 free:=λb u q n _=>by rw[Zr (Xq (X3 (XD q) hp))];exact n
 there:=λb u q _=>⟨u,k b u q⟩
 tups:=λb xs q=>by rw[Zr (Yx q hn)];exact q
 frzs:=λb u xs q=>by rw[Zr (Yx q hn)];exact q
 tbls:=λb ps q=>⟨#[],by rw[Zr (Yx q hn),q];simp⟩
theorem Un.write(mu:Mut (H x))(he:e=x∨H e=some (.own x))(k:∀b u,b≠e->h.get? b=some u->h'.get? b=some u)(heo:∃u,h'.get? e=some u):Un fs ex H (upd H x o) h h':=by
 have hx:∀b,H b=none->b≠x:=λb n z=>by subst z;rw[n]at mu;exact mu
 have hb:∀b,H b=none->b≠e:=λb n z=>by
  subst z
  rcases he with r|r
  ·exact hx b n r
  ·rw[n]at r;cases r
 have hm:∀b u,H b=some u->¬Mut (some u)->b≠x:=λb u q nm z=>by subst z;rw[q]at mu;exact nm mu
 refine⟨λb u q n _ _=>k b u (hb b n) q,λb u q n _ _=>⟨u.slots,k b u (hb b n) q⟩,λb u q n _=>by rw[Zr (hx b n)];exact n,λb u q _=>?_,
  λb xs q=>by rw[Zr (hm b _ q λz=>z)];exact q,λb u xs q=>by rw[Zr (hm b _ q λz=>z)];exact q,λb ps q=>⟨#[],by rw[Zr (hm b _ q λz=>z),q];simp⟩⟩
 by_cases hbe:b=e
 ·subst hbe;exact heo
 ·exact⟨u,k b u hbe q⟩
end
noncomputable def trk(h:Heap)(H:Hp):List Addr:=(Xz h.objs.size).filter λa=>(H a).isSome
noncomputable def Zvz(h:Heap)(H:Hp):Heap:=JB h (trk h H)
theorem Zss(h:Heap)(H:Hp):(Zvz h H).objs.size=h.objs.size:=PySem.W.hideAll_size _ _
theorem Zvo{h:Heap}{H:Hp}{b:Addr}{o:Obj}(e:h.get? b=some o)(n:H b=none):(Zvz h H).get? b=some o :=
 PySem.W.hideAll_get _ e λhm=>by
  have q:(H b).isSome=true:=(VP.mp hm).2
  rw[n]at q;simp at q
theorem Z1a{h:Heap}{H:Hp}{b:Addr}{o:Obj}(e:(Zvz h H).get? b=some o):h.get? b=some o∧H b=none:=by
 have e':h.get? b=some o:=V2 (trk h H) e
 refine⟨e',?_⟩
 cases q:H b with
 | none=>rfl
 | some x=>
  have hm:b∈trk h H:=VP.mpr ⟨Qt.mpr (XD e'),by simp[q]⟩
  have z:(Zvz h H).get? b=none:=Vd (trk h H) hm
  rw[z]at e;cases e
noncomputable def Z1g(g h:Heap)(L:Addr):List (Addr×Obj):=(Xz h.objs.size).filterMap λa=>if a=L∨(g.get? a).isSome=true then none else(h.get? a).map λo=>(a,o)
noncomputable def rest(g h:Heap)(L d:Addr):List (Addr×Obj):=(Z1g g h L).filter λp=>decide (p.1≠d)
structure Mod(K:Xb)(mg:Str->Option Xe)(base:Heap):Prop where
 kin:K.In base
 glob:base.Ns XJ mg
 blt:∃mb,base.Ns builtinsNs mb∧∀x:Str,x≠"__name__" ->mb x=Qg x
 nolimit:base.NoLimit
set_option genInjectivity false in
structure Cx where
 prog:X6
 w:Qu
 K:Xb
 mg:Str->Option Xe
 base:Heap
 A:Qo
 N:List Str
 s₀:Xf
 H₀:Hp
 env:Env
 outer:List Env
 stack:List Env
 ex:List Addr
 fn:Str->Bool
 calm:Bool
 pn:List (Addr×Obj)
 xe:Xe->Xf->Prop
noncomputable def frs(l:List Env):List Addr:=l.filterMap (·.frame)
noncomputable abbrev Cx.fs(X:Cx):List Addr:=frs X.outer
noncomputable def Vis(sc:VN)(x:Str):Prop:=sc.names.lookup x=some .local∨sc.names.lookup x=some .cell∨sc.names.lookup x=some .free
noncomputable def Loc(sc:VN)(x:Str):Prop:=sc.names.lookup x=some .local∨sc.names.lookup x=some .cell
noncomputable def Look(env:Env)(h:Heap)(m:Str->Option Xe)(x:Str)(u:Xe):Prop :=
 (env.kindOf x=some .local∧m x=some u)∨((env.kindOf x=some .cell∨env.kindOf x=some .free)∧∃c,env.cells.lookup x=some c∧h.IsCell c (some u))
structure Cx.Ok(X:Cx):Prop where
 mod:Mod X.K X.mg X.base
 kind:X.env.scope.kind= .function
 glob:X.env.globals=XJ
 blt:X.env.builtins=builtinsNs
 above:X.s₀.heap.objs.size≤X.env.locals
 inj:∀x y c,X.env.cells.lookup x=some c->X.env.cells.lookup y=some c->x=y
 has:∀x,(X.env.kindOf x=some .cell∨X.env.kindOf x=some .free)->∃c,X.env.cells.lookup x=some c
 cab:∀x c,X.fn x=true->X.env.cells.lookup x=some c->X.s₀.heap.objs.size≤c
 hd:X.calm=true->X.A.handled=none
 frames:X.A.frames=some X.stack
 stk:X.stack=X.outer∨(X.stack=X.env :: X.outer∧X.env.frame=some X.env.locals)
 exf:∀b∈X.ex,b≠X.env.locals∧∀x c,X.env.cells.lookup x=some c->c≠b
 bs:∀b o,X.base.get? b=some o->X.s₀.heap.get? b=some o∧X.H₀ b=none
 bsz:X.base.objs.size≤X.s₀.heap.objs.size
 noex:∀b o,X.base.get? b=some o->b∉X.ex
 exfs:∀b∈X.ex,b∉X.fs
 funs:X.s₀.heap.FunFrames X.base X.outer
 frf:∀b∈X.fs,X.H₀ b=none
structure Inv(X:Cx)(pins:List (Addr×Obj))(σ:List (Option V))(H:Hp)(s:Xf):Prop where
 ok:X.Ok
 os:s.os=X.s₀.os
 bare:U7 s.gens
 base:Un X.fs X.ex X.H₀ H X.s₀.heap s.heap
 loc:∃m,s.heap.Ns X.env.locals m∧∀(i:Nat) (x:Str) (v:V),X.N[i]? =some x->σ[i]? =some (some v)->Vis X.env.scope x->∃u,RelV v u∧Look X.env s.heap m x u
 cell:∀x c,X.env.cells.lookup x=some c->∃v,s.heap.IsCell c v
 free:H X.env.locals=none
 freeC:∀x c,X.env.cells.lookup x=some c->H c=none
 pin:∀p∈X.pn ++ pins,s.heap.get? p.1=some p.2∧H p.1=none∧p.1≠X.env.locals∧p.1∉X.fs∧∀v,p.2.data≠ .cell v
 hok:HOk X.prog X.w H s.heap
 len:σ.length=X.N.length
section
variable {X:Cx}{pins:List (Addr×Obj)}{σ:List (Option V)}{H H':Hp}{s:Xf}{h':Heap}
theorem Cx.Ok.nofr(ok:X.Ok){b:Addr}{o:Obj}(e:X.base.get? b=some o):b∉X.fs:=λhb=>by
 have:=(ok.funs.mem hb).1
 rw[e]at this;cases this
theorem Inv.bs(I:Inv X pins σ H s):∀b o,X.base.get? b=some o->s.heap.get? b=some o∧H b=none:=λb o e=>
 ⟨I.base.keep b o (I.ok.bs b o e).1 (I.ok.bs b o e).2 (I.ok.nofr e) (I.ok.noex b o e),I.base.free b o (I.ok.bs b o e).1 (I.ok.bs b o e).2 (I.ok.noex b o e)⟩
theorem Inv.bk(I:Inv X pins σ H s):∀b o,X.base.get? b=some o->s.heap.get? b=some o:=λb o e=>(I.bs b o e).1
theorem Inv.mod(I:Inv X pins σ H s):Mod X.K X.mg X.base:=I.ok.mod
theorem Inv.kIn(I:Inv X pins σ H s):X.K.In s.heap:=I.ok.mod.kin.keeps I.bk
theorem Inv.lt(I:Inv X pins σ H s):X.env.locals<s.heap.objs.size:=let⟨_,hn,_⟩:=I.loc;hn.lt
theorem Inv.sz(I:Inv X pins σ H s):X.s₀.heap.objs.size≤s.heap.objs.size:=QK I.ok.above (Vz I.lt)
theorem Inv.nofs(I:Inv X pins σ H s){a:Addr}(h:s.heap.objs.size≤a):a∉X.fs:=λhb=>by
 obtain⟨_,o,ho,_⟩:=I.ok.funs.mem hb
 exact absurd (X3 (XD ho) (QK I.sz h)) (UL _)
theorem Inv.cne(I:Inv X pins σ H s):∀x c,X.env.cells.lookup x=some c->c≠X.env.locals:=λx c e z=>by
 obtain⟨v,o,ho,hd⟩:=I.cell x c e
 obtain⟨m,⟨o',es,ep,ho',hd',_⟩,_⟩:=I.loc
 rw[z,ho']at ho;cases ho;rw[hd']at hd;cases hd
theorem Inv.funs(I:Inv X pins σ H s):s.heap.FunFrames X.base X.outer:=by
 have all:∀(l:List Env),(∀b∈frs l,b∈X.fs)->X.s₀.heap.FunFrames X.base l->s.heap.FunFrames X.base l:=by
  intro l
  induction l with
  | nil=>intro _ _;trivial
  | cons env r ih=>
   intro hs hl
   obtain⟨hk,⟨L,o,hf,hn,ho,hd⟩,hr⟩:=hl
   have hL:L∈X.fs:=hs L (by unfold frs;rw[QZ,hf];exact V9)
   obtain⟨sl,e⟩:=I.base.slot L o ho (I.ok.frf L hL) hL λz=>I.ok.exfs L z hL
   exact⟨hk,⟨L,_,hf,hn,e,hd⟩,ih (λb hb=>hs b (by unfold frs;rw[QZ,hf];exact VL _ hb)) hr⟩
 exact all X.outer (λ_ hb=>hb) I.ok.funs
theorem Inv.stack(I:Inv X pins σ H s):s.heap.FunFrames X.base X.stack:=by
 rcases I.ok.stk with e|⟨e,hf⟩
 ·rw[e];exact I.funs
 ·rw[e]
  obtain⟨m,hn,_⟩:=I.loc
  refine .cons (by rw[I.ok.kind];decide) hf hn ?_ I.funs
  exact Heap.get?_none_of_le (QK I.ok.bsz I.ok.above)
theorem Inv.stkSub(I:Inv X pins σ H s):∀b∈frs X.stack,b∈X.env.locals :: X.fs:=λb hb=>by
 rcases I.ok.stk with e|⟨e,hf⟩
 ·rw[e]at hb;exact VL _ hb
 ·rw[e]at hb
  unfold frs at hb
  rw[QZ,hf]at hb
  exact hb
theorem Inv.stkFree(I:Inv X pins σ H s):∀b∈frs X.stack,H b=none:=λb hb=>by
 rcases Xl.mp (I.stkSub b hb)with e|hb
 ·rw[e];exact I.free
 ·obtain⟨_,o,ho,_⟩:=I.ok.funs.mem hb
  exact I.base.free b o ho (I.ok.frf b hb) λz=>I.ok.exfs b z hb
theorem Inv.step{g':Array GenState}{t':Nat}{d':Drawn}{ch:List Addr}(I:Inv X pins σ H s)
  (hch:∀b∈ch,(b∈X.ex∨X.s₀.heap.objs.size≤b)∧b≠X.env.locals∧(∀x c,X.env.cells.lookup x=some c->c≠b)∧∀p∈X.pn ++ pins,p.1≠b)
  (keep:∀b o,b≠X.env.locals->b∉X.fs->b∉ch->s.heap.get? b=some o->H b=none->h'.get? b=some o)
  (slot:∀b o,b≠X.env.locals->b∈X.fs->b∉ch->s.heap.get? b=some o->H b=none->∃sl,h'.get? b=some { o with slots:=sl }) (free:∀b o,b∉ch->s.heap.get? b=some o->H b=none->H' b=none)
  (there:∀b o,b∉ch->s.heap.get? b=some o->∃o',h'.get? b=some o')
  (tups:∀b xs,H b=some (.tup xs)->H' b=some (.tup xs)) (frzs:∀b o u,H b=some (.frz o u)->H' b=some (.frz o u)) (tbls:∀b ps,H b=some (.tbl ps)->∃more,H' b=some (.tbl (ps ++ more)))
  (ns:∀m,s.heap.Ns X.env.locals m->h'.Ns X.env.locals m) (hok:HOk X.prog X.w H' h') (hg:U7 g') :
  Inv X pins σ H' { s with heap:=h',gens:=g',drawn:=d',toks:=t' }:=by
 have neL:∀b o,X.s₀.heap.get? b=some o->b≠X.env.locals:=λb o e=>Xq (X3 (XD e) I.ok.above)
 have neC:∀b o,X.s₀.heap.get? b=some o->b∉X.ex->b∉ch:=λb o e hx hb=>by
  rcases(hch b hb).1 with z|z
  ·exact hx z
  ·exact absurd (X3 (XD e) z) (UL _)
 have cellK:∀x c,X.env.cells.lookup x=some c->∀v,s.heap.IsCell c v->h'.IsCell c v:=λx c e v ⟨o,ho,hd⟩=>by
  have nch:c∉ch:=λz=>(hch c z).2.2.1 x c e rfl
  by_cases hc:c∈X.fs
  ·obtain⟨sl,q⟩:=slot c o (I.cne x c e) hc nch ho (I.freeC x c e)
   exact⟨_,q,hd⟩
  ·exact⟨o,keep c o (I.cne x c e) hc nch ho (I.freeC x c e),hd⟩
 refine⟨I.ok,I.os,hg,⟨λb o e n hb hx=>?_,λb o e n hb hx=>?_,λb o e n hx=>?_,λb o e hx=>?_,λb xs e=>tups b xs (I.base.tups b xs e),λb o xs e=>frzs b o xs (I.base.frzs b o xs e),λb ps e=>?_⟩,?_,λx c e=>?_,?_,λx c e=>?_,λp hp=>?_,hok,I.len⟩
 ·exact keep b o (neL b o e) hb (neC b o e hx) (I.base.keep b o e n hb hx) (I.base.free b o e n hx)
 ·obtain⟨sl,e1⟩:=I.base.slot b o e n hb hx
  obtain⟨sl',e2⟩:=slot b _ (neL b o e) hb (neC b o e hx) e1 (I.base.free b o e n hx)
  exact⟨sl',e2⟩
 ·obtain⟨o',e1⟩:=I.base.there b o e hx
  exact free b o' (neC b o e hx) e1 (I.base.free b o e n hx)
 ·obtain⟨o',e1⟩:=I.base.there b o e hx
  exact there b o' (neC b o e hx) e1
 ·obtain⟨m1,e1⟩:=I.base.tbls b ps e
  obtain⟨m2,e2⟩:=tbls b _ e1
  exact⟨m1 ++ m2,by rw[e2,Array.append_assoc]⟩
 ·obtain⟨m,hn,hl⟩:=I.loc
  refine⟨m,ns m hn,λi x v e1 e2 e3=>?_⟩
  obtain⟨u,r,l⟩:=hl i x v e1 e2 e3
  refine⟨u,r,?_⟩
  rcases l with l|⟨k,c,e,z⟩
  ·exact .inl l
  ·exact .inr ⟨k,c,e,cellK x c e _ z⟩
 ·obtain⟨v,z⟩:=I.cell x c e
  exact⟨v,cellK x c e v z⟩
 ·obtain⟨m,⟨o,_,_,ho,_⟩,_⟩:=I.loc
  exact free _ o (λz=>(hch _ z).2.1 rfl) ho I.free
 ·obtain⟨v,o,ho,hd⟩:=I.cell x c e
  exact free c o (λz=>(hch c z).2.2.1 x c e rfl) ho (I.freeC x c e)
 ·obtain⟨e,n,ne,nf,d⟩:=I.pin p hp
  have nch:p.1∉ch:=λz=>(hch p.1 z).2.2.2 p hp rfl
  exact⟨keep p.1 p.2 ne nf nch e n,free p.1 p.2 nch e n,ne,nf,d⟩
theorem Inv.un{t':Nat}(I:Inv X pins σ H s)(u:Un X.fs [] H H' s.heap h')(hok:HOk X.prog X.w H' h'):Inv X pins σ H' { s with heap:=h',toks:=t' }:=by
 obtain⟨m,⟨o,es,ep,ho,r⟩,_⟩:=id I.loc
 obtain⟨sl,hL⟩:=u.any ho I.free (by simp)
 exact I.step (g':=s.gens) (d':=s.drawn) (ch:=[]) (λ_ z=>nomatch z) (λb o _ hb _ e n=>u.keep b o e n hb (by simp)) (λb o _ hb _ e n=>u.slot b o e n hb (by simp)) (λb o _ e n=>u.free b o e n (by simp)) (λb o _ e=>u.there b o e (by simp)) u.tups u.frzs u.tbls (λm' hm=>by
  obtain⟨o',es',ep',ho',r'⟩:=hm
  rw[ho]at ho';cases ho'
  exact⟨_,es',ep',hL,r'⟩) hok I.bare
theorem Inv.call{g':Array GenState}{t':Nat}{d':Drawn}{ch:List Addr}(I:Inv X pins σ H s)(u:Un (frs X.stack) ch H H' s.heap h')(hok:HOk X.prog X.w H' h')(hg:U7 g')
  (hch:∀b∈ch,(b∈X.ex∨X.s₀.heap.objs.size≤b)∧b≠X.env.locals∧(∀x c,X.env.cells.lookup x=some c->c≠b)∧∀p∈X.pn ++ pins,p.1≠b) :
  Inv X pins σ H' { s with heap:=h',gens:=g',drawn:=d',toks:=t' }:=by
 obtain⟨m,⟨o,es,ep,ho,r⟩,_⟩:=id I.loc
 obtain⟨sl,hL⟩:=u.any ho I.free λz=>(hch _ z).2.1 rfl
 exact I.step (ch:=ch) hch (λb o hL hb hc e n=>u.keep b o e n (λz=>(Xl.mp (I.stkSub b z)).elim hL hb) hc) (λb o _ _ hc e n=>u.any e n hc) (λb o hc e n=>u.free b o e n hc) (λb o hc e=>u.there b o e hc) u.tups u.frzs u.tbls (λm' hm=>by
  obtain⟨o',es',ep',ho',r'⟩:=hm
  rw[ho]at ho';cases ho'
  exact⟨_,es',ep',hL,r'⟩) hok hg
theorem Inv.turned{t':Nat}{it:Addr}(I:Inv X pins σ H s)(k:∀b o,b≠it->s.heap.get? b=some o->h'.get? b=some o)(hn:H it=none)(hL:it≠X.env.locals)
  (h1:it∈X.ex∨X.s₀.heap.objs.size≤it) (h2:∀x c,X.env.cells.lookup x=some c->c≠it) (h3:∀p∈X.pn ++ pins,p.1≠it):Inv X pins σ H { s with heap:=h',toks:=t' }:=by
 have nit:∀b u,H b=some u->b≠it:=λb u e z=>by rw[z,hn]at e;cases e
 refine I.step (g':=s.gens) (d':=s.drawn) (ch:=[it]) (λb hb=>?_) (λb o _ _ hc e _=>k b o (λz=>hc (by simp[z])) e) (λb o _ _ hc e _=>⟨o.slots,k b o (λz=>hc (by simp[z])) e⟩) (λ_ _ _ _ n=>n)
  (λb o hc e=>⟨o,k b o (λz=>hc (by simp[z])) e⟩) (λ_ _ e=>e) (λ_ _ _ e=>e) (λb ps e=>⟨#[],by rw[e];simp⟩) (λm hm=>?_) (λb u e=>?_) I.bare
 ·have e:b=it:=by simpa using hb
  subst e
  exact⟨h1,hL,h2,h3⟩
 ·obtain⟨o,es,ep,ho,r⟩:=hm
  exact⟨o,es,ep,k _ o (Q4 hL) ho,r⟩
 ·refine(I.hok b u e).stay (λc v hc q=>k c v ?_ q) (λ_ q=>q) λ_ _ q=>q
  rcases hc with z|z
  ·rw[z];exact nit b u e
  ·exact nit c _ z
theorem Inv.tok(I:Inv X pins σ H s)(t:Nat):Inv X pins σ H { s with toks:=t }:=I.un (h':=s.heap) (t':=t) Un.refl I.hok
theorem Inv.kept{t':Nat}(I:Inv X pins σ H s)(k:∀b u,s.heap.get? b=some u->h'.get? b=some u):Inv X pins σ H { s with heap:=h',toks:=t' }:=I.un (Un.kept k) (I.hok.kept k)
theorem Inv.laid{a:Addr}{o:HO}{t':Nat}(I:Inv X pins σ H s)(k:∀b u,s.heap.get? b=some u->h'.get? b=some u)(hp:s.heap.objs.size≤a)(new:ObjOk X.prog X.w (upd H a o) h' a o) :
  Inv X pins σ (upd H a o) { s with heap:=h',toks:=t' }:=I.un (Un.laid k hp (I.hok.fresh hp)) (I.hok.laid k hp new)
theorem Inv.write{x e:Addr}{o:HO}{t':Nat}(I:Inv X pins σ H s)(mu:Mut (H x))(he:e=x∨H e=some (.own x))(k:∀b u,b≠e->s.heap.get? b=some u->h'.get? b=some u)(heo:∃u,h'.get? e=some u)
  (new:ObjOk X.prog X.w (upd H x o) h' x o):Inv X pins σ (upd H x o) { s with heap:=h',toks:=t' }:=I.un (Un.write mu he k heo) (I.hok.write mu he k heo new)
theorem Inv.pins_of{pins':List (Addr×Obj)}(I:Inv X pins σ H s)(h:∀p∈pins',s.heap.get? p.1=some p.2∧H p.1=none∧p.1≠X.env.locals∧p.1∉X.fs∧∀v,p.2.data≠ .cell v):Inv X pins' σ H s :=
 ⟨I.ok,I.os,I.bare,I.base,I.loc,I.cell,I.free,I.freeC,λp hp=>(Qz.mp hp).elim (λz=>I.pin p (Bg _ z)) (h p),I.hok,I.len⟩
theorem Zju{N:List Str}(hN:N.Nodup){i j:Nat}{x:Str}(a:N[i]? =some x)(b:N[j]? =some x):i=j:=by
 obtain⟨h1,e1⟩:=Xn.mp a
 obtain⟨h2,e2⟩:=Xn.mp b
 exact(List.getElem_inj hN).mp (e1.trans e2.symm)
theorem Zlm{M:Model}{A:Qo}{E:Xe->Xf->Prop}{i:Nat}{x:Str}{v:V}{u:Xe}{Q:Unit->Xf->Prop}(I:Inv X pins σ H s)(hN:X.N.Nodup)(hi:X.N[i]? =some x)(hx:Loc X.env.scope x)(r:RelV v u)
  (h:∀s',Inv X pins (σ.set i (some v)) H s'->(∃a,Vk a s.heap s'.heap∧(a=X.env.locals∨X.env.cells.lookup x=some a))->Q () s') (hf:X.fn x=true∨X.env.scope.names.lookup x=some .local:=by first|exact .inl rfl|exact .inr rfl|assumption):XR M A (storeName X.env x u) Q E s:=by
 obtain⟨m,hn,hl⟩:=id I.loc
 have hcls:(X.env.scope.kind== .class||(X.env.scope.kind== .module&&X.env.locals !=X.env.globals))=false:=by rw[I.ok.kind];rfl
 have hiσ:i<σ.length:=by rw[I.len];exact(Xn.mp hi).1
 have cne:=I.cne
 have tracked:∀{a:Addr} {h':Heap},(∃o,s.heap.get? a=some o∧H a=none)->Vk a s.heap h'->HOk X.prog X.w H h':=fun{a h'} ha hs b ob e=>by
  obtain⟨_,_,hfree⟩:=ha
  refine(I.hok b ob e).stay (λc w' hc q=>(hs.2 c ?_).trans q) (λ_ q=>q) λ_ _ q=>q
  rintro rfl
  rcases hc with rfl|hc
  ·rw[hfree]at e;cases e
  ·rw[hfree]at hc;cases hc
 rcases hx with hk|hk
 ·refine wpAny_storeName_local hk hn (λh' hn' hs=>?_) hcls
  obtain⟨oL,_,_,hoL,_⟩:=id hn
  refine h _ ⟨I.ok,I.os,I.bare,⟨λb o e n hb hx=>?_,λb o e n hb hx=>?_,I.base.free,λb o e hx=>?_,I.base.tups,I.base.frzs,I.base.tbls⟩,⟨_,hn',λj y v' e1 e2 e3=>?_⟩,λy c e=>?_,I.free,I.freeC,λp hp=>?_,tracked ⟨oL,hoL,I.free⟩ hs,by simpa using I.len⟩ ⟨_,hs,.inl rfl⟩
  ·exact(hs.2 b (Xq (X3 (XD e) I.ok.above))).trans (I.base.keep b o e n hb hx)
  ·obtain⟨sl,e1⟩:=I.base.slot b o e n hb hx
   exact⟨sl,(hs.2 b (Xq (X3 (XD e) I.ok.above))).trans e1⟩
  ·obtain⟨o',e1⟩:=I.base.there b o e hx
   exact⟨o',(hs.2 b (Xq (X3 (XD e) I.ok.above))).trans e1⟩
  ·by_cases hj:j=i
   ·subst hj
    rw[hi]at e1;cases e1
    rw[X7 hiσ]at e2
    cases e2
    exact⟨u,r,.inl ⟨hk,by simp⟩⟩
   ·rw[Xv (Q4 hj)]at e2
    obtain⟨u',r',q⟩:=hl j y v' e1 e2 e3
    refine⟨u',r',?_⟩
    rcases q with⟨k,e⟩|⟨k,c,e,z⟩
    ·refine .inl ⟨k,?_⟩
     have:y≠x:=λe=>hj (Zju hN e1 (e▸hi))
     simp[this,e]
    ·exact .inr ⟨k,c,e,z.sameBut hs (cne y c e)⟩
  ·obtain⟨w',z⟩:=I.cell y c e
   exact⟨w',z.sameBut hs (cne y c e)⟩
  ·obtain⟨e,n,ne,nf,d⟩:=I.pin p hp
   exact⟨(hs.2 p.1 ne).trans e,n,ne,nf,d⟩
 ·have hfn:X.fn x=true:=by
   rcases hf with z|z
   ·exact z
   ·rw[z]at hk;cases hk
  obtain⟨c,hc⟩:=I.ok.has x (.inl hk)
  obtain⟨w',z⟩:=I.cell x c hc
  refine wpAny_storeName_cell I.ok.kind hk hc z (λh' hc' hs=>?_)
  obtain⟨oc,hoc,hocd⟩:=id z
  refine h { s with heap:=h' } ⟨I.ok,I.os,I.bare,⟨λb o e n hb hx=>?_,λb o e n hb hx=>?_,I.base.free,λb o e hx=>?_,I.base.tups,I.base.frzs,I.base.tbls⟩,⟨m,hn.sameBut hs (Q4 (cne x c hc)),λj y v' e1 e2 e3=>?_⟩,λy c' e=>?_,I.free,I.freeC,λp hp=>?_,tracked ⟨oc,hoc,I.freeC x c hc⟩ hs,by simpa using I.len⟩ ⟨c,hs,.inr hc⟩
  ·exact(hs.2 b (Xq (X3 (XD e) (I.ok.cab x c hfn hc)))).trans (I.base.keep b o e n hb hx)
  ·obtain⟨sl,e1⟩:=I.base.slot b o e n hb hx
   exact⟨sl,(hs.2 b (Xq (X3 (XD e) (I.ok.cab x c hfn hc)))).trans e1⟩
  ·obtain⟨o',e1⟩:=I.base.there b o e hx
   exact⟨o',(hs.2 b (Xq (X3 (XD e) (I.ok.cab x c hfn hc)))).trans e1⟩
  ·by_cases hj:j=i
   ·subst hj
    rw[hi]at e1;cases e1
    rw[X7 hiσ]at e2
    cases e2
    exact⟨u,r,.inr ⟨.inl hk,c,hc,hc'⟩⟩
   ·rw[Xv (Q4 hj)]at e2
    obtain⟨u',r',q⟩:=hl j y v' e1 e2 e3
    refine⟨u',r',?_⟩
    rcases q with q|⟨k,c',e,z'⟩
    ·exact .inl q
    ·refine .inr ⟨k,c',e,z'.sameBut hs ?_⟩
     rintro rfl
     exact hj (Zju hN e1 (I.ok.inj _ _ _ e hc▸hi))
  ·by_cases hcc:c'=c
   ·subst hcc;exact⟨_,hc'⟩
   ·obtain⟨w2,z2⟩:=I.cell y c' e
    exact⟨w2,z2.sameBut hs hcc⟩
  ·obtain⟨e,n,ne,nf,d⟩:=I.pin p hp
   refine⟨(hs.2 p.1 ?_).trans e,n,ne,nf,d⟩
   intro q
   rw[q,hoc]at e
   have q':oc=p.2:=QC e
   exact d w' (by rw[←q'];exact hocd)
theorem Zjq{M:Model}{A:Qo}{E:Xe->Xf->Prop}{i:Nat}{x:Str}{v:V}{u:Xe}{Q:Unit->Xf->Prop}(I:Inv X pins σ H s)(hN:X.N.Nodup)(hi:X.N[i]? =some x)(hx:Loc X.env.scope x)(r:RelV v u)
  (h:∀s',Inv X pins (σ.set i (some v)) H s'->Q () s') (hf:X.fn x=true∨X.env.scope.names.lookup x=some .local:=by first|exact .inl rfl|exact .inr rfl|assumption):XR M A (storeName X.env x u) Q E s :=
 Zlm I hN hi hx r (λs' I' _=>h s' I') hf
theorem Inv.call'{s':Xf}{ch:List Addr}(I:Inv X pins σ H s)(ho:s'.os=s.os)(u:Un (frs X.stack) ch H H' s.heap s'.heap)(hok:HOk X.prog X.w H' s'.heap)(hg:U7 s'.gens)
  (hch:∀b∈ch,(b∈X.ex∨X.s₀.heap.objs.size≤b)∧b≠X.env.locals∧(∀x c,X.env.cells.lookup x=some c->c≠b)∧∀p∈X.pn ++ pins,p.1≠b):Inv X pins σ H' s':=by
 obtain⟨h',g',d',t',o'⟩:=s'
 have e:o'=s.os:=ho
 subst e
 exact I.call (g':=g') (t':=t') (d':=d') u hok hg hch
end
noncomputable abbrev XK:=Xe->Option Addr->Hp->Prop
noncomputable abbrev St:=List (Option V)
noncomputable abbrev VK:=V->Hp->Prop
noncomputable abbrev TE:=St->Hp->VK->Prop
noncomputable abbrev TT:=St->Hp->(Bool->Hp->Prop)->Prop
noncomputable abbrev TA:=St->Hp->(List V->Hp->Prop)->Prop
set_option genInjectivity false in
structure Ends where
 nx:St->Hp->Prop
 rt:VK
 bk:St->Hp->Prop:=λ_ _=>False
 ct:St->Hp->Prop:=λ_ _=>False
noncomputable abbrev TS:=Ends->St->Hp->Prop
noncomputable def EP(X:Cx)(pins:List (Addr×Obj))(σ:St)(Q:VK)(u:Xe)(s':Xf):Prop:=∃v H',Inv X pins σ H' s'∧RelV v u∧Q v H'
noncomputable def TP(X:Cx)(pins:List (Addr×Obj))(σ:St)(Q:Bool->Hp->Prop)(b:Bool)(s':Xf):Prop:=∃H',Inv X pins σ H' s'∧Q b H'
noncomputable def AP(X:Cx)(pins:List (Addr×Obj))(σ:St)(Q:List V->Hp->Prop)(us:List Xe)(s':Xf):Prop:=∃vs H',Inv X pins σ H' s'∧Vals vs us∧Q vs H'
noncomputable def SP(X:Cx)(pins:List (Addr×Obj))(D:Ends)(f:Flow)(s':Xf):Prop :=
 match f with
 | .next=>∃σ' H',Inv X pins σ' H' s'∧D.nx σ' H'
 | .brk=>∃σ' H',Inv X pins σ' H' s'∧D.bk σ' H'
 | .cont=>∃σ' H',Inv X pins σ' H' s'∧D.ct σ' H'
 | .ret u=>∃v σ' H',Inv X pins σ' H' s'∧RelV v u∧D.rt v H'
noncomputable def PE(X:Cx)(e:Expr)(t:TE):Prop :=
 ∀(pins:List (Addr×Obj)) (s:Xf) (σ:St) (H:Hp) (Q:VK),Inv X pins σ H s->t σ H Q->XR (Qa X.prog X.w) X.A (eval e X.env) (EP X pins σ Q) X.xe s
noncomputable def PT(X:Cx)(e:Expr)(t:TT):Prop :=
 ∀(pins:List (Addr×Obj)) (s:Xf) (σ:St) (H:Hp) (Q:Bool->Hp->Prop),Inv X pins σ H s->t σ H Q->XR (Qa X.prog X.w) X.A (isTrue e X.env (eval e X.env)) (TP X pins σ Q) X.xe s
noncomputable def PW(X:Cx)(e:Expr)(t:TT):Prop :=
 ∀(whole:Sem Xe) (pins:List (Addr×Obj)) (s:Xf) (σ:St) (H:Hp) (Q:Bool->Hp->Prop),Inv X pins σ H s->t σ H Q->XR (Qa X.prog X.w) X.A (isTrue e X.env whole) (TP X pins σ Q) X.xe s
theorem PW.pt{X:Cx}{e:Expr}{t:TT}(h:PW X e t):PT X e t:=h _
noncomputable def PA(X:Cx)(es:List Expr)(t:TA):Prop :=
 ∀(pos:Pos) (pins:List (Addr×Obj)) (s:Xf) (σ:St) (H:Hp) (Q:List V->Hp->Prop),Inv X pins σ H s->t σ H Q->XR (Qa X.prog X.w) X.A (spliced (QW pos (Xk es X.env))) (AP X pins σ Q) X.xe s
noncomputable def PS(X:Cx)(st:Stmt)(t:TS):Prop :=
 ∀(pins:List (Addr×Obj)) (s:Xf) (σ:St) (H:Hp) (D:Ends),Inv X pins σ H s->t D σ H->XR (Qa X.prog X.w) X.A (exec st X.env) (SP X pins D) X.xe s
noncomputable def PSs(X:Cx)(st:List Stmt)(t:TS):Prop :=
 ∀(pins:List (Addr×Obj)) (s:Xf) (σ:St) (H:Hp) (D:Ends),Inv X pins σ H s->t D σ H->XR (Qa X.prog X.w) X.A (execs st X.env) (SP X pins D) X.xe s
theorem thn{α:Type}{t:Sem α}{Q Q':α->Xf->Prop}{M:Model}{A:Qo}{E:Xe->Xf->Prop}{s:Xf}(h:XR M A t Q E s)(hQ:∀a s,Q a s->Q' a s):XR M A t Q' E s:=QT h hQ λ_ _ x=>x
section
variable {X:Cx}
noncomputable def Yax(i:Nat):TE:=λσ H Q=>∃v,σ[i]? =some (some v)∧Q v H
noncomputable def tC(v:V):TE:=λ_ H Q=>Q v H
theorem Z5m{i:Nat}{x:Str}{pos:Pos}(hN:X.N[i]? =some x)(hv:Vis X.env.scope x)(hd:(x==("__debug__" : Str))=false:=by decide)(hcd:(x==("__classdict__" : Str))=false:=by decide):PE X (.Name x pos) (Yax i):=by
 intro pins s σ H Q I h
 obtain⟨v,e,h⟩:=h
 obtain⟨m,hn,hl⟩:=I.loc
 obtain⟨u,r,l⟩:=hl i x v hN e hv
 have fin:EP X pins σ Q u s:=⟨v,H,I,r,h⟩
 rcases l with⟨hk,hm⟩|⟨hk,c,hc,hcell⟩
 ·exact wpAny_Name (wpAny_loadName_local I.ok.kind hk hn hm fin) hd
 ·rcases hk with hk|hk
  ·exact wpAny_Name (wpAny_loadName_cell I.ok.kind hk hc hcell fin) hd
  ·exact wpAny_Name (wpAny_loadName_free I.ok.kind hk hc hcell fin hcd) hd
theorem Zoj{i j pos}:PE X (.Constant (.int i) j pos) (tC (.int i)):=λ_ _ _ H _ I h=>wpAny_Constant_int ⟨.int i,H,I.tok _,⟨_,rfl⟩,h⟩
theorem Z62{b j pos}:PE X (.Constant (.bool b) j pos) (tC (.bl b)):=λ_ _ _ H _ I h=>Constant_bool ⟨.bl b,H,I,rfl,h⟩
theorem Z20{j pos}:PE X (.Constant .none j pos) (tC .non):=λ_ _ _ H _ I h=>Constant_none ⟨.non,H,I,rfl,h⟩
theorem Zxi{x j pos}:PE X (.Constant (.str x) j pos) (tC (.str x)):=λ_ _ _ H _ I h=>Calls.Constant_str ⟨.str x,H,I.tok _,⟨_,rfl⟩,h⟩
noncomputable def Gl(X:Cx)(x:Str):Prop:=X.env.kindOf x=some .globalImplicit
theorem Zhj{E:Xe->Xf->Prop}{pins:List (Addr×Obj)}{s:Xf}{σ:St}{H:Hp}{x:Str}{u:Xe}{pos:Pos}{Q:Xe->Xf->Prop}(I:Inv X pins σ H s)(hg:Gl X x)(hm:X.mg x=some u)(h:Q u s)
  (hd:(x==("__debug__" : Str))=false:=by decide):XR (Qa X.prog X.w) X.A (eval (.Name x pos) X.env) Q E s :=
 Calls.Name_function_global I.ok.kind hg (Calls.loadGlobal_global (by rw[I.ok.glob];exact I.mod.glob.keeps I.bk) hm h) hd
theorem Zit{E:Xe->Xf->Prop}{pins:List (Addr×Obj)}{s:Xf}{σ:St}{H:Hp}{x:Str}{u:Xe}{pos:Pos}{Q:Xe->Xf->Prop}(I:Inv X pins σ H s)(hg:Gl X x)(hm:X.mg x=none)(hv:Qg x=some u)(h:Q u s)
  (hn:x≠"__name__" :=by decide) (hd:(x==("__debug__" : Str))=false:=by decide):XR (Qa X.prog X.w) X.A (eval (.Name x pos) X.env) Q E s:=by
 obtain⟨mb,h1,h2⟩:=I.mod.blt
 exact Calls.Name_function_global I.ok.kind hg (Calls.loadGlobal_builtin (by rw[I.ok.glob];exact I.mod.glob.keeps I.bk) hm (by rw[I.ok.blt];exact h1.keeps I.bk) ((h2 x hn).trans hv) h) hd
theorem Za9{x:Str}{v:V}{u:Xe}{pos:Pos}(hg:Gl X x)(hm:X.mg x=some u)(r:RelV v u)(hd:(x==("__debug__" : Str))=false:=by decide):PE X (.Name x pos) (tC v) :=
 λ_ _ _ H _ I h=>Zhj I hg hm ⟨v,H,I,r,h⟩ hd
theorem Zqz{x:Str}{v:V}{u:Xe}{pos:Pos}(hg:Gl X x)(hm:X.mg x=none)(hv:Qg x=some u)(r:RelV v u)(hn:x≠"__name__" :=by decide)(hd:(x==("__debug__" : Str))=false:=by decide):PE X (.Name x pos) (tC v) :=
 λ_ _ _ H _ I h=>Zit I hg hm hv ⟨v,H,I,r,h⟩ hn hd
noncomputable def t2I(ta tb:TE)(k:Int->Int->Hp->Prop):St->Hp->Prop:=λσ H=>ta σ H λx H1=>tb σ H1 λy H2=>∃i j,x= .int i∧y= .int j∧k i j H2
variable {a b:Expr}{ta tb:TE}{pos:Pos}
noncomputable def Z1w(p:Int->Int->Bool)(ta tb:TE):TE:=λσ H Q=>t2I ta tb (λi j H2=>Q (.bl (p i j)) H2) σ H
noncomputable abbrev tLt:TE->TE->TE:=Z1w λi j=>decide (i<j)
noncomputable abbrev tLe:TE->TE->TE:=Z1w λi j=>decide (i≤j)
noncomputable abbrev tGt:TE->TE->TE:=Z1w λi j=>decide (j<i)
noncomputable abbrev tGe:TE->TE->TE:=Z1w λi j=>decide (j≤i)
noncomputable abbrev Ycs:TE->TE->TE:=Z1w λi j=>decide (i=j)
noncomputable abbrev Ycq:TE->TE->TE:=Z1w λi j=>!decide (i=j)
noncomputable def tB(t:TE):TT:=λσ H Q=>t σ H λx H1=>∃c,x= .bl c∧Q c H1
variable {tA tB':TT}{rest:List Expr}
noncomputable def Yb3(t u:TT):TT:=λσ H Q=>t σ H λc H1=>if c=true then u σ H1 Q else Q false H1
noncomputable def tOr(t u:TT):TT:=λσ H Q=>t σ H λc H1=>if c=true then Q true H1 else u σ H1 Q
noncomputable def Ycg(t:TT):TT:=λσ H Q=>t σ H λc H1=>Q (!c) H1
theorem Z0l(ha:PT X a tA):PW X (.BoolOp .And [a] pos) tA:=by
 intro wh pins s σ H Q I h
 refine isTrue_and (thn (ha pins s σ H Q I h) λc s1 e=>?_)
 cases c with
 | true=>exact isTrue_and_nil e
 | false=>exact e
theorem Z5i(ha:PT X a tA):PW X (.BoolOp .Or [a] pos) tA:=by
 intro wh pins s σ H Q I h
 refine isTrue_or (thn (ha pins s σ H Q I h) λc s1 e=>?_)
 cases c with
 | false=>exact isTrue_or_nil e
 | true=>exact e
theorem Z5j(ha:PT X a tA)(hb:PW X (.BoolOp .And (b :: rest) pos) tB'):PW X (.BoolOp .And (a :: b :: rest) pos) (Yb3 tA tB'):=by
 intro wh pins s σ H Q I h
 refine isTrue_and (thn (ha pins s σ H _ I h) λc s1 qz9=>?_)
 obtain⟨H1,I1,q1⟩:=qz9
 cases c with
 | true=>exact hb wh pins s1 σ H1 Q I1 q1
 | false=>exact⟨H1,I1,q1⟩
theorem Z7n(ha:PT X a tA)(hb:PW X (.BoolOp .Or (b :: rest) pos) tB'):PW X (.BoolOp .Or (a :: b :: rest) pos) (tOr tA tB'):=by
 intro wh pins s σ H Q I h
 refine isTrue_or (thn (ha pins s σ H _ I h) λc s1 qz9=>?_)
 obtain⟨H1,I1,q1⟩:=qz9
 cases c with
 | true=>exact⟨H1,I1,q1⟩
 | false=>exact hb wh pins s1 σ H1 Q I1 q1
theorem Z5w(ha:PT X a tA):PT X (.UnaryOp .Not a pos) (Ycg tA):=by
 intro pins s σ H Q I h
 exact isTrue_not (ha pins s σ H (λc H1=>Q (!c) H1) I h)
noncomputable def Z75(ta tb:TE):TE:=λσ H Q=>ta σ H λx H1=>∃c,x= .bl c∧if c=true then tb σ H1 Q else Q (.bl false) H1
noncomputable def Z8j(ta:TE):TE:=λσ H Q=>ta σ H λx H1=>∃c,x= .bl c∧Q (.bl (!c)) H1
theorem Z37{op}{t:TE}(h:PE X a t):PE X (.BoolOp op [a] pos) t:=λpins s σ H Q I hw=>BoolOp_one (h pins s σ H Q I hw)
theorem Z4c(ha:PE X a ta)(hb:PE X (.BoolOp .And (b :: rest) pos) tb):PE X (.BoolOp .And (a :: b :: rest) pos) (Z75 ta tb):=by
 intro pins s σ H Q I h
 refine BoolOp_and (thn (ha pins s σ H _ I h) λv s1 qz9=>?_)
 obtain⟨x,H1,I1,r1,q1⟩:=qz9
 obtain⟨c,rfl,q1⟩:=q1
 cases r1
 refine VH ?_
 cases c with
 | true=>exact hb pins s1 σ H1 Q I1 q1
 | false=>exact⟨.bl false,H1,I1,rfl,q1⟩
theorem Z3c(ha:PE X a ta):PE X (.UnaryOp .Not a pos) (Z8j ta):=by
 intro pins s σ H Q I h
 refine UnaryOp_ (thn (ha pins s σ H _ I h) λv s1 qz9=>?_)
 obtain⟨x,H1,I1,r1,q1⟩:=qz9
 obtain⟨c,rfl,q1⟩:=q1
 cases r1
 exact not_of (VH ⟨.bl (!c),H1,I1,rfl,q1⟩)
end
noncomputable def SqL(K:Xb)(H:Hp)(a:Addr)(xs:List V):Prop :=
 Rd H a (.lst xs)∨
  ∃(o:Obj) (its:Array Xe) (n:Nat),K.lookup a=some o∧o.cls= .type "list"∧o.dict=none∧o.data= .seq its n∧its.size≤Xo∧Vals xs its.toList
noncomputable def SqT(K:Xb)(H:Hp)(a:Addr)(xs:List V):Prop :=
 Rd H a (.tup xs)∨
  ∃(o:Obj) (its:Array Xe) (n:Nat),K.lookup a=some o∧o.cls= .type "tuple"∧o.data= .seq its n∧its.size≤Xo∧Vals xs its.toList
noncomputable def Ybz:Xe->Option V
 | .none=>some .non
 | .bool b=>some (.bl b)
 | .int i _=>some (.int i)
 | .str x _=>some (.str x)
 | .bytes b _=>some (.byt b)
 | .float b _=>some (.flt b)
 | .ref a=>some (.ref a)
 | .type n=>some (.ty n)
 | _=>none
theorem RelV.abs{x:V}{u:Xe}(r:RelV x u):Ybz u=some x:=by
 cases x with
 | non=>cases r;rfl
 | bl _=>cases r;rfl
 | int _=>obtain⟨t,rfl⟩:=r;rfl
 | str _=>obtain⟨t,rfl⟩:=r;rfl
 | byt _=>obtain⟨t,rfl⟩:=r;rfl
 | flt _=>obtain⟨t,rfl⟩:=r;rfl
 | ref _=>cases r;rfl
 | ty _=>cases r;rfl
theorem RelV.inj{x y:V}{u:Xe}(r:RelV x u)(q:RelV y u):x=y:=QC (r.abs.symm.trans q.abs)
theorem Vals.inj{xs ys:List V}{us:List Xe}(h:Vals xs us)(k:Vals ys us):xs=ys:=by
 induction h generalizing ys with
 | nil=>cases k;rfl
 | cons r t ih=>
  cases k with
  | cons r' t'=>rw[r.inj r',ih t']
section
variable {X:Cx}{pins:List (Addr×Obj)}{σ:St}{H:Hp}{s:Xf}{a:Addr}{xs ys:List V}
theorem Inv.list(I:Inv X pins σ H s)(h:SqL X.K H a xs):∃its:List Xe,Vals xs its∧PlainL s.heap a its.toArray∧xs.length≤Xo:=by
 rcases h with h|⟨o,its,n,hk,hc,hd,hs,hz,r⟩
 ·obtain⟨z,its,n,r,e⟩:=h.ok I.hok
  exact⟨its,r,⟨_,n,e,rfl,rfl,rfl⟩,z⟩
 ·refine⟨its.toList,r,⟨o,n,I.kIn a o hk,hc,hd,by simpa using hs⟩,?_⟩
  have e:=r.length
  simp only[V0]at e
  omega
theorem Inv.tuple(I:Inv X pins σ H s)(h:SqT X.K H a xs):∃its:List Xe,Vals xs its∧IsTup s.heap a its.toArray∧xs.length≤Xo:=by
 rcases h with h|⟨o,its,n,hk,hc,hs,hz,r⟩
 ·obtain⟨z,its,r,p⟩:=h.ok I.hok
  exact⟨its,r,p,z⟩
 ·refine⟨its.toList,r,⟨o,I.kIn a o hk,hc,n,by simpa using hs⟩,?_⟩
  have e:=r.length
  simp only[V0]at e
  omega
theorem Inv.list_inj(I:Inv X pins σ H s)(h:SqL X.K H a xs)(h':SqL X.K H a ys):xs=ys:=by
 obtain⟨its,r,⟨o,n,e,_,_,d⟩,_⟩:=I.list h
 obtain⟨its',r',⟨o',n',e',_,_,d'⟩,_⟩:=I.list h'
 rw[e]at e';cases e'
 rw[d]at d'
 injection d' with d1 _
 have:its=its':=by simpa using congrArg Array.toList d1
 subst this
 exact r.inj r'
end
noncomputable abbrev Cx.wish(X:Cx)(E:Xe->Xf->Prop):Cx:={ X with xe:=E }
noncomputable abbrev Cx.nox(X:Cx):Cx:=X.wish λ_ _=>False
theorem Cx.Ok.wish{X:Cx}(ok:X.Ok)(E:Xe->Xf->Prop):(X.wish E).Ok :=
 ⟨ok.mod,ok.kind,ok.glob,ok.blt,ok.above,ok.inj,ok.has,ok.cab,ok.hd,ok.frames,ok.stk,ok.exf,ok.bs,ok.bsz,ok.noex,ok.exfs,ok.funs,ok.frf⟩
theorem Cx.Ok.unwish{X:Cx}{E:Xe->Xf->Prop}(ok:(X.wish E).Ok):X.Ok :=
 ⟨ok.mod,ok.kind,ok.glob,ok.blt,ok.above,ok.inj,ok.has,ok.cab,ok.hd,ok.frames,ok.stk,ok.exf,ok.bs,ok.bsz,ok.noex,ok.exfs,ok.funs,ok.frf⟩
section
variable {X:Cx}{pins:List (Addr×Obj)}{σ:St}{H:Hp}{s:Xf}{E:Xe->Xf->Prop}
theorem Inv.wish(I:Inv X pins σ H s)(E:Xe->Xf->Prop):Inv (X.wish E) pins σ H s:=⟨I.ok.wish E,I.os,I.bare,I.base,I.loc,I.cell,I.free,I.freeC,I.pin,I.hok,I.len⟩
theorem Inv.unwish(I:Inv (X.wish E) pins σ H s):Inv X pins σ H s:=⟨I.ok.unwish,I.os,I.bare,I.base,I.loc,I.cell,I.free,I.freeC,I.pin,I.hok,I.len⟩
theorem SP.unwish{D:Ends}{f:Flow}{s':Xf}(h:SP (X.wish E) pins D f s'):SP X pins D f s':=by
 cases f with
 | next=>obtain⟨σ',H',I,q⟩:=h;exact⟨σ',H',I.unwish,q⟩
 | brk=>obtain⟨σ',H',I,q⟩:=h;exact⟨σ',H',I.unwish,q⟩
 | cont=>obtain⟨σ',H',I,q⟩:=h;exact⟨σ',H',I.unwish,q⟩
 | ret u=>obtain⟨v,σ',H',I,r,q⟩:=h;exact⟨v,σ',H',I.unwish,r,q⟩
theorem PSs.nox{st:List Stmt}{t:TS}(h:PSs X.nox st t):PSs X st t:=λpins s σ H D I hw=>
 QT (h pins s σ H D (I.wish _) hw) (λ_ _ q=>q.unwish) λ_ _ z=>Bm z
end
section
variable {X:Cx}{st:Stmt}{rest:List Stmt}{t u:TS}{e:Expr}{te:TE}{pos:Pos}
noncomputable def Z6v:TS:=λD σ H=>D.nx σ H
noncomputable def Yb0(t u:TS):TS:=λD σ H=>t { D with nx:=u D } σ H
theorem Zy4:PSs X [] Z6v:=λ_ _ σ H _ I h=>Ug ⟨σ,H,I,h⟩
theorem Zwg(h1:PS X st t)(h2:PSs X rest u):PSs X (st :: rest) (Yb0 t u):=by
 intro pins s σ H D I h
 refine wpAny_execs_cons (thn (h1 pins s σ H { D with nx:=u D } I h) λf s1 q=>?_)
 cases f with
 | next=>
  obtain⟨σ',H',I',q⟩:=q
  exact h2 pins s1 σ' H' D I' q
 | ret v=>exact q
 | brk=>exact q
 | cont=>exact q
theorem Zri(h1:PS X st t):PSs X [st] t:=by
 intro pins s σ H D I h
 refine wpAny_execs_cons (thn (h1 pins s σ H D I h) λf s1 q=>?_)
 cases f with
 | next=>exact Ug q
 | ret v=>exact q
 | brk=>exact q
 | cont=>exact q
theorem Inv.quiet{pins:List (Addr×Obj)}{σ:St}{H:Hp}{s:Xf}(I:Inv X pins σ H s):interactive X.env=false:=by simp[interactive,I.ok.kind]
noncomputable def Z8a(te:TE):TS:=λD σ H=>te σ H λ_ H1=>D.nx σ H1
theorem Zfn(he:PE X e te)(hs:Bs e none pos.line X.env=pure false:=by rfl):PS X (.Expr e pos) (Z8a te):=by
 intro pins s σ H D I h
 refine wpAny_Expr_any (thn (he pins s σ H _ I h) λv s1 qz9=>?_) I.quiet hs
 obtain⟨x,H1,I1,r1,q1⟩:=qz9
 exact⟨σ,H1,I1,q1⟩
noncomputable def Ya8(te:TE):TS:=λD σ H=>te σ H D.rt
theorem Ztd(he:PE X e te):PS X (.Return (some e) pos) (Ya8 te):=by
 intro pins s σ H D I h
 refine wpAny_Return_some (thn (he pins s σ H _ I h) λv s1 qz9=>?_)
 obtain⟨x,H1,I1,r1,q1⟩:=qz9
 exact⟨x,σ,H1,I1,r1,q1⟩
noncomputable def Ya3(c:TT)(t u:TS):TS:=λD σ H=>c σ H λb H1=>if b=true then t D σ H1 else u D σ H1
theorem Z72{c:Expr}{a b:List Stmt}{tc:TT}(hc:PT X c tc)(ha:PSs X a t)(hb:PSs X b u):PS X (.If c a b pos) (Ya3 tc t u):=by
 intro pins s σ H D I h
 refine wpAny_If (thn (hc pins s σ H _ I h) λd s1 qz9=>?_)
 obtain⟨H1,I1,q1⟩:=qz9
 cases d with
 | true=>exact ha pins s1 σ H1 D I1 q1
 | false=>exact hb pins s1 σ H1 D I1 q1
noncomputable def Z31:TS:=λ_ _ _=>False
theorem Zv1:PS X st Z31:=λ_ _ _ _ _ _ h=>h.elim
end
noncomputable abbrev TG:=V->St->Hp->(St->Hp->Prop)->Prop
noncomputable abbrev TGs:=List V->St->Hp->(St->Hp->Prop)->Prop
noncomputable def PG(X:Cx)(target:Expr)(t:TG):Prop :=
 ∀(pins:List (Addr×Obj)) (s:Xf) (σ:St) (H:Hp) (v:V) (u:Xe) (Q:St->Hp->Prop),Inv X pins σ H s->RelV v u->t v σ H Q ->
  XR (Qa X.prog X.w) X.A (Vy target X.env u) (λ_ s'=>∃σ' H',Inv X pins σ' H' s'∧Q σ' H') X.xe s
noncomputable def PGs(X:Cx)(ts:List Expr)(t:TGs):Prop :=
 ∀(pins:List (Addr×Obj)) (s:Xf) (σ:St) (H:Hp) (vs:List V) (us:List Xe) (Q:St->Hp->Prop),Inv X pins σ H s->Vals vs us->t vs σ H Q ->
  XR (Qa X.prog X.w) X.A (assignInOrder ((QH ts X.env).map (·.2)) us) (λ_ s'=>∃σ' H',Inv X pins σ' H' s'∧Q σ' H') X.xe s
noncomputable abbrev Z8b:=V->V->V->Hp->(Hp->Prop)->Prop
noncomputable def Z9x(X:Cx)(t:Z8b):Prop :=
 ∀(pins:List (Addr×Obj)) (s:Xf) (σ:St) (H:Hp) (o i v:V) (ov iv u:Xe) (Q:Hp->Prop),Inv X pins σ H s->RelV o ov->RelV i iv->RelV v u->t o i v H Q ->
  XR (Qa X.prog X.w) X.A (setItem ov iv u) (λ_ s'=>∃H',Inv X pins σ H' s'∧Q H') X.xe s
noncomputable abbrev TIp:=V->V->Hp->VK->Prop
section
variable {X:Cx}{pos:Pos}
noncomputable def Zse(i:Nat):TG:=λv σ H Q=>Q (σ.set i (some v)) H
theorem Zj6{i:Nat}{x:Str}(hN:X.N.Nodup)(hi:X.N[i]? =some x)(hx:Loc X.env.scope x)(hf:X.fn x=true∨X.env.scope.names.lookup x=some .local:=by first|exact .inl rfl|exact .inr rfl|assumption):PG X (.Name x pos) (Zse i):=by
 intro pins s σ H v u Q I r h
 exact wpAny_assign_Name (Zjq I hN hi hx r (λs' I'=>⟨_,H,I',h⟩) hf)
noncomputable def Yco:TGs:=λvs σ H Q=>vs=[]∧Q σ H
noncomputable def Z86(t:TG)(u:TGs):TGs:=λvs σ H Q=>∃v r,vs=v :: r∧t v σ H λσ' H'=>u r σ' H' Q
theorem Zqp:PGs X [] Yco:=by
 intro pins s σ H vs us Q I r h
 obtain⟨e,h⟩:=h
 subst e
 cases r
 exact assignInOrder_nil ⟨σ,H,I,h⟩
theorem Zjm{e:Expr}{es:List Expr}{t:TG}{u:TGs}(h1:PG X e t)(h2:PGs X es u)
  (hs:(QH (e :: es) X.env).map (·.2)=Vy e X.env :: (QH es X.env).map (·.2):=by rfl):PGs X (e :: es) (Z86 t u):=by
 intro pins s σ H vs us Q I r h
 obtain⟨v,vr,e1,h⟩:=h
 subst e1
 cases r with
 | cons r rr=>
  rw[hs]
  refine assignInOrder_cons (thn (h1 pins s σ H _ _ _ I r h) λ_ s1 qz9=>?_)
  obtain⟨σ1,H1,I1,q1⟩:=qz9
  exact h2 pins s1 σ1 H1 _ _ Q I1 rr q1
noncomputable def Ya9(K:Xb)(n:Nat)(t:TGs):TG:=λv σ H Q=>∃a xs,v= .ref a∧SqT K H a xs∧xs.length=n∧t xs σ H Q
theorem Zyb{es:List Expr}{k:Nat}{t:TGs}{n:Nat}(hc:X.calm=true)(h:PGs X es t)
  (hn:(QH es X.env).length=n:=by rfl) (hst:(QH es X.env).findIdx? (·.1)=none:=by rfl):PG X (.Tuple es k pos) (Ya9 X.K n t):=by
 intro pins s σ H v u Q I r hw
 obtain⟨a,xs,e1,hq,hl,hw⟩:=hw
 subst e1
 cases r
 obtain⟨its,rv,ht,hz⟩:=I.tuple hq
 refine assign_Tuple_tuple (I.ok.hd hc) ht (by simp[hn,←hl,rv.length]) hst λh' hx=>?_
 have I1:Inv X pins σ H { s with heap:=h' }:=I.kept (t':=s.toks) λb o e=>hx b o (Xq (XD e)) e
 exact h pins _ σ H xs _ Q I1 (by simpa using rv) hw
noncomputable def Z6u(to ti:TE)(t:Z8b):TG:=λv σ H Q=>to σ H λo H1=>ti σ H1 λi H2=>t o i v H2 λH3=>Q σ H3
theorem Zxp{o i:Expr}{to ti:TE}{t:Z8b}(ho:PE X o to)(hi:PE X i ti)(hs:Z9x X t)
  (ha:∀v,Vy (.Subscript o i pos) X.env v=(do
   let ov←holding [v] (eval o X.env)
   let iv←holding [v,ov] (eval i X.env)
   standAt pos
   holding [v,ov,iv] (setItem ov iv v)
   release [v,ov,iv] []):=by intro _;rfl):PG X (.Subscript o i pos) (Z6u to ti t):=by
 intro pins s σ H v u Q I r h
 rw[ha]
 refine Xg (U8 (thn (ho pins s σ H _ I h) λov s1 qz9=>?_))
 obtain⟨x,H1,I1,r1,q1⟩:=qz9
 refine Xg (U8 (thn (hi pins s1 σ H1 _ I1 q1) λiv s2 qz9=>?_))
 obtain⟨y,H2,I2,r2,q2⟩:=qz9
 refine Xg (wpAny_standAt (Xg (U8 (thn (hs pins s2 σ H2 x y v ov iv u _ I2 r1 r2 r q2) λ_ s3 qz9=>?_))))
 obtain⟨H3,I3,q3⟩:=qz9
 exact wpAny_release ⟨σ,H3,I3,q3⟩
noncomputable def Z32(te:TE)(g:TG):TS:=λD σ H=>te σ H λx H1=>g x σ H1 D.nx
theorem Zye{tg e:Expr}{te:TE}{g:TG}(he:PE X e te)(hg:PG X tg g)(hs:swapsWithSole [tg] e pos.line X.env=pure false:=by rfl)(hw:swappedStores [tg] e X.env=pure none:=by rfl)
  (h1:(QH [tg] X.env).map (·.2)=[Vy tg X.env]:=by rfl):PS X (.Assign [tg] e pos) (Z32 te g):=by
 intro pins s σ H D I h
 refine wpAny_Assign_stores (thn (he pins s σ H _ I h) λv s1 qz9=>?_) hs hw
 obtain⟨x,H1,I1,r1,q1⟩:=qz9
 rw[h1]
 exact thn (hg pins s1 σ H1 x v _ I1 r1 q1) λ_ s2 q=>q
theorem Zyu{i:Nat}{x:Str}{e:Expr}{te:TE}{pos':Pos}(hN:X.N.Nodup)(hi:X.N[i]? =some x)(hx:Loc X.env.scope x)(he:PE X e te)(hs:Bs e (some (.Name x pos')) pos.line X.env=pure false:=by rfl)(hf:X.fn x=true∨X.env.scope.names.lookup x=some .local:=by first|exact .inl rfl|exact .inr rfl|assumption) :
  PS X (.Assign [.Name x pos'] e pos) (Z32 te (Zse i)):=by
 intro pins s σ H D I h
 refine wpAny_Assign_Name (thn (he pins s σ H _ I h) λv s1 qz9=>?_) hs
 obtain⟨y,H1,I1,r1,q1⟩:=qz9
 exact Zjq I1 hN hi hx r1 (λs2 I2=>⟨_,H1,I2,q1⟩) hf
end
section
variable {X:Cx}{pos:Pos}
noncomputable def Z4p(c:TT)(tb:TS):TS:=λD σ H=>∃W:Nat->St->Hp->Prop,(∃m,W m σ H)∧∀m σ H,W m σ H ->
 c σ H λb H1=>if b=true then∃N:St->Hp->Prop,(∀σ' H',N σ' H'->∃m',m'<m∧W m' σ' H')∧tb { D with nx:=N,ct:=N,bk:=D.nx } σ H1 else D.nx σ H1
theorem Zwa{c:Expr}{body:List Stmt}{tc:TT}{tb:TS}(hp:PassesOwn (Qa X.prog X.w) X.A X.env X.xe)(hc:PT X c tc)(hb:PSs X body tb):PS X (.While c body [] pos) (Z4p tc tb):=by
 intro pins s σ H D I h
 obtain⟨W,⟨m0,w0⟩,turn⟩:=h
 refine wpAny_While (codeAny_whileLoop (λn s'=>∃σ' H',Inv X pins σ' H' s'∧W n σ' H') ?_ m0 ⟨σ,H,I,w0⟩)
 rintro n s1 ⟨σ1,H1,I1,w1⟩
 refine Vh hp (thn (hc pins s1 σ1 H1 _ I1 (turn n σ1 H1 w1)) λb s2 qz9=>?_)
 obtain⟨H2,I2,q2⟩:=qz9
 cases b with
 | true=>
  obtain⟨N,hN,q2⟩:=q2
  rw[if_pos rfl]
  refine Vh hp (thn (hb pins s2 σ1 H2 _ I2 q2) λf s3 q3=>?_)
  cases f with
  | next=>
   obtain⟨σ3,H3,I3,n3⟩:=q3
   obtain⟨m',hm,w3⟩:=hN σ3 H3 n3
   exact⟨m',hm,σ3,H3,I3,w3⟩
  | cont=>
   obtain⟨σ3,H3,I3,n3⟩:=q3
   obtain⟨m',hm,w3⟩:=hN σ3 H3 n3
   exact⟨m',hm,σ3,H3,I3,w3⟩
  | brk=>exact q3
  | ret v=>exact q3
 | false=>
  rw[if_neg Xp]
  exact Ug ⟨σ1,H2,I2,q2⟩
end
set_option genInjectivity false in
structure It where
 go:Nat->Hp->Prop
 yld:Nat->Hp->V->Hp->Prop
 stop:Nat->Hp->Prop
noncomputable def Zji(X:Cx)(pins:List (Addr×Obj))(H:Hp)(b:Addr):Prop :=
 H b=none∧b≠X.env.locals∧b∉X.fs∧(b∈X.ex∨X.s₀.heap.objs.size≤b)∧(∀x c,X.env.cells.lookup x=some c->c≠b)∧∀p∈X.pn ++ pins,p.1≠b
theorem Inv.fpOk{X:Cx}{pins:List (Addr×Obj)}{σ:St}{H H':Hp}{s:Xf}{b:Addr}(I:Inv X pins σ H s)(hb:s.heap.objs.size≤b)(hn:H' b=none):Zji X pins H' b:=by
 refine⟨hn,XM (X3 I.lt hb),I.nofs hb,.inr (QK I.sz hb),λx c e z=>?_,λp hp z=>?_⟩
 ·obtain⟨v,q⟩:=I.cell x c e
  exact absurd (X3 q.lt (by rw[z];exact hb)) (UL _)
 ·exact absurd (X3 (XD (I.pin p hp).1) (by rw[z];exact hb)) (UL _)
structure Turn(P:X6)(w:Qu)(K:Xb)(tg:Expr)(J:It)(fp:List Addr)(it:Addr)(tn:Nat->Heap->Prop):Prop where
 mem:it∈fp
 obj:∀i h,tn i h->∀b∈fp,∃o,h.get? b=some o∧∀v,o.data≠ .cell v
 keep:∀i h h',tn i h->(∀b∈fp,∀o,h.get? b=some o->h'.get? b=some o)->tn i h'
 item:∀(X:Cx),X.prog=P->X.w=w->X.K=K->X.calm=true->∀(i:Nat) (pins:List (Addr×Obj)) (s:Xf) (σ:St) (H:Hp) (E:Xe->Xf->Prop),Inv X pins σ H s->(∀b∈fp,Zji X pins H b)->tn i s.heap->J.go i H ->
  XR (Qa P w) X.A (pyNext (.ref it)) (λr s1=>∃u,r=some u∧
   XR (Qa P w) X.A (Ui tg (.ref it) u) (λ_ s2=>∃x H',Inv X pins σ H' s2∧RelV x u∧J.yld i H x H'∧tn (i+1) s2.heap∧∀b∈fp,H' b=none) E s1) E s
 done:∀(X:Cx),X.prog=P->X.w=w->X.K=K->X.calm=true->∀(i:Nat) (pins:List (Addr×Obj)) (s:Xf) (σ:St) (H:Hp) (E:Xe->Xf->Prop),Inv X pins σ H s->(∀b∈fp,Zji X pins H b)->tn i s.heap->J.stop i H ->
  XR (Qa P w) X.A (pyNext (.ref it)) (λr s1=>r=none∧Inv X pins σ H s1) E s
 self:∀(A:Qo) (i:Nat) (s:Xf) (Q:Xe->Xf->Prop) (E:Xe->Xf->Prop),tn i s.heap->Q (.ref it) s->XR (Qa P w) A (pyIter (.ref it)) Q E s
noncomputable abbrev TI:=St->Hp->(It->Hp->Prop)->Prop
noncomputable def PIE(X:Cx)(pins:List (Addr×Obj))(σ:St)(tg:Expr)(R:It->Hp->Prop)(itv:Xe)(s2:Xf):Prop :=
 ∃(it:Addr) (fp:List Addr) (tn:Nat->Heap->Prop) (J:It) (H':Hp),itv= .ref it∧Inv X pins σ H' s2∧Turn X.prog X.w X.K tg J fp it tn∧tn 0 s2.heap∧(∀b∈fp,Zji X pins H' b)∧R J H'
noncomputable def PI(X:Cx)(tg iter:Expr)(wi:TI):Prop :=
 ∀(pins:List (Addr×Obj)) (s:Xf) (σ:St) (H:Hp) (R:It->Hp->Prop),Inv X pins σ H s->wi σ H R ->
  XR (Qa X.prog X.w) X.A (eval iter X.env) (λv s1=>XR (Qa X.prog X.w) X.A (pyIter v) (PIE X pins σ tg R) X.xe s1) X.xe s
theorem Z2m{M:Model}{A:Qo}{E:Xe->Xf->Prop}{s:Xf}{tg:Expr}{it:Addr}{u:Xe}{o:Obj}{n:String}{vs:Array Xe}{Q:Unit->Xf->Prop}(ho:s.heap.get? it=some o)(hc:o.cls= .type n)(hd:o.data= .fields vs)
  (hn:["enumerate","zip","dict_itemiterator","dict_reverseitemiterator","odict_iterator","itertools.zip_longest","itertools.pairwise"].contains n=false) (hQ:Q () s):XR M A (Ui tg (.ref it) u) Q E s:=by
 unfold Ui
 cases tg<;>first
  | exact Qe hQ
  | (cases u<;>first
    | exact Qe hQ
    | (refine Xg (wpAny_load ho ?_)
       rw[hc,hd]
       show XR M A (if(["enumerate","zip","dict_itemiterator","dict_reverseitemiterator","odict_iterator","itertools.zip_longest","itertools.pairwise"].contains n&&vs[0]? ==some (U9 _))=true then _ else _) Q E s
       rw[if_neg (by intro h;rw[hn,Bool.false_and]at h;cases h)]
       exact Qe hQ))
noncomputable def Itl(K:Xb)(a:Addr):It :=
 ⟨λi H=>∃xs x,SqL K H a xs∧xs[i]? =some x,λi H x H'=>H'=H∧∀xs,SqL K H a xs->xs[i]? =some x,λi H=>∃xs,SqL K H a xs∧xs.length≤i⟩
noncomputable def Itr(lo:Int)(n:Nat):It:=⟨λi _=>i<n,λi H x H'=>H'=H∧x= .int (lo+i),λi _=>n≤i⟩
theorem Zs3{P:X6}{w:Qu}{K:Xb}{tg:Expr}(a it:Addr):Turn P w K tg (Itl K a) [it] it (λi h=>h.IsListIter it a i) where
 mem:=by simp
 obj:=λi h st b hb=>by
  have e:b=it:=by simpa using hb
  subst e
  obtain⟨o,e,c,d⟩:=st
  exact⟨o,e,λv z=>by rw[d]at z;cases z⟩
 keep:=λi h h' st k=>st.at λo e=>k it (by simp) o e
 item:=by
  intro X hP hw hK hc i pins s σ H E I hf st hg
  subst hP hw hK
  obtain⟨xs,x,hq,hx⟩:=hg
  obtain⟨its,rv,p,hz⟩:=I.list hq
  obtain⟨u,hu,ru⟩:=rv.get hx
  obtain⟨f0,f1,f2,f3,f4,f5⟩:=hf it (by simp)
  refine wpAny_pyNext_list_item st p.isList (x:=u) (by simpa using hu) λh' st' sb=>?_
  have I1:Inv X pins σ H { s with heap:=h' }:=I.turned (t':=s.toks) (λb o hb e=>(sb.2 b hb).trans e) f0 f1 f3 f4 f5
  obtain⟨o,e,c,d⟩:=id st'
  exact⟨u,rfl,Z2m (s:={ s with heap:=h' }) e c d (by decide) ⟨x,H,I1,ru,⟨rfl,λys hy=>by rw[I.list_inj hy hq];exact hx⟩,st',λb hb=>(hf b hb).1⟩⟩
 done:=by
  intro X hP hw hK hc i pins s σ H E I hf st hg
  subst hP hw hK
  obtain⟨xs,hq,hx⟩:=hg
  obtain⟨its,rv,p,hz⟩:=I.list hq
  obtain⟨f0,f1,f2,f3,f4,f5⟩:=hf it (by simp)
  have hl:=rv.length
  exact wpAny_pyNext_list_end (I.ok.hd hc) st p.isList (by simp;omega) λh' eb=>⟨rfl,I.turned (t':=s.toks) (λb o hb e=>eb b o hb e) f0 f1 f3 f4 f5⟩
 self:=λ_ _ _ _ _ st h=>wpAny_pyIter_listiter st h
theorem Zp4{P:X6}{w:Qu}{K:Xb}{tg:Expr}(it:Addr)(lo:Int)(n:Nat):Turn P w K tg (Itr lo n) [it] it (λi h=>IsRangeIter h it (lo+(i:Nat)*1) ((n:Int)-(i:Nat)) 1) where
 mem:=by simp
 obj:=λi h st b hb=>by
  have e:b=it:=by simpa using hb
  subst e
  exact⟨_,st,λv z=>by
   have z':Data.fields _=Data.cell v:=z
   cases z'⟩
 keep:=λi h h' st k=>k it (by simp) _ st
 item:=by
  intro X hP hw hK hc i pins s σ H E I hf st hg
  subst hP hw hK
  obtain⟨f0,f1,f2,f3,f4,f5⟩:=hf it (by simp)
  have W:=Walks.range (prog:=X.prog) (w:=X.w) (I.ok.hd hc) it lo 1 n
  refine W.item i s _ _ hg st λv h' tk hv st' kk=>?_
  obtain⟨t,rfl⟩:=hv
  have I1:Inv X pins σ H { s with heap:=h',toks:=tk }:=I.turned (λb o hb e=>kk b o (by simpa using hb) e) f0 f1 f3 f4 f5
  refine⟨_,rfl,Z2m (s:={ s with heap:=h',toks:=tk }) (n :="range_iterator") st' rfl rfl (by decide) ⟨.int (lo+i),H,I1,⟨t,?_⟩,⟨rfl,rfl⟩,st',λb hb=>(hf b hb).1⟩⟩
  rw[Int.mul_one]
 done:=by
  intro X hP hw hK hc i pins s σ H E I hf st hg
  subst hP hw hK
  obtain⟨f0,f1,f2,f3,f4,f5⟩:=hf it (by simp)
  exact wpAny_pyNext_range_end (I.ok.hd hc) st (by have:n≤i:=hg;omega) λh' eb=>⟨rfl,I.turned (t':=s.toks) (λb o hb e=>eb b o hb e) f0 f1 f3 f4 f5⟩
 self:=λ_ _ _ _ _ st h=>wpAny_pyIter_rangeiter st h
section
variable {X:Cx}{tg:Expr}
noncomputable def Z2l(K:Xb)(tl:TE):TI:=λσ H R=>tl σ H λx H1=>∃a,x= .ref a∧(∃xs,SqL K H1 a xs)∧R (Itl K a) H1
theorem Zq2{l:Expr}{tl:TE}(hl:PE X l tl):PI X tg l (Z2l X.K tl):=by
 intro pins s σ H R I h
 refine thn (hl pins s σ H _ I h) λv s1 qz9=>?_
 obtain⟨x,H1,I1,r1,q1⟩:=qz9
 obtain⟨a,e,⟨xs,hq⟩,q⟩:=q1
 subst e
 cases r1
 obtain⟨its,rv,p,hz⟩:=I1.list hq
 refine wpAny_pyIter_list p.isList ?_
 refine⟨s1.heap.objs.size,[s1.heap.objs.size],_,_,H1,rfl,I1.kept (t':=s1.toks) λb o e=>Xm _ e,Zs3 a _,⟨_,Qc _ rfl,rfl,rfl⟩,λb hb=>?_,q⟩
 have e:b=s1.heap.objs.size:=by simpa using hb
 subst e
 exact I1.fpOk (Qp _) (I1.hok.fresh (Qp _))
theorem Zn5{pins:List (Addr×Obj)}{σ:St}{H:Hp}{s:Xf}{R:It->Hp->Prop}{E:Xe->Xf->Prop}{lo hi:Int}{t u v:Tok}{tk:Nat}(I:Inv X pins σ H s)(h1:-(2^62)≤lo)(h2:lo<2^62)(h3:-(2^62)≤hi)(h4:hi<2^62)
  (q:R (Itr lo (hi-lo).toNat) H):XR (Qa X.prog X.w) X.A (pyIter (.ref s.heap.objs.size)) (PIE X pins σ tg R) E { s with heap:=s.heap.push { cls:=.type "range",data:=.fields #[.int lo t,.int hi u,.int 1 v] },toks:=tk }:=by
 refine wpAny_pyIter_range (IsRange.new ..) (small_one h1 h2 h3 h4) ?_
 have I1:Inv X pins σ H { s with heap:=s.heap.push { cls:=.type "range",data:=.fields #[.int lo t,.int hi u,.int 1 v] },toks:=tk }:=I.kept λb o e=>Xm _ e
 refine⟨(s.heap.push { cls:=.type "range",data:=.fields #[.int lo t,.int hi u,.int 1 v] }).objs.size,[(s.heap.push { cls:=.type "range",data:=.fields #[.int lo t,.int hi u,.int 1 v] }).objs.size],_,_,H,rfl,
  I1.kept (t':=tk) λb o e=>Xm _ e,Zp4 _ lo (hi-lo).toNat,?_,λb hb=>?_,q⟩
 ·have e1:lo+((0:Nat):Int)*1=lo:=by simp
  have e2:(((hi-lo).toNat:Nat):Int)-((0:Nat):Int)=Builtin.Range.rangeSize lo hi 1:=by rw[rangeSize_one];split<;>omega
  show IsRangeIter _ _ (lo+((0:Nat):Int)*1) ((((hi-lo).toNat:Nat):Int)-((0:Nat):Int)) 1
  rw[e1,e2]
  exact Qc _ rfl
 ·have e:b=(s.heap.push { cls:=.type "range",data:=.fields #[.int lo t,.int hi u,.int 1 v] }).objs.size:=by simpa using hb
  subst e
  exact I1.fpOk (Qp _) (I1.hok.fresh (Qp _))
noncomputable def Z8k(ta:TA):TI:=λσ H R=>ta σ H λvs H1=>∃j:Int,vs=[.int j]∧-(2^62)≤j∧j<2^62∧R (Itr 0 j.toNat) H1
noncomputable def Z7t(ta:TA):TI:=λσ H R=>ta σ H λvs H1=>∃i j:Int,vs=[.int i,.int j]∧(-(2^62)≤i∧i<2^62∧-(2^62)≤j∧j<2^62)∧R (Itr i (j-i).toNat) H1
theorem Zr6{a:Expr}{ta:TA}{p pos:Pos}(hg:Gl X "range")(hm:X.mg "range"=none)(ha:PA X [a] ta)(hs:Xk [a] X.env=[(false,eval a X.env)]:=by rfl):PI X tg (.Call (.Name "range" p) [a] [] pos) (Z8k ta):=by
 intro pins s σ H R I h
 refine Call_ (Zit I hg hm boot_range (BV (thn (ha pos pins s σ H _ I h) λus s1 qz9=>?_) hs rfl))
 obtain⟨vs,H1,I1,r1,q1⟩:=qz9
 obtain⟨j,e,q1,q2,q⟩:=q1
 subst e
 cases r1 with
 | cons r rr=>
  cases rr
  obtain⟨t,rfl⟩:=r
  exact call_range_1 (Zn5 I1 (by omega) (by omega) q1 q2 (by simpa using q))
theorem Zsq{a b:Expr}{ta:TA}{p pos:Pos}(hg:Gl X "range")(hm:X.mg "range"=none)(ha:PA X [a,b] ta)(hs:Xk [a,b] X.env=[(false,eval a X.env),(false,eval b X.env)]:=by rfl)(hs2:Xk [b] X.env=[(false,eval b X.env)]:=by rfl) :
  PI X tg (.Call (.Name "range" p) [a,b] [] pos) (Z7t ta):=by
 intro pins s σ H R I h
 refine Call_ (Zit I hg hm boot_range (BV (thn (ha pos pins s σ H _ I h) λus s1 ⟨vs,H1,I1,r1,q1⟩=>?_) (by rw[hs,hs2]) (by rw[hs2];rfl)))
 obtain⟨i,j,e,⟨q1,q2,q3,q4⟩,q⟩:=q1
 subst e
 cases r1 with
 | cons r rr=>
  cases rr with
  | cons r' rr=>
   cases rr
   obtain⟨t,rfl⟩:=r
   obtain⟨t',rfl⟩:=r'
   exact call_range_2 (Zn5 I1 q1 q2 q3 q4 q)
noncomputable def Ybv(wi:TI)(g:TG)(tb:TS):TS:=λD σ H=>wi σ H λJ H1=>∃W:Nat->Nat->St->Hp->Prop,(∃m,W 0 m σ H1)∧∀i m σ H,W i m σ H ->
 (J.stop i H∧D.nx σ H)∨(J.go i H∧∃N:St->Hp->Prop,(∀σ' H',N σ' H'->∃m',m'<m∧W (i+1) m' σ' H')∧∀x H',J.yld i H x H'->g x σ H' λσ2 H2=>tb { D with nx:=N,ct:=N,bk:=D.nx } σ2 H2)
noncomputable def Zkt(fp:List Addr)(h:Heap):List (Addr×Obj):=fp.filterMap λb=>(h.get? b).map λo=>(b,o)
theorem Zdg{fp:List Addr}{h:Heap}{b:Addr}{o:Obj}(hb:b∈fp)(e:h.get? b=some o):(b,o)∈Zkt fp h:=List.mem_filterMap.mpr ⟨b,hb,by rw[e];rfl⟩
theorem Zrp{fp:List Addr}{h:Heap}{p:Addr×Obj}(hp:p∈Zkt fp h):p.1∈fp∧h.get? p.1=some p.2:=by
 obtain⟨b,hb,e⟩:=List.mem_filterMap.mp hp
 cases q:h.get? b with
 | none=>rw[q]at e;cases e
 | some o=>
  rw[q]at e
  have e':(b,o)=p:=QC e
  subst e'
  exact⟨hb,q⟩
theorem Inv.pinned{pins:List (Addr×Obj)}{σ:St}{H:Hp}{s:Xf}{fp:List Addr}(I:Inv X pins σ H s)(hf:∀b∈fp,Zji X pins H b)(ho:∀b∈fp,∃o,s.heap.get? b=some o∧∀v,o.data≠ .cell v):Inv X (pins ++ Zkt fp s.heap) σ H s :=
 I.pins_of λp hp=>(Qz.mp hp).elim (λz=>I.pin p (XQ _ z)) λz=>by
  obtain⟨hb,e⟩:=Zrp z
  obtain⟨f0,f1,f2,_⟩:=hf p.1 hb
  obtain⟨o,e',d⟩:=ho p.1 hb
  rw[e]at e';cases e'
  exact⟨e,f0,f1,f2,d⟩
theorem Inv.unpinned{pins pl:List (Addr×Obj)}{σ:St}{H:Hp}{s:Xf}(I:Inv X (pins ++ pl) σ H s):Inv X pins σ H s:=I.pins_of λp hp=>I.pin p (XQ _ (Bg _ hp))
theorem Zxt{iter:Expr}{body:List Stmt}{wi:TI}{g:TG}{tb:TS}{pos:Pos}(hp:PassesOwn (Qa X.prog X.w) X.A X.env X.xe)(hc:X.calm=true)(hi:PI X tg iter wi)(hg:PG X tg g)(hb:PSs X body tb)
  (hs:∀x,JV iter X.env x=pure x:=by intro _;rfl):PS X (.For tg iter body [] pos) (Ybv wi g tb):=by
 intro pins s σ H D I h
 refine wpAny_For (thn (hi pins s σ H _ I h) λv s1 h1=>thn h1 λitv s2 h2=>?_) hs
 obtain⟨it,fp,tn,J,H2,e,I2,T,st2,f2,W,⟨m0,w0⟩,turn⟩:=h2
 subst e
 -- what stays true of the iterator's objects through the loop
 have stat:∀{H':Hp},(∀b∈fp,H' b=none)->∀b∈fp,Zji X pins H' b:=λhn b hb=>⟨hn b hb,(f2 b hb).2⟩
 refine codeAny_forLoop_any (λn s'=>∃i σ' H',Inv X pins σ' H' s'∧tn i s'.heap∧(∀b∈fp,H' b=none)∧W i n σ' H') ?_ m0 ⟨0,σ,H2,I2,st2,λb hb=>(f2 b hb).1,w0⟩
 rintro n s3 ⟨i,σ3,H3,I3,st3,fr3,w3⟩
 rcases turn i n σ3 H3 w3 with⟨stop,qn⟩|⟨go,N,hN,step⟩
 ·refine Vh hp (thn (T.done X rfl rfl rfl hc i pins s3 σ3 H3 X.xe I3 (stat fr3) st3 stop) λr s4 qz9=>?_)
  obtain⟨hr,I4⟩:=qz9
  subst hr
  exact Ug ⟨σ3,H3,I4,qn⟩
 ·refine Vh hp (thn (T.item X rfl rfl rfl hc i pins s3 σ3 H3 X.xe I3 (stat fr3) st3 go) λr s4 qz9=>?_)
  obtain⟨u,hr,h4⟩:=qz9
  subst hr
  refine Vh hp (thn h4 λ_ s5 qz9=>?_)
  obtain⟨x,H5,I5,r5,y5,st5,fr5⟩:=qz9
  have I5':=I5.pinned (stat fr5) (T.obj _ _ st5)
  refine Vh hp (thn (hg _ s5 σ3 H5 x u _ I5' r5 (step x H5 y5)) λ_ s6 qz9=>?_)
  obtain⟨σ6,H6,I6,q6⟩:=qz9
  refine Vh hp (thn (hb _ s6 σ6 H6 _ I6 q6) λf s7 q7=>?_)
  have again:∀{σ7:St} {H7:Hp},Inv X (pins ++ Zkt fp s5.heap) σ7 H7 s7->N σ7 H7->∃m,m<n∧∃i σ' H',Inv X pins σ' H' s7∧tn i s7.heap∧(∀b∈fp,H' b=none)∧W i m σ' H':=fun{σ7 H7} I7 n7=>by
   obtain⟨m',hm,w7⟩:=hN σ7 H7 n7
   refine⟨m',hm,i+1,σ7,H7,I7.unpinned,T.keep _ _ _ st5 λb hb o e=>(I7.pin (b,o) (XQ _ (XQ _ (Zdg hb e)))).1,λb hb=>?_,w7⟩
   obtain⟨o,e,d⟩:=T.obj _ _ st5 b hb
   exact(I7.pin (b,o) (XQ _ (XQ _ (Zdg hb e)))).2.1
  cases f with
  | next=>obtain⟨σ7,H7,I7,n7⟩:=q7;exact again I7 n7
  | cont=>obtain⟨σ7,H7,I7,n7⟩:=q7;exact again I7 n7
  | brk=>obtain⟨σ7,H7,I7,q7⟩:=q7;exact⟨σ7,H7,I7.unpinned,q7⟩
  | ret v=>obtain⟨x7,σ7,H7,I7,r7,q7⟩:=q7;exact⟨x7,σ7,H7,I7.unpinned,r7,q7⟩
end
theorem Zvc{K:Xb}{a:Addr}{xs:List V}{g:TG}{tb:TS}{D:Ends}{σ:St}{H:Hp}(Pv:Nat->St->Hp->Prop)(h0:Pv 0 σ H)(hl:∀i σ H,i≤xs.length->Pv i σ H->SqL K H a xs)
  (hs:∀i x σ H,xs[i]? =some x->Pv i σ H->g x σ H λσ2 H2=>tb { D with nx:=Pv (i+1),ct:=Pv (i+1),bk:=D.nx } σ2 H2) (hd:∀σ H,Pv xs.length σ H->D.nx σ H) :
  ∃W:Nat->Nat->St->Hp->Prop,(∃m,W 0 m σ H)∧∀i m σ H,W i m σ H ->
   ((Itl K a).stop i H∧D.nx σ H)∨((Itl K a).go i H∧∃N:St->Hp->Prop,(∀σ' H',N σ' H'->∃m',m'<m∧W (i+1) m' σ' H')∧∀x H',(Itl K a).yld i H x H'->g x σ H' λσ2 H2=>tb { D with nx:=N,ct:=N,bk:=D.nx } σ2 H2):=by
 refine⟨λi m σ H=>m=xs.length-i∧i≤xs.length∧Pv i σ H,⟨xs.length,by simp,Q9 _,h0⟩,?_⟩
 rintro i m σ H ⟨rfl,hi,p⟩
 have q:=hl i σ H hi p
 by_cases hlt:i<xs.length
 ·refine .inr ⟨⟨xs,xs[i],q,by simp[hlt]⟩,Pv (i+1),λσ' H' p'=>⟨xs.length-(i+1),by omega,rfl,hlt,p'⟩,λx H' y=>?_⟩
  obtain⟨e,y⟩:=y
  subst e
  exact hs i x σ _ (y xs q) p
 ·have e:i=xs.length:=by omega
  subst e
  exact .inl ⟨⟨xs,q,Qp _⟩,hd σ H p⟩
noncomputable abbrev R2:=V->V->Hp->VK->Prop
noncomputable def OpR(X:Cx)(f:Xe->Xe->Sem Xe)(r:R2):Prop :=
 ∀(pins:List (Addr×Obj)) (s:Xf) (σ:St) (H:Hp) (x y:V) (v u:Xe) (Q:VK),Inv X pins σ H s->RelV x v->RelV y u->r x y H Q ->
  XR (Qa X.prog X.w) X.A (f v u) (EP X pins σ Q) X.xe s
noncomputable def UnR(X:Cx)(f:Xe->Sem Xe)(r:V->Hp->VK->Prop):Prop :=
 ∀(pins:List (Addr×Obj)) (s:Xf) (σ:St) (H:Hp) (x:V) (v:Xe) (Q:VK),Inv X pins σ H s->RelV x v->r x H Q ->
  XR (Qa X.prog X.w) X.A (f v) (EP X pins σ Q) X.xe s
noncomputable def Zcq(X:Cx)(f:Xe)(r:List V->Hp->VK->Prop):Prop :=
 ∀(pins:List (Addr×Obj)) (s:Xf) (σ:St) (H:Hp) (xs:List V) (us:List Xe) (Q:VK),Inv X pins σ H s->Vals xs us->r xs H Q ->
  XR (Qa X.prog X.w) X.A (call f us) (EP X pins σ Q) X.xe s
noncomputable def Ycn(X:Cx)(r:V->Hp->(Bool->Hp->Prop)->Prop):Prop :=
 ∀(pins:List (Addr×Obj)) (s:Xf) (σ:St) (H:Hp) (x:V) (v:Xe) (Q:Bool->Hp->Prop),Inv X pins σ H s->RelV x v->r x H Q ->
  XR (Qa X.prog X.w) X.A (truthy v) (TP X pins σ Q) X.xe s
noncomputable def tOp(r:R2)(ta tb:TE):TE:=λσ H Q=>ta σ H λx H1=>tb σ H1 λy H2=>r x y H2 Q
noncomputable def tUn(r:V->Hp->VK->Prop)(ta:TE):TE:=λσ H Q=>ta σ H λx H1=>r x H1 Q
noncomputable def rI(C:Int->Int->Prop)(g:Int->Int->V):R2:=λx y H Q=>∃i j,x= .int i∧y= .int j∧C i j∧Q (g i j) H
noncomputable def rI0(g:Int->Int->V):R2:=λx y H Q=>∃i j,x= .int i∧y= .int j∧Q (g i j) H
noncomputable def rU(g:Int->V):V->Hp->VK->Prop:=λx H Q=>∃i,x= .int i∧Q (g i) H
section
variable {X:Cx}{a b c:Expr}{ta tb tc:TE}{pos:Pos}
theorem Z7s(ha:PE X a ta)(hb:PE X b tb){pins:List (Addr×Obj)}{s:Xf}{σ:St}{H:Hp}{R:V->V->Hp->Prop}(I:Inv X pins σ H s)
  (h:ta σ H λx H1=>tb σ H1 λy H2=>R x y H2) {Q:Xe->Xf->Prop} {f:Xe->Xe->Sem Xe}
  (hf:∀v u s2 x y H2,Inv X pins σ H2 s2->RelV x v->RelV y u->R x y H2->XR (Qa X.prog X.w) X.A (f v u) Q X.xe s2) :
  XR (Qa X.prog X.w) X.A (eval a X.env) (λv s₁=>XR (Qa X.prog X.w) X.A (eval b X.env) (λu s₂=>XR (Qa X.prog X.w) X.A (f v u) Q X.xe s₂) X.xe s₁) X.xe s:=by
 refine thn (ha pins s σ H _ I h) λv s1 qz9=>?_
 obtain⟨x,H1,I1,r1,q1⟩:=qz9
 refine thn (hb pins s1 σ H1 _ I1 q1) λu s2 qz9=>?_
 obtain⟨y,H2,I2,r2,q2⟩:=qz9
 exact hf v u s2 x y H2 I2 r1 r2 q2
theorem Z1u{op:Operator}{r:R2}(ho:OpR X (Vs op) r)(ha:PE X a ta)(hb:PE X b tb):PE X (.BinOp a op b pos) (tOp r ta tb):=by
 intro pins s σ H Q I h
 exact wpAny_BinOp (Z7s ha hb I h λv u s2 x y H2 I2 rx ry q=>ho pins s2 σ H2 x y v u Q I2 rx ry q)
theorem Z7q{op:UnaryOp}{r:V->Hp->VK->Prop}(ho:UnR X (unaryOp op) r)(ha:PE X a ta):PE X (.UnaryOp op a pos) (tUn r ta):=by
 intro pins s σ H Q I h
 refine UnaryOp_ (thn (ha pins s σ H _ I h) λv s1 qz9=>?_)
 obtain⟨x,H1,I1,r1,q1⟩:=qz9
 exact ho pins s1 σ H1 x v Q I1 r1 q1
theorem opI{f:Xe->Xe->Sem Xe}{C:Int->Int->Prop}{g:Int->Int->Int}
  (rule:∀(i j:Int) (t u:Tok) (s:Xf) (Q:Xe->Xf->Prop) (E:Xe->Xf->Prop),C i j->Q (.int (g i j) s.toks) { s with toks:=s.toks+1 }->XR (Qa X.prog X.w) X.A (f (.int i t) (.int j u)) Q E s) :
  OpR X f (rI C λi j=>.int (g i j)):=by
 intro pins s σ H x y v u Q I rx ry h
 obtain⟨i,j,rfl,rfl,hc,q⟩:=h
 obtain⟨t,rfl⟩:=rx
 obtain⟨t',rfl⟩:=ry
 exact rule i j t t' s _ _ hc ⟨.int (g i j),H,I.tok _,⟨_,rfl⟩,q⟩
theorem Z9v{f:Xe->Xe->Sem Xe}{g:Int->Int->Int}
  (rule:∀(i j:Int) (t u:Tok) (s:Xf) (Q:Xe->Xf->Prop) (E:Xe->Xf->Prop),Q (.int (g i j) s.toks) { s with toks:=s.toks+1 }->XR (Qa X.prog X.w) X.A (f (.int i t) (.int j u)) Q E s) :
  OpR X f (rI0 λi j=>.int (g i j)):=by
 intro pins s σ H x y v u Q I rx ry h
 obtain⟨i,j,rfl,rfl,q⟩:=h
 obtain⟨t,rfl⟩:=rx
 obtain⟨t',rfl⟩:=ry
 exact rule i j t t' s _ _ ⟨.int (g i j),H,I.tok _,⟨_,rfl⟩,q⟩
theorem Z7b{f:Xe->Xe->Sem Xe}{g:Int->Int->Bool}
  (rule:∀(i j:Int) (t u:Tok) (s:Xf) (Q:Xe->Xf->Prop) (E:Xe->Xf->Prop),Q (.bool (g i j)) s->XR (Qa X.prog X.w) X.A (f (.int i t) (.int j u)) Q E s) :
  OpR X f (rI0 λi j=>.bl (g i j)):=by
 intro pins s σ H x y v u Q I rx ry h
 obtain⟨i,j,rfl,rfl,q⟩:=h
 obtain⟨t,rfl⟩:=rx
 obtain⟨t',rfl⟩:=ry
 exact rule i j t t' s _ _ ⟨.bl (g i j),H,I,rfl,q⟩
noncomputable def Z6s(i j:Int):Prop:=0≤j∧j≤1000000∧i.natAbs<2^64
theorem Zr2:OpR X (Vs .Add) (rI0 λi j=>.int (i+j)):=Z9v λ_ _ _ _ _ _ _ q=>add_int q
theorem Z5g:OpR X (Vs .Sub) (rI0 λi j=>.int (i-j)):=Z9v λ_ _ _ _ _ _ _ q=>sub_int q
theorem Zz9:OpR X (Vs .Mod) (rI (λ_ j=>j≠0) λi j=>.int (i.fmod j)):=opI λ_ _ _ _ _ _ _ hc q=>mod_int' hc q
theorem Z47:OpR X (Vs .Pow) (rI Z6s λi j=>.int (i^j.toNat)):=opI λ_ _ _ _ _ _ _ hc q=>pow_int_small hc.1 hc.2.1 hc.2.2 q
theorem unI{f:Xe->Sem Xe}{g:Int->Int}
  (rule:∀(i:Int) (t:Tok) (s:Xf) (Q:Xe->Xf->Prop) (E:Xe->Xf->Prop),Q (.int (g i) s.toks) { s with toks:=s.toks+1 }->XR (Qa X.prog X.w) X.A (f (.int i t)) Q E s) :
  UnR X f (rU λi=>.int (g i)):=by
 intro pins s σ H x v Q I rx h
 obtain⟨i,rfl,q⟩:=h
 obtain⟨t,rfl⟩:=rx
 exact rule i t s _ _ ⟨.int (g i),H,I.tok _,⟨_,rfl⟩,q⟩
theorem Z4q:UnR X (unaryOp .USub) (rU λi=>.int (-i)):=unI λ_ _ _ _ _ q=>neg_int q
end
section
variable {X:Cx}{a b c:Expr}{ta tb tc:TE}{pos:Pos}
theorem Zzh:OpR X (Vo .Lt) (rI0 λi j=>.bl (decide (i<j))):=Z7b λ_ _ _ _ _ _ _ q=>lt_int q
theorem Z2k:OpR X (Vo .Gt) (rI0 λi j=>.bl (decide (j<i))):=Z7b λ_ _ _ _ _ _ _ q=>gt_int q
theorem Z8n:OpR X (Vo .GtE) (rI0 λi j=>.bl (decide (j≤i))):=Z7b λ_ _ _ _ _ _ _ q=>ge_int q
theorem Zaf(b:Expr){op:CmpOp}(h:op≠ .In:=by decide)(h2:op≠ .NotIn:=by decide):V5 op b=false:=by
 have e1:(op==CmpOp.In)=false:=by cases op<;>first|rfl|exact absurd rfl h
 have e2:(op==CmpOp.NotIn)=false:=by cases op<;>first|rfl|exact absurd rfl h2
 cases b<;>simp[V5,e1,e2]
theorem Z0q{op:CmpOp}{r:R2}(ho:OpR X (Vo op) r)(ha:PE X a ta)(hb:PE X b tb)(hm:V5 op b=false):PE X (.Compare a [op] [b] pos) (tOp r ta tb):=by
 intro pins s σ H Q I h
 exact wpAny_Compare1 (Z7s ha hb I h λv u s2 x y H2 I2 rx ry q=>ho pins s2 σ H2 x y v u Q I2 rx ry q) hm
noncomputable def Z4u(t:TE):TT:=λσ H Q=>t σ H λx H'=>∃k,x= .bl k∧Q k H'
theorem Zzi{op:CmpOp}{r:R2}(ho:OpR X (Vo op) r)(ha:PE X a ta)(hb:PE X b tb)(hm:V5 op b=false):PT X (.Compare a [op] [b] pos) (Z4u (tOp r ta tb)):=by
 intro pins s σ H Q I h
 refine wpAny_isTrue_Compare1 (thn (ha pins s σ H _ I h) λv s1 ⟨x,H1,I1,r1,q1⟩=>thn (hb pins s1 σ H1 _ I1 q1) λu s2 ⟨y,H2,I2,r2,q2⟩=>
  thn (ho pins s2 σ H2 x y v u _ I2 r1 r2 q2) λc s3 ⟨z,H3,I3,r3,k,e,q3⟩=>?_) hm
 subst e
 cases r3
 exact VH ⟨H3,I3,q3⟩
noncomputable def Z84(K:Xb)(x:V)(H:Hp)(k:Bool):Prop :=
 match x with
 | .non=>k=false
 | .bl b=>k=b
 | .int i=>k=(i !=0)
 | .str y=>y.length≤Xo∧k=((y.length:Int) !=0)
 | .byt y=>y.size≤Xo∧k=((y.size:Int) !=0)
 | .ref p=>(∃xs,SqL K H p xs∧k= !xs.isEmpty)∨(∃xs,SqT K H p xs∧k= !xs.isEmpty)∨∃kvs,H p=some (.dK kvs)∧k= !kvs.isEmpty
 | _=>False
theorem Zpr{κ:Type}{kvs:List (κ×V)}{vs:List (κ×Xe)}(r:KV kvs vs):(!vs.isEmpty)= !kvs.isEmpty:=by
 cases r<;>rfl
theorem Zh8{xs:List V}{its:List Xe}(r:Vals xs its):(!its.toArray.isEmpty)= !xs.isEmpty:=by
 cases r<;>simp
theorem Zic:(Xo:Nat)<2^63:=by rw[X5];decide
theorem Z5d:Ycn X (λx H Q=>∃k,Z84 X.K x H k∧Q k H):=by
 intro pins s σ H x v Q I rx h
 obtain⟨k,e,q⟩:=h
 have hl:=Zic
 have hs:Xo=16777216:=X5
 cases x with
 | non=>
  cases rx
  have e':k=false:=e
  subst e'
  exact truthy_none ⟨H,I,q⟩
 | bl b=>
  cases rx
  have e':k=b:=e
  subst e'
  exact VH ⟨H,I,q⟩
 | int i=>
  obtain⟨t,rfl⟩:=rx
  have e':k=(i !=0):=e
  subst e'
  exact PySem.P.truthy_int ⟨H,I,q⟩
 | str y=>
  obtain⟨t,rfl⟩:=rx
  obtain⟨hy,e'⟩:y.length≤Xo∧k=((y.length:Int) !=0):=e
  subst e'
  exact PySem.P.truthy_str (by omega) ⟨H,I.tok _,q⟩
 | byt y=>
  obtain⟨t,rfl⟩:=rx
  obtain⟨hy,e'⟩:y.size≤Xo∧k=((y.size:Int) !=0):=e
  subst e'
  exact PySem.W.truthy_bytes (by omega) ⟨H,I.tok _,q⟩
 | ref p=>
  cases rx
  have e':(∃xs,SqL X.K H p xs∧k= !xs.isEmpty)∨(∃xs,SqT X.K H p xs∧k= !xs.isEmpty)∨∃kvs,H p=some (.dK kvs)∧k= !kvs.isEmpty:=e
  rcases e' with⟨xs,hx,e'⟩|⟨xs,hx,e'⟩|⟨kvs,hx,e'⟩
  ·subst e'
   obtain⟨its,r,pl,hz⟩:=I.list hx
   have hlen:=r.length
   exact wpAny_truthy_list pl.isList (by simp only[Xu];omega) ⟨H,I.tok _,by rw[Zh8 r];exact q⟩
  ·subst e'
   obtain⟨its,r,pl,hz⟩:=I.tuple hx
   have hlen:=r.length
   exact truthy_tuple pl (by simp only[Xu];omega) ⟨H,I.tok _,by rw[Zh8 r];exact q⟩
  ·subst e'
   obtain⟨hz,hS,vs,r,m⟩:kvs.length≤Xo∧(p==sysModules)=false∧∃vs,KV kvs vs∧s.heap.DictOf (Zm9 X.prog X.w) p vs:=I.hok p _ hx
   have hlen:kvs.length=vs.length:=Paired.length r
   exact wpAny_truthy_dict hS m (by omega) ⟨H,I.tok _,by rw[Zpr r];exact q⟩
 | _=>exact(show False from e).elim
theorem Zwe(ha:PE X a ta)(he:∀whole,isTrue a X.env whole=(do let v←whole;standAt a.pos;holding [v] (truthy v))) :
  PT X a (λσ H Q=>ta σ H λx H'=>∃k,Z84 X.K x H' k∧Q k H'):=by
 intro pins s σ H Q I h
 refine isTrue_plain (thn (ha pins s σ H _ I h) λv s1 qz9=>?_) (he _)
 obtain⟨x,H1,I1,r1,q1⟩:=qz9
 exact Z5d pins s1 σ H1 x v Q I1 r1 q1
theorem vals1{x:V}{us:List Xe}(r:Vals [x] us):∃u,us=[u]∧RelV x u:=by
 cases r with
 | cons r1 r2=>cases r2;exact⟨_,rfl,r1⟩
theorem vals2{x y:V}{us:List Xe}(r:Vals [x,y] us):∃u w',us=[u,w']∧RelV x u∧RelV y w':=by
 cases r with
 | cons r1 r2=>
  cases r2 with
  | cons r3 r4=>cases r4;exact⟨_,_,rfl,r1,r3⟩
theorem Zi3:Zcq X (.builtin "abs") (λxs H Q=>∃i,xs=[.int i]∧Q (.int (if i<0 then -i else i)) H):=by
 intro pins s σ H xs us Q I r h
 obtain⟨i,rfl,q⟩:=h
 obtain⟨u,rfl,t,rfl⟩:=vals1 r
 exact call_abs_int λu tk=>⟨.int (if i<0 then -i else i),H,I.tok _,⟨_,rfl⟩,q⟩
end
structure ObjM(h:Heap)(x dx C:Addr)(mA:Str->Option Xe):Prop where
 obj:h.get? x=some (PySem.W.instObj C dx)
 ns:h.Ns1 dx mA
 ne:dx≠x
theorem Zqw{h:Heap}{dx:Addr}{mA:Str->Option Xe}(n:h.Ns1 dx mA):∃od,h.get? dx=some od∧∀name,PySem.W.lookIn name od=some (mA name):=by
 obtain⟨o,es,ep,ho,hd,hk,_,hm⟩:=n
 refine⟨o,ho,λname=>?_⟩
 have e:=hm name
 unfold nsFind findBy at e
 rw[←Array.find?_toList]at e
 unfold PySem.W.lookIn
 rw[hd]
 dsimp only
 split
 ·rename_i y q
  rw[q]at e
  exact congrArg some e
 ·rename_i q
  rw[q]at e
  have a:es.toList.any (·.refKey)=false:=by
   rw[List.any_eq_false]
   intro y hy
   obtain⟨z,t,hkey⟩:=hk y (Array.mem_toList_iff.mp hy)
   simp[DictEntry.refKey,hkey]
  have a':¬es.toList.any (·.refKey)=true:=by rw[a];exact Xp
  rw[if_neg a']
  exact congrArg some e
theorem ObjM.look{h:Heap}{x dx C:Addr}{mA:Str->Option Xe}(I:ObjM h x dx C mA):∃od,PySem.W.InstAt h x (PySem.W.instObj C dx) C (some od)∧∀name,PySem.W.lookIn name od=some (mA name) :=
 let⟨od,ho,hl⟩:=Zqw I.ns
 ⟨od,⟨I.obj,rfl,rfl,ho⟩,hl⟩
section
variable {prog:X6}{w:Qu}{A:Qo}{E:Xe->Xf->Prop}{s:Xf}{K:Xb}{x dx C f:Addr}{mA:Str->Option Xe}{name:Str}{v:Xe}
end
section
variable {P:X6}{w:Qu}{H H':Hp}{h h':Heap}{a C dx:Addr}{fs fs':List (Str×V)}
theorem Z0m(hok:HOk P w H h)(e:H a=some (.ins C dx fs)):∃mA,ObjM h a dx C mA∧(∀f,Z7w (fs.lookup f) (mA f))∧PySem.Within mA (fs.map (·.1))∧fs.length≤1000∧H dx=some (.own a):=by
 obtain⟨d,z,ne,ob,mA,n,r,q⟩:=(show ObjOk P w H h a (.ins C dx fs)from hok a _ e)
 exact⟨mA,⟨ob,n,ne⟩,r,q,z,d⟩
end
structure Cls(K:Xb)(C:Addr):Prop where
 pg:PySem.W.plainGet K C Str.empty=true
 hd:PySem.W.hasDictIn K C=true
 po:PySem.W.plainOver K C=true
 sa:BJ K (.ref C) "__setattr__"=some (some (.builtin "object.__setattr__"))
theorem Cls.get{K:Xb}{C:Addr}(c:Cls K C)(f:Str):PySem.W.plainGet K C f=true:=c.pg
structure Con(K:Xb)(C:Addr)(f:Str)(v:V)(u:Xe):Prop where
 at_:BJ K (.ref C) f=some (some u)
 rel:RelV v u
 get:PySem.W.specialIn K u "__get__"=some none
 cp:PySem.W.copiedNames.contains f=false
structure Meth(K:Xb)(C:Addr)(m:Str)(f:Addr):Prop where
 at_:BJ K (.ref C) m=some (some (.ref f))
 fn:PySem.W.isFn K (.ref f)=true
 kp:By K (.ref f)=true
section
variable {X:Cx}{pins:List (Addr×Obj)}{σ:St}{H:Hp}{s:Xf}{a C dx:Addr}{fs:List (Str×V)}{f:Str}{v:V}{A:Qo}{E:Xe->Xf->Prop}
end
section
variable {X:Cx}{o e value:Expr}{f:Str}{pos pos' tpos:Pos}{ta tv:TE}
end
section
variable {X:Cx}{pins:List (Addr×Obj)}{σ:St}{H:Hp}{s:Xf}{A:Qo}{E:Xe->Xf->Prop}{Q:Xe->Xf->Prop}{c:Xe}{b:Bool}
inductive Zqo(K:Xb)(H:Hp):V->Xe->Prop where
 | non:Zqo K H .non (.type "NoneType")
 | bl (x:Bool):Zqo K H (.bl x) (.type "bool")
 | int (i:Int):Zqo K H (.int i) (.type "int")
 | str (x:Str):Zqo K H (.str x) (.type "str")
 | flt (x:UInt64):Zqo K H (.flt x) (.type "float")
 | lst {a:Addr} {xs:List V} (e:H a=some (.lst xs)):Zqo K H (.ref a) (.type "list")
 | frz {a:Addr} {o:Obj} {xs:List V} (e:H a=some (.frz o (.lst xs))):Zqo K H (.ref a) (.type "list")
 | tup {a:Addr} {xs:List V} (e:H a=some (.tup xs)):Zqo K H (.ref a) (.type "tuple")
 | dK {a:Addr} {kvs:List (Key×V)} (e:H a=some (.dK kvs)):Zqo K H (.ref a) (.type "dict")
 | dT {a:Addr} {kvs:List (List Key×V)} (e:H a=some (.dT kvs)):Zqo K H (.ref a) (.type "dict")
 | ins {a C dx:Addr} {fs:List (Str×V)} (e:H a=some (.ins C dx fs)) (cl:Cls K C) (ha:BJ K (.ref C) "__class__"=some (some (.builtin "object.__class__")))
   (hn:PySem.W.specialIn K (.builtin "object.__class__") "__get__"=some (some (.builtin "getset_descriptor.__get__"))) (htk:PySem.W.takesIn K (.builtin "object.__class__")=some true)
   (hm:PySem.W.mroIn K C (.type "object")=some true):Zqo K H (.ref a) (.ref C)
theorem Zam{x:V}{u t:Xe}(I:Inv X pins σ H s)(rx:RelV x u)(ty:Zqo X.K H x t)(e:Qm X.K t c=some b)(h:∀tk,Q (.bool b) { s with toks:=tk }) :
  XR (Qa X.prog X.w) A (call (.builtin "isinstance") [u,c]) Q E s:=by
 cases ty with
 | non=>cases(show u=Q5 from rx);exact QM PySem.W.kitx_none I.kIn True.intro e (λz=>nomatch z) h
 | bl y=>cases(show u=Value.bool y from rx);exact QM PySem.W.kitx_bool I.kIn True.intro e (λz=>nomatch z) h
 | int i=>obtain⟨t,q⟩:=(show∃t,u=UJ i t from rx);cases q;exact QM PySem.W.kitx_int I.kIn True.intro e (λz=>nomatch z) h
 | str y=>obtain⟨t,q⟩:=(show∃t,u=Value.str y t from rx);cases q;exact QM PySem.W.kitx_str I.kIn True.intro e (λz=>nomatch z) h
 | flt y=>obtain⟨t,q⟩:=(show∃t,u=Xe.float y t from rx);cases q;exact QM PySem.W.kitx_float I.kIn True.intro e (λz=>nomatch z) h
 | @lst a xs ea=>
  cases(show u=QB a from rx)
  obtain⟨_,_,n,_,h1⟩:=(show ObjOk X.prog X.w H s.heap a (.lst xs)from I.hok a _ ea)
  exact QM PySem.W.kitx_list I.kIn ⟨_,h1,rfl⟩ e (λz=>nomatch z) h
 | @frz a ob xs ea=>
  cases(show u=QB a from rx)
  obtain⟨_,_,_,n,_,h1⟩:=(show ObjOk X.prog X.w H s.heap a (.frz ob (.lst xs))from I.hok a _ ea)
  exact QM PySem.W.kitx_list I.kIn ⟨_,h1,rfl⟩ e (λz=>nomatch z) h
 | @tup a xs ea=>
  cases(show u=QB a from rx)
  obtain⟨_,_,_,p⟩:=(show ObjOk X.prog X.w H s.heap a (.tup xs)from I.hok a _ ea)
  obtain⟨o,h1,h2,_⟩:=p
  exact QM PySem.W.kitx_tuple I.kIn ⟨o,h1,h2⟩ e (λz=>nomatch z) h
 | @dK a kvs ea=>
  cases(show u=QB a from rx)
  obtain⟨_,_,vs,_,p⟩:=(show ObjOk X.prog X.w H s.heap a (.dK kvs)from I.hok a _ ea)
  obtain⟨o,es,ep,h1,h2,_⟩:=p
  exact QM PySem.W.kitx_dict I.kIn ⟨o,h1,h2.1⟩ e (λz=>nomatch z) h
 | @dT a kvs ea=>
  cases(show u=QB a from rx)
  obtain⟨_,_,xs,_,o,es,ep,h1,h2,_⟩:=(show ObjOk X.prog X.w H s.heap a (.dT kvs)from I.hok a _ ea)
  exact QM PySem.W.kitx_dict I.kIn ⟨o,h1,h2.1⟩ e (λz=>nomatch z) h
 | @ins a C dx fs ea cl ha hn htk hm=>
  cases(show u=QB a from rx)
  obtain⟨mA,O,_⟩:=Z0m I.hok ea
  obtain⟨od,J,_⟩:=O.look
  exact QM (PySem.W.kitx_own (cl.get _) cl.hd ha hn htk hm) I.kIn J e (λz=>nomatch z) h
end
structure Room(k:Nat)(A:Qo):Prop where
 hd:A.handled=none
 dp:A.depth+3*k+5<recursionLimit
 un:A.units+16*k+200<cLine
theorem Room.mono{j k:Nat}{A:Qo}(r:Room k A)(h:j≤k):Room j A:=⟨r.hd,by have:=r.dp;omega,by have:=r.un;omega⟩
theorem Room.deeper{k:Nat}{A:Qo}(r:Room (k+1) A)(env:Env):Room k (A.deeper env) :=
 ⟨r.hd,by have:=r.dp;show A.depth+1+3*k+5<_;omega,by have:=r.un;show A.units+3+16*k+200<_;omega⟩
theorem Room.depth{k:Nat}{A:Qo}(r:Room k A):A.depth<recursionLimit:=by have:=r.dp;omega
theorem Room.units{k:Nat}{A:Qo}(r:Room k A):A.units+64<cLine:=by have:=r.un;omega
noncomputable def Ybn:TA:=λ_ H Q=>Q [] H
noncomputable def Z8y(ta:TE)(tr:TA):TA:=λσ H Q=>ta σ H λx H1=>tr σ H1 λxs H2=>Q (x :: xs) H2
section
variable {X:Cx}{e:Expr}{es:List Expr}{te:TE}{t:TA}{pos:Pos}
theorem J8:PA X [] Ybn:=λ_ _ _ _ H Q I h=>Calls.spliced_nil ⟨[],H,I,.nil,h⟩
theorem Ye(ha:PE X e te)(hr:PA X es t)(hs:Xk (e :: es) X.env=(false,eval e X.env) :: Xk es X.env:=by rfl):PA X (e :: es) (Z8y te t):=by
 intro pos pins s σ H Q I h
 rw[hs]
 show XR _ _ (spliced ((false,eval e X.env) :: QW pos (Xk es X.env))) _ _ s
 refine Calls.spliced_cons (thn (ha pins s σ H _ I h) λu s1 qz9=>?_)
 obtain⟨x,H1,I1,r1,q1⟩:=qz9
 refine thn (hr pos pins s1 σ H1 _ I1 q1) λus s2 qz9=>?_
 obtain⟨xs,H2,I2,r2,q2⟩:=qz9
 exact⟨x :: xs,H2,I2,.cons r1 r2,q2⟩
noncomputable def Ybw(t:TA):TE:=λσ H Q=>t σ H λxs H1=>xs.length≤Xo∧∀p,H1 p=none->Q (.ref p) (upd H1 p (.tup xs))
noncomputable def Ybb(t:TA):TE:=λσ H Q=>t σ H λxs H1=>xs.length≤Xo∧∀p,H1 p=none->Q (.ref p) (upd H1 p (.lst xs))
theorem Zox{x1}(h:PA X es t):PE X (.Tuple es x1 pos) (Ybw t):=by
 intro pins s σ H Q I hq
 refine wpAny_Tuple_spliced (thn (h pos pins s σ H _ I hq) λus s1 ⟨xs,H1,I1,r,z,q⟩=>⟨by rw[←r.length];exact z,?_⟩)
 have hf:H1 s1.heap.objs.size=none:=I1.hok.fresh (Qp _)
 refine⟨.ref s1.heap.objs.size,upd H1 s1.heap.objs.size (.tup xs),I1.laid (t':=s1.toks) (λb u e=>Xm _ e) (Qp _) ?_,rfl,q _ hf⟩
 exact⟨z,us,r,⟨_,Qc _ rfl,rfl,_,rfl⟩⟩
theorem Zyr(h:PA X es t):PE X (.List es pos) (Ybb t):=by
 intro pins s σ H Q I hq
 refine wpAny_List_spliced (thn (h pos pins s σ H _ I hq) λus s1 ⟨xs,H1,I1,r,z,q⟩=>⟨by rw[←r.length];exact z,?_⟩)
 have hf:H1 s1.heap.objs.size=none:=I1.hok.fresh (Qp _)
 refine⟨.ref s1.heap.objs.size,upd H1 s1.heap.objs.size (.lst xs),I1.laid (t':=s1.toks) (λb u e=>Xm _ e) (Qp _) ?_,rfl,q _ hf⟩
 exact⟨z,us,0,r,Qc _ rfl⟩
end
noncomputable abbrev Sp:=List V->Hp->VK->XK->Prop
noncomputable abbrev CXT:=List Env->Hp->Xf->XK->Xe->Xf->Prop
structure Z6f(P:X6)(w:Qu)(K:Xb)(mg:Str->Option Xe)(base:Heap)(A:Qo)(outer:List Env)(s:Xf)(H:Hp):Prop where
 frames:A.frames=some outer
 mod:Mod K mg base
 bs:∀b o,base.get? b=some o->s.heap.get? b=some o∧H b=none
 bsz:base.objs.size≤s.heap.objs.size
 funs:s.heap.FunFrames base outer
 frf:∀b∈frs outer,H b=none
 hok:HOk P w H s.heap
 bare:U7 s.gens
noncomputable def CE(outer:List Env)(P:X6)(w:Qu)(H:Hp)(s:Xf)(Q:VK)(u:Xe)(s':Xf):Prop :=
 ∃v H',s'.os=s.os∧U7 s'.gens∧Un (frs outer) [] H H' s.heap s'.heap∧HOk P w H' s'.heap∧RelV v u∧Q v H'
noncomputable def CR(CX:CXT)(outer:List Env)(P:X6)(w:Qu)(H:Hp)(s:Xf)(Q:VK)(E:XK)(r:Result)(s':Xf):Prop :=
 match r with
 | .ok (.ret u)=>CE outer P w H s Q u s'
 | .ok _=>False
 | .error e=>CX outer H s E e s'
structure FnOk(P:X6)(w:Qu)(K:Xb)(mg:Str->Option Xe)(base:Heap)(CX:CXT)(k:Nat)(f:Addr)(fd:XC)(ps:List Str)(sp:Sp):Prop where
 len:∀vs H Q E,sp vs H Q E->vs.length=ps.length
 run:∀(A:Qo) (outer:List Env) (s:Xf) (H:Hp) (args:Args) (us:List Xe) (vs:List V) (Q:VK) (E:XK),Room k A->Z6f P w K mg base A outer s H->BindsTo s fd args (ps.zip us)->Vals vs us->sp vs H Q E ->
  codeAny (Qa P w) A (.call (.ref f) args) (CR CX outer P w H s Q E) s
theorem FnOk.imp{P:X6}{w:Qu}{K:Xb}{mg:Str->Option Xe}{base:Heap}{CX:CXT}{k:Nat}{f:Addr}{fd:XC}{ps:List Str}{sp sp':Sp}(F:FnOk P w K mg base CX k f fd ps sp)
  (h:∀vs H Q E,sp' vs H Q E->sp vs H Q E):FnOk P w K mg base CX k f fd ps sp' :=
 ⟨λvs H Q E q=>F.len vs H Q E (h _ _ _ _ q),λA outer s H args us vs Q E hr he hb hv hs=>F.run A outer s H args us vs Q E hr he hb hv (h _ _ _ _ hs)⟩
section
variable {X:Cx}{pins:List (Addr×Obj)}{σ:St}{H:Hp}{s s':Xf}
theorem Inv.env0(I:Inv X pins σ H s):Z6f X.prog X.w X.K X.mg X.base X.A X.stack s H :=
 ⟨I.ok.frames,I.ok.mod,I.bs,QK I.ok.bsz I.sz,I.stack,I.stkFree,I.hok,I.bare⟩
theorem Inv.after{Q:VK}{u:Xe}(I:Inv X pins σ H s)(h:CE X.stack X.prog X.w H s Q u s'):EP X pins σ Q u s':=by
 obtain⟨v,H',os,bare,un,hok,r,q⟩:=h
 obtain⟨hh,g,d,t,os'⟩:=s'
 obtain rfl:os'=s.os:=os
 exact⟨v,H',I.call (h':=hh) (g':=g) (d':=d) (t':=t) (ch:=[]) un hok bare (λb z=>absurd z (by simp)),r,q⟩
end
noncomputable def Z3q(sp:Sp)(dvs:List V)(E:XK)(t:TA):TE:=λσ H Q=>t σ H λvs H1=>sp (vs ++ dvs) H1 Q E
noncomputable def Binds(K:Xb)(fd:XC)(ps:List Str)(ds:List Xe):Prop :=
 ∀(s:Xf) (us:List Xe),K.In s.heap->(us ++ ds).length=ps.length->BindsTo s fd ⟨us,[]⟩ (ps.zip (us ++ ds))
theorem Binds.all{K:Xb}{fd:XC}{ps:List Str}(h:∀us:List Xe,us.length=ps.length->bindArgs fd ⟨us,[]⟩=pure (ps.zip us)):Binds K fd ps []:=λs us _ hl=>by
 rw[Qw]at hl⊢
 exact .of_eq (h us hl)
noncomputable def Zoh(CX:CXT)(X:Cx)(E:XK):Prop:=∀(pins:List (Addr×Obj)) (σ:St) (H:Hp) (s:Xf) (e:Xe) (s':Xf),Inv X pins σ H s->CX X.stack H s E e s'->X.xe e s'
section
variable {X:Cx}{CX:CXT}{k:Nat}{f C:Addr}{fd:XC}{ps:List Str}{sp:Sp}{dvs:List V}{ds:List Xe}{E:XK}{x m:Str}{p pos apos:Pos}{e o:Expr}{es:List Expr}{ta:TE}{t:TA}
theorem Z4h{pins:List (Addr×Obj)}{σ:St}{H:Hp}{s:Xf}{Q:VK}{us:List Xe}{vs:List V}(F:FnOk X.prog X.w X.K X.mg X.base CX k f fd ps sp)(hr:Room k X.A)(hb:Binds X.K fd ps ds)(hd:Vals dvs ds)(hx:Zoh CX X E)
  (I:Inv X pins σ H s) (r:Vals vs us) (h:sp (vs ++ dvs) H Q E):XR (Qa X.prog X.w) X.A (call (.ref f) us) (EP X pins σ Q) X.xe s:=by
 have r2:Vals (vs ++ dvs) (us ++ ds):=r.append hd
 have hl:(us ++ ds).length=ps.length:=by rw[←r2.length];exact F.len _ _ _ _ h
 refine wpAny_call (codeAny_mono (F.run X.A X.stack s H ⟨us,[]⟩ (us ++ ds) (vs ++ dvs) Q E hr I.env0 (hb s us I.kIn hl) r2 h) λr s' hq=>?_)
 cases r with
 | error e=>exact hx pins σ H s e s' I hq
 | ok fl=>
  cases fl with
  | ret u=>exact I.after hq
  | next=>exact Bm hq
  | brk=>exact Bm hq
  | cont=>exact Bm hq
theorem Z03(F:FnOk X.prog X.w X.K X.mg X.base CX k f fd ps sp)(hr:Room k X.A)(hg:Gl X x)(hm:X.mg x=some (.ref f))(hk:By X.K (.ref f)=true)(hb:Binds X.K fd ps ds)(hd:Vals dvs ds)(hx:Zoh CX X E)
  (ha:PA X (e :: es) t) (hdb:(x==("__debug__" : Str))=false:=by decide) (he:Xk (e :: es) X.env=(false,eval e X.env) :: Xk es X.env:=by rfl) (hpl:(QW pos (Xk es X.env)).any (·.1)=false:=by rfl) :
  PE X (.Call (.Name x p) (e :: es) [] pos) (Z3q sp dvs E t):=by
 intro pins s σ H Q I h
 refine Vx (Zhj I hg hm ?_ hdb)
 refine PySem.W.callWith_K (h₀:=X.base) I.ok.mod.kin hk (thn (ha pos pins s σ H _ I h) λus s1 qz9=>?_) he hpl
 obtain⟨vs,H1,I1,r,q⟩:=qz9
 refine⟨I1.kIn,?_⟩
 exact Z4h F hr hb hd hx I1 r q
structure Mk(K:Xb)(C f:Addr):Prop where
 makes:PySem.W.makesIn K C=true
 init:BJ K (.ref C) "__init__"=some (some (.ref f))
 fn:PySem.W.isFn K (.ref f)=true
 kp:By K (.ref C)=true
end
section
variable {X:Cx}{CX:CXT}{k:Nat}{f C:Addr}{fd:XC}{ps ks:List Str}{sp:Sp}{E:XK}{x m:Str}{p pos apos kpos:Pos}{e o:Expr}{es:List Expr}{kws:List Bp}{te ta:TE}{t tk:TA}{nm:Option Str}
structure Yac(K:Xb)(fd:XC)(ps ks:List Str)(g:List Xe->List Xe->List Xe)(gV:List V->List V->List V):Prop where
 to:∀(s:Xf) (us ws:List Xe),K.In s.heap->(g us ws).length=ps.length->BindsTo s fd ⟨us,ks.zip ws⟩ (ps.zip (g us ws))
 rel:∀{vs:List V} {us:List Xe} {zs:List V} {ws:List Xe},Vals vs us->Vals zs ws->Vals (gV vs zs) (g us ws)
variable {g:List Xe->List Xe->List Xe}{gV:List V->List V->List V}
end
structure Zu(N P:List Str)(sc:VN):Prop where
 kind:sc.kind= .function
 co:sc.isCoroutine=false
 gen:sc.isGenerator=false
 nd:N.Nodup
 pre:N.take P.length=P
 par:∀x∈P,sc.names.lookup x=some .local∨sc.names.lookup x=some .cell
 nofree:∀y∈sc.names,y.2≠ .free
theorem Zky{kindOf:Str->Option Bh}{x:Str}:∀{binds:List (Str×Xe)} {m:Str->Option Xe},(∀v,(x,v)∉binds)->bindL kindOf binds m x=m x
 | [],_,_=>rfl
 | (n,v) :: r,m,h=>by
  unfold bindL
  rw[Zky λw hw=>h w (VL _ hw)]
  split
  ·have:x≠n:=by rintro rfl;exact h v V9
   simp[this]
  ·rfl
theorem Zl9{kindOf:Str->Option Bh}{x:Str}:∀{binds:List (Str×Xe)} {m:Str->Option Xe},(∀v,(x,v)∉binds)->bindC kindOf binds m x=m x
 | [],_,_=>rfl
 | (n,v) :: r,m,h=>by
  unfold bindC
  rw[Zl9 λw hw=>h w (VL _ hw)]
  split
  ·rfl
  ·have:x≠n:=by rintro rfl;exact h v V9
   simp[this]
theorem Zl2{kindOf:Str->Option Bh}{x:Str}{v:Xe}:∀{P:List Str} {vs:List Xe} {i:Nat} {m:Str->Option Xe},P.Nodup->P[i]? =some x->vs[i]? =some v->kindOf x=some .local ->
  bindL kindOf (P.zip vs) m x=some v
 | [],_,_,_,_,h,_,_=>by simp at h
 | _ :: _,[],_,_,_,_,h,_=>by simp at h
 | p :: P,w :: vs,0,m,nd,h1,h2,hk=>by
  simp at h1 h2;subst h1;subst h2
  show bindL kindOf ((p,w) :: P.zip vs) m p=_
  unfold bindL
  rw[Zky λv hv=>(Qd.mp nd).1 (List.of_mem_zip hv).1,if_pos hk]
  simp
 | p :: P,w :: vs,i+1,m,nd,h1,h2,hk=>by
  show bindL kindOf ((p,w) :: P.zip vs) m x=_
  unfold bindL
  exact Zl2 (i:=i) (Qd.mp nd).2 (by simpa using h1) (by simpa using h2) hk
theorem Zla{kindOf:Str->Option Bh}{x:Str}{v:Xe}:∀{P:List Str} {vs:List Xe} {i:Nat} {m:Str->Option Xe},P.Nodup->P[i]? =some x->vs[i]? =some v->kindOf x≠some .local ->
  bindC kindOf (P.zip vs) m x=some v
 | [],_,_,_,_,h,_,_=>by simp at h
 | _ :: _,[],_,_,_,_,h,_=>by simp at h
 | p :: P,w :: vs,0,m,nd,h1,h2,hk=>by
  simp at h1 h2;subst h1;subst h2
  show bindC kindOf ((p,w) :: P.zip vs) m p=_
  unfold bindC
  rw[Zl9 λv hv=>(Qd.mp nd).1 (List.of_mem_zip hv).1,if_neg hk]
  simp
 | p :: P,w :: vs,i+1,m,nd,h1,h2,hk=>by
  show bindC kindOf ((p,w) :: P.zip vs) m x=_
  unfold bindC
  exact Zla (i:=i) (Qd.mp nd).2 (by simpa using h1) (by simpa using h2) hk
noncomputable def start(N:List Str)(vs:List V):St:=vs.map some ++ Xr (N.length-vs.length) none
noncomputable def Zqq(CX:CXT)(P:X6)(w:Qu)(K:Xb)(mg:Str->Option Xe)(base:Heap)(N:List Str)(qual:Str)(scope:VN)(f:Addr)(cd:Xe)(A:Qo)(outer:List Env)(s:Xf)(H:Hp)(E:XK):Cx where
 prog:=P
 w:=w
 K:=K
 mg:=mg
 base:=base
 A:=A.deeper (Uj qual scope s.heap.objs.size f cd)
 N:=N
 s₀:=s
 H₀:=H
 env:=Uj qual scope s.heap.objs.size f cd
 outer:=outer
 stack:=Uj qual scope s.heap.objs.size f cd :: outer
 ex:=[]
 calm:=true
 fn:=λ_=>true
 pn:=[]
 xe:=λe s'=>XR (Qa P w) (A.deeper (Uj qual scope s.heap.objs.size f cd)) (leaving (Uj qual scope s.heap.objs.size f cd) e) (λ_ s''=>CX outer H s E e s'') (λe' s''=>CX outer H s E e' s'') s'
theorem Zn8{sc:VN}{n:Nat}{x:Str}(h:sc.names.lookup x=some .cell):∃c,(JX n sc.names []).lookup x=some c:=by
 have q:=PySem.W.cellsFrom_some sc.names n [] (.inl h)
 exact Ul.mp q
theorem Zsa{CX:CXT}{P:X6}{w:Qu}{K:Xb}{mg:Str->Option Xe}{base:Heap}{N ps:List Str}{qual:Str}{scope:VN}{f:Addr}{cd:Xe}{A:Qo}{outer:List Env}{s s1:Xf}{H:Hp}{E:XK}{us:List Xe}{vs:List V}
  (S:Zu N ps scope) (hd:A.handled=none) (e0:Z6f P w K mg base A outer s H) (hl:vs.length=ps.length) (r:Vals vs us)
  (x:InCallC s s.heap.objs.size (bindL (Uj qual scope s.heap.objs.size f cd).kindOf (ps.zip us) λ_=>none) (JX (s.heap.objs.size+1) scope.names []) (bindC (Uj qual scope s.heap.objs.size f cd).kindOf (ps.zip us) λ_=>none) s1) :
  Inv (Zqq CX P w K mg base N qual scope f cd A outer s H E) [] (start N vs) H s1:=by
 have hpl:ps.length≤N.length:=by have:=congrArg List.length S.pre;rw[QG]at this;omega
 obtain⟨h1,tk,rfl,hk⟩:=x.done
 have noA:∀b:Addr,b∉(Zqq CX P w K mg base N qual scope f cd A outer s H E).ex:=λb z=>absurd (show b∈([]:List Addr)from z) (by simp)
 refine⟨⟨e0.mod,S.kind,rfl,rfl,Qp _,λy z c h1 h2=>?_,λy hy=>?_,λy c _ h=>?_,λ_=>hd,Qo.frames_deeper e0.frames,.inr ⟨rfl,rfl⟩,λb z=>absurd z (noA b),e0.bs,e0.bsz,λb _ _=>noA b,λb z=>absurd z (noA b),e0.funs,e0.frf⟩,
  rfl,e0.bare,Un.kept hk,⟨_,x.toInCall.ns,λi y v h1 h2 h3=>?_⟩,λy c h=>⟨_,x.cell y c h⟩,e0.hok.fresh (Qp _),λy c h=>?_,λp hp=>absurd (show p∈([]:List (Addr×Obj))from hp) (by simp),e0.hok.kept hk,?_⟩
 ·exact name_of_addr x.apart (JP h1) (JP h2)
 ·have hy:scope.names.lookup y=some .cell∨scope.names.lookup y=some .free:=hy
  rcases hy with hy|hy
  ·exact Zn8 hy
  ·exact absurd rfl (S.nofree _ (JP hy))
 ·exact Vz (x.above y c (JP h))
 ·have hi:i<vs.length:=by
   unfold start at h2
   by_cases hi:i<vs.length
   ·exact hi
   ·rw[Q3 (by simpa using hi)]at h2
    rw[BP]at h2
    split at h2<;>cases h2
  have ha:vs[i]? =some v:=by
   unfold start at h2
   rw[JW (by simpa using hi),Xy]at h2
   cases e:vs[i]? with
   | none=>rw[e]at h2;cases h2
   | some a=>rw[e]at h2;cases h2;rfl
  obtain⟨u,hu,rv⟩:=r.get ha
  have hp:ps[i]? =some y:=by
   rw[←S.pre,List.getElem?_take_of_lt (by omega)];exact h1
  have ndP:ps.Nodup:=by rw[←S.pre];exact S.nd.sublist (List.take_sublist _ _)
  refine⟨u,rv,?_⟩
  rcases S.par y (QV hp)with k|k
  ·exact .inl ⟨k,Zl2 ndP hp hu k⟩
  ·obtain⟨c,e⟩:=Zn8 (n:=s.heap.objs.size+1) k
   refine .inr ⟨.inl k,c,e,?_⟩
   have q:=x.cell y c e
   rw[Zla ndP hp hu (by show scope.names.lookup y≠_;rw[k];decide)]at q
   exact q
 ·exact e0.hok.fresh (Vz (x.above y c (JP h)))
 ·unfold start
  show _=N.length
  rw[XX,Xi,Bo]
  omega
theorem Z3h{CX:CXT}{P:X6}{w:Qu}{K:Xb}{mg:Str->Option Xe}{base:Heap}{k:Nat}{f:Addr}{name qual:Str}{params:Arguments}{body:List Stmt}{scope:VN}{dV kV doc pm cdv ct oc:Xe}{an od:Option Addr}
  {osl:Array (Option Xe)} {N ps:List Str} {sp:Sp} (lk:K.lookup f=some ⟨oc,od,.func (Vi name qual params body scope dV kV doc pm an cdv ct),osl⟩) (hcd:PySem.W.codeIn K cdv qual=true) (S:Zu N ps scope)
  (len:∀vs H Q E,sp vs H Q E->vs.length=ps.length)
  (hbody:∀(A:Qo) (outer:List Env) (s:Xf) (H:Hp) (vs:List V) (Q:VK) (E:XK),Room k (A.deeper (Uj qual scope s.heap.objs.size f cdv))->sp vs H Q E ->
   ∃t,PSs (Zqq CX P w K mg base N qual scope f cdv A outer s H E) body t∧t { nx:=λ_ H'=>Q .non H',rt:=Q } (start N vs) H) :
  FnOk P w K mg base CX (k+1) f (Vi name qual params body scope dV kV doc pm an cdv ct) ps sp:=by
 refine⟨len,λA outer s H args us vs Q E hr e0 hb r hsp=>?_⟩
 have hl:=len _ _ _ _ hsp
 have KX:K.In s.heap:=e0.mod.kin.keeps λb o e=>(e0.bs b o e).1
 have lim:s.heap.NoLimit:=e0.mod.nolimit.keeps λb o e=>(e0.bs b o e).1
 have hkind:∀y∈ps.zip us,scope.names.lookup y.1=some .local∨(scope.names.lookup y.1=some .cell∧((JX (s.heap.objs.size+1) scope.names []).lookup y.1).isSome=true):=λ⟨n,v⟩ hy=>by
  rcases S.par n (List.of_mem_zip hy).1 with q|q
  ·exact .inl q
  ·exact .inr ⟨q,PySem.W.cellsFrom_some _ _ _ (.inl q)⟩
 refine codeAny_call_function hr.depth (KX _ _ lk) rfl S.co S.gen rfl (PySem.W.codeRec_of KX hcd) (hb _ _ _ _ ?_)
 refine wpAny_newFunctionEnv_cells S.kind hkind λenv he s1 x=>?_
 subst he
 refine⟨lim.keeps x.toInCall.keep,codeAny_func ?_⟩
 obtain⟨t,ht,hq⟩:=hbody A outer s H vs Q E (hr.deeper _) hsp
 have I:Inv (Zqq CX P w K mg base N qual scope f cdv A outer s H E) [] (start N vs) H s1:=Zsa S hr.hd e0 hl r x
 refine QT (ht [] s1 (start N vs) H _ I hq) (λfl s' hs=>?_) λe s' hs=>hs
 have fin:∀{σ':St} {H':Hp} {v:V} {u:Xe},Inv (Zqq CX P w K mg base N qual scope f cdv A outer s H E) [] σ' H' s'->RelV v u->Q v H'->CE outer P w H s Q u s' :=
  fun{σ' H' v u} J rv q=>⟨v,H',J.os,J.bare,J.base,J.hok,rv,q⟩
 cases fl with
 | ret u=>
  obtain⟨v,σ',H',J,rv,q⟩:=hs
  exact fin J rv q
 | next=>
  obtain⟨σ',H',J,q⟩:=hs
  exact fin (v:=V.non) (u:=Q5) J rfl q
 | brk=>
  obtain⟨_,_,_,q⟩:=hs
  exact Bm q
 | cont=>
  obtain⟨_,_,_,q⟩:=hs
  exact Bm q
section
variable {X:Cx}{x:Str}{p pos:Pos}{e:Expr}{es:List Expr}{t:TA}{id T:String}{r:List V->Hp->VK->Prop}
noncomputable def tCB(r:List V->Hp->VK->Prop)(t:TA):TE:=λσ H Q=>t σ H λvs H1=>r vs H1 Q
theorem Zdj(hc:Zcq X (.builtin id) r)(hg:Gl X x)(hm:X.mg x=none)(hv:Qg x=some (.builtin id))(ha:PA X (e :: es) t)(hn:x≠"__name__" :=by decide)(hdb:(x==("__debug__" : Str))=false:=by decide)
  (he:Xk (e :: es) X.env=(false,eval e X.env) :: Xk es X.env:=by rfl) (hpl:(QW pos (Xk es X.env)).any (·.1)=false:=by rfl):PE X (.Call (.Name x p) (e :: es) [] pos) (tCB r t):=by
 intro pins s σ H Q I h
 refine Vx (Zit I hg hm hv ?_ hn hdb)
 refine PyProof.Rows.callWith_builtin1 (thn (ha pos pins s σ H _ I h) λus s1 qz9=>?_) he hpl
 obtain⟨vs,H1,I1,r1,q1⟩:=qz9
 exact hc pins s1 σ H1 vs us Q I1 r1 q1
theorem Zht(hc:Zcq X (.type T) r)(hg:Gl X x)(hm:X.mg x=none)(hv:Qg x=some (.type T))(ha:PA X (e :: es) t)(hn:x≠"__name__" :=by decide)(hdb:(x==("__debug__" : Str))=false:=by decide)
  (he:Xk (e :: es) X.env=(false,eval e X.env) :: Xk es X.env:=by rfl) (hpl:(QW pos (Xk es X.env)).any (·.1)=false:=by rfl):PE X (.Call (.Name x p) (e :: es) [] pos) (tCB r t):=by
 intro pins s σ H Q I h
 refine Vx (Zit I hg hm hv ?_ hn hdb)
 refine BV (thn (ha pos pins s σ H _ I h) λus s1 qz9=>?_) he hpl
 obtain⟨vs,H1,I1,r1,q1⟩:=qz9
 exact hc pins s1 σ H1 vs us Q I1 r1 q1
end
end L2
namespace HT
open PySem PyProof.Rows
section
open PySem.SeqAt
open PySem.AutoSeq1 (wpAny_loadPart')
open PySem.MeetsSeq PySem.MeetsSeq2 PySem.MeetsSeq3
end
section
variable {prog:X6}{w:Qu}{A:Qo}{E:Xe->Xf->Prop}{s:Xf}
noncomputable def sIx(n d:Nat):Option Int->Nat
 | none=>d
 | some v=>if v<0 then(v+(n:Int)).toNat else min v.toNat n
theorem sIx_none(n d:Nat):sIx n d none=d:=rfl
theorem sIx_nat(n d k:Nat):sIx n d (some (k:Int))=min k n:=by
 show(if(k:Int)<0 then((k:Int)+(n:Int)).toNat else min (k:Int).toNat n)=min k n
 rw[if_neg (by omega),Qs]
end
end HT
namespace L2
open PySem PySem.Spec PyProof.Rows
noncomputable abbrev TO:=St->Hp->(Option Int->Hp->Prop)->Prop
noncomputable def PO(X:Cx)(e:Option Expr)(t:TO):Prop :=
 ∀(pins:List (Addr×Obj)) (s:Xf) (σ:St) (H:Hp) (Q:Option Int->Hp->Prop),Inv X pins σ H s->t σ H Q ->
  XR (Qa X.prog X.w) X.A (evalPart e X.env) (λu s'=>∃o H',Inv X pins σ H' s'∧IsPart u o∧Q o H') X.xe s
noncomputable def Zz3:TO:=λ_ H Q=>Q none H
noncomputable def Z82(t:TE):TO:=λσ H Q=>t σ H λx H1=>∃i,x= .int i∧Q (some i) H1
section
variable {X:Cx}{e:Expr}{te:TE}{lo hi:Option Expr}{tl th:TO}{pos p2:Pos}
theorem Zy1:PO X none Zz3:=by
 intro pins s σ H Q I h
 rw[evalPart_none]
 exact Qe ⟨none,H,I,.none,h⟩
theorem Zzz(h:PE X e te):PO X (some e) (Z82 te):=by
 intro pins s σ H Q I hw
 rw[evalPart_some]
 refine thn (h pins s σ H _ I hw) λu s1 qz9=>?_
 obtain⟨x,H1,I1,r1,q1⟩:=qz9
 obtain⟨i,rfl,q⟩:=q1
 obtain⟨t,rfl⟩:=r1
 exact⟨some i,H1,I1,.int i t,q⟩
noncomputable def SlR(X:Cx)(r:V->Option Int->Option Int->Hp->VK->Prop):Prop :=
 ∀(pins:List (Addr×Obj)) (s:Xf) (σ:St) (H:Hp) (x:V) (v vl vu:Xe) (lo hi:Option Int) (sl:Addr) (Q:VK),Inv X pins σ H s->RelV x v->s.heap.IsSliceOf sl vl vu .none->IsPart vl lo->IsPart vu hi->r x lo hi H Q ->
  ∃T id,typeLookup (.type T) "__getitem__"=pure (some (.builtin id))∧s.TypeIs v T∧XR (Qa X.prog X.w) X.A (getItem v (.ref sl)) (EP X pins σ Q) X.xe s
noncomputable def tSl(r:V->Option Int->Option Int->Hp->VK->Prop)(te:TE)(tl th:TO):TE:=λσ H Q=>te σ H λx H1=>tl σ H1 λl H2=>th σ H2 λu H3=>r x l u H3 Q
theorem Zwj{r:V->Option Int->Option Int->Hp->VK->Prop}(hr:SlR X r)(he:PE X e te)(hl:PO X lo tl)(hu:PO X hi th):PE X (.Subscript e (.Slice lo hi none p2) pos) (tSl r te tl th):=by
 intro pins s σ H Q I h
 refine Subscript_ (thn (he pins s σ H _ I h) λv s1 qz9=>?_)
 obtain⟨x,H1,I1,r1,q1⟩:=qz9
 refine wpAny_Slice (thn (hl pins s1 σ H1 _ I1 q1) λvl s2 qz9=>?_)
 obtain⟨l,H2,I2,pl,q2⟩:=qz9
 refine thn (hu pins s2 σ H2 _ I2 q2) λvu s3 qz9=>?_
 obtain⟨u,H3,I3,pu,q3⟩:=qz9
 rw[evalPart_none]
 refine Qe ?_
 have I4:Inv X pins σ H3 { s3 with heap:=s3.heap.push { cls:=.type "slice",data:=.fields #[vl,vu,.none] } }:=I3.kept (t':=s3.toks) λb ob q=>Xm _ q
 obtain⟨T,id,hT,ht,hg⟩:=hr pins { s3 with heap:=s3.heap.push { cls:=.type "slice",data:=.fields #[vl,vu,.none] } } σ H3 x v vl vu l u s3.heap.objs.size Q I4 r1 (Heap.IsSliceOf.new ..) pl pu q3
 show XR (Qa X.prog X.w) X.A (subscriptTail e (.Slice lo hi none p2) v (.ref s3.heap.objs.size)) (EP X pins σ Q) X.xe { s3 with heap:=s3.heap.push { cls:=.type "slice",data:=.fields #[vl,vu,.none] } }
 exact tail_any (ops:=[.ref s3.heap.objs.size,v]) ht hT hg (by with_unfolding_all rfl)
noncomputable def Z12(xs:List V)(lo hi:Option Int):List V:=(xs.drop (HT.sIx xs.length 0 lo)).take (HT.sIx xs.length xs.length hi-HT.sIx xs.length 0 lo)
theorem Zm5(xs:List V)(lo hi:Option Int):(Z12 xs lo hi).length≤xs.length:=by
 unfold Z12
 rw[QG,Qq]
 omega
end
noncomputable def ixN(n:Nat)(i:Int):Option Nat:=if 0≤i then(if i<n then some i.toNat else none)else if -(n:Int)≤i then some (i+n).toNat else none
noncomputable def atI{α:Type}(xs:List α)(i:Int):Option α:=(ixN xs.length i).bind λj=>xs[j]?
theorem Znk{n:Nat}{i:Int}{j:Nat}(h:ixN n i=some j):seqIndex? i n=some j∧j<n∧-(n:Int)≤i∧i<n:=by
 unfold ixN at h
 by_cases h0:0≤i
 ·rw[if_pos h0]at h
  by_cases h1:i<n
  ·rw[if_pos h1]at h
   have e:i.toNat=j:=QC h
   exact⟨by rw[seqIndex_of h0 h1,e],by omega,by omega,h1⟩
  ·rw[if_neg h1]at h;cases h
 ·rw[if_neg h0]at h
  by_cases h1:-(n:Int)≤i
  ·rw[if_pos h1]at h
   have e:(i+n).toNat=j:=QC h
   exact⟨by rw[seqIndex_neg (by omega) h1,e],by omega,h1,by omega⟩
  ·rw[if_neg h1]at h;cases h
theorem Znf{α:Type}{xs:List α}{i:Int}{v:α}(h:atI xs i=some v):∃j,seqIndex? i xs.length=some j∧xs[j]? =some v∧j<xs.length∧-(xs.length:Int)≤i∧i<xs.length:=by
 unfold atI at h
 cases e:ixN xs.length i with
 | none=>rw[e]at h;cases h
 | some j=>
  rw[e]at h
  obtain⟨h1,h2,h3,h4⟩:=Znk e
  exact⟨j,h1,h,h2,h3,h4⟩
theorem Z0a{α:Type}{xs:List α}{j:Nat}{v:α}(h:xs[j]? =some v):atI xs (j:Int)=some v:=by
 have hj:j<xs.length:=(Xn.mp h).1
 have e:ixN xs.length (j:Int)=some j:=by
  unfold ixN
  rw[if_pos (by omega),if_pos (by omega)];simp
 unfold atI;rw[e];exact h
theorem Zwu{α:Type}(xs:List α)(v:α):atI (xs ++ [v]) (-1)=some v:=by
 have hl:(xs ++ [v]).length=xs.length+1:=by simp
 have e:ixN (xs ++ [v]).length (-1)=some xs.length:=by
  unfold ixN
  rw[hl,if_neg (by decide),if_pos (by omega)]
  congr 1
  omega
 unfold atI
 rw[e]
 show(xs ++ [v])[xs.length]? =some v
 simp
noncomputable def Zjp(b:Expr):Prop:=∀o i,subscripted b false o i=operate [o,i] (getItem o i)
noncomputable def IxR(X:Cx)(r:R2):Prop :=
 ∀(value slice:Expr) (pins:List (Addr×Obj)) (s:Xf) (σ:St) (H:Hp) (x y:V) (v u:Xe) (Q:VK),Inv X pins σ H s->RelV x v->RelV y u->r x y H Q ->
  subscripted slice false v u=operate [v,u] (getItem v u)->XR (Qa X.prog X.w) X.A (subscriptTail value slice v u) (EP X pins σ Q) X.xe s
noncomputable def MtR(X:Cx)(id:String)(r:V->List V->Hp->VK->Prop):Prop :=
 ∀(pins:List (Addr×Obj)) (s:Xf) (σ:St) (H:Hp) (x:V) (xs:List V) (v:Xe) (us:List Xe) (Q:VK),Inv X pins σ H s->RelV x v->Vals xs us->r x xs H Q ->
  XR (Qa X.prog X.w) X.A (call (.builtin id) (v :: us)) (EP X pins σ Q) X.xe s
section
variable {X:Cx}{a b:Expr}{ta tb:TE}{pos:Pos}
theorem IxR.or{r r':R2}(h:IxR X r)(h':IxR X r'):IxR X (λx y H Q=>r x y H Q∨r' x y H Q):=by
 intro value slice pins s σ H x y v u Q I rx ry q hs
 rcases q with q|q
 ·exact h value slice pins s σ H x y v u Q I rx ry q hs
 ·exact h' value slice pins s σ H x y v u Q I rx ry q hs
theorem Zv4{r:R2}(hr:IxR X r)(ha:PE X a ta)(hb:PE X b tb)(hs:Zjp b):PE X (.Subscript a b pos) (tOp r ta tb):=by
 intro pins s σ H Q I h
 exact Subscript_ (Z7s ha hb I h λv u s2 x y H2 I2 rx ry q=>hr a b pins s2 σ H2 x y v u Q I2 rx ry q (hs _ _))
noncomputable def Z66(K:Xb):R2:=λx y H Q=>∃p xs i v,x= .ref p∧y= .int i∧SqL K H p xs∧atI xs i=some v∧Q v H
noncomputable def Z9d(K:Xb):R2:=λx y H Q=>∃p xs i v,x= .ref p∧y= .int i∧SqT K H p xs∧atI xs i=some v∧Q v H
noncomputable def Z9t:R2:=λx y H Q=>∃z i c,x= .str z∧y= .int i∧z.length≤Xo∧atI z.cps.toList i=some c∧Q (.str ⟨#[c]⟩) H
theorem Zqv:IxR X (Z66 X.K):=by
 intro value slice pins s σ H x y v u Q I rx ry h hs
 obtain⟨p,xs,i,z,rfl,rfl,hq,he,q⟩:=h
 cases rx
 obtain⟨t,rfl⟩:=ry
 obtain⟨its,r,pl,hz⟩:=I.list hq
 obtain⟨j,h1,h2,h3,h4,h5⟩:=Znf he
 obtain⟨w,ew,rw'⟩:=r.get h2
 have hl:=r.length
 have hn:=Zic
 have fin:EP X pins σ Q w s:=⟨z,H,I,rw',q⟩
 by_cases h0:0≤i
 ·have hj:i.toNat=j:=by
   rw[seqIndex_of h0 h5]at h1
   exact QC h1
  exact item_listR pl.isList h0 (by omega) (by rw[hj];simpa using ew) fin hs
 ·have hj:(i+(its.toArray.size:Int)).toNat=j:=by
   rw[seqIndex_neg (by omega) h4]at h1
   rw[Xu,←hl]
   exact QC h1
  exact subscriptTail_builtinR (x:=w) pl.isList.typeIs slot_list_getitem.lookup
   (wpAny_getItem_list_neg (Q:=λr s'=>r=w∧EP X pins σ Q r s') pl.isList (by omega) (by rw[Xu]<;>omega) (by omega) (by rw[hj];simpa using ew) ⟨rfl,fin⟩) hs
theorem Z2u:IxR X (Z9d X.K):=by
 intro value slice pins s σ H x y v u Q I rx ry h hs
 obtain⟨p,xs,i,z,rfl,rfl,hq,he,q⟩:=h
 cases rx
 obtain⟨t,rfl⟩:=ry
 obtain⟨its,r,pl,hz⟩:=I.tuple hq
 obtain⟨j,h1,h2,h3,h4,h5⟩:=Znf he
 obtain⟨w,ew,rw'⟩:=r.get h2
 have hl:=r.length
 have hn:=Zic
 have fin:EP X pins σ Q w s:=⟨z,H,I,rw',q⟩
 exact subscriptTail_builtinR (x:=w) pl.typeIs slot_tuple_getitem.lookup
  (getItem_tuple (j:=j) (Q:=λr s'=>r=w∧EP X pins σ Q r s') pl (by omega) (by omega) (by rw[Xu,←hl];exact h1) (by simpa using ew) ⟨rfl,fin⟩) hs
theorem Z30:IxR X Z9t:=by
 intro value slice pins s σ H x y v u Q I rx ry h hs
 obtain⟨z,i,c,rfl,rfl,hz,he,q⟩:=h
 obtain⟨t,rfl⟩:=rx
 obtain⟨t',rfl⟩:=ry
 obtain⟨j,h1,h2,h3,h4,h5⟩:=Znf he
 have hl:z.cps.toList.length=z.length:=by simp[Str.length]
 rw[hl]at h1 h4 h5
 have hn:=Zic
 exact tail_any (typeIs_str s z t) slot_str_getitem.lookup (getItem_str (c:=c) (by
  have e1:decide (i< -(2^63:Int))=false:=decide_eq_false (by omega)
  have e2:decide (i≥2^63)=false:=decide_eq_false (by omega)
  rw[e1,e2,Bool.or_false]) (by rw[h1];simpa using h2) ⟨.str ⟨#[c]⟩,H,I.tok _,⟨_,rfl⟩,q⟩) hs
noncomputable def rIx(K:Xb):R2:=λx y H Q=>Z66 K x y H Q∨Z9d K x y H Q∨Z9t x y H Q
theorem Z2t:IxR X (rIx X.K):=Zqv.or (Z2u.or Z30)
theorem Zpk(its:List Xe)(n j:Nat)(u:Xe):JR (·.setIfInBounds j u) { cls:=.type "list",data:=.seq its.toArray n }={ cls:=.type "list",data:=.seq (its.set j u).toArray n }:=by
 simp[JR]
theorem Inv.lst{pins:List (Addr×Obj)}{σ:St}{H:Hp}{s:Xf}{p:Addr}{xs:List V}(I:Inv X pins σ H s)(h:H p=some (.lst xs)) :
  ∃(its:List Xe) (n:Nat),Vals xs its∧s.heap.get? p=some { cls:=.type "list",data:=.seq its.toArray n }∧xs.length≤Xo:=by
 obtain⟨z,its,n,r,e⟩:=I.hok p _ h
 exact⟨its,n,r,e,z⟩
theorem Inv.lstUpd{pins:List (Addr×Obj)}{σ:St}{H:Hp}{s:Xf}{p:Addr}{xs ys:List V}{its its':List Xe}{n n':Nat}{f:Obj->Obj}(I:Inv X pins σ H s)(h:H p=some (.lst xs))
  (ho:s.heap.get? p=some { cls:=.type "list",data:=.seq its.toArray n }) (hf:f { cls:=.type "list",data:=.seq its.toArray n }={ cls:=.type "list",data:=.seq its'.toArray n' }) (r:Vals ys its') (hz:ys.length≤Xo) (t:Nat) :
  Inv X pins σ (upd H p (.lst ys)) { s with heap:=s.heap.update p f,toks:=t }:=by
 have e:(s.heap.update p f).get? p=some { cls:=.type "list",data:=.seq its'.toArray n' }:=by
  rw[Heap.get?_update_self f ho (by rw[hf]<;>rfl),hf]
 refine I.write (x:=p) (e:=p) (by rw[h];trivial) (.inl rfl) (λb u hb q=>(Heap.get?_update_other _ _ (Q4 hb)).trans q) ⟨_,e⟩ ?_
 exact⟨hz,its',n',r,e⟩
noncomputable def Zzd:V->V->V->Hp->(Hp->Prop)->Prop:=λo i v H Q=>∃p xs k j,o= .ref p∧i= .int k∧H p=some (.lst xs)∧ixN xs.length k=some j∧Q (upd H p (.lst (xs.set j v)))
theorem set_list:Z9x X Zzd:=by
 intro pins s σ H o i v ov iv u Q I ro ri rv h
 obtain⟨p,xs,k,j,rfl,rfl,hp,hj,q⟩:=h
 cases ro
 obtain⟨t,rfl⟩:=ri
 obtain⟨its,n,r,ho,hz⟩:=I.lst hp
 obtain⟨h1,h2,h3,h4⟩:=Znk hj
 have hl:=r.length
 have hn:=Zic
 have I':Inv X pins σ (upd H p (.lst (xs.set j v))) { s with heap:=s.heap.update p (JR (·.setIfInBounds j u)) } :=
  I.lstUpd hp ho (Zpk its n j u) (r.set rv j) (by rw[Qv];exact hz) s.toks
 by_cases h0:0≤k
 ·have hk:k.toNat=j:=by
   rw[seqIndex_of h0 h4]at h1
   exact QC h1
  exact PySem.W.ki_setAt ho h0 (by omega) (by rw[Xu,←hl];exact h4) (by rw[hk];exact⟨_,I',q⟩)
 ·have hk:(k+(its.toArray.size:Int)).toNat=j:=by
   rw[seqIndex_neg (by omega) h3]at h1
   rw[Xu,←hl]
   exact QC h1
  exact PySem.W.ki_setBack ho (by omega) (by rw[Xu,←hl];exact h3) (by omega) (by rw[hk];exact⟨_,I',q⟩)
theorem Zk4(lo hi:Option Int)(n:Nat):(JM lo hi none n).1=((HT.sIx n 0 lo:Nat):Int)∧(JM lo hi none n).2.1=((HT.sIx n n hi:Nat):Int)∧(JM lo hi none n).2.2=1:=by
 refine⟨?_,?_,rfl⟩
 ·cases lo with
  | none=>simp[JM,HT.sIx]
  | some i=>
   simp only[JM,HT.sIx,Option.getD_none,show(1:Int)>0 by decide,if_true]
   by_cases h:i<0
   ·simp only[h,if_true]<;>omega
   ·simp only[h,if_false]<;>omega
 ·cases hi with
  | none=>simp[JM,HT.sIx]
  | some i=>
   simp only[JM,HT.sIx,Option.getD_none,show(1:Int)>0 by decide,if_true]
   by_cases h:i<0
   ·simp only[h,if_true]<;>omega
   ·simp only[h,if_false]<;>omega
theorem Zi0(its:List Xe)(lo hi:Option Int):slicePick its.toArray lo hi none=((its.drop (HT.sIx its.length 0 lo)).take (HT.sIx its.length its.length hi-HT.sIx its.length 0 lo)).toArray:=by
 obtain⟨h1,h2,h3⟩:=Zk4 lo hi its.toArray.size
 unfold slicePick
 rw[h1,h2,h3]
 simp only[sliceRange_one,pick_run,Xu]<;>rfl
noncomputable def Z98(K:Xb):V->Option Int->Option Int->Hp->VK->Prop:=λx lo hi H Q=>∃a xs,x= .ref a∧SqL K H a xs∧∀p,H p=none->Q (.ref p) (upd H p (.lst (Z12 xs lo hi)))
theorem Z08:SlR X (Z98 X.K):=by
 intro pins s σ H x v vl vu lo hi sl Q I rx hs pl pu h
 obtain⟨a,xs,rfl,hx,q⟩:=h
 cases rx
 obtain⟨its,r,ht,hz⟩:=I.list hx
 have hlen:=r.length
 refine⟨"list",_,slot_list_getitem.lookup,ht.isList.typeIs,?_⟩
 refine wpAny_getItem_list_slice ht.isList hs pl pu .none (by simp) ?_ (by rw[Xu]<;>omega)
 rw[Zi0,←hlen]
 refine⟨.ref s.heap.objs.size,_,I.laid (t':=s.toks) (o:=.lst (Z12 xs lo hi)) (λb ob q=>Xm _ q) (Qp _) ?_,rfl,q _ (I.hok.fresh (Qp _))⟩
 exact⟨QK (Zm5 xs lo hi) hz,_,0,(r.drop (HT.sIx xs.length 0 lo)).take (HT.sIx xs.length xs.length hi-HT.sIx xs.length 0 lo),Qc _ rfl⟩
noncomputable def Zhc:V->Bool
 | .non=>true
 | .bl _=>true
 | .int _=>true
 | .str _=>true
 | _=>false
noncomputable def eqV:V->V->Bool
 | .non,.non=>true
 | .bl a,.bl b=>a==b
 | .bl a,.int b=>(if a then 1 else 0)==b
 | .int a,.bl b=>a==(if b then 1 else 0)
 | .int a,.int b=>a==b
 | .str a,.str b=>a==b
 | _,_=>false
theorem Z5y{A:Qo}{s:Xf}{y x:V}{u v:Xe}(ry:RelV y u)(rx:RelV x v)(fy:Zhc y=true)(fx:Zhc x=true):JN A s u v (eqV y x):=by
 cases y with
 | non=>
  cases ry
  cases x with
  | non=>cases rx;exact JN.same _
  | bl b=>cases rx;exact JN.none_bool b
  | int b=>obtain⟨t,rfl⟩:=rx;exact JN.none_int b t
  | str b=>obtain⟨t,rfl⟩:=rx;exact JN.none_str b t
  | _=>exact absurd (show false=true from fx) Xp
 | bl a=>
  cases ry
  cases x with
  | non=>cases rx;exact JN.bool_none a
  | bl b=>cases rx;exact JN.bool_bool a b
  | int b=>obtain⟨t,rfl⟩:=rx;exact JN.bool_int a b t
  | str b=>obtain⟨t,rfl⟩:=rx;exact JN.bool_str a b t
  | _=>exact absurd (show false=true from fx) Xp
 | int a=>
  obtain⟨t',rfl⟩:=ry
  cases x with
  | non=>cases rx;exact JN.int_none a t'
  | bl b=>cases rx;exact JN.int_bool a t' b
  | int b=>obtain⟨t,rfl⟩:=rx;exact JN.int_int a t' b t
  | str b=>obtain⟨t,rfl⟩:=rx;exact SeqAt.EqAt.int_str a t' b t
  | _=>exact absurd (show false=true from fx) Xp
 | str a=>
  obtain⟨t',rfl⟩:=ry
  cases x with
  | non=>cases rx;exact JN.str_none a t'
  | bl b=>cases rx;exact JN.str_bool a t' b
  | int b=>obtain⟨t,rfl⟩:=rx;exact SeqAt.EqAt.str_int a t' b t
  | str b=>obtain⟨t,rfl⟩:=rx;exact JN.str_str a t' b t
  | _=>exact absurd (show false=true from fx) Xp
 | _=>exact absurd (show false=true from fy) Xp
noncomputable def eqU(x:V)(u:Xe):Bool:=match u with
 | .none=>eqV .non x
 | .bool b=>eqV (.bl b) x
 | .int i _=>eqV (.int i) x
 | .str z _=>eqV (.str z) x
 | _=>false
theorem Zx0{x y:V}{u:Xe}(r:RelV y u)(f:Zhc y=true):eqU x u=eqV y x:=by
 cases y with
 | non=>cases r;rfl
 | bl b=>cases r;rfl
 | int i=>obtain⟨t,rfl⟩:=r;rfl
 | str z=>obtain⟨t,rfl⟩:=r;rfl
 | _=>exact absurd (show false=true from f) Xp
theorem Zrb{x:V}{xs:List V}{us:List Xe}(h:Vals xs us)(f:xs.all Zhc=true):us.any (eqU x)=xs.any λy=>eqV y x:=by
 induction h with
 | nil=>rfl
 | cons r t ih=>
  rw[Uz,Xx]at f
  rw[List.any_cons,List.any_cons,Zx0 r f.1,ih f.2]
theorem Zn4{A:Qo}{s:Xf}{x:V}{v:Xe}(rx:RelV x v)(fx:Zhc x=true){xs:List V}{us:List Xe}(h:Vals xs us)(f:xs.all Zhc=true):∀u∈us,JN A s u v (eqU x u):=by
 induction h with
 | nil=>intro u hu;cases hu
 | cons r t ih=>
  intro u' hu
  rw[Uz,Xx]at f
  rcases Xl.mp hu with rfl|hu
  ·rw[Zx0 r f.1];exact Z5y r rx f.1 fx
  ·exact ih f.2 u' hu
noncomputable def inV(x:V)(xs:List V):Bool:=xs.any λy=>eqV y x
noncomputable def rIn(K:Xb)(neg:Bool):R2:=λx y H Q=>∃p xs,y= .ref p∧(SqL K H p xs∨SqT K H p xs)∧Zhc x=true∧xs.all Zhc=true∧Q (.bl (if neg then !inV x xs else inV x xs)) H
theorem Zum:OpR X (Vo .In) (rIn X.K false):=by
 intro pins s σ H x y v u Q I rx ry h
 obtain⟨p,xs,rfl,hq,fx,fs,q⟩:=h
 cases ry
 rcases hq with hq|hq
 ·obtain⟨its,r,pl,hz⟩:=I.list hq
  refine SeqAt.in_listAt (eqU x) pl.isList (λw hw=>Zn4 rx fx r fs w (by simpa using hw)) ⟨.bl _,H,I,rfl,?_⟩
  rw[show its.toArray.any (eqU x)=its.any (eqU x) by simp,Zrb r fs]
  exact q
 ·obtain⟨its,r,pl,hz⟩:=I.tuple hq
  refine SeqAt.in_tupleAt (eqU x) pl (λw hw=>Zn4 rx fx r fs w (by simpa using hw)) ⟨.bl _,H,I,rfl,?_⟩
  rw[show its.toArray.any (eqU x)=its.any (eqU x) by simp,Zrb r fs]
  exact q
theorem Zk7:Zcq X (.builtin "len") (λxs H Q=>∃p ys,xs=[.ref p]∧(SqL X.K H p ys∨SqT X.K H p ys)∧Q (.int ys.length) H):=by
 intro pins s σ H xs us Q I r h
 obtain⟨p,ys,rfl,hq,q⟩:=h
 obtain⟨u,rfl,rx⟩:=vals1 r
 cases rx
 have hn:=Zic
 rcases hq with hq|hq
 ·obtain⟨its,r',pl,hz⟩:=I.list hq
  have hlen:=r'.length
  exact Calls.call_len_list pl.isList (by simp only[Xu]<;>omega) ⟨.int ys.length,H,I.tok _,⟨s.toks+1,by rw[Xu,hlen]⟩,q⟩
 ·obtain⟨its,r',pl,hz⟩:=I.tuple hq
  have hlen:=r'.length
  exact len_tuple pl (by simp only[Xu]<;>omega) ⟨.int ys.length,H,I.tok _,⟨s.toks+1,by rw[Xu,hlen]⟩,q⟩
theorem Zk2:Zcq X (.type "list") (λxs H Q=>∃p ys,xs=[.ref p]∧(SqL X.K H p ys∨SqT X.K H p ys)∧∀l,H l=none->Q (.ref l) (upd H l (.lst ys))):=by
 intro pins s σ H xs us Q I r h
 obtain⟨p,ys,rfl,hq,q⟩:=h
 obtain⟨u,rfl,rx⟩:=vals1 r
 cases rx
 have fin:∀(its:List Xe),Vals ys its->ys.length≤Xo->∀(h':Heap) (c':Nat),(∀b o',s.heap.get? b=some o'->h'.get? b=some o') ->
   h'.get? s.heap.objs.size=some { cls:=.type "list",dict:=none,data:=.seq its.toArray c',slots:=#[] }->EP X pins σ Q (.ref s.heap.objs.size) { s with heap:=h' }:=λits r' hz h' c' kp e=>
  ⟨.ref s.heap.objs.size,_,I.laid (t':=s.toks) kp (Qp _) (show ObjOk X.prog X.w _ h' _ (.lst ys)from⟨hz,its,c',r',e⟩),rfl,q _ (I.hok.fresh (Qp _))⟩
 rcases hq with hq|hq
 ·obtain⟨its,r',pl,hz⟩:=I.list hq
  have hlen:=r'.length
  obtain⟨o,ho,hc,n,hd⟩:=pl.isList
  exact call_list_seq p (.inl rfl) ho hc hd (λh' c' kp e=>fin its r' hz h' c' kp e) (by simp only[Xu]<;>omega)
 ·obtain⟨its,r',pl,hz⟩:=I.tuple hq
  have hlen:=r'.length
  obtain⟨o,ho,hc,n,hd⟩:=pl
  exact call_list_seq p (.inr rfl) ho hc hd (λh' c' kp e=>fin its r' hz h' c' kp e) (by simp only[Xu]<;>omega)
noncomputable def tyV(K:Xb)(T:String)(x:V)(H:Hp):Prop:=match x with
 | .str _=>T="str"
 | .int _=>T="int"
 | .ref p=>(T="list"∧∃xs,SqL K H p xs)∨(T="tuple"∧∃o,K.lookup p=some o∧o.cls= .type "tuple"∧o.dict=none)∨
   (T="dict"∧((∃kvs,H p=some (.dK kvs))∨∃kvs,H p=some (.dT kvs)))∨(T="set"∧∃S n,H p=some (.set S n))
 | _=>False
theorem Z36{pins:List (Addr×Obj)}{σ:St}{H:Hp}{s:Xf}{T:String}{x:V}{v:Xe}(I:Inv X pins σ H s)(r:RelV x v)(ty:tyV X.K T x H) :
  s.TypeIs v T∧∀a,v= .ref a->∃ob,s.heap.get? a=some ob∧ob.dict=none:=by
 cases x with
 | str z=>
  obtain⟨t,rfl⟩:=r
  cases(show T="str"from ty)
  exact⟨typeIs_str s z t,λ_ e=>nomatch e⟩
 | int i=>
  obtain⟨t,rfl⟩:=r
  cases(show T="int"from ty)
  exact⟨typeIs_int s i t,λ_ e=>nomatch e⟩
 | ref p=>
  cases r
  rcases ty with⟨rfl,xs,hq⟩|⟨rfl,o,hk,hc,hd⟩|⟨rfl,hk⟩|⟨rfl,S,n,hk⟩
  ·obtain⟨its,_,pl,_⟩:=I.list hq
   refine⟨pl.isList.typeIs,λa e=>?_⟩
   cases e
   obtain⟨o,n,e,c,hd,_⟩:=pl
   exact⟨o,e,hd⟩
  ·refine⟨⟨o,I.kIn p o hk,hc⟩,λa e=>?_⟩
   cases e
   exact⟨o,I.kIn _ o hk,hd⟩
  ·have z:∃o,s.heap.get? p=some o∧o.ExactDict:=by
    rcases hk with⟨kvs,hk⟩|⟨kvs,hk⟩
    ·obtain⟨_,_,_,_,o,_,_,e,ex,_⟩:=I.hok p _ hk
     exact⟨o,e,ex⟩
    ·obtain⟨_,_,_,_,o,_,_,e,ex,_⟩:=I.hok p _ hk
     exact⟨o,e,ex⟩
   obtain⟨o,e,ex⟩:=z
   refine⟨⟨o,e,ex.1⟩,λa e2=>?_⟩
   cases e2
   exact⟨o,e,ex.2.1⟩
  ·obtain⟨o,_,_,_,e,ex,_⟩:=I.hok p _ hk
   refine⟨⟨o,e,ex.1⟩,λa e2=>?_⟩
   cases e2
   exact⟨o,e,ex.2.1⟩
 | _=>exact Bm ty
noncomputable def tBM(K:Xb)(T:String)(r:V->List V->Hp->VK->Prop)(to:TE)(t:TA):TE:=λσ H Q=>to σ H λx H1=>tyV K T x H1∧t σ H1 λxs H2=>r x xs H2 Q
variable {o e:Expr}{es:List Expr}{to:TE}{t:TA}{name:Str}{apos cpos:Pos}{T id:String}{r:V->List V->Hp->VK->Prop}
theorem Zm7(pa:PlainAttrs T)(slot:Slot T name id)(hty:typeOf (.builtin id)=pure (.type "method_descriptor"))(hm:MtR X id r)(ho:PE X o to)(ha:PA X (e :: es) t)
  (hbase:Br o name X.env (eval o X.env)=eval o X.env:=by rfl)
  (hfew:((QW cpos (Xk (e :: es) X.env)).all (λx=>!x.1)&&(V7 cpos (Vb [] X.env)).all (λx=>x.1.isSome)
   &&decide ((e :: es).length+([]:List Bp).length+(if([]:List Bp).isEmpty then 0 else 1)<30))=true:=by rfl)
  (hline:(apos.endLine==cpos.line)=true:=by rfl) (hs:Xk (e :: es) X.env=(false,eval e X.env) :: Xk es X.env:=by rfl) (hplain:(QW cpos (Xk es X.env)).any (·.1)=false:=by rfl) :
  PE X (.Call (.Attribute o name apos) (e :: es) [] cpos) (tBM X.K T r to t):=by
 intro pins s σ H Q I h
 refine wpAny_Call_method_late hbase hfew hline rfl (thn (ho pins s σ H _ I h) λv s1 qz9=>?_)
 obtain⟨x,H1,I1,r1,ty,q1⟩:=qz9
 obtain⟨h1,h2⟩:=Z36 I1 r1 ty
 refine⟨T,id,pa,slot,hty,h1,h2,?_⟩
 have hA:=ha cpos pins s1 σ H1 _ I1 q1
 rw[hs]at hA⊢
 refine Calls.callWith_builtin (by show(false||(QW cpos (Xk es X.env)).any (·.1))=false;rw[hplain]<;>rfl) (Calls.evalArgs_plain ?_)
 refine thn hA λus s2 qz9=>?_
 obtain⟨vs,H2,I2,r2,q2⟩:=qz9
 exact hm pins s2 σ H2 x vs v us Q I2 r1 r2 q2
end
noncomputable def MtM(X:Cx)(id:String)(r:V->List V->Hp->VK->Prop):Prop :=
 ∀(pins:List (Addr×Obj)) (s:Xf) (σ:St) (H:Hp) (x:V) (xs:List V) (v:Xe) (us:List Xe) (Q:VK),Inv X pins σ H s->RelV x v->Vals xs us->r x xs H Q ->
  XR (Qa X.prog X.w) X.A (call (.builtin id) (v :: us)) (EP X pins σ Q) X.xe s
theorem Vals.one{x:V}{us:List Xe}(h:Vals [x] us):∃u,us=[u]∧RelV x u:=by
 cases h with
 | cons r t=>cases t;exact⟨_,rfl,r⟩
theorem Vals.eraseIdx:∀{xs:List V} {us:List Xe} (i:Nat),Vals xs us->Vals (xs.eraseIdx i) (us.eraseIdx i)
 | _,_,_,.nil=>.nil
 | _,_,0,.cons _ t=>t
 | _,_,i+1,.cons r t=>.cons r (Vals.eraseIdx i t)
theorem Vals.rep{xs:List V}{us:List Xe}(h:Vals xs us):∀k:Nat,Vals (Xr k xs).flatten (Xr k us).flatten
 | 0=>.nil
 | k+1=>by
  rw[BL,BL,Ve,Ve]
  exact Vals.append h (Vals.rep h k)
theorem Zko{α:Type}:∀(l:List α) (i:Nat),(l.eraseIdx i).length≤l.length
 | [],_=>Qp _
 | _ :: _,0=>Nat.le_succ _
 | _ :: r,i+1=>U0 (Zko r i)
theorem foldl_rep(its:List Xe):∀(k:Nat) (acc:List Xe),
  List.foldl (λx1 x2=>x1 ++ x2) acc.toArray (Xr k its.toArray)=(acc ++ (Xr k its).flatten).toArray
 | 0,acc=>by simp
 | k+1,acc=>by
  have e:acc.toArray ++ its.toArray=(acc ++ its).toArray:=by simp
  have e2:(acc ++ its) ++ (Xr k its).flatten=acc ++ (Xr (k+1) its).flatten:=by
   rw[BL,Ve,Q8]
  rw[←e2,←foldl_rep its k (acc ++ its),←e,BL,List.foldl_cons]
section
variable {X:Cx}{pins:List (Addr×Obj)}{σ:St}{H:Hp}{s:Xf}{l b:Addr}{xs ys zs:List V}
theorem Inv.lset{its its':List Xe}{n:Nat}{f:Array Xe->Array Xe}{t':Nat}(I:Inv X pins σ H s)(hH:H l=some (.lst xs))
  (e:s.heap.get? l=some { cls:=.type "list",data:=.seq its.toArray n }) (hf:f its.toArray=its'.toArray) (hv:Vals ys its') (hz:ys.length≤Xo) :
  Inv X pins σ (upd H l (.lst ys)) { s with heap:=s.heap.update l (JR f),toks:=t' }:=by
 have q:=PySem.IsL.update e f
 rw[hf]at q
 refine I.write (x:=l) (e:=l) (by rw[hH];exact trivial) (.inl rfl) (λb' u hb hu=>(Heap.get?_update_other s.heap (JR f) (Q4 hb)).trans hu) ⟨_,q⟩ ?_
 exact⟨hz,its',_,hv,q⟩
theorem Inv.lnew{its:List Xe}{t':Nat}(I:Inv X pins σ H s)(hv:Vals ys its)(hz:ys.length≤Xo) :
  Inv X pins σ (upd H s.heap.objs.size (.lst ys)) { s with heap:=s.heap.push { cls:=.type "list",data:=.seq its.toArray },toks:=t' } :=
 I.laid (λ_ _ q=>Xm _ q) (Qp _) ⟨hz,its,0,hv,Qc _ rfl⟩
theorem Inv.fresh(I:Inv X pins σ H s):H s.heap.objs.size=none:=I.hok.fresh (Qp _)
theorem Inv.lstM(I:Inv X pins σ H s)(hH:H l=some (.lst xs)):xs.length≤Xo∧∃(its:List Xe) (n:Nat),Vals xs its∧xs.length=its.length∧s.heap.get? l=some { cls:=.type "list",data:=.seq its.toArray n }:=by
 obtain⟨z,its,n,r,e⟩:=I.hok l _ hH
 exact⟨z,its,n,r,r.length,e⟩
theorem Zov{n:Nat}(h:n≤Xo):Vg n=false:=by
 unfold Vg
 exact decide_eq_false (by omega)
end
section
variable {X:Cx}
noncomputable def Zzg:V->List V->Hp->VK->Prop:=λx vs H Q=>∃l xs y,x= .ref l∧vs=[y]∧H l=some (.lst xs)∧xs.length<Xo∧Q .non (upd H l (.lst (xs ++ [y])))
theorem Zc1:MtM X "list.append" Zzg:=by
 intro pins s σ H x vs v us Q I rx rv h
 obtain⟨l,xs,y,rfl,rfl,hH,hz,q⟩:=h
 cases rx
 obtain⟨u,rfl,ru⟩:=rv.one
 obtain⟨z,its,n,r,hl,e⟩:=I.lstM hH
 refine UG F.slot_list_append ⟨_,e,rfl⟩ F.entry_list_append (F.args_list_append_2 _ _) (PySem.list_append l its.toArray n u (by rw[Xu];omega)) ⟨e,?_⟩
 refine⟨.non,_,I.lset (its':=its ++ [u]) hH e (by simp) (r.append (.cons ru .nil)) ?_,rfl,q⟩
 rw[XX,VG]
 omega
noncomputable def Z05:V->List V->Hp->VK->Prop:=λx vs H Q=>∃l b xs zs,x= .ref l∧vs=[.ref b]∧H l=some (.lst xs)∧H b=some (.lst zs)∧xs.length+zs.length≤Xo∧Q .non (upd H l (.lst (xs ++ zs)))
theorem Ztc:MtM X "list.extend" Z05:=by
 intro pins s σ H x vs v us Q I rx rv h
 obtain⟨l,b,xs,zs,rfl,rfl,hH,hB,hz,q⟩:=h
 cases rx
 obtain⟨u,rfl,ru⟩:=rv.one
 cases ru
 obtain⟨z,its,n,r,hl,e⟩:=I.lstM hH
 obtain⟨z2,its2,n2,r2,hl2,e2⟩:=I.lstM hB
 have hsz:its.toArray.size+its2.toArray.size≤Xo:=by rw[Xu,Xu];omega
 have hlong:¬(!its.toArray.isEmpty&&Vg (its.toArray.size+its2.toArray.size))=true:=by
  rw[Zov hsz,Bool.and_false]
  exact Xp
 refine UG F.slot_list_extend ⟨_,e,rfl⟩ F.entry_list_extend (F.args_list_extend_2 _ _)
  (AutoSeq1.list_extend_list_list_0 l its.toArray n b its2.toArray n2 hlong (by rw[Xu];omega) (by omega)) ⟨e,e2,?_⟩
 refine⟨.non,_,I.lset (its':=its ++ its2) hH e (by simp) (r.append r2) ?_,rfl,q⟩
 rw[XX]
 omega
noncomputable def Z5b:V->List V->Hp->VK->Prop:=λx vs H Q=>∃l xs i k y,x= .ref l∧vs=[.int i]∧H l=some (.lst xs)∧-(2^63)≤i∧i<2^63∧seqIndex? i xs.length=some k∧xs[k]? =some y∧Q y (upd H l (.lst (xs.eraseIdx k)))
theorem Zwt:MtM X "list.pop" Z5b:=by
 intro pins s σ H x vs v us Q I rx rv h
 obtain⟨l,xs,i,k,y,rfl,rfl,hH,h1,h2,hk,hy,q⟩:=h
 cases rx
 obtain⟨u,rfl,ru⟩:=rv.one
 obtain⟨t,rfl⟩:=ru
 obtain⟨z,its,n,r,hl,e⟩:=I.lstM hH
 obtain⟨w,hw,rw'⟩:=r.get hy
 refine UG F.slot_list_pop ⟨_,e,rfl⟩ F.entry_list_pop (F.args_list_pop_2 _ _)
  (MeetsSeq.list_pop_at l its.toArray n i t k w (fitsIndex_both h1 h2) (by rw[Xu,←hl];exact hk) (by rw[←Array.getElem?_toList];exact hw) (by rw[Xu];omega)) ⟨e,?_⟩
 refine⟨y,_,I.lset (its':=its.eraseIdx k) hH e ?_ (r.eraseIdx k) ?_,rw',q⟩
 ·show its.toArray.eraseIdxIfInBounds k=(its.eraseIdx k).toArray
  rw[List.eraseIdxIfInBounds_toArray]
 ·have:=Zko xs k
  omega
noncomputable def Ybq:R2:=λx y H Q=>∃l k xs,x= .ref l∧y= .int k∧H l=some (.lst xs)∧-(2^63)≤k∧k<2^63∧xs.length*k.toNat≤Xo∧
 ∀p,H p=none->Q (.ref p) (upd H p (.lst (Xr k.toNat xs).flatten))
theorem len_rep{α:Type}(xs:List α)(k:Nat):(Xr k xs).flatten.length=k*xs.length:=by
 induction k with
 | zero=>simp
 | succ k ih=>rw[BL,Ve,XX,ih,Nat.succ_mul,Nat.add_comm]
theorem Z14:OpR X (Vs .Mult) Ybq:=by
 intro pins s σ H x y v u Q I rx ry h
 obtain⟨l,k,xs,rfl,rfl,hH,h1,h2,hz,q⟩:=h
 cases rx
 obtain⟨t,rfl⟩:=ry
 obtain⟨z,its,n,r,hl,e⟩:=I.lstM hH
 have hlen:its.toArray.size*k.toNat≤Xo:=by rw[Xu,←hl];exact hz
 have hcap:¬its.toArray.size*k.toNat>(2^63-1)/8:=by
  have:(Xo:Nat)≤(2^63-1)/8:=by decide
  omega
 have hfit:¬(!U6.List.listFitsIndex k)=true:=by
  rw[fitsIndex_both h1 h2]
  exact Xp
 have hlong:¬Vg (its.toArray.size*k.toNat)=true:=by
  rw[Zov hlen]
  exact Xp
 have hnew:List.foldl (λx1 x2=>x1 ++ x2) #[] (Xr (if its.toArray.isEmpty=true then 0 else k.toNat) its.toArray)=(Xr k.toNat its).flatten.toArray:=by
  have f0:∀m:Nat,List.foldl (λx1 x2=>x1 ++ x2) #[] (Xr m its.toArray)=(Xr m its).flatten.toArray:=λm=>by
   have:=foldl_rep its m []
   rw[List.nil_append]at this
   exact this
  rw[f0]
  cases its with
  | nil=>simp
  | cons a r'=>rw[if_neg (by simp)]
 refine wpAny_binaryOp_repeat_ref (T :="list") (U :="int") (by decide) ⟨_,e,rfl⟩ (λs'=>typeIs_int s' k t) noFill_list_mul F.fills_int_mul F.slot_int_rmul repeat_list F.slot_int_index.lookup
  (UG F.slot_int_rmul (typeIs_int s k t) F.entry_int_rmul (F.args_int_rmul_2 _ _) (int___rmul___int_list k t l its.toArray n)
   ⟨e,rfl,⟨_,e,rfl⟩,UG F.slot_list_mul ⟨_,e,rfl⟩ F.entry_list_mul (F.args_list_mul_2 _ _) (AutoListH.list___mul___list_int_3 l its.toArray n k t hfit hcap hlong) ⟨e,?_⟩⟩)
 rw[hnew]
 exact⟨.ref _,_,I.lnew (t':=s.toks) (r.rep k.toNat) (by rw[len_rep,Nat.mul_comm];exact hz),rfl,q _ I.fresh⟩
end
section
variable {prog:X6}{w:Qu}{A:Qo}{E:Xe->Xf->Prop}{s:Xf}
end
section
variable {X:Cx}
end
end L2
namespace Att
open PySem PySem.W PySem.Calls PyProof.Rows
theorem Zhp{P:Params}{h:Heap}:∀(ns:List Int) (vs:List Xe),WellAll P h vs (ns.map WData.int)->Bl vs ns:=by
 intro ns
 induction ns with
 | nil=>
  intro vs w
  rw[Vj]at w
  cases w
  exact .nil
 | cons n ns ih=>
  intro vs w
  rw[XF]at w
  cases w with
  | cons a b=>
   cases a
   exact .cons _ _ (ih _ b)
theorem Zrs{l:OpenLaw}{n:Nat}(hn:l.most=some n){P:Params}{h:Heap}{args:List WData}{vals:List Xe}
  (hpre:l.row.toRowW.claim.pre args=true) (hwl:WellAll P h vals args) :
  ∃a vs ns,vals=[QB a]∧args=[WData.list (ns.map WData.int)]∧h.get? a=some { cls:=.type "list",data:=.seq vs.toArray }∧Bl vs ns∧ns.length≤n:=by
 have hsh:WShape.hasAll [] args [.list .int]=true:=(pre_splitW hpre).1
 have hc:l.pre.holds [] { args:=args }=true:=(pre_splitW hpre).2
 obtain⟨d,r,rfl,h1,h2⟩:=hasAllW_cons hsh
 obtain rfl:=hasAllW_nil h2
 obtain⟨xs,rfl,h3⟩:=hasW_list h1
 obtain⟨ns,rfl⟩:=items_int h3
 have hlen:ns.length≤n:=by
  unfold OpenLaw.pre at hc
  have h4:(WTm.not (.lt (.lit (.int (n:Int))) (.len (.arg 0)))).holds [] { args:=[.list (ns.map .int)] }=true:=by
   have h4:=(holds_andW hc).1
   rw[hn]at h4
   exact h4
  have h5:=condW_of h4 (w_not (w_lt w_lit (w_len_list (w_arg rfl))))
  rw[Xi]at h5
  refine Nat.le_of_not_lt λq=>?_
  have q':(n:Int)<((ns.length:Nat):Int):=by omega
  first
   | (rw[decide_eq_true q']at h5;exact absurd h5 (by decide))
   | (simp at h5;omega)
 cases hwl with
 | cons w1 w2=>
  cases w2
  cases w1 with
  | list ho hall=>exact⟨_,_,ns,rfl,rfl,ho,Zhp ns _ hall,hlen⟩
theorem Ztf(l:OpenLaw)(args:List WData):l.row.toRowW.claim.post args (.bool true) args=true :=
 postW_of (r:=l.row.toRowW) (X:=(true==true))
  (show WShape.has [] (.bool true) .bool=true by first|rfl|decide|simp[WShape.has,WShape.arms,WShape.armsAll])
  (show(WTm.eq .res (.lit (.bool true))).value [] { args:=args,res:=some (.bool true),after:=args }=some (.bool (true==true))from w_eq_bool (w_res rfl) w_lit) rfl
theorem attach_call{l:OpenLaw}{n:Nat}{q:X6}{loose:List Str}{XP:(Str->Option Xe)->Heap->Prop}{YP:Qu->Heap->Prop}{d:DefRec}
  (hn:l.most=some n) (hdf:d.params.defaults=[])
  (call:∀(w:Qu) (s₀ s₁:Xf) (mg mb:Str->Option Xe) (fa:Addr) (o:Obj) (pm cd doc:Xe) (a:Addr) (vs:List Xe) (ns:List Int),
   Ground q loose [] XP w s₀ mg mb s₁.heap->YP w s₁.heap ->
   s₁.heap.get? fa=some o->o.data= .func (docDef d.name d.params d.body d.scope pm cd doc)->s₁.heap.CodeRec cd d.name->mg d.name=some (.ref fa) ->
   s₁.heap.get? a=some { cls:=.type "list",data:=.seq vs.toArray }->Bl vs ns->ns.length≤n->s₁.gens=#[] ->
   codeAny (Qa l.prog w) callerA (.call (.ref fa) ⟨[.ref a],[]⟩) (λr s'=>r= .ok (.ret (.bool true))∧OldK s₁.heap s'.heap∧s'.os=s₁.os∧U7 s'.gens) s₁) :
  WalkO q loose XP YP l.row.toRowW d [] (λf vs=>PySem.call f vs):=by
 intro w s₀ s₁ mg mb G Y fa o pm cd doc dV kV ho hd hcd hD hmg hg args vals as hpre hlay hrd hwl hlo
 obtain rfl:dV= .none:=Dflts.none hD hdf
 obtain rfl:kV= .none:=Dflts.noKw hD
 obtain⟨a,vs,ns,rfl,rfl,hobj,hints,hlen⟩:=Zrs hn hpre hwl
 refine enter_call (codeAny_mono (call w s₀ s₁ mg mb fa o pm cd doc a vs ns G Y ho (fd_plain hd) hcd hmg hobj hints hlen hg) λr s' hq=>?_)
 obtain⟨rfl,h2,h3,h4⟩:=hq
 exact⟨.inl ⟨.bool true,.bool true,[],rfl,λ_=>rfl,.bool true,Ztf l _,λ_=>⟨List.Pairwise.nil,λ_ hm=>(nomatch hm)⟩⟩,h2,h3,h4⟩
section
variable {prog:X6}{w:Qu}{A:Qo}{E:Xe->Xf->Prop}{s:Xf}{K:Frag}
end
end Att
namespace L2
open PySem PySem.Spec PyProof.Rows
theorem Zs6{vs:List Xe}{ns:List Int}(h:Bl vs ns):Vals (ns.map V.int) vs:=by
 induction h with
 | nil=>exact .nil
 | cons n t h ih=>exact .cons ⟨t,rfl⟩ ih
noncomputable def Only(H:Hp):Prop:=∀b,H b=none∨∃o xs,H b=some (.frz o (.lst xs))
theorem Zux{P:X6}{w:Qu}{K:Xb}{mg mb:Str->Option Xe}{CX:CXT}{k:Nat}{fa a:Addr}{fd:XC}{x:Str}{sp:Sp}{s₁:Xf}{vs:List Xe}{ns:List Int}
  (KX:K.In s₁.heap) (hns:s₁.heap.Ns XJ mg) (hb:s₁.heap.Ns builtinsNs mb) (hbb:∀x:Str,x≠"__name__" ->mb x=Qg x) (hlim:s₁.heap.NoLimit) (hg:s₁.gens=#[])
  (ha:s₁.heap.get? a=some { cls:=.type "list",data:=.seq vs.toArray }) (hi:Bl vs ns) (hl:ns.length≤Xo) (hr:Room k callerA)
  (F:∀base:Heap,K.In base->base.Ns XJ mg->FnOk P w K mg base CX k fa fd [x] sp) (hbind:∀(s:Xf) (u:Xe),BindsTo s fd ⟨[u],[]⟩ [(x,u)])
  (hsp:∀H:Hp,Only H->SqL K H a (ns.map V.int)->sp [.ref a] H (λv _=>v= .bl true) λ_ _ _=>False)
  (hCX:∀H e s',CX [] H s₁ (λ_ _ _=>False) e s'->False) :
  codeAny (Qa P w) callerA (.call (.ref fa) ⟨[.ref a],[]⟩) (λr s'=>r= .ok (.ret (.bool true))∧OldK s₁.heap s'.heap∧s'.os=s₁.os∧U7 s'.gens) s₁:=by
 have rv:=Zs6 hi
 have lenV:=hi.length
 -- from an abstract heap in which nothing but the script may be tracked
 have core:∀H:Hp,Only H->SqL K H a (ns.map V.int)->HOk P w H s₁.heap->(∀b,H b≠none->b=a)->(H a≠none->K.lookup a=none) ->
   codeAny (Qa P w) callerA (.call (.ref fa) ⟨[.ref a],[]⟩) (λr s'=>r= .ok (.ret (.bool true))∧OldK s₁.heap s'.heap∧s'.os=s₁.os∧U7 s'.gens) s₁:=by
  intro H hO hS hok hA hK
  have base_of:∀{b:Addr} {o:Obj},s₁.heap.get? b=some o->H b=none->(Zvz s₁.heap H).get? b=some o:=λe n=>Zvo e n
  have noA:∀{b:Addr} {o:Obj} {es:Array DictEntry} {ep:Nat},s₁.heap.get? b=some o->o.data= .dict es ep->H b=none:=fun{b o es ep} e d=>by
   cases q:H b with
   | none=>rfl
   | some u=>
    have e':b=a:=hA b (by rw[q];simp)
    subst e'
    rw[ha]at e;cases e
    have d':Data.seq vs.toArray _=Data.dict es ep:=d
    cases d'
  have nsK:∀{b:Addr} {m:Str->Option Xe},s₁.heap.Ns b m->(Zvz s₁.heap H).Ns b m:=fun{b m} ⟨o,es,ep,e,d,r⟩=>⟨o,es,ep,base_of e (noA e d),d,r⟩
  have hKb:K.In (Zvz s₁.heap H):=λb o e=>base_of (KX b o e) (by
   cases q:H b with
   | none=>rfl
   | some u=>
    have e':b=a:=hA b (by rw[q];simp)
    subst e'
    rw[hK (by rw[q];simp)]at e;cases e)
  have hM:Mod K mg (Zvz s₁.heap H):=⟨hKb,nsK hns,⟨mb,nsK hb,hbb⟩,let⟨mc,h1,h2⟩:=hlim;⟨mc,nsK h1,h2⟩⟩
  have e0:Z6f P w K mg (Zvz s₁.heap H) callerA [] s₁ H:=⟨rfl,hM,λb o e=>Z1a e,Nat.le_of_eq (Zss _ _),trivial,λb hb=>absurd (show b∈([]:List Addr)from hb) (by simp),hok,.of_eq hg⟩
  refine codeAny_mono ((F _ hKb (nsK hns)).run callerA [] s₁ H ⟨[.ref a],[]⟩ [.ref a] [.ref a] _ _ hr e0 (hbind s₁ (.ref a)) (.cons rfl .nil) (hsp H hO hS)) λr s' h=>?_
  cases r with
  | error e=>exact(hCX H e s' h).elim
  | ok fl=>
   cases fl with
   | next=>exact Bm h
   | brk=>exact Bm h
   | cont=>exact Bm h
   | ret u=>
    obtain⟨v,H',os,bare,un,hok',r',q⟩:=h
    have q':v= .bl true:=q
    subst q'
    obtain rfl:u=Value.bool true:=r'
    refine⟨rfl,OldK.of_keep λb o e=>?_,os,bare⟩
    cases q:H b with
    | none=>exact un.keep b o e q (by intro z;exact absurd (show b∈([]:List Addr)from z) (by simp)) (by simp)
    | some u=>
     rcases hO b with z|⟨ob,xs,z⟩
     ·rw[q]at z;cases z
     ·have z2:=un.frzs b ob _ z
      obtain⟨e1,_⟩:=hok b _ z
      obtain⟨e2,_⟩:=hok' b _ z2
      rw[e]at e1;cases e1
      exact e2
 cases hk:K.lookup a with
 | some o=>
  -- the script is one of the module's own objects
  have e:=KX a o hk
  rw[ha]at e
  cases e
  refine core (λ_=>none) (λ_=>.inl rfl) (.inr ⟨_,vs.toArray,_,hk,rfl,rfl,rfl,by rw[Xu,lenV];exact hl,by simpa using rv⟩) (λb u z=>by have z':(none:Option HO)=some u:=z;cases z') (λb z=>absurd rfl z) λz=>absurd rfl z
 | none=>
  refine core (λb=>if b=a then some (.frz { cls:=.type "list",data:=.seq vs.toArray } (.lst (ns.map V.int)))else none) (λb=>?_) (.inl (.inr ⟨{ cls:=.type "list",data:=.seq vs.toArray },if_pos rfl⟩)) (λb u z=>?_) (λb z=>?_) λ_=>hk
  ·by_cases hb:b=a
   ·exact .inr ⟨_,_,if_pos hb⟩
   ·exact .inl (if_neg hb)
  ·by_cases hb:b=a
   ·have z':=(if_pos hb).symm.trans z
    cases z'
    subst hb
    exact⟨ha,by rw[Xi];exact hl,vs,_,rv,ha⟩
   ·have z':=(if_neg hb).symm.trans z
    cases z'
  ·by_cases hb:b=a
   ·exact hb
   ·exact absurd (if_neg hb) z
noncomputable abbrev KOf{K:Xb}{h:Heap}(_:K.In h):Xb:=K
theorem Z1c{l:PySem.W.OpenLaw}{n k:Nat}{q:X6}{loose:List Str}{XP:(Str->Option Xe)->Heap->Prop}{YP:Qu->Heap->Prop}{d:DefRec}{K:Params->Xb}{CX:Qu->CXT}{sp:Qu->Sp}{x:Str}
  (hn:l.most=some n) (hn2:n≤Xo) (hdf:d.params.defaults=[]) (hr:Room k callerA)
  (hY:∀(w:Qu) (h:Heap),YP w h->(K w.params).In h)
  (F:∀(w:Qu) (mg:Str->Option Xe) (fa:Addr) (h:Heap),(K w.params).In h->h.Ns XJ mg->mg d.name=some (.ref fa) ->
   ∃fd:XC,(∀(s:Xf) (u:Xe),BindsTo s fd ⟨[u],[]⟩ [(x,u)])∧
    ∀base:Heap,(K w.params).In base->base.Ns XJ mg->FnOk l.prog w (K w.params) mg base (CX w) k fa fd [x] (sp w))
  (hsp:∀(w:Qu) (H:Hp) (a:Addr) (ns:List Int),ns.length≤n->Only H->SqL (K w.params) H a (ns.map V.int)->sp w [.ref a] H (λv _=>v= .bl true) λ_ _ _=>False)
  (hCX:∀(w:Qu) (H:Hp) (s:Xf) (e:Xe) (s':Xf),CX w [] H s (λ_ _ _=>False) e s'->False) :
  PySem.W.WalkO q loose XP YP l.row.toRowW d [] (λf vs=>PySem.call f vs):=by
 refine Att.attach_call hn hdf λw s₀ s₁ mg mb fa o pm cd doc a vs ns G Y ho hd hcd hmg hobj hints hlen hg=>?_
 have KX:=hY w _ Y
 obtain⟨fd,hb,hF⟩:=F w mg fa _ KX G.T.g hmg
 exact Zux KX G.T.g G.T.b G.T.builtins G.T.nolimit hg hobj hints (QK hlen hn2) hr hF hb (λH hO hS=>hsp w H a ns hlen hO hS) λH e s'=>hCX w H s₁ e s'
noncomputable def Zfc(s:Stmt):Arguments:=match s with
 | .FunctionDef _ a _ _ _ _ _ _ _ _=>a
 | _=>{ posonlyargs:=[],args:=[],vararg:=none,kwonlyargs:=[],kw_defaults:=[],kwarg:=none,defaults:=[] }
noncomputable def J7(s:Stmt):List Stmt:=match s with
 | .FunctionDef _ _ b _ _ _ _ _ _ _=>b
 | _=>[]
noncomputable def Zk(s:Stmt):VN:=match s with
 | .FunctionDef _ _ _ _ _ _ sc _ _ _=>sc
 | _=>{ kind:=.function,names:=[],isGenerator:=false,isCoroutine:=false }
noncomputable abbrev CX0:CXT:=λ_ _ _ _ _ _=>False
noncomputable abbrev E0:XK:=λ_ _ _=>False
theorem Zge{X:Cx}:Zoh CX0 X E0:=λ_ _ _ _ _ _ _ h=>h.elim
structure Fun(K:Xb)(x qual:Str)(st:Stmt)(f:Addr)(fd:XC):Prop where
 ex:∃(oc:Xe) (od:Option Addr) (kV doc pm:Xe) (an:Option Addr) (cdv ct:Xe) (osl:Array (Option Xe)),
  fd=Vi x qual (Zfc st) (J7 st) (Zk st) .none kV doc pm an cdv ct∧K.lookup f=some ⟨oc,od,.func fd,osl⟩∧PySem.W.codeIn K cdv qual=true
 kp:By K (.ref f)=true
section
variable {P:X6}{w:Qu}{K:Xb}{mg:Str->Option Xe}{base:Heap}
theorem Fun.ok{x qual:Str}{st:Stmt}{f:Addr}{fd:XC}{N ps:List Str}{k:Nat}{sp:Sp}(F:Fun K x qual st f fd)(S:Zu N ps (Zk st))(len:∀vs H Q E,sp vs H Q E->vs.length=ps.length)
  (hbody:∀(cdv:Xe) (A:Qo) (outer:List Env) (s:Xf) (H:Hp) (vs:List V) (Q:VK) (E:XK),Room k (A.deeper (Uj qual (Zk st) s.heap.objs.size f cdv))->sp vs H Q E ->
   ∃t,PSs (Zqq CX0 P w K mg base N qual (Zk st) f cdv A outer s H E).nox (J7 st) t∧t { nx:=λ_ H'=>Q .non H',rt:=Q } (start N vs) H):FnOk P w K mg base CX0 (k+1) f fd ps sp:=by
 obtain⟨oc,od,kV,doc,pm,an,cdv,ct,osl,rfl,lk,hcd⟩:=F.ex
 refine Z3h lk hcd S len λA outer s H vs Q E hr hsp=>?_
 obtain⟨t,h,q⟩:=hbody cdv A outer s H vs Q E hr hsp
 exact⟨t,h.nox,q⟩
theorem Fun.binds{x qual:Str}{st:Stmt}{f:Addr}{fd:XC}{ps:List Str}(F:Fun K x qual st f fd)
  (h:∀(kV doc pm:Xe) (an:Option Addr) (cdv ct:Xe) (us:List Xe),us.length=ps.length->bindArgs (Vi x qual (Zfc st) (J7 st) (Zk st) .none kV doc pm an cdv ct) ⟨us,[]⟩=pure (ps.zip us)):Binds K fd ps []:=by
 obtain⟨oc,od,kV,doc,pm,an,cdv,ct,osl,rfl,lk,hcd⟩:=F.ex
 exact .all (h kV doc pm an cdv ct)
theorem Z5k{x qual:Str}{st:Stmt}{f:Addr}{oc:Xe}{od an:Option Addr}{osl:Array (Option Xe)}{kV doc pm cdv ct:Xe}(l:K.lookup f=some ⟨oc,od,.func (Vi x qual (Zfc st) (J7 st) (Zk st) .none kV doc pm an cdv ct),osl⟩)
  (c:PySem.W.codeIn K cdv qual=true) (k:By K (.ref f)=true):Fun K x qual st f (Vi x qual (Zfc st) (J7 st) (Zk st) .none kV doc pm an cdv ct):=⟨⟨oc,od,kV,doc,pm,an,cdv,ct,osl,rfl,l,c⟩,k⟩
end
section
variable {X:Cx}
theorem pv(i:Nat){x:Str}{pos:Pos}(hN:X.N[i]? =some x:=by rfl)(hv:Vis X.env.scope x:=by first|exact Qj rfl|exact X8 (Qj rfl)|exact X8 (X8 rfl))(hd:(x==("__debug__" : Str))=false:=by decide)
  (hcd:(x==("__classdict__" : Str))=false:=by decide):PE X (.Name x pos) (Yax i):=Z5m hN hv hd hcd
end
noncomputable def Same(H H':Hp):Prop:=∀b o,H b=some o->H' b=some o
theorem Same.refl(H:Hp):Same H H:=λ_ _ h=>h
theorem Same.trans{H H1 H2:Hp}(a:Same H H1)(b:Same H1 H2):Same H H2:=λc o h=>b c o (a c o h)
theorem Same.free{H H':Hp}(e:Same H H'){l:Addr}(h:H' l=Option.none):H l=Option.none:=by
 cases q:H l with
 | none=>rfl
 | some o=>
  rw[e l o q]at h
  cases h
end L2
set_option maxHeartbeats 4000000
namespace L2
open PySem PySem.Spec PyProof.Rows
noncomputable def Bt(n:Nat)(x:Int):Prop:=x.natAbs<2^n
theorem Bt.mono{m n:Nat}{x:Int}(h:Bt m x)(hn:m≤n):Bt n x:=X3 h (Nat.pow_le_pow_right (by decide) hn)
theorem Bt.mul{m n:Nat}{x y:Int}(h:Bt m x)(k:Bt n y):Bt (m+n) (x*y):=by
 unfold Bt at*
 rw[Int.natAbs_mul,Nat.pow_add]
 exact Nat.mul_lt_mul'' h k
theorem Bt.neg{m:Nat}{x:Int}(h:Bt m x):Bt m (-x):=by
 unfold Bt at*
 rw[Int.natAbs_neg]
 exact h
theorem Bt.of_le{m:Nat}{x y:Int}(h:Bt m x)(k:y.natAbs≤x.natAbs):Bt m y:=Nat.lt_of_le_of_lt k h
theorem Bt.of_lt{m:Nat}{x:Int}(h1:-(2^m)<x)(h2:x<2^m):Bt m x:=by
 unfold Bt
 have e:((2^m:Nat):Int)=2^m:=by simp
 omega
theorem Bt.bits{m:Nat}{x:Int}(h:Bt m x):JG x≤m:=by
 unfold JG
 split
 ·exact Q9 _
 ·rename_i hx
  have hp:x.natAbs≠0:=by
   intro e
   apply hx
   have:x=0:=by omega
   subst this
   rfl
  have:=(Nat.log2_lt hp).mpr h
  omega
theorem Bt.mulOk{m n:Nat}{x y:Int}(h:Bt m x)(k:Bt n y)(hmn:m+n≤100000000:=by decide):IntMulOk x y:=by
 have h1:=h.bits
 have h2:=k.bits
 have h3:Uu (JG x+JG y)=false:=by
  unfold Uu bitsLine
  exact decide_eq_false (by omega)
 unfold IntMulOk
 rw[h3]
 simp
noncomputable def DivOk(_ j:Int):Prop:=j≠0∧j.natAbs.log2<9000
theorem DivOk.of{i j:Int}{n:Nat}(h0:j≠0)(h:Bt n j)(hn:n≤9000:=by decide):DivOk i j:=by
 refine⟨h0,?_⟩
 have hp:j.natAbs≠0:=by omega
 have:=(Nat.log2_lt hp).mpr h
 omega
section
variable {X:Cx}
theorem Zts:OpR X (Vs .Mult) (rI IntMulOk λi j=>.int (i*j)):=opI λ_ _ _ _ _ _ _ hc q=>mul_int q hc
theorem Zwx:OpR X (Vs .FloorDiv) (rI DivOk λi j=>.int (i.fdiv j)):=opI λ_ _ _ _ _ _ _ hc q=>floordiv_int hc.1 q (.inl (PyProof.noPylong_of_log2 hc.2))
theorem Z1s:OpR X (Vs .Pow) (rI Z6s λi j=>.int (i^j.toNat)):=Z47
end
theorem Zhx(elt target iter:Expr)(ifs:List Expr)(scope:VN)(pos:Pos)(it acc:Xe)(env:Env) :
  compTurn (.ListComp elt [⟨target,iter,ifs,0⟩] scope pos) 0 it acc env=(standAt iter.pos>>= λ_=>pyNext it>>= λr=>match r with
   | none=>pure (.done .next)
   | some v=>Ui target it v>>= λ_=>Vy target env v>>= λ_=>
    (forIn ifs true λc r=>if r=true then do let ok←isTrue c env (eval c env);pure (JK ok)else pure (JK r))>>= λok=>
     if ok=true then((eval elt env>>= λx=>call (.builtin "list.append") [acc,x]>>= λ_=>pure ())>>= λ_=>
      again (.compLoop (.ListComp elt [⟨target,iter,ifs,0⟩] scope pos) 0 it acc env))
     else again (.compLoop (.ListComp elt [⟨target,iter,ifs,0⟩] scope pos) 0 it acc env)):=by rfl
theorem Zlw{prog:X6}{w:Qu}{A:Qo}{R:Result->Xf->Prop}{s:Xf}{elt target iter:Expr}{ifs:List Expr}{scope:VN}{pos:Pos}{it acc:Xe}{env:Env}(I:Nat->Xf->Prop)
  (turn:∀n s,I n s->XR (Qa prog w) A (pyNext it) (λr s₁=>match r with
   | none=>R (.ok .next) s₁
   | some v=>XR (Qa prog w) A (Ui target it v) (λ_ s₁=>XR (Qa prog w) A (Vy target env v) (λ_ s₂=>
     XR (Qa prog w) A (forIn ifs true λc r=>if r=true then do let ok←isTrue c env (eval c env);pure (JK ok)else pure (JK r)) (λok s₃=>
      if ok=true then XR (Qa prog w) A (eval elt env) (λx s₄=>
       XR (Qa prog w) A (call (.builtin "list.append") [acc,x]) (λ_ s₅=>∃m,m<n∧I m s₅) (notedBy (Qa prog w) A env λe s'=>R (.error e) s') s₄) (notedBy (Qa prog w) A env λe s'=>R (.error e) s') s₃
      else∃m,m<n∧I m s₃) (notedBy (Qa prog w) A env λe s'=>R (.error e) s') s₂) (notedBy (Qa prog w) A env λe s'=>R (.error e) s') s₁) (notedBy (Qa prog w) A env λe s'=>R (.error e) s') s₁) (notedBy (Qa prog w) A env λe s'=>R (.error e) s') s)
  (n:Nat) (h:I n s) :
  codeAny (Qa prog w) A (.compLoop (.ListComp elt [⟨target,iter,ifs,0⟩] scope pos) 0 it acc env) R s:=by
 refine codeAny_loop rfl I (λn s hI=>?_) n h
 show XR _ A ((compTurn (.ListComp elt [⟨target,iter,ifs,0⟩] scope pos) 0 it acc env).onRaise (λx=>do noteFrame x env;theTreesLotGoes x)) _ _ s
 refine wpAny_noted ?_
 rw[Zhx]
 refine Xg (wpAny_standAt (Xg (QT (turn n s hI) (λr s₁ h₁=>?_) λ_ _ h'=>h')))
 cases r with
 | none=>exact Qe h₁
 | some v=>
  refine Xg (QT h₁ (λ_ s₂ h₂=>?_) λ_ _ h'=>h')
  refine Xg (QT h₂ (λ_ s₂ h₂=>Xg (QT h₂ (λok s₃ h₃=>?_) λ_ _ h'=>h')) λ_ _ h'=>h')
  cases ok with
  | false=>exact Qe ⟨rfl,h₃⟩
  | true=>
   exact Xg (Xg (QT h₃ (λx s₄ h₄=>Xg (QT h₄ (λ_ s₅ h₅=>Qe (Qe ⟨rfl,h₅⟩)) λ_ _ h'=>h')) λ_ _ h'=>h'))
noncomputable def Zhu(env:Env):List (Str×Bh)->List (Str×Addr)->List (Str×Addr)
 | [],acc=>acc
 | (n,k) :: r,acc=>if k== .free then Zhu env r ((n,(env.cells.lookup n).getD 0) :: acc)else Zhu env r acc
theorem Zi4{env:Env}:∀(names:List (Str×Bh)) (acc:List (Str×Addr)),(∀y∈names,y.2= .free->∃c,env.cells.lookup y.1=some c) ->
  (forIn names acc (λ(y:Str×Bh) cs=>(if y.2== .free then(cellOf env y.1>>= λc=>pure (JK ((y.1,c) :: cs)))else pure (JK cs):Sem (ForInStep (List (Str×Addr))))))=pure (Zhu env names acc)
 | [],acc,_=>by rw[Uc];rfl
 | (n,k) :: r,acc,h=>by
  by_cases hk:k= .free
  ·subst hk
   obtain⟨c,hc⟩:=h (n,.free) (.head _) rfl
   have hc':env.cells.lookup n=some c:=hc
   have e:=Zi4 (env:=env) r ((n,c) :: acc) λy hy=>h y (.tail _ hy)
   have ec:cellOf env n=pure c:=by
    unfold cellOf
    rw[hc']
   rw[List.forIn_cons]
   simp only[beq_self_eq_true,if_true]
   rw[ec]
   simp only[Zhu,beq_self_eq_true,if_true,hc',VD]
   exact e
  ·have e:=Zi4 (env:=env) r acc λy hy=>h y (.tail _ hy)
   have hb:(k==QQ)=false:=by simpa using hk
   rw[List.forIn_cons]
   simp only[Zhu,hb,BW,if_false]
   exact e
theorem Zdp{scope:VN}{env:Env}(h:∀y∈scope.names,y.2= .free->∃c,env.cells.lookup y.1=some c):closureFor scope env=pure (Zhu env scope.names []):=by
 have e:=Zi4 scope.names [] h
 have e':(forIn scope.names ([]:List (Str×Addr)) (λ(y:Str×Bh) cs=>(match y with|(name,kind)=>do
   if kind== .free then do let a←cellOf env name;pure (JK ((name,a) :: cs))else pure (JK cs):Sem (ForInStep (List (Str×Addr))))))=pure (Zhu env scope.names []):=e
 exact congrArg (λ(m:Sem (List (Str×Addr)))=>m>>= λx=>pure x) e'
theorem Zki{env:Env}:∀(names:List (Str×Bh)) (acc:List (Str×Addr)),(∀y∈names,y.2= .free->∃c,env.cells.lookup y.1=some c) ->
  ∀n c,(n,c)∈Zhu env names acc->(n,c)∈acc∨((n,QQ)∈names∧env.cells.lookup n=some c)
 | [],acc,_,n,c,h=>.inl h
 | (m,k) :: r,acc,h,n,c,hm=>by
  by_cases hk:k= .free
  ·subst hk
   obtain⟨d,hd⟩:=h (m,.free) (.head _) rfl
   have hd':env.cells.lookup m=some d:=hd
   simp only[Zhu,beq_self_eq_true,if_true,hd',VD]at hm
   rcases Zki r _ (λy hy=>h y (.tail _ hy)) n c hm with z|⟨z1,z2⟩
   ·rcases Xl.mp z with z|z
    ·cases z;exact .inr ⟨.head _,hd'⟩
    ·exact .inl z
   ·exact .inr ⟨.tail _ z1,z2⟩
  ·have hb:(k==QQ)=false:=by simpa using hk
   simp only[Zhu,hb,BW,if_false]at hm
   refine(Zki r _ (λy hy=>h y (.tail _ hy)) n c hm).imp id λqz9=>?_
   obtain⟨z1,z2⟩:=qz9
   exact⟨.tail _ z1,z2⟩
theorem Zjh{env:Env}:∀(names:List (Str×Bh)) (acc:List (Str×Addr)),∀p∈acc,p∈Zhu env names acc
 | [],_,_,h=>h
 | (m,k) :: r,acc,p,h=>by
  unfold Zhu
  split
  ·exact Zjh r _ p (.tail _ h)
  ·exact Zjh r _ p h
theorem Zjo{env:Env}:∀(names:List (Str×Bh)) (acc:List (Str×Addr)) (n:Str),(n,QQ)∈names->∃c,(n,c)∈Zhu env names acc
 | [],_,_,h=>nomatch h
 | (m,k) :: r,acc,n,h=>by
  rcases Xl.mp h with z|z
  ·cases z
   exact⟨_,by
    simp only[Zhu,beq_self_eq_true,if_true]
    exact Zjh _ _ _ (.head _)⟩
  ·unfold Zhu
   split
   ·exact Zjo r _ n z
   ·exact Zjo r _ n z
theorem Zfp{env:Env}(inj:∀x y c,env.cells.lookup x=some c->env.cells.lookup y=some c->x=y):∀(names:List (Str×Bh)) (acc:List (Str×Addr)),
  (∀ y∈names,y.2= .free->∃c,env.cells.lookup y.1=some c)->(names.map (·.1)).Nodup->(∀p∈acc,env.cells.lookup p.1=some p.2)->(∀p∈acc,p.1∉names.map (·.1))->(acc.Pairwise λx y=>x.2≠y.2) ->
  (Zhu env names acc).Pairwise λx y=>x.2≠y.2
 | [],_,_,_,_,_,h=>h
 | (m,k) :: r,acc,hf,hn,ha,hd,hp=>by
  rw[XF,Qd]at hn
  have hf':∀y∈r,y.2= .free->∃c,env.cells.lookup y.1=some c:=λy hy=>hf y (.tail _ hy)
  have hd':∀p∈acc,p.1∉r.map (·.1):=λp hp z=>hd p hp (by rw[XF];exact .tail _ z)
  by_cases hk:k= .free
  ·subst hk
   obtain⟨d,hd0⟩:=hf (m,.free) (.head _) rfl
   have hd1:env.cells.lookup m=some d:=hd0
   simp only[Zhu,beq_self_eq_true,if_true,hd1,VD]
   refine Zfp inj r _ hf' hn.2 (λp hp'=>?_) (λp hp'=>?_) (List.pairwise_cons.mpr ⟨λp hp' z=>?_,hp⟩)
   ·rcases Xl.mp hp' with rfl|hp'
    ·exact hd1
    ·exact ha p hp'
   ·rcases Xl.mp hp' with rfl|hp'
    ·exact hn.1
    ·exact hd' p hp'
   ·have e:m=p.1:=inj m p.1 d hd1 (by rw[ha p hp',←z])
    exact hd p hp' (by rw[XF,←e];exact .head _)
  ·have hb:(k==QQ)=false:=by simpa using hk
   simp only[Zhu,hb,BW,if_false]
   exact Zfp inj r _ hf' hn.2 ha hd' hp
structure Zqh(h:Heap)(lo:Nat)(names:List (Str×Bh))(acc cs:List (Str×Addr)):Prop where
 mem:∀n c,(n,c)∈cs->(n,c)∈acc∨(h.IsCell c none∧lo≤c∧(n,JZ)∈names)
 has:∀n,(n,JZ)∈names->∃c,(n,c)∈cs
 old:∀p∈acc,p∈cs
theorem Zfj:∀(names:List (Str×Bh)) (h:Heap) (lo:Nat) (acc:List (Str×Addr)),lo≤h.objs.size->Zqh (Bu h names) lo names acc (JX h.objs.size names acc)
 | [],_,_,_,_=>⟨λ_ _ m=>.inl m,(λ_ m=>nomatch m),λ_ m=>m⟩
 | (name,kind) :: r,h,lo,acc,hlo=>by
  by_cases hk:(kind==JZ)=true
  ·have ek:kind= .cell:=by simpa using hk
   subst ek
   have ih:=Zfj r (h.push { cls:=.type "cell",data:=.cell none }) lo ((name,h.objs.size) :: acc) (by rw[JC];omega)
   rw[JC]at ih
   have e1:JX h.objs.size ((name,.cell) :: r) acc=JX (h.objs.size+1) r ((name,h.objs.size) :: acc):=by
    rw[JX,if_pos hk]
   have e2:Bu h ((name,.cell) :: r)=Bu (h.push { cls:=.type "cell",data:=.cell none }) r:=by
    rw[Bu,if_pos hk]
   rw[e1,e2]
   refine⟨λn c m=>?_,λn m=>?_,λp m=>ih.old p (.tail _ m)⟩
   ·rcases ih.mem n c m with z|⟨z1,z2,z3⟩
    ·rcases Xl.mp z with z|z
     ·cases z
      exact .inr ⟨⟨_,Uh _ _ _ _ (Qc _ rfl),rfl⟩,hlo,.head _⟩
     ·exact .inl z
    ·exact .inr ⟨z1,z2,.tail _ z3⟩
   ·rcases Xl.mp m with z|z
    ·cases z
     exact⟨_,ih.old _ (.head _)⟩
    ·exact ih.has n z
  ·have ih:=Zfj r h lo acc hlo
   have e1:JX h.objs.size ((name,kind) :: r) acc=JX h.objs.size r acc:=by
    rw[JX,if_neg hk]
   have e2:Bu h ((name,kind) :: r)=Bu h r:=by
    rw[Bu,if_neg hk]
   rw[e1,e2]
   refine⟨λn c m=>(ih.mem n c m).imp id λ⟨z1,z2,z3⟩=>⟨z1,z2,.tail _ z3⟩,λn m=>?_,ih.old⟩
   rcases Xl.mp m with z|z
   ·cases z
    exact absurd rfl hk
   ·exact ih.has n z
theorem Zg3(names:List (Str×Bh)):∀(h:Heap) (acc:List (Str×Addr)),(acc.Pairwise λx y=>x.2≠y.2)->(∀p∈acc,p.2<h.objs.size)->(JX h.objs.size names acc).Pairwise λx y=>x.2≠y.2:=by
 induction names with
 | nil=>intro h acc ha _;exact ha
 | cons y r ih=>
  intro h acc ha hb
  obtain⟨name,kind⟩:=y
  unfold JX
  split
  ·have:=ih (h.push { cls:=.type "cell",data:=.cell none }) ((name,h.objs.size) :: acc) (List.pairwise_cons.mpr ⟨λp hp=>XM (hb p hp),ha⟩) (λp hp=>by
    rw[JC]
    rcases Xl.mp hp with rfl|hp
    ·exact VJ _
    ·exact Nat.lt_succ_of_lt (hb p hp))
   rwa[JC]at this
  ·exact ih h acc ha hb
theorem Zh0{M:Model}{A:Qo}{E:Xe->Xf->Prop}{s:Xf}{scope:VN}{globals:Addr}{cl:List (Str×Addr)}{qual:Str}{env:Env}{Q:Env->Xf->Prop}
  (hQ:Q (newEnv scope s.heap.objs.size globals (JX (s.heap.objs.size+1) scope.names cl) qual none .none (some env) builtinsNs)
   { s with heap:=Bu (s.heap.push { cls:=.type "dict",data:=.dict #[] }) scope.names }) :
  XR M A (newFunctionEnv scope globals cl [] qual none .none (some env)) Q E s:=by
 simp only[newFunctionEnv,Option.isSome_some,if_true]
 refine Xg (wpAny_alloc ?_)
 refine Xg (wpAny_layCells _ (λname kind cells=>by cases hkc:kind==JZ<;>simp[hkc]) _ _ _ _ ?_)
 rw[show({ s with heap:=s.heap.push { cls:=.type "dict",data:=.dict #[] } }:Xf).heap.objs.size=s.heap.objs.size+1 from JC ..]
 rw[Uc]
 exact Xg (Qe (Qe hQ))
noncomputable def Wg(X:Cx)(N':List Str)(sc:VN)(C:Addr)(cells:List (Str×Addr))(s₂:Xf)(H₂:Hp)(fp:List Addr):Cx :=
 { X with N:=N',s₀:=s₂,H₀:=H₂,env:=compEnvC sc cells C X.env,outer:=X.stack,stack:=X.stack,ex:=fp,fn:=λx=>sc.names.lookup x==some .cell,pn:=[],xe:=λ_ _=>False }
theorem Zdq{env:Env}:∀{names:List (Str×Bh)} {x:Str} {k:Bh},names.lookup x=some k ->
  (names.map λ(n,k)=>if(k==QQ&&env.scope.kind== .function&&env.kindOf n==some .cell)then(n,JZ)else(n,k)).lookup x=
   some (if(k==QQ&&env.scope.kind== .function&&env.kindOf x==some .cell)then JZ else k)
 | [],_,_,h=>by simp at h
 | (n,k') :: r,x,k,h=>by
  have ih:=@Zdq env r x k
  show List.lookup x ((if(k'==QQ&&env.scope.kind== .function&&env.kindOf n==some .cell)=true then(n,JZ)else(n,k')) :: _)=_
  cases hx:x==n with
  | true=>
   simp only[QR,hx]at h
   cases h
   have e:=beq_iff_eq.mp hx
   subst e
   split<;>simp[QR]
  | false=>
   simp only[QR,hx]at h
   split
   ·simp only[QR,hx];exact ih h
   ·simp only[QR,hx];exact ih h
theorem Zf3{env:Env}:∀{names:List (Str×Bh)} {x:Str},names.lookup x=none ->
  (names.map λ(n,k)=>if(k==QQ&&env.scope.kind== .function&&env.kindOf n==some .cell)then(n,JZ)else(n,k)).lookup x=none
 | [],_,_=>rfl
 | (n,k') :: r,x,h=>by
  have ih:=@Zf3 env r x
  show List.lookup x ((if(k'==QQ&&env.scope.kind== .function&&env.kindOf n==some .cell)=true then(n,JZ)else(n,k')) :: _)=_
  cases hx:x==n with
  | true=>
   simp only[QR,hx]at h
   cases h
  | false=>
   simp only[QR,hx]at h
   split
   ·simp only[QR,hx];exact ih h
   ·simp only[QR,hx];exact ih h
theorem Zej{α:Type}:∀{l:List (Str×α)} {n:Str} {c:α},(l.map (·.1)).Nodup->(n,c)∈l->l.lookup n=some c
 | (k,v) :: r,n,c,hd,h=>by
  rw[XF,Qd]at hd
  rcases Xl.mp h with e|hr
  ·cases e
   simp[QR]
  ·have hne:(n==k)=false:=by
    refine Uv.mpr λz=>hd.1 ?_
    have e:n=k:=beq_iff_eq.mp z
    rw[←e]
    exact X4.mpr ⟨(n,c),hr,rfl⟩
   rw[QR,hne]
   exact Zej hd.2 hr
theorem Yy{α:Type}:∀{l:List (Str×α)} {n:Str} {c:α},(n,c)∈l->∃d,l.lookup n=some d∧(n,d)∈l
 | (k,v) :: r,n,c,h=>by
  by_cases e:n=k
  ·subst e
   exact⟨v,by simp[QR],V9⟩
  ·have hne:(n==k)=false:=by simpa using e
   rcases Xl.mp h with z|z
   ·cases z;exact absurd rfl e
   ·obtain⟨d,h1,h2⟩:=Yy z
    exact⟨d,by rw[QR,hne];exact h1,.tail _ h2⟩
structure CompScope(X:Cx)(own:List Str)(caps:List Nat)(N':List Str)(sc:VN):Prop where
 kind:sc.kind= .function
 nd:N'.Nodup
 names:N'=own ++ caps.map λi=>X.N.getD i Str.empty
 nn:(sc.names.map (·.1)).Nodup
 free:(sc.names.all λy=>y.2 != .free||(X.env.kindOf y.1==some .cell||X.env.kindOf y.1==some .free))=true
 caps:(caps.all λi=>sc.names.lookup (X.N.getD i Str.empty)==some .free)=true
noncomputable def Zaa(own:List Str)(caps:List Nat)(σ:St):St:=own.map (λ_=>none) ++ caps.map λi=>(σ[i]?).getD none
section
variable {X:Cx}{own:List Str}{caps:List Nat}{N':List Str}{sc:VN}
theorem CompScope.lk(S:CompScope X own caps N' sc){n:Str}{k:Bh}(h:(n,k)∈sc.names):sc.names.lookup n=some k:=Zej S.nn h
theorem CompScope.fr(S:CompScope X own caps N' sc){n:Str}(h:(n,QQ)∈sc.names):X.env.kindOf n=some .cell∨X.env.kindOf n=some .free:=by
 have:=Be.mp S.free _ h
 simpa using this
theorem Zqj{pins:List (Addr×Obj)}{σ:St}{H:Hp}{s:Xf}{fp:List Addr}{cl:List (Str×Addr)}(S:CompScope X own caps N' sc)(I:Inv X pins σ H s)
  (f:∀b∈fp,Zji X pins H b) (fo:∀b∈fp,∃o,s.heap.get? b=some o)
  (hcl:∀n c,(n,c)∈cl->(n,QQ)∈sc.names∧X.env.cells.lookup n=some c) (hcl2:∀n,(n,QQ)∈sc.names->∃c,(n,c)∈cl) (hapart:cl.Pairwise λx y=>x.2≠y.2) :
  Inv (Wg X N' sc (s.heap.objs.size+1) (JX (s.heap.objs.size+2) sc.names cl) s H fp) [] (Zaa own caps σ) (upd H s.heap.objs.size (.lst []))
   { s with heap:=Bu ((s.heap.push { cls:=.type "list",data:=.seq #[] }).push { cls:=.type "dict",data:=.dict #[] }) sc.names }:=by
 generalize hh1:s.heap.push { cls:=.type "list",data:=.seq #[] }=h1
 have z1:h1.objs.size=s.heap.objs.size+1:=by rw[←hh1,JC]
 generalize hh2:h1.push { cls:=.type "dict",data:=.dict #[] }=h2
 have z2:h2.objs.size=s.heap.objs.size+2:=by rw[←hh2,JC,z1]
 have BC:=Zfj sc.names h2 (s.heap.objs.size+2) cl (by omega)
 have AP:=Zg3 sc.names h2 cl hapart (λp hp=>by
  obtain⟨v,hv⟩:=I.cell p.1 p.2 (hcl p.1 p.2 hp).2
  exact X3 hv.lt (by omega))
 rw[z2]at BC AP
 have keep:∀b o,s.heap.get? b=some o->(Bu h2 sc.names).get? b=some o:=λb o e=>Uh _ _ _ _ (by
  rw[←hh2]
  refine Xm _ ?_
  rw[←hh1]
  exact Xm _ e)
 have hD:(Bu h2 sc.names).get? s.heap.objs.size=some { cls:=.type "list",data:=.seq #[] }:=Uh _ _ _ _ (by
  rw[←hh2]
  refine Xm _ ?_
  rw[←hh1]
  exact Qc _ rfl)
 have hC:(Bu h2 sc.names).Ns (s.heap.objs.size+1) (λ_=>none):=by
  refine Heap.Ns.keeps ?_ (Uh _ _)
  have:=Heap.Ns.new h1 (.type "dict")
  rw[hh2,z1]at this
  exact this
 have cellOld:∀n c,X.env.cells.lookup n=some c->c<s.heap.objs.size:=λn c e=>by
  obtain⟨v,hv⟩:=I.cell n c e
  exact hv.lt
 have lk':∀n c,(JX (s.heap.objs.size+2) sc.names cl).lookup n=some c->(n,c)∈JX (s.heap.objs.size+2) sc.names cl:=λn c e=>JP e
 have hnD:H s.heap.objs.size=none:=I.fresh
 have fresh:∀c,s.heap.objs.size<c->upd H s.heap.objs.size (.lst []) c=none:=λc hc=>by
  rw[Zr (XM hc)]
  exact I.hok.fresh (Vz hc)
 have isc:∀n c,(n,c)∈JX (s.heap.objs.size+2) sc.names cl->∃v,(Bu h2 sc.names).IsCell c v:=λn c m=>by
  rcases BC.mem n c m with z|⟨z,_⟩
  ·obtain⟨v,hv⟩:=I.cell n c (hcl n c z).2
   exact⟨v,hv.keeps keep⟩
  ·exact⟨none,z⟩
 have okH:HOk X.prog X.w (upd H s.heap.objs.size (.lst [])) (Bu h2 sc.names):=by
  refine I.hok.laid keep (Qp _) ?_
  exact⟨Q9 _,[],0,.nil,hD⟩
 have kinds:∀x k,sc.names.lookup x=some k->(relabel sc X.env).names.lookup x=some (if(k==QQ&&X.env.scope.kind== .function&&X.env.kindOf x==some .cell)then JZ else k):=λx k e=>Zdq e
 have kindsR:∀x k,(relabel sc X.env).names.lookup x=some k->∃k',(x,k')∈sc.names∧k=(if(k'==QQ&&X.env.scope.kind== .function&&X.env.kindOf x==some .cell)then JZ else k'):=λx k e=>by
  cases q:sc.names.lookup x with
  | none=>
   have:=Zf3 (env:=X.env) q
   rw[show(relabel sc X.env).names.lookup x=_ from this]at e
   cases e
  | some k'=>
   refine⟨k',JP q,?_⟩
   rw[kinds x k' q]at e
   exact(QC e).symm
 refine⟨⟨I.ok.mod,S.kind,I.ok.glob,I.ok.blt,?_,?_,?_,?_,I.ok.hd,I.ok.frames,.inl rfl,?_,?_,?_,?_,?_,?_,?_⟩,rfl,I.bare,?_,?_,?_,?_,?_,(λp hp=>nomatch hp),okH,?_⟩
 ·show s.heap.objs.size≤s.heap.objs.size+1;omega
 ·intro x y c e1 e2
  exact name_of_addr AP (lk' x c e1) (lk' y c e2)
 ·intro x hx
  rcases hx with hx|hx
  ·obtain⟨k',hm,hk'⟩:=kindsR x _ hx
   cases k' with
   | cell=>
    obtain⟨c,hc⟩:=BC.has x hm
    obtain⟨d,h1,_⟩:=Yy hc
    exact⟨d,h1⟩
   | free=>
    obtain⟨c,hc⟩:=hcl2 _ hm
    obtain⟨d,h1,_⟩:=Yy (BC.old _ hc)
    exact⟨d,h1⟩
   | _=>simp at hk'
  ·obtain⟨k',hm,hk'⟩:=kindsR x _ hx
   cases k' with
   | free=>
    obtain⟨c,hc⟩:=hcl2 _ hm
    obtain⟨d,h1,_⟩:=Yy (BC.old _ hc)
    exact⟨d,h1⟩
   | _=>simp at hk'
 ·intro x c hf e
  have hf':sc.names.lookup x=some .cell:=by simpa [Wg]using hf
  rcases BC.mem x c (lk' x c e)with z|⟨_,z,_⟩
  ·-- a free one and a cell at once: the name stands once
   exfalso
   have q:=S.lk (hcl x c z).1
   rw[hf']at q
   cases q
  ·show s.heap.objs.size≤c;omega
 ·intro b hb
  obtain⟨o,ho⟩:=fo b hb
  have hlt:=XD ho
  refine⟨Xq (V8 hlt (VJ _)),λx c e z=>?_⟩
  rcases BC.mem x c (lk' x c e)with q|⟨_,q,_⟩
  ·exact(f b hb).2.2.2.2.1 x c (hcl x c q).2 z
  ·subst z
   exact absurd hlt (Nat.not_lt.mpr (QK (U3 _ 2) q))
 ·exact I.bs
 ·exact QK I.ok.bsz I.sz
 ·intro b o e hb
  rcases(f b hb).2.2.2.1 with z|z
  ·exact I.ok.noex b o e z
  ·exact absurd (X3 (XD e) I.ok.bsz) (Nat.not_lt.mpr z)
 ·intro b hb z
  rcases Xl.mp (I.stkSub b z)with q|q
  ·exact(f b hb).2.1 q
  ·exact(f b hb).2.2.1 q
 ·exact I.stack
 ·exact I.stkFree
 ·exact Un.laid keep (Qp _) hnD
 ·refine⟨_,hC,λi x v e1 e2 e3=>?_⟩
  have e1':(own ++ caps.map λi=>X.N.getD i Str.empty)[i]? =some x:=by rw[←S.names];exact e1
  have e2':(own.map (λ_=>(none:Option V)) ++ caps.map λi=>(σ[i]?).getD none)[i]? =some (some v):=e2
  by_cases hi:i<own.length
  ·rw[JW (by simpa using hi),Xy]at e2'
   cases q:own[i]? with
   | none=>rw[q]at e2';cases e2'
   | some y=>rw[q]at e2';cases e2'
  ·rw[Q3 (by simpa using hi),Xy]at e2'
   rw[Q3 (by omega),Xy]at e1'
   rw[Xi]at e2'
   cases q:caps[i-own.length]? with
   | none=>rw[q]at e2';cases e2'
   | some j=>
    rw[q]at e1' e2'
    have e1:X.N.getD j Str.empty=x:=QC e1'
    have e2:(σ[j]?).getD none=some v:=QC e2'
    have e4:σ[j]? =some (some v):=by
     cases r:σ[j]? with
     | none=>rw[r]at e2;cases e2
     | some o=>rw[r]at e2;exact congrArg some e2
    have hj:j<X.N.length:=by rw[←I.len];exact(Xn.mp e4).1
    have e5:X.N[j]? =some x:=by rw[←e1];simp[Xd,hj]
    have hc:=Be.mp S.caps j (QV q)
    have e6:sc.names.lookup x=some .free:=by rw[←e1];simpa using hc
    have hm:=JP e6
    have kx:=S.fr hm
    obtain⟨m,hn,hl⟩:=I.loc
    obtain⟨u,ru,lo⟩:=hl j x v e5 e4 (by rcases kx with z|z;exact .inr (.inl z);exact .inr (.inr z))
    refine⟨u,ru,.inr ⟨?_,?_⟩⟩
    ·have:=kinds x _ e6
     show(relabel sc X.env).names.lookup x=_∨(relabel sc X.env).names.lookup x=_
     rw[this]
     split
     ·exact .inl rfl
     ·exact .inr rfl
    ·rcases lo with⟨z,_⟩|⟨_,c,hc1,hc2⟩
     ·rcases kx with w|w<;>(rw[w]at z;cases z)
     ·obtain⟨d,hd⟩:=hcl2 x hm
      obtain⟨d',h1,h2⟩:=Yy (BC.old _ hd)
      refine⟨d',h1,?_⟩
      rcases BC.mem x d' h2 with w|⟨_,_,w⟩
      ·have w':=(hcl x d' w).2
       rw[hc1]at w'
       cases w'
       exact hc2.keeps keep
      ·have:=S.lk w
       rw[e6]at this
       cases this
 ·intro x c e
  exact isc x c (lk' x c e)
 ·exact fresh _ (VJ _)
 ·intro x c e
  rcases BC.mem x c (lk' x c e)with z|⟨_,z,_⟩
  ·have e':=(hcl x c z).2
   have hlt:=cellOld x c e'
   rw[Zr (Xq hlt)]
   exact I.freeC x c e'
  ·exact fresh c (by omega)
 ·show(Zaa own caps σ).length=N'.length
  rw[S.names]
  unfold Zaa
  simp
end
noncomputable def Z0u(J:It)(g:TG)(tt:TT)(te:TE)(σ0:St)(D:Addr)(Q:Hp->Prop)(H1:Hp):Prop :=
 ∃W:Nat->Nat->St->Hp->Prop,(∃m,W 0 m σ0 (upd H1 D (.lst [])))∧∀i m σ' H',W i m σ' H' ->
  (J.stop i H'∧Q H')∨(J.go i H'∧∀x H2,J.yld i H' x H2->g x σ' H2 λσ2 H3=>tt σ2 H3 λb H4=>
   if b=true then te σ2 H4 λy H5=>∃ys,H5 D=some (.lst ys)∧ys.length<Xo∧∃m',m'<m∧W (i+1) m' σ2 (upd H5 D (.lst (ys ++ [y])))
   else∃m',m'<m∧W (i+1) m' σ2 H4)
noncomputable def Z0y(own:List Str)(caps:List Nat)(wi:TI)(g:TG)(tt:TT)(te:TE):TE:=λσ H Q=>wi σ H λJ H1=>∀D,H1 D=none->Z0u J g tt te (Zaa own caps σ) D (Q (.ref D)) H1
noncomputable def Z80:TT:=λ_ H Q=>Q true H
noncomputable def Z0w(X:Cx)(ifs:List Expr)(t:TT):Prop :=
 ∀(pins:List (Addr×Obj)) (s:Xf) (σ:St) (H:Hp) (Q:Bool->Hp->Prop),Inv X pins σ H s->t σ H Q ->
  XR (Qa X.prog X.w) X.A (forIn ifs true λc r=>if r=true then do let ok←isTrue c X.env (eval c X.env);pure (JK ok)else pure (JK r)) (TP X pins σ Q) X.xe s
theorem Z0e{X:Cx}:Z0w X [] Z80:=λpins s σ H Q I h=>by
 rw[Uc]
 exact Qe ⟨H,I,h⟩
theorem Z0b{X:Cx}{c:Expr}{t:TT}(h:PT X c t):Z0w X [c] t:=λpins s σ H Q I q=>wpAny_tests_one (h pins s σ H Q I q)
theorem Zy0{M:Model}{A:Qo}{α:Type}{t:Sem α}{Q Q':α->Xf->Prop}{E:Xe->Xf->Prop}{s:Xf}(h:XR M A t Q (λ_ _=>False) s)(hQ:∀a s,Q a s->Q' a s):XR M A t Q' E s :=
 QT h hQ λ_ _ z=>z.elim
section
variable {X:Cx}{own:List Str}{caps:List Nat}{N':List Str}{sc:VN}{tg elt iter:Expr}{ifs:List Expr}{pos:Pos}{wi:TI}{g:TG}{tt:TT}{te:TE}
theorem Zod{pins p':List (Addr×Obj)}{σ σ':St}{H H':Hp}{s s':Xf}{fp:List Addr}{C:Addr}{cells:List (Str×Addr)}{h':Heap}(I:Inv X pins σ H s)(f:∀b∈fp,Zji X pins H b)
  (I':Inv (Wg X N' sc C cells s H fp) p' σ' H' s') (hs:Vk C s'.heap h'):Inv X pins σ H' { s' with heap:=h' }:=by
 have hC:s.heap.objs.size≤C:=I'.ok.above
 have B:=I'.base
 have ne:∀b o,s.heap.get? b=some o->b≠C:=λb o e=>Xq (X3 (XD e) hC)
 obtain⟨m,⟨oC,_,_,hoC,_⟩,_⟩:=I'.loc
 refine I.call' (ch:=fp) (s':={ s' with heap:=h' }) I'.os ⟨λb o e n hb hx=>?_,λb o e n hb hx=>?_,B.free,λb o e hx=>?_,B.tups,B.frzs,B.tbls⟩ (λb ob e=>?_) I'.bare λb hb=>?_
 ·exact(hs.2 b (ne b o e)).trans (B.keep b o e n hb hx)
 ·obtain⟨sl,q⟩:=B.slot b o e n hb hx
  exact⟨sl,(hs.2 b (ne b o e)).trans q⟩
 ·obtain⟨o',q⟩:=B.there b o e hx
  exact⟨o',(hs.2 b (ne b o e)).trans q⟩
 ·have hfree:H' C=none:=I'.free
  refine(I'.hok b ob e).stay (λc w' hc q=>(hs.2 c ?_).trans q) (λ_ q=>q) λ_ _ q=>q
  rintro rfl
  rcases hc with rfl|hc
  ·rw[hfree]at e;cases e
  ·rw[hfree]at hc;cases hc
 ·obtain⟨_,f1,_,f3,f4,f5⟩:=f b hb
  exact⟨f3,f1,f4,f5⟩
theorem Ziq{Qf:Result->Xf->Prop}(S:CompScope X own caps N' sc)(hc:X.calm=true)
  (hg:∀C cells s₂ H₂ fp,PG (Wg X N' sc C cells s₂ H₂ fp) tg g) (ht:∀C cells s₂ H₂ fp,Z0w (Wg X N' sc C cells s₂ H₂ fp) ifs tt) (he:∀C cells s₂ H₂ fp,PE (Wg X N' sc C cells s₂ H₂ fp) elt te)
  {pins:List (Addr×Obj)} {σ:St} {H:Hp} {s:Xf} {fp:List Addr} {it:Addr} {tn:Nat->Heap->Prop} {J:It} {Q:Hp->Prop} (I:Inv X pins σ H s) (T:Turn X.prog X.w X.K tg J fp it tn) (st:tn 0 s.heap) (f:∀b∈fp,Zji X pins H b)
  (h:Z0u J g tt te (Zaa own caps σ) s.heap.objs.size Q H)
  (fin:∀s' σ' H' p' C cells,Inv (Wg X N' sc C cells s H fp) p' σ' H' s'->C=s.heap.objs.size+1->Q H'->Qf (.ok .next) s') :
  XR (Qa X.prog X.w) X.A (newFunctionEnv sc X.env.globals (Zhu X.env sc.names []) [] X.env.qual none .none (some X.env)) (λcenv s₄=>
   cenv.locals=s.heap.objs.size+1∧codeAny (Qa X.prog X.w) X.A (.compStart (.ListComp elt [⟨tg,iter,ifs,0⟩] sc pos) 0 (.ref it) (.ref s.heap.objs.size) { cenv with scope:=relabel sc X.env }) Qf s₄) X.xe
    { s with heap:=s.heap.push { cls:=.type "list",data:=.seq #[] } }:=by
 have hf:∀y∈sc.names,y.2= .free->∃c,X.env.cells.lookup y.1=some c:=λy hy e=>by
  obtain⟨n,k⟩:=y
  have e':k= .free:=e
  subst e'
  exact I.ok.has n (S.fr hy)
 have hcl:∀n c,(n,c)∈Zhu X.env sc.names []->(n,QQ)∈sc.names∧X.env.cells.lookup n=some c:=λn c m=>(Zki sc.names [] hf n c m).elim (λz=>nomatch z) id
 have hap:=Zfp I.ok.inj sc.names [] hf S.nn (λ_ z=>nomatch z) (λ_ z=>nomatch z) .nil
 have I0:=Zqj (cl:=Zhu X.env sc.names []) S I f (λb hb=>let⟨o,e,_⟩:=T.obj _ _ st b hb;⟨o,e⟩) hcl (λn m=>Zjo sc.names [] n m) hap
 refine Zh0 ?_
 rw[show({ s with heap:=s.heap.push { cls:=.type "list",data:=.seq #[] } }:Xf).heap.objs.size=s.heap.objs.size+1 from JC ..]
 refine⟨rfl,?_⟩
 dsimp only
 generalize hs0:({ s with heap:=Bu ((s.heap.push { cls:=.type "list",data:=.seq #[] }).push { cls:=.type "dict",data:=.dict #[] }) sc.names }:Xf)=s0 at I0⊢
 have st0:tn 0 s0.heap:=T.keep _ _ _ st λb hb o e=>by
  rw[←hs0]
  exact Uh _ _ _ _ (Xm _ (Xm _ e))
 generalize hcells:JX (s.heap.objs.size+1+1) sc.names (Zhu X.env sc.names [])=cells at I0⊢
 -- the loop
 obtain⟨W,⟨m0,w0⟩,turn⟩:=h
 have loop:codeAny (Qa X.prog X.w) X.A (.compLoop (.ListComp elt [⟨tg,iter,ifs,0⟩] sc pos) 0 (.ref it) (.ref s.heap.objs.size) (Wg X N' sc (s.heap.objs.size+1) cells s H fp).env) Qf s0:=by
  generalize hX':Wg X N' sc (s.heap.objs.size+1) cells s H fp=X' at I0⊢
  have hg':=hg (s.heap.objs.size+1) cells s H fp
  have ht':=ht (s.heap.objs.size+1) cells s H fp
  have he':=he (s.heap.objs.size+1) cells s H fp
  have fin':=λs' σ' H' p' (z:Inv (Wg X N' sc (s.heap.objs.size+1) cells s H fp) p' σ' H' s')=>fin s' σ' H' p' _ _ z rfl
  rw[hX']at hg' ht' he' fin'
  have hxe:X'.xe= λ_ _=>False:=by rw[←hX'];rfl
  have hpr:X'.prog=X.prog:=by rw[←hX'];rfl
  have hw:X'.w=X.w:=by rw[←hX'];rfl
  have hK:X'.K=X.K:=by rw[←hX'];rfl
  have hA:X'.A=X.A:=by rw[←hX'];rfl
  have hcm:X'.calm=true:=by rw[←hX'];exact hc
  have hex:X'.ex=fp:=by rw[←hX'];rfl
  have hpn:X'.pn=[]:=by rw[←hX'];rfl
  have stat:∀{H':Hp},(∀b∈fp,H' b=none)->∀b∈fp,Zji X' [] H' b:=λhn b hb=>by
   have e1:=I0.ok.exf b (by rw[hex];exact hb)
   have e2:=I0.ok.exfs b (by rw[hex];exact hb)
   exact⟨hn b hb,e1.1,e2,.inl (by rw[hex];exact hb),e1.2,λp hp=>by rw[hpn]at hp;exact nomatch hp⟩
  have frD:∀b∈fp,(upd H s.heap.objs.size (.lst [])) b=none:=λb hb=>by
   obtain⟨o,e,_⟩:=T.obj _ _ st b hb
   rw[Zr (Xq (XD e))]
   exact(f b hb).1
  have T':Turn X'.prog X'.w X'.K tg J fp it tn:=by rw[hpr,hw,hK];exact T
  rw[←hpr,←hw,←hA]
  refine Zlw (λn s'=>∃i σ' H',Inv X' [] σ' H' s'∧tn i s'.heap∧(∀b∈fp,H' b=none)∧W i n σ' H') ?_ m0 ⟨0,_,_,I0,st0,frD,w0⟩
  rintro n s3 ⟨i,σ3,H3,I3,st3,fr3,w3⟩
  rcases turn i n σ3 H3 w3 with⟨stop,qn⟩|⟨go,step⟩
  ·refine Zy0 (T'.done X' rfl rfl rfl hcm i [] s3 σ3 H3 _ I3 (stat fr3) st3 stop) λr s4 qz9=>?_
   obtain⟨hr,I4⟩:=qz9
   subst hr
   exact fin' s4 σ3 H3 [] I4 qn
  ·refine Zy0 (T'.item X' rfl rfl rfl hcm i [] s3 σ3 H3 _ I3 (stat fr3) st3 go) λr s4 qz9=>?_
   obtain⟨u,hr,h4⟩:=qz9
   subst hr
   refine Zy0 h4 λ_ s5 qz9=>?_
   obtain⟨x,H5,I5,r5,y5,st5,fr5⟩:=qz9
   have I5':=I5.pinned (stat fr5) (T.obj _ _ st5)
   have hgg:=hg' _ s5 σ3 H5 x u _ I5' r5 (step x H5 y5)
   rw[hxe]at hgg
   refine Zy0 hgg λ_ s6 qz9=>?_
   obtain⟨σ6,H6,I6,q6⟩:=qz9
   have htt:=ht' _ s6 σ6 H6 _ I6 q6
   rw[hxe]at htt
   refine Zy0 htt λok s7 qz9=>?_
   obtain⟨H7,I7,q7⟩:=qz9
   have again:∀{σ7:St} {H7:Hp} {s7:Xf} {m:Nat},Inv X' ([] ++ Zkt fp s5.heap) σ7 H7 s7->W (i+1) m σ7 H7->m<n->∃m,m<n∧∃i σ' H',Inv X' [] σ' H' s7∧tn i s7.heap∧(∀b∈fp,H' b=none)∧W i m σ' H':=fun{σ7 H7 s7 m} I7 w7 hm=>by
    refine⟨m,hm,i+1,σ7,H7,I7.unpinned,T.keep _ _ _ st5 λb hb o e=>(I7.pin (b,o) (XQ _ (XQ _ (Zdg hb e)))).1,λb hb=>?_,w7⟩
    obtain⟨o,e,d⟩:=T.obj _ _ st5 b hb
    exact(I7.pin (b,o) (XQ _ (XQ _ (Zdg hb e)))).2.1
   cases ok with
   | false=>
    obtain⟨m',hm,w7⟩:=q7
    rw[if_neg Xp]
    exact again I7 w7 hm
   | true=>
    rw[if_pos rfl]
    have hee:=he' _ s7 σ6 H7 _ I7 q7
    rw[hxe]at hee
    refine Zy0 hee λy s8 qz9=>?_
    obtain⟨vy,H8,I8,r8,ys,hD,hlen,m',hm,w8⟩:=qz9
    have hap:=Zc1 (X:=X') _ s8 σ6 H8 (.ref s.heap.objs.size) [vy] (.ref s.heap.objs.size) [y] (λ_ H'=>W (i+1) m' σ6 H') I8 rfl (.cons r8 .nil) ⟨_,ys,vy,rfl,rfl,hD,hlen,w8⟩
    rw[hxe]at hap
    refine Zy0 hap λz s9 qz9=>?_
    obtain⟨_,H9,I9,_,w9⟩:=qz9
    exact again I9 w9 hm
 exact codeAny_compStart_list loop (T.self _ 0 _ _ _ st0 loop)
theorem Zzb(S:CompScope X own caps N' sc)(hc:X.calm=true)(hi:PI X tg iter wi)
  (hg:∀C cells s₂ H₂ fp,PG (Wg X N' sc C cells s₂ H₂ fp) tg g) (ht:∀C cells s₂ H₂ fp,Z0w (Wg X N' sc C cells s₂ H₂ fp) ifs tt) (he:∀C cells s₂ H₂ fp,PE (Wg X N' sc C cells s₂ H₂ fp) elt te)
  (hs:∀x,JV iter X.env x=pure x:=by intro _;rfl):PE X (.ListComp elt [⟨tg,iter,ifs,0⟩] sc pos) (Z0y own caps wi g tt te):=by
 intro pins s σ H Q I h
 rw[eval_ListComp]
 have hf:∀y∈sc.names,y.2= .free->∃c,X.env.cells.lookup y.1=some c:=λy hy e=>by
  obtain⟨n,k⟩:=y
  have e':k= .free:=e
  subst e'
  exact I.ok.has n (S.fr hy)
 refine wpAny_comprehension_free (use:=none) rfl hs (Zdp hf) S.kind (λy hy e=>by obtain⟨n,k⟩:=y;have e':k= .local:=e;subst e';exact S.lk hy) ?_
 refine thn (hi pins s σ H _ I h) λv s1 h1=>thn h1 λitv s2 h2=>?_
 obtain⟨it,fp,tn,J,H2,e,I2,T,st2,f2,q⟩:=h2
 subst e
 refine U4 ?_
 refine thn (Ziq (iter:=iter) (pos:=pos) (Qf:=compPost (Qa X.prog X.w) X.A X.xe none (EP X pins σ Q) (.ref s2.heap.objs.size) (s2.heap.objs.size+1)) S hc hg ht he I2 T st2 f2 (q s2.heap.objs.size I2.fresh) ?_) λcenv s4 ⟨hl,hr⟩=>?_
 ·intro s' σ' H' p' C cells I' eC q'
  subst eC
  obtain⟨m,hn,_⟩:=id I'.loc
  exact⟨m,hn,λh' hs'=>⟨.ref s2.heap.objs.size,H',Zod I2 f2 I' hs',rfl,q'⟩⟩
 ·rw[←hl]at hr
  exact hr
end
section
variable {X:Cx}{own:List Str}{caps:List Nat}{N':List Str}{sc:VN}{tg elt iter:Expr}{ifs:List Expr}{pos:Pos}{wi:TI}{g:TG}{tt:TT}{te:TE}
theorem Zpy{i:Nat}{y:Str}{py spos:Pos}(hN:X.N.Nodup)(hy:X.N[i]? =some y)(hx:Loc X.env.scope y)(S:CompScope X own caps N' sc)(hc:X.calm=true)(hi:PI X tg iter wi)
  (hg:∀C cells s₂ H₂ fp,PG (Wg X N' sc C cells s₂ H₂ fp) tg g) (ht:∀C cells s₂ H₂ fp,Z0w (Wg X N' sc C cells s₂ H₂ fp) ifs tt) (he:∀C cells s₂ H₂ fp,PE (Wg X N' sc C cells s₂ H₂ fp) elt te)
  (hsw:Bs (.ListComp elt [⟨tg,iter,ifs,0⟩] sc pos) (some (.Name y py)) spos.line X.env=pure true:=by rfl)
  (hs:∀x,JV iter X.env x=pure x:=by intro _;rfl) (hf:X.fn y=true∨X.env.scope.names.lookup y=some .local:=by first|exact .inl rfl|exact .inr rfl|assumption) :
  PS X (.Assign [.Name y py] (.ListComp elt [⟨tg,iter,ifs,0⟩] sc pos) spos) (Z32 (Z0y own caps wi g tt te) (Zse i)):=by
 intro pins s σ H D I h
 have hfr:∀y∈sc.names,y.2= .free->∃c,X.env.cells.lookup y.1=some c:=λy hy e=>by
  obtain⟨n,k⟩:=y
  have e':k= .free:=e
  subst e'
  exact I.ok.has n (S.fr hy)
 rw[exec_Assign_Name_used _ _ _ _ hsw]
 refine Xg (wpAny_standAt (Xg ?_))
 show XR _ X.A (do let _←comprehension (.ListComp elt [⟨tg,iter,ifs,0⟩] sc pos) sc X.env _ (newList []) false (eval iter X.env) (some (Vy (.Name y py) X.env))) _ _ s
 refine Xg (QT (wpAny_comprehension_free (use:=some (Vy (.Name y py) X.env)) (Q:=λ_ s'=>SP X pins D .next s') rfl hs (Zdp hfr) S.kind (λy hy e=>by obtain⟨n,k⟩:=y;have e':k= .local:=e;subst e';exact S.lk hy) ?_) (λ_ s' hq=>Qe (Qe hq)) λ_ _ e=>e)
 refine thn (hi pins s σ H _ I h) λv s1 h1=>thn h1 λitv s2 h2=>?_
 obtain⟨it,fp,tn,J,H2,e,I2,T,st2,f2,q⟩:=h2
 subst e
 refine U4 ?_
 refine thn (Ziq (iter:=iter) (pos:=pos) (Qf:=compPost (Qa X.prog X.w) X.A X.xe (some (Vy (.Name y py) X.env)) (λ_ s'=>SP X pins D .next s') (.ref s2.heap.objs.size) (s2.heap.objs.size+1)) S hc hg ht he I2 T st2 f2 (q s2.heap.objs.size I2.fresh) ?_) λcenv s4 ⟨hl,hr⟩=>?_
 ·intro s' σ' H' p' C cells I' eC q'
  subst eC
  obtain⟨m,hn,_⟩:=id I'.loc
  have I3:Inv X pins σ H' s':=Zod I2 f2 I' (.refl ..)
  show XR _ X.A (Vy (.Name y py) X.env (.ref s2.heap.objs.size)) _ _ s'
  refine wpAny_assign_Name (Zlm (v:=.ref s2.heap.objs.size) I3 hN hy hx rfl (λs5 I5 hsb=>?_) hf)
  have hC:s2.heap.objs.size<s2.heap.objs.size+1:=VJ _
  have ltL:X.env.locals<s2.heap.objs.size:=I2.lt
  have ltC:∀x c,X.env.cells.lookup x=some c->c<s2.heap.objs.size:=λx c e=>by
   obtain⟨w',z⟩:=I2.cell x c e
   exact z.lt
  refine⟨m,?_,λh' hs'=>⟨σ.set i (some (.ref s2.heap.objs.size)),H',?_,q'⟩⟩
  ·obtain⟨a,hsa,ha⟩:=hsb
   refine hn.sameBut hsa ?_
   rcases ha with ha|ha
   ·rw[ha];exact XM (V8 ltL hC)
   ·exact XM (V8 (ltC _ _ ha) hC)
  ·refine I5.turned (t':=s5.toks) (it:=s2.heap.objs.size+1) (λb o hb e=>(hs'.2 b hb).trans e) I'.free (XM (V8 ltL hC)) (.inr (QK I2.sz (Vz hC))) (λx c e=>Xq (V8 (ltC x c e) hC)) λp hp=>?_
   obtain⟨e,_⟩:=I2.pin p hp
   exact Xq (V8 (XD e) hC)
 ·rw[←hl]at hr
  exact hr
end
section
variable (n:Nat)(D:Addr)(Pv:Nat->List V->St->Hp->Prop)
variable {n D Pv}
end
mutual
inductive Is(H:Hp)(L:Addr->Prop):V->Xa->Prop where
 | non:Is H L .non .none
 | bl (b:Bool):Is H L (.bl b) (.bool b)
 | int (i:Int):Is H L (.int i) (.int i)
 | str (x:Str):Is H L (.str x) (.str x)
 | lst {a:Addr} {xs:List V} {ds:List Xa}:L a->H a=some (.lst xs)->IsAll H L xs ds->Is H L (.ref a) (.list ds)
 | tup {a:Addr} {xs:List V} {ds:List Xa}:H a=some (.tup xs)->IsAll H L xs ds->Is H L (.ref a) (.tuple ds)
inductive IsAll(H:Hp)(L:Addr->Prop):List V->List Xa->Prop where
 | nil:IsAll H L [] []
 | cons {x:V} {xs:List V} {d:Xa} {ds:List Xa}:Is H L x d->IsAll H L xs ds->IsAll H L (x :: xs) (d :: ds)
end
section
variable {H H':Hp}{L L':Addr->Prop}
theorem IsAll.ind{Q:List V->List Xa->Prop}(n:Q [] [])(c:∀{x:V} {xs:List V} {d:Xa} {ds:List Xa},Is H L x d->IsAll H L xs ds->Q xs ds->Q (x :: xs) (d :: ds)):∀{xs ds},IsAll H L xs ds->Q xs ds:=λh=>
 IsAll.rec (motive_1:=λ_ _ _=>True) (motive_2:=λxs ds _=>Q xs ds) trivial (λ_=>trivial) (λ_=>trivial) (λ_=>trivial) (λ_ _ _ _=>trivial) (λ_ _ _=>trivial) n (λp q _ r=>c p q r) h
theorem IsAll.length{xs:List V}{ds:List Xa}(h:IsAll H L xs ds):xs.length=ds.length:=IsAll.ind (Q:=λxs ds=>xs.length=ds.length) rfl (λ_ _ r=>congrArg (·+1) r) h
theorem IsAll.set{xs:List V}{ds:List Xa}{x:V}{d:Xa}(i:Nat)(h:IsAll H L xs ds)(k:Is H L x d):IsAll H L (xs.set i x) (ds.set i d) :=
 IsAll.ind (Q:=λxs ds=>∀i,IsAll H L (xs.set i x) (ds.set i d)) (λ_=>.nil) (λh q r i=>Nat.casesOn i (.cons k q) λi=>.cons h (r i)) h i
end
section
variable {X:Cx}{pins:List (Addr×Obj)}{σ:St}{H:Hp}{s:Xf}{L L':Addr->Prop}
end
noncomputable abbrev Shp(d:Xa):Prop:=Bw d=true
section
variable {X:Cx}
end
mutual
noncomputable def Yr:Xa->Bool
 | .none=>true
 | .int _=>true
 | .str _=>true
 | .list ds=>Jw ds
 | .tuple ds=>Jw ds
 | _=>false
noncomputable def Jw:List Xa->Bool
 | []=>true
 | d :: ds=>Yr d&&Jw ds
end
mutual
theorem Zka:∀(d e:Xa),Yr d=true->Yr e=true->(Qx d e=true↔d=e)
 | .none,e,_,he=>by cases e<;>simp_all [Qx,Yr]
 | .int i,e,_,he=>by cases e<;>simp_all [Qx,Yr]
 | .str i,e,_,he=>by cases e<;>simp_all [Qx,Yr]
 | .list ds,e,hd,he=>by
  cases e with
  | list es=>
   rw[Yr]at hd he
   rw[Qx,Qy.injEq]
   exact Zfo ds es hd he
  | _=>simp_all [Qx,Yr]
 | .tuple ds,e,hd,he=>by
  cases e with
  | tuple es=>
   rw[Yr]at hd he
   rw[Qx,PyData.tuple.injEq]
   exact Zfo ds es hd he
  | _=>simp_all [Qx,Yr]
 | .bool b,e,hd,_=>by simp[Yr]at hd
 | .dict b,e,hd,_=>by simp[Yr]at hd
theorem Zfo:∀(ds es:List Xa),Jw ds=true->Jw es=true->(VF ds es=true↔ds=es)
 | [],[],_,_=>by simp[VF]
 | [],_ :: _,_,_=>by simp[VF]
 | _ :: _,[],_,_=>by simp[VF]
 | d :: ds,e :: es,hd,he=>by
  rw[Jw,Xx]at hd he
  rw[VF,Xx,Zka d e hd.1 he.1,Zfo ds es hd.2 he.2,List.cons.injEq]
end
theorem Zyf{d e:Xa}(h:Yr d=true)(k:Yr e=true)(q:d=e):Qx d e=true:=(Zka d e h k).mpr q
theorem Zxd{d e:Xa}(h:Yr d=true)(k:Yr e=true)(q:d≠e):Qx d e=false:=Uv.mpr λz=>q ((Zka d e h k).mp z)
noncomputable def fr(a b:Int):Xa:=.tuple [.int a,.int b]
theorem Zei{t b:Int}(hb:b≠0):0<(JT t b:Int):=by
 have:=Int.gcd_pos_of_ne_zero_right t hb
 omega
theorem Wr{t g:Int}(hg:0<g):t.fdiv g=t/g:=Int.fdiv_eq_ediv_of_nonneg t (by omega)
theorem Zc2{t g:Int}(hg:0<g)(h:g∣t):t.fdiv (-g)= -(t/g):=by
 obtain⟨k,rfl⟩:=h
 rw[Int.mul_ediv_cancel_left _ (by omega)]
 have e:g*k=(-k)*(-g):=by rw[Int.neg_mul_neg,Int.mul_comm]
 rw[e,Int.mul_fdiv_cancel _ (by omega)]
noncomputable def shr(t b:Int):Int:=if b<0 then -(JT t b:Int)else(JT t b:Int)
theorem Z01{t b:Int}(hb:b≠0):t.fdiv (shr t b)=(Qn t b).num:=by
 have hg:=Zei (t:=t) hb
 have hd:(JT t b:Int)∣t:=Int.gcd_dvd_left ..
 rw[Rat.num_divInt,Int.gcd_comm b t]
 unfold shr
 by_cases h:b<0
 ·rw[if_pos h,Zc2 hg hd,Int.sign_eq_neg_one_of_neg h,Int.neg_one_mul,Int.neg_ediv_of_dvd hd]
 ·rw[if_neg h,Wr hg,Int.sign_eq_one_of_pos (by omega),Int.one_mul]
theorem Zzj{t b:Int}(hb:b≠0):b.fdiv (shr t b)=((Qn t b).den:Int):=by
 have hg:=Zei (t:=t) hb
 have hd:(JT t b:Int)∣b:=Int.gcd_dvd_right ..
 rw[Rat.den_divInt,if_neg hb,Int.gcd_comm b t]
 unfold shr
 by_cases h:b<0
 ·have e:(b.natAbs:Int)= -b:=by omega
  rw[if_pos h,Zc2 hg hd,Int.natCast_ediv,e,Int.neg_ediv_of_dvd hd]
 ·have e:(b.natAbs:Int)=b:=by omega
  rw[if_neg h,Wr hg,Int.natCast_ediv,e]
theorem Zyk{t b:Int}(hb:b≠0):shr t b≠0:=by
 have hg:=Zei (t:=t) hb
 unfold shr
 split<;>omega
theorem Zxk{n:Nat}{t b:Int}(hb:b≠0)(h:Bt n b):Bt n (shr t b):=by
 have h1:Bt n (JT t b:Int):=by
  refine Bt.of_le h ?_
  have:=Int.gcd_le_natAbs_right t hb
  omega
 unfold shr
 split
 ·exact h1.neg
 ·exact h1
theorem Z4r{n:Nat}{t b:Int}(hb:b≠0)(h:Bt n t):Bt n (Qn t b).num:=by
 rw[Rat.num_divInt]
 refine Bt.of_le h ?_
 refine QK (Ut _ _) ?_
 rw[Int.natAbs_mul]
 have:b.sign.natAbs≤1:=by
  rw[Int.natAbs_sign]
  split<;>omega
 calc b.sign.natAbs*t.natAbs≤1*t.natAbs:=Nat.mul_le_mul_right _ this
  _=t.natAbs:=Nat.one_mul _
theorem Zsl(q:Rat):(q.den:Int)≠0:=by
 have:=q.den_pos
 omega
theorem Zj5(q:Rat):(0:Int)<(q.den:Int):=by
 have:=q.den_pos
 omega
noncomputable def frD(q:Rat):Xa:=fr q.num (q.den:Int)
noncomputable def BQ(n:Nat)(q:Rat):Prop:=Bt n q.num∧Bt n (q.den:Int)
section
variable {X:Cx}{K:Xb}{a b o e:Expr}{ta tb tl to:TE}{pos:Pos}
theorem Zvu(hK:X.K=K):IxR X (Z66 K):=hK▸Zqv
theorem Zmz(hK:X.K=K):IxR X (rIx K):=hK▸Z2t
theorem Zw4(hK:X.K=K):SlR X (Z98 K):=hK▸Z08
noncomputable def Z9w(K:Xb):List V->Hp->VK->Prop:=λxs H Q=>∃p ys,xs=[.ref p]∧(SqL K H p ys∨SqT K H p ys)∧Q (.int ys.length) H
theorem Zcz(hK:X.K=K):Zcq X (.builtin "len") (Z9w K):=by subst hK;exact Zk7
noncomputable def Ztb(K:Xb):List V->Hp->VK->Prop:=λxs H Q=>∃p ys,xs=[.ref p]∧(SqL K H p ys∨SqT K H p ys)∧∀l,H l=none->Q (.ref l) (upd H l (.lst ys))
theorem Ze4(hK:X.K=K):Zcq X (.type "list") (Ztb K):=by subst hK;exact Zk2
noncomputable def Ya5(K:Xb)(ta:TE):TT:=λσ H Q=>ta σ H λx H'=>∃k,Z84 K x H' k∧Q k H'
theorem Z1t(hK:X.K=K)(ha:PE X a ta)(he:∀whole,isTrue a X.env whole=(do let v←whole;standAt a.pos;holding [v] (truthy v))):PT X a (Ya5 K ta):=by subst hK;exact Zwe ha he
theorem Zw1{tg l:Expr}(hK:X.K=K)(hl:PE X l tl):PI X tg l (Z2l K tl):=by subst hK;exact Zq2 hl
theorem Zyh(hK:X.K=K):OpR X (Vo .In) (rIn K false):=by subst hK;exact Zum
end
theorem Z3{H:Hp}{p:Addr}(h:H p=none)(o:HO):Same H (upd H p o):=λb u q=>by rw[Zr (Yx q h)];exact q
noncomputable def But(p:Addr)(H H':Hp):Prop:=∀b o,b≠p->H b=some o->H' b=some o
theorem But.upd(p:Addr)(H:Hp)(o:HO):But p H (upd H p o):=λb u n e=>by rw[Zr n];exact e
namespace B
theorem boot_abs:Qg "abs"=some (.builtin "abs"):=by decide +kernel
theorem boot_len:Qg "len"=some (.builtin "len"):=by decide +kernel
theorem boot_isinstance:Qg "isinstance"=some (.builtin "isinstance"):=by decide +kernel
theorem boot_sorted:Qg "sorted"=some (.builtin "sorted"):=by decide +kernel
theorem boot_int:Qg "int"=some (.type "int"):=by decide +kernel
theorem boot_bool:Qg "bool"=some (.type "bool"):=by decide +kernel
theorem boot_str:Qg "str"=some (.type "str"):=by decide +kernel
theorem boot_list:Qg "list"=some (.type "list"):=by decide +kernel
theorem boot_tuple:Qg "tuple"=some (.type "tuple"):=by decide +kernel
theorem boot_range:Qg "range"=some (.type "range"):=by decide +kernel
theorem boot_zip:Qg "zip"=some (.type "zip"):=by decide +kernel
end B
theorem Zem{a b:Int}(hb:0<b):a.fmod b=a%b:=Int.fmod_eq_emod_of_nonneg a (by omega)
theorem Zww{x y:Int}(hx:0≤x)(hy:0<y):JT y (x.fmod y)=JT x y:=by
 rw[Zem hy,Int.gcd_comm x y]
 have e:=Int.emod_add_mul_ediv x y
 conv=>rhs;rw[←e]
 rw[Int.gcd_add_mul_left_right]
theorem Z28:(2:Nat)≤Xo:=by decide
theorem Zu9(q:Rat):Qn q.num (q.den:Int)=q:=Rat.num_divInt_den q
theorem BQ.n{n:Nat}{q:Rat}(h:BQ n q):Bt n q.num:=h.1
theorem BQ.d{n:Nat}{q:Rat}(h:BQ n q):Bt n (q.den:Int):=h.2
theorem Ybh(q:Rat):(((q.den:Int)):Rat)≠0:=by
 intro z
 exact Zsl q (Rat.intCast_eq_zero_iff.mp z)
theorem Yb4(q:Rat):((q.num:Int):Rat)=q*(((q.den:Int)):Rat):=by
 have h:=Zu9 q
 rw[Rat.divInt_eq_div]at h
 have d:=Ybh q
 conv=>rhs;lhs;rw[←h]
 grind
variable {G:Xb}
noncomputable def KS(G:Xb)(a:Addr)(ns:List Int):Prop:=∃(o:Obj) (its:Array Xe) (n:Nat),G.lookup a=some o∧o.cls= .type "list"∧o.dict=none∧o.data= .seq its n∧its.size≤Xo∧Vals (ns.map V.int) its.toList
theorem KS.sq{G:Xb}{H:Hp}{a:Addr}{ns:List Int}(h:KS G a ns):SqL G H a (ns.map V.int):=.inr h
noncomputable def exD(x:Str):Xa:=.dict [(.str x,.none)]
noncomputable def fnD(x:Str):Xa:=.dict [(.str x,.bool true)]
noncomputable def Zgv:Xa->Bool| .dict ((_,.bool _) :: _)=>true|_=>false
noncomputable def VR(G:Xb)(x:Str)(C:Addr):Prop:=Ql G XJ x=some (some (.ref C))
structure Zbz(G:Xb)(C:Addr):Prop where
 ga:BJ G (.ref C) "__getattribute__"=some (some (.builtin "BaseException.__getattribute__"))
 gt:BJ G (.ref C) "__getattr__"=some none
 cl:BJ G (.ref C) "__class__"=some (some (.builtin "object.__class__"))
 isB:Bj G (.ref C) (.type "BaseException")=some true
 isO:Bj G (.ref C) (.type "object")=some true
 isC:(PySem.W.clsIn G C).isSome=true
 k1:Qm G (.ref C) (.type "int")=some false
 k2:Qm G (.ref C) (.type "bool")=some false
 k3:Qm G (.ref C) (.type "str")=some false
 k4:Qm G (.ref C) (.type "list")=some false
 k5:Qm G (.ref C) (.type "tuple")=some false
noncomputable def ExO(C a:Addr)(h:Heap):Prop:=∃o vs,h.get? a=some o∧o.cls= .ref C∧o.data= .fields vs
inductive ImO where
 | tup (xs:List V)
 | ext (φ:Heap->Prop)
noncomputable def ImO.ho:ImO->HO
 | .tup xs=>.tup xs
 | .ext φ=>.ext φ
inductive MuO where
 | lst (xs:List V)
 | dK (kvs:List (Key×V))
 | dT (kvs:List (List Key×V))
noncomputable def MuO.ho:MuO->HO
 | .lst xs=>.lst xs
 | .dK kvs=>.dK kvs
 | .dT kvs=>.dT kvs
noncomputable def Z93:Key->Xa
 | .inl i=>.int i
 | .inr x=>.str x
noncomputable def Ycf(ks:List Key):Xa:=.tuple (ks.map Z93)
noncomputable abbrev KY:=Sum Key (List Key)
noncomputable def kyD:KY->Xa
 | .inl k=>Z93 k
 | .inr ks=>Ycf ks
noncomputable def MuO.dic(t:Bool)(ks:List KY)(xs:List V):MuO->Prop
 | .lst _=>False
 | .dK kvs=>t=false∧ks=kvs.map (λp=>.inl p.1)∧xs=kvs.map (·.2)
 | .dT kvs=>t=true∧ks=kvs.map (λp=>.inr p.1)∧xs=kvs.map (·.2)
noncomputable def dcD(t:Bool)(ks:List KY)(ds:List Xa):Xa:=.dict ((.none,.bool t) :: (ks.map kyD).zip ds)
theorem ImO.nm{H:Hp}{a:Addr}{x:ImO}{y:MuO}(h:H a=some x.ho)(h':H a=some y.ho):False:=by
 rw[h]at h'
 cases x<;>cases y<;>cases h'
theorem ImO.nl{H:Hp}{a:Addr}{x:ImO}{ys:List V}(h:H a=some x.ho)(h':H a=some (.lst ys)):False:=by
 rw[h]at h'
 cases x<;>cases h'
mutual
inductive Da(G:Xb)(H:Hp)(L:Addr->Prop):V->Xa->Prop where
 | non:Da G H L .non .none
 | bl (b:Bool):Da G H L (.bl b) (.bool b)
 | int (i:Int):Da G H L (.int i) (.int i)
 | str (x:Str):Da G H L (.str x) (.str x)
 | lst {a:Addr} {xs:List V} {ds:List Xa}:L a->Rd H a (.lst xs)->Das G H L xs ds->Da G H L (.ref a) (.list ds)
 | tup {a:Addr} {xs:List V} {ds:List Xa}:H a=some (.tup xs)->Das G H L xs ds->Da G H L (.ref a) (.tuple ds)
 | scr {a:Addr} {ns:List Int}:KS G a ns->Da G H L (.ref a) (.list (ns.map Xj))
 | exc {a C:Addr} {x:Str}:Zbz G C->VR G x C->H a=some (.ext (ExO C a))->Da G H L (.ref a) (exD x)
 | fn {a:Addr} {x:Str}:VR G x a->Da G H L (.ref a) (fnD x)
 | dic {a:Addr} {o:MuO} {t:Bool} {ks:List KY} {xs:List V} {ds:List Xa}:L a->Rd H a o.ho->o.dic t ks xs->Das G H L xs ds->Da G H L (.ref a) (dcD t ks ds)
inductive Das(G:Xb)(H:Hp)(L:Addr->Prop):List V->List Xa->Prop where
 | nil:Das G H L [] []
 | cons {x:V} {xs:List V} {d:Xa} {ds:List Xa}:Da G H L x d->Das G H L xs ds->Das G H L (x :: xs) (d :: ds)
end
section
variable {H H':Hp}{L L':Addr->Prop}
theorem Da.both{P:V->Xa->Prop}{Q:List V->List Xa->Prop}(c1:P .non .none)(c2:∀b,P (.bl b) (.bool b))(c3:∀i,P (.int i) (.int i))(c4:∀x,P (.str x) (.str x))
  (c5:∀{a:Addr} {xs:List V} {ds:List Xa},L a->Rd H a (.lst xs)->Q xs ds->P (.ref a) (.list ds)) (c6:∀{a:Addr} {xs:List V} {ds:List Xa},H a=some (.tup xs)->Q xs ds->P (.ref a) (.tuple ds))
  (c7:∀{a:Addr} {ns:List Int},KS G a ns->P (.ref a) (.list (ns.map Xj))) (c8:∀{a C:Addr} {x:Str},Zbz G C->VR G x C->H a=some (.ext (ExO C a))->P (.ref a) (exD x)) (c9:∀{a:Addr} {x:Str},VR G x a->P (.ref a) (fnD x))
  (c10:∀{a:Addr} {o:MuO} {t:Bool} {ks:List KY} {xs:List V} {ds:List Xa},L a->Rd H a o.ho->o.dic t ks xs->Q xs ds->P (.ref a) (dcD t ks ds)) (n:Q [] []) (c:∀{x:V} {xs:List V} {d:Xa} {ds:List Xa},P x d->Q xs ds->Q (x :: xs) (d :: ds)):(∀{v d},Da G H L v d->P v d)∧∀{xs ds},Das G H L xs ds->Q xs ds :=
 ⟨λh=>Da.rec (motive_1:=λv d _=>P v d) (motive_2:=λxs ds _=>Q xs ds) c1 c2 c3 c4 (λp e _ r=>c5 p e r) (λe _ r=>c6 e r) (λk=>c7 k) (λk l m=>c8 k l m) (λk=>c9 k) (λp e k _ r=>c10 p e k r) n (λ_ _ p q=>c p q) h,
   λh=>Das.rec (motive_1:=λv d _=>P v d) (motive_2:=λxs ds _=>Q xs ds) c1 c2 c3 c4 (λp e _ r=>c5 p e r) (λe _ r=>c6 e r) (λk=>c7 k) (λk l m=>c8 k l m) (λk=>c9 k) (λp e k _ r=>c10 p e k r) n (λ_ _ p q=>c p q) h⟩
theorem Das.ind{Q:List V->List Xa->Prop}(n:Q [] [])(c:∀{x:V} {xs:List V} {d:Xa} {ds:List Xa},Da G H L x d->Das G H L xs ds->Q xs ds->Q (x :: xs) (d :: ds)):∀{xs ds},Das G H L xs ds->Q xs ds:=λh=>
 Das.rec (motive_1:=λ_ _ _=>True) (motive_2:=λxs ds _=>Q xs ds) trivial (λ_=>trivial) (λ_=>trivial) (λ_=>trivial) (λ_ _ _ _=>trivial) (λ_ _ _=>trivial) (λ_=>trivial) (λ_ _ _=>trivial) (λ_=>trivial) (λ_ _ _ _ _=>trivial) n (λp q _ r=>c p q r) h
theorem Da.frame2(hl:∀a (xs:MuO),L a->Rd H a xs.ho->L' a∧Rd H' a xs.ho)(ht:∀a (xs:ImO),H a=some xs.ho->H' a=some xs.ho):(∀{v:V} {d:Xa},Da G H L v d->Da G H' L' v d)∧∀{xs:List V} {ds:List Xa},Das G H L xs ds->Das G H' L' xs ds :=
 Da.both .non .bl .int .str (fun{_ xs _} p e r=>.lst (hl _ (.lst xs) p e).1 (hl _ (.lst xs) p e).2 r) (fun{_ xs _} e r=>.tup (ht _ (.tup xs) e) r) .scr (λc n e=>.exc c n (ht _ (.ext _) e)) .fn (λp e k r=>.dic (hl _ _ p e).1 (hl _ _ p e).2 k r) .nil .cons
theorem Da.frame(hl:∀a (xs:MuO),L a->Rd H a xs.ho->L' a∧Rd H' a xs.ho)(ht:∀a (xs:ImO),H a=some xs.ho->H' a=some xs.ho){v:V}{d:Xa}(h:Da G H L v d):Da G H' L' v d:=(Da.frame2 hl ht).1 h
theorem Das.frame(hl:∀a (xs:MuO),L a->Rd H a xs.ho->L' a∧Rd H' a xs.ho)(ht:∀a (xs:ImO),H a=some xs.ho->H' a=some xs.ho){xs:List V}{ds:List Xa}(h:Das G H L xs ds):Das G H' L' xs ds:=(Da.frame2 hl ht).2 h
theorem Rd.same{a:Addr}{u:HO}(s:Same H H')(h:Rd H a u):Rd H' a u:=h.imp (s _ _) λ⟨o,h⟩=>⟨o,s _ _ h⟩
theorem Rd.some{a:Addr}{u:HO}(h:Rd H a u):H a≠Option.none:=by
 rcases h with h|⟨o,h⟩<;>rw[h]<;>intro z<;>cases z
theorem Da.same(h:Same H H'){v:V}{d:Xa}(x:Da G H L v d):Da G H' L v d:=x.frame (λa xs p e=>⟨p,e.same h⟩) λa xs e=>h _ _ e
theorem Das.same(h:Same H H'){v:List V}{d:List Xa}(x:Das G H L v d):Das G H' L v d:=x.frame (λa xs p e=>⟨p,e.same h⟩) λa xs e=>h _ _ e
theorem Da.wide(h:∀a,L a->H a≠none->L' a){v:V}{d:Xa}(x:Da G H L v d):Da G H L' v d:=x.frame (λa xs p e=>⟨h a p e.some,e⟩) λa xs e=>e
theorem Das.wide(h:∀a,L a->H a≠none->L' a){v:List V}{d:List Xa}(x:Das G H L v d):Das G H L' v d:=x.frame (λa xs p e=>⟨h a p e.some,e⟩) λa xs e=>e
theorem Das.length{xs:List V}{ds:List Xa}(h:Das G H L xs ds):xs.length=ds.length:=Das.ind (Q:=λxs ds=>xs.length=ds.length) rfl (λ_ _ r=>congrArg (·+1) r) h
theorem Das.append{xs ys:List V}{ds es:List Xa}(h:Das G H L xs ds)(k:Das G H L ys es):Das G H L (xs ++ ys) (ds ++ es):=Das.ind (Q:=λxs ds=>Das G H L (xs ++ ys) (ds ++ es)) k (λh _ r=>.cons h r) h
theorem Das.get{xs:List V}{ds:List Xa}{i:Nat}{d:Xa}(h:Das G H L xs ds):ds[i]? =some d->∃x,xs[i]? =some x∧Da G H L x d :=
 Das.ind (Q:=λxs ds=>∀i,ds[i]? =some d->∃x,xs[i]? =some x∧Da G H L x d) (λ_ e=>(Option.some_ne_none _ (e.symm.trans Ur)).elim) (fun{x _ _ _} h _ r i=>Nat.casesOn i (λe=>⟨x,rfl,QC e▸h⟩) λi e=>r i e) h i
theorem Das.get'{xs:List V}{ds:List Xa}{i:Nat}{x:V}(h:Das G H L xs ds):xs[i]? =some x->∃d,ds[i]? =some d∧Da G H L x d :=
 Das.ind (Q:=λxs ds=>∀i,xs[i]? =some x->∃d,ds[i]? =some d∧Da G H L x d) (λ_ e=>(Option.some_ne_none _ (e.symm.trans Ur)).elim) (fun{_ _ d _} h _ r i=>Nat.casesOn i (λe=>⟨d,rfl,QC e▸h⟩) λi e=>r i e) h i
theorem Das.take{xs:List V}{ds:List Xa}(n:Nat)(h:Das G H L xs ds):Das G H L (xs.take n) (ds.take n) :=
 Das.ind (Q:=λxs ds=>∀n,Das G H L (xs.take n) (ds.take n)) (λn=>by rw[List.take_nil,List.take_nil];exact .nil) (λh _ r n=>Nat.casesOn n .nil λn=>.cons h (r n)) h n
theorem Das.drop{xs:List V}{ds:List Xa}(n:Nat)(h:Das G H L xs ds):Das G H L (xs.drop n) (ds.drop n) :=
 Das.ind (Q:=λxs ds=>∀n,Das G H L (xs.drop n) (ds.drop n)) (λn=>by rw[List.drop_nil,List.drop_nil];exact .nil) (λh q r n=>Nat.casesOn n (.cons h q) λn=>r n) h n
theorem Das.ints(ns:List Int):Das G H L (ns.map V.int) (ns.map Xj):=by
 induction ns with
 | nil=>exact .nil
 | cons n ns ih=>exact .cons (.int n) ih
theorem Das.int_inv{xs:List V}{ns:List Int}(h:Das G H L xs (ns.map Xj)):xs=ns.map V.int:=by
 induction ns generalizing xs with
 | nil=>cases h;rfl
 | cons n ns ih=>
  rw[XF]at h
  cases h with
  | cons h r=>cases h;rw[ih r];rfl
end
theorem Zqf{h:Heap}(ns:List Int){us:List Xe}(v:Vals (ns.map V.int) us):∃as,ReadsAll h us (ns.map Xj) as:=by
 induction ns generalizing us with
 | nil=>cases v;exact⟨_,.nil⟩
 | cons n ns ih=>
  rw[XF]at v
  cases v with
  | cons r rs=>
   obtain⟨t,e⟩:=(show∃t,_=UJ n t from r)
   subst e
   obtain⟨bs,k'⟩:=ih rs
   exact⟨_,.cons (.int n t) k'⟩
section
variable {X:Cx}{pins:List (Addr×Obj)}{σ:St}{H:Hp}{s:Xf}{L L':Addr->Prop}
theorem Da.reads2(hG:X.K=G)(I:Inv X pins σ H s):(∀{v:V} {d:Xa},Da G H L v d->∀u,RelV v u->d.canLay0=true->∃as,Reads s.heap u d as)∧∀{xs:List V} {ds:List Xa},Das G H L xs ds->∀us,Vals xs us->JH ds=true->∃as,ReadsAll s.heap us ds as:=by
 refine Da.both ?_ ?_ ?_ ?_ ?_ ?_ ?_ ?_ ?_ ?_ ?_ ?_
 ·intro u r _
  cases(show _=Q5 from r)
  exact⟨_,.none⟩
 ·intro b u r _
  cases(show _=Value.bool b from r)
  exact⟨_,.bool b⟩
 ·intro i u r _
  obtain⟨t,e⟩:=(show∃t,_=UJ i t from r)
  subst e
  exact⟨_,.int i t⟩
 ·intro x u r _
  obtain⟨t,e⟩:=(show∃t,_=Value.str x t from r)
  subst e
  exact⟨_,.str x t⟩
 ·intro a xs ds _ e q u r hcl
  cases(show _=QB a from r)
  obtain⟨_,its,n,vs,h1⟩:=(show ObjOk X.prog X.w H s.heap a (.lst xs)from e.ok I.hok)
  rw[Bf]at hcl
  obtain⟨as,k⟩:=q _ vs hcl
  exact⟨_,Reads.list h1 rfl rfl k⟩
 ·intro a xs ds e q u r hcl
  cases(show _=QB a from r)
  obtain⟨_,its,vs,o,ho,hc,n,hd⟩:=(show ObjOk X.prog X.w H s.heap a (.tup xs)from I.hok a _ e)
  rw[Bf]at hcl
  obtain⟨as,k⟩:=q _ vs hcl
  exact⟨_,Reads.tuple ho hc hd k⟩
 ·intro a ns k u r _
  cases(show _=QB a from r)
  subst hG
  obtain⟨its,vs,⟨o,n,ho,hc,hd,hs⟩,_⟩:=I.list (k.sq (H:=H))
  obtain⟨as,q⟩:=Zqf ns vs
  exact⟨_,Reads.list ho hc hs q⟩
 ·intro a C x _ _ e u r hc
  rw[exD,Bf]at hc
  cases hc
 ·intro a x _ u r hc
  rw[fnD,Bf]at hc
  cases hc
 ·intro a o t ks xs ds _ _ _ _ u r hc
  rw[dcD,Bf]at hc
  cases hc
 ·intro us v _
  cases v
  exact⟨_,.nil⟩
 ·intro x xs d ds h q us v hc
  cases v with
  | cons r rs=>
   rw[JH,Xx]at hc
   obtain⟨as,k⟩:=h _ r hc.1
   obtain⟨bs,k'⟩:=q _ rs hc.2
   exact⟨_,.cons k k'⟩
theorem Da.reads(hG:X.K=G)(I:Inv X pins σ H s){v:V}{d:Xa}{u:Xe}(h:Da G H L v d)(r:RelV v u)(c:d.canLay0=true):∃as,Reads s.heap u d as:=(Da.reads2 hG I).1 h u r c
theorem Das.reads(hG:X.K=G)(I:Inv X pins σ H s){xs:List V}{ds:List Xa}{us:List Xe}(h:Das G H L xs ds)(r:Vals xs us)(c:JH ds=true):∃as,ReadsAll s.heap us ds as:=(Da.reads2 hG I).2 h us r c
end
inductive OT where
 | fz (d:Xa)
 | nd (ts:List OT)
 | tp (ts:List OT)
 | dc (t:Bool) (ks:List KY) (ds:List Xa)
mutual
noncomputable def OT.data:OT->Xa
 | .fz d=>d
 | .nd ts=>.list (OT.datas ts)
 | .tp ts=>.tuple (OT.datas ts)
 | .dc t ks ds=>dcD t ks ds
noncomputable def OT.datas:List OT->List Xa
 | []=>[]
 | t :: ts=>t.data :: OT.datas ts
end
theorem OT.datas_map:∀(ts:List OT),OT.datas ts=ts.map OT.data
 | []=>rfl
 | t :: ts=>by rw[OT.datas,OT.datas_map ts];rfl
@[simp] theorem OT.data_fz(d:Xa):(OT.fz d).data=d:=by rw[OT.data]
@[simp] theorem OT.data_nd(ts:List OT):(OT.nd ts).data= .list (ts.map OT.data):=by rw[OT.data,OT.datas_map]
@[simp] theorem OT.data_tp(ts:List OT):(OT.tp ts).data= .tuple (ts.map OT.data):=by rw[OT.data,OT.datas_map]
theorem OT.data_dc(t:Bool)(ks:List KY)(ds:List Xa):(OT.dc t ks ds).data=dcD t ks ds:=by rw[OT.data]
@[simp] theorem OT.map_fz(ds:List Xa):(ds.map OT.fz).map OT.data=ds:=by
 rw[XN]
 exact(Xw λd _=>OT.data_fz d).trans (List.map_id _)
mutual
inductive Own(G:Xb)(H:Hp)(L:Addr->Prop):V->OT->List Addr->Prop where
 | fz {v:V} {d:Xa}:Da G H L v d->Own G H L v (.fz d) []
 | nd {a:Addr} {xs:List V} {ts:List OT} {bs:List Addr}:H a=some (.lst xs)->Owns G H L xs ts bs->Own G H L (.ref a) (.nd ts) (a :: bs)
 | tp {a:Addr} {xs:List V} {ts:List OT} {bs:List Addr}:H a=some (.tup xs)->Owns G H L xs ts bs->Own G H L (.ref a) (.tp ts) bs
 | dc {a:Addr} {o:MuO} {t:Bool} {ks:List KY} {xs:List V} {ds:List Xa}:H a=some o.ho->o.dic t ks xs->Das G H L xs ds->Own G H L (.ref a) (.dc t ks ds) [a]
inductive Owns(G:Xb)(H:Hp)(L:Addr->Prop):List V->List OT->List Addr->Prop where
 | nil:Owns G H L [] [] []
 | cons {x:V} {xs:List V} {t:OT} {ts:List OT} {as bs:List Addr}:Own G H L x t as->Owns G H L xs ts bs->Owns G H L (x :: xs) (t :: ts) (as ++ bs)
end
section
variable {H H':Hp}{L L':Addr->Prop}
theorem Own.both{P:V->OT->List Addr->Prop}{Q:List V->List OT->List Addr->Prop}(c1:∀{v:V} {d:Xa},Da G H L v d->P v (.fz d) [])(c2:∀{a:Addr} {xs:List V} {ts:List OT} {bs:List Addr},H a=some (.lst xs)->Q xs ts bs->P (.ref a) (.nd ts) (a :: bs))
  (c3:∀{a:Addr} {xs:List V} {ts:List OT} {bs:List Addr},H a=some (.tup xs)->Q xs ts bs->P (.ref a) (.tp ts) bs) (c4:∀{a:Addr} {o:MuO} {t:Bool} {ks:List KY} {xs:List V} {ds:List Xa},H a=some o.ho->o.dic t ks xs->Das G H L xs ds->P (.ref a) (.dc t ks ds) [a]) (n:Q [] [] []) (c:∀{x:V} {xs:List V} {t:OT} {ts:List OT} {as bs:List Addr},P x t as->Q xs ts bs->Q (x :: xs) (t :: ts) (as ++ bs)) :
  (∀ {v t as},Own G H L v t as->P v t as)∧∀{xs ts as},Owns G H L xs ts as->Q xs ts as :=
 ⟨λh=>Own.rec (motive_1:=λv t as _=>P v t as) (motive_2:=λxs ts as _=>Q xs ts as) c1 (λe _ r=>c2 e r) (λe _ r=>c3 e r) (λe k r=>c4 e k r) n (λ_ _ p q=>c p q) h,
   λh=>Owns.rec (motive_1:=λv t as _=>P v t as) (motive_2:=λxs ts as _=>Q xs ts as) c1 (λe _ r=>c2 e r) (λe _ r=>c3 e r) (λe k r=>c4 e k r) n (λ_ _ p q=>c p q) h⟩
theorem Own.frame2(hl:∀a (xs:MuO),L a->Rd H a xs.ho->L' a∧Rd H' a xs.ho)(ht:∀a (xs:ImO),H a=some xs.ho->H' a=some xs.ho) :
  (∀ {v:V} {t:OT} {as:List Addr},Own G H L v t as->(∀a∈as,∀xs:MuO,H a=some xs.ho->H' a=some xs.ho)->Own G H' L' v t as)∧∀{xs:List V} {ts:List OT} {as:List Addr},Owns G H L xs ts as->(∀a∈as,∀xs:MuO,H a=some xs.ho->H' a=some xs.ho)->Owns G H' L' xs ts as :=
 Own.both (λh _=>.fz (h.frame hl ht)) (fun{_ xs _ _} e r ha=>.nd (ha _ (.head _) (.lst xs) e) (r λa m=>ha a (.tail _ m))) (fun{_ xs _ _} e r ha=>.tp (ht _ (.tup xs) e) (r ha)) (λe k r ha=>.dc (ha _ (.head _) _ e) k (r.frame hl ht)) (λ_=>.nil) (λh r ha=>.cons (h λa m=>ha a (Bg _ m)) (r λa m=>ha a (XQ _ m)))
theorem Own.frame(hl:∀a (xs:MuO),L a->Rd H a xs.ho->L' a∧Rd H' a xs.ho)(ht:∀a (xs:ImO),H a=some xs.ho->H' a=some xs.ho){v:V}{t:OT}{as:List Addr}(ha:∀a∈as,∀xs:MuO,H a=some xs.ho->H' a=some xs.ho)(h:Own G H L v t as):Own G H' L' v t as:=(Own.frame2 hl ht).1 h ha
theorem Owns.frame(hl:∀a (xs:MuO),L a->Rd H a xs.ho->L' a∧Rd H' a xs.ho)(ht:∀a (xs:ImO),H a=some xs.ho->H' a=some xs.ho){xs:List V}{ts:List OT}{as:List Addr}(ha:∀a∈as,∀xs:MuO,H a=some xs.ho->H' a=some xs.ho)(h:Owns G H L xs ts as):Owns G H' L' xs ts as:=(Own.frame2 hl ht).2 h ha
theorem Own.same(h:Same H H'){v:V}{t:OT}{as:List Addr}(x:Own G H L v t as):Own G H' L v t as:=x.frame (λa xs p e=>⟨p,e.same h⟩) (λa xs e=>h _ _ e) λa _ xs e=>h _ _ e
theorem Own.wide(h:∀a,L a->H a≠none->L' a){v:V}{t:OT}{as:List Addr}(x:Own G H L v t as):Own G H L' v t as:=x.frame (λa xs p e=>⟨h a p e.some,e⟩) (λa xs e=>e) λa _ xs e=>e
theorem Owns.wide(h:∀a,L a->H a≠none->L' a){v:List V}{t:List OT}{as:List Addr}(x:Owns G H L v t as):Owns G H L' v t as:=x.frame (λa xs p e=>⟨h a p e.some,e⟩) (λa xs e=>e) λa _ xs e=>e
theorem Owns.same(h:Same H H'){v:List V}{t:List OT}{as:List Addr}(x:Owns G H L v t as):Owns G H' L v t as:=x.frame (λa xs p e=>⟨p,e.same h⟩) (λa xs e=>h _ _ e) λa _ xs e=>h _ _ e
theorem Own.da2(h:∀a,L a->H a≠none->L' a):(∀{v:V} {t:OT} {as:List Addr},Own G H L v t as->(∀a∈as,L' a)->Da G H L' v t.data)∧∀{v:List V} {t:List OT} {as:List Addr},Owns G H L v t as->(∀a∈as,L' a)->Das G H L' v (OT.datas t) :=
 Own.both (λk _=>by rw[OT.data_fz];exact k.wide h) (λe r ha=>by rw[OT.data];exact .lst (ha _ (.head _)) (.inl e) (r λa m=>ha a (.tail _ m))) (λe r ha=>by rw[OT.data];exact .tup e (r ha)) (λe k r ha=>by rw[OT.data];exact .dic (ha _ (.head _)) (.inl e) k (r.wide h)) (λ_=>.nil) (λk r ha=>.cons (k λa m=>ha a (Bg _ m)) (r λa m=>ha a (XQ _ m)))
theorem Own.da(h:∀a,L a->H a≠none->L' a){v:V}{t:OT}{as:List Addr}(ha:∀a∈as,L' a)(k:Own G H L v t as):Da G H L' v t.data:=(Own.da2 h).1 k ha
theorem Owns.das(h:∀a,L a->H a≠none->L' a){v:List V}{t:List OT}{as:List Addr}(ha:∀a∈as,L' a)(k:Owns G H L v t as):Das G H L' v (OT.datas t):=(Own.da2 h).2 k ha
theorem Own.some2:(∀{v:V} {t:OT} {as:List Addr},Own G H L v t as->∀a∈as,∃xs:MuO,H a=some xs.ho)∧∀{v:List V} {t:List OT} {as:List Addr},Owns G H L v t as->∀a∈as,∃xs:MuO,H a=some xs.ho :=
 Own.both (λ_ _ m=>nomatch m) (fun{_ xs _ _} e r a m=>(Xl.mp m).elim (λq=>⟨.lst xs,q▸e⟩) (r a)) (λ_ r=>r) (fun{_ o _ _ _ _} e _ _ a m=>⟨o,XH.mp m▸e⟩) (λ_ m=>nomatch m) (λk r a m=>(Qz.mp m).elim (k a) (r a))
theorem Own.some{v:V}{t:OT}{as:List Addr}(h:Own G H L v t as):∀a∈as,∃xs:MuO,H a=some xs.ho:=Own.some2.1 h
theorem Owns.some{v:List V}{t:List OT}{as:List Addr}(h:Owns G H L v t as):∀a∈as,∃xs:MuO,H a=some xs.ho:=Own.some2.2 h
theorem Owns.length{xs:List V}{ts:List OT}{as:List Addr}(h:Owns G H L xs ts as):xs.length=ts.length:=(Own.both (P:=λ_ _ _=>True) (Q:=λxs ts _=>xs.length=ts.length) (λ_=>trivial) (λ_ _=>trivial) (λ_ _=>trivial) (λ_ _ _=>trivial) rfl (λ_ r=>congrArg (·+1) r)).2 h
theorem Das.owns{xs:List V}{ds:List Xa}(h:Das G H L xs ds):Owns G H L xs (ds.map OT.fz) []:=Das.ind (Q:=λxs ds=>Owns G H L xs (ds.map OT.fz) []) .nil (λh _ r=>.cons (.fz h) r) h
end
variable {G:Xb}
noncomputable abbrev Zg:=List (Option OT)
noncomputable abbrev Fp:=Nat->List Addr
set_option genInjectivity false in
structure MC(G:Xb) where
 H₀:Hp
 as₀:Addr->Prop
 L:Addr->Prop
 σ₀:St
noncomputable def Foot(fp:Fp)(a:Addr):Prop:=∃i,a∈fp i
noncomputable def Lf(C:MC G)(fp:Fp)(ex:Addr->Prop)(a:Addr):Prop:=¬Foot fp a∧¬ex a∧(C.L a∨C.H₀ a=none)
structure Rel(C:MC G)(io:List Nat)(H:Hp)(σ:St)(δ:Zg)(fp:Fp)(ex:Addr->Prop):Prop where
 len:σ.length=δ.length
 own:∀(i:Nat) (t:OT),δ[i]? =some (some t)->∃v,σ[i]? =some (some v)∧Own G H (Lf C fp ex) v t (fp i)
 emp:∀i:Nat,(∀t,δ[i]? ≠some (some t))->fp i=[]
 nd:∀i,(fp i).Nodup
 dj:∀i j a,a∈fp i->a∈fp j->i=j
 dx:∀i a,a∈fp i->¬ex a
 xa:∀a,ex a->H a≠none
 fr:∀b o,C.H₀ b=some o->¬C.as₀ b->H b=some o
 al:∀b,H b=none->C.H₀ b=none
 new:∀i a,a∈fp i->(i∈io∧C.as₀ a)∨C.H₀ a=none
 io:∀i∈io,σ[i]? =C.σ₀[i]?
structure Stp(p:Bool)(H:Hp)(δ:Zg)(fp:Fp)(H':Hp)(δ':Zg)(fp':Fp):Prop where
 keep:∀b o,H b=some o->(p=true∨¬Foot fp b)->H' b=some o
 env:p=true->δ'=δ∧fp'=fp
 grow:∀a,Foot fp' a->Foot fp a∨H a=none
 al:∀b,H' b=none->H b=none
section
variable {C:MC G}{io:List Nat}{H H' H'':Hp}{σ:St}{δ δ' δ'':Zg}{fp fp' fp'':Fp}{ex ex':Addr->Prop}{p p' c:Bool}{v:V}{d:Xa}{r:OT}{new:List Addr}
theorem Rel.foot(R:Rel C io H σ δ fp ex){a:Addr}(h:Foot fp a):∃xs:MuO,H a=some xs.ho:=by
 obtain⟨i,h⟩:=h
 by_cases q:∃t,δ[i]? =some (some t)
 ·obtain⟨t,q⟩:=q
  obtain⟨v,_,o⟩:=R.own i t q
  exact o.some a h
 ·rw[R.emp i (λt z=>q ⟨t,z⟩)]at h
  exact nomatch h
theorem Rel.footSome(R:Rel C io H σ δ fp ex){a:Addr}(h:H a=none):¬Foot fp a:=λz=>by
 obtain⟨xs,e⟩:=R.foot z
 rw[h]at e
 cases e
theorem Stp.refl(p:Bool)(H:Hp)(δ:Zg)(fp:Fp):Stp p H δ fp H δ fp:=⟨λ_ _ h _=>h,λ_=>⟨rfl,rfl⟩,λ_ h=>.inl h,λ_ h=>h⟩
theorem Stp.same(h:Same H H')(hn:∀b,H' b=none->H b=none):Stp p H δ fp H' δ fp:=⟨λ_ _ q _=>h _ _ q,λ_=>⟨rfl,rfl⟩,λ_ h=>.inl h,hn⟩
theorem Same.al(h:Same H H'):∀b,H' b=none->H b=none:=λ_ q=>h.free q
theorem Stp.trans(a:Stp p H δ fp H' δ' fp')(b:Stp p' H' δ' fp' H'' δ'' fp''):Stp (p&&p') H δ fp H'' δ'' fp'' where
 keep:=λx o e h=>by
  rcases h with h|h
  ·rw[Xx]at h
   exact b.keep x o (a.keep x o e (.inl h.1)) (.inl h.2)
  ·refine b.keep x o (a.keep x o e (.inr h)) (.inr λz=>?_)
   rcases a.grow x z with z|z
   ·exact h z
   ·rw[e]at z;cases z
 env:=λh=>by
  rw[Xx]at h
  obtain⟨e1,e2⟩:=a.env h.1
  obtain⟨e3,e4⟩:=b.env h.2
  exact⟨e3.trans e1,e4.trans e2⟩
 grow:=λx h=>by
  rcases b.grow x h with h|h
  ·exact a.grow x h
  ·exact .inr (a.al x h)
 al:=λx h=>a.al x (b.al x h)
theorem Rel.frameL(R:Rel C io H σ δ fp ex)(S:Stp p H δ fp H' δ' fp')(hc:p=true∨c=true)(hx:∀a,ex' a->ex a∨H a=none) :
  (∀ a (xs:MuO),(c=true->Lf C fp ex a)->Rd H a xs.ho->(c=true->Lf C fp' ex' a)∧Rd H' a xs.ho)∧(∀a (xs:ImO),H a=some xs.ho->H' a=some xs.ho):=by
 have nf:∀a,Foot fp a->∃xs:MuO,H a=some xs.ho:=λa h=>R.foot h
 refine⟨λa xs l q=>⟨λhc'=>?_,?_⟩,λa xs q=>S.keep a _ q (.inr λz=>?_)⟩
 ·obtain⟨l1,l2,l3⟩:=l hc'
  refine⟨λz=>?_,λz=>?_,l3⟩
  ·rcases S.grow a z with z|z
   ·exact l1 z
   ·exact q.some z
  ·rcases hx a z with z|z
   ·exact l2 z
   ·exact q.some z
 ·have hk:p=true∨¬Foot fp a:=by
   rcases hc with h|h
   ·exact .inl h
   ·exact .inr (l h).1
  rcases q with q|⟨o,q⟩
  ·exact .inl (S.keep a _ q hk)
  ·exact .inr ⟨o,S.keep a _ q hk⟩
 ·obtain⟨ys,e⟩:=nf a z
  exact ImO.nm q e
theorem Rel.own_step(R:Rel C io H σ δ fp ex)(S:Stp p H δ fp H' δ' fp')(hc:p=true∨c=true)(hx:∀a,ex' a->ex a∨H a=none)(hn:∀a∈new,ex a)
  (x:Own G H (λa=>c=true->Lf C fp ex a) v r new):Own G H' (λa=>c=true->Lf C fp' ex' a) v r new :=
 x.frame (R.frameL S hc hx).1 (R.frameL S hc hx).2 λa m xs e=>S.keep a _ e (.inr λ⟨i,z⟩=>R.dx i a z (hn a m))
theorem Rel.owns_step(R:Rel C io H σ δ fp ex)(S:Stp p H δ fp H' δ' fp')(hc:p=true∨c=true)(hx:∀a,ex' a->ex a∨H a=none)(hn:∀a∈new,ex a){vs:List V}{rs:List OT}
  (x:Owns G H (λa=>c=true->Lf C fp ex a) vs rs new):Owns G H' (λa=>c=true->Lf C fp' ex' a) vs rs new :=
 x.frame (R.frameL S hc hx).1 (R.frameL S hc hx).2 λa m xs e=>S.keep a _ e (.inr λ⟨i,z⟩=>R.dx i a z (hn a m))
theorem Rel.drop(R:Rel C io H σ δ fp ex)(h:∀a,ex' a->ex a):Rel C io H σ δ fp ex' :=
 ⟨R.len,λi t e=>by
  obtain⟨v,e1,o⟩:=R.own i t e
  exact⟨v,e1,o.wide λa l _=>⟨l.1,λz=>l.2.1 (h a z),l.2.2⟩⟩,R.emp,R.nd,R.dj,λi a m z=>R.dx i a m (h a z),λa z=>R.xa a (h a z),R.fr,R.al,R.new,R.io⟩
theorem Rel.made(R:Rel C io H σ δ fp ex)(s:Same H H')(hn:∀a∈new,H a=none∧H' a≠none):Rel C io H' σ δ fp (λa=>ex a∨a∈new) :=
 ⟨R.len,λi t e=>by
  obtain⟨v,e1,o⟩:=R.own i t e
  refine⟨v,e1,(o.wide λa l q=>⟨l.1,λz=>?_,l.2.2⟩).same s⟩
  rcases z with z|z
  ·exact l.2.1 z
  ·exact q (hn a z).1,R.emp,R.nd,R.dj,λi a m z=>by
   rcases z with z|z
   ·exact R.dx i a m z
   ·exact R.footSome (hn a z).1 ⟨i,m⟩,λa z=>by
   rcases z with z|z
   ·intro q;exact R.xa a z (s.free q)
   ·exact(hn a z).2,λb o e n=>s _ _ (R.fr b o e n),λb q=>R.al b (s.free q),R.new,R.io⟩
end
noncomputable abbrev MEt:=Zg->(OT->Zg->Prop)->Prop
noncomputable abbrev MAt:=Zg->(List OT->Zg->Prop)->Prop
noncomputable abbrev MTt:=Zg->(Bool->Zg->Prop)->Prop
noncomputable abbrev exu(ex:Addr->Prop)(new:List Addr):Addr->Prop:=λa=>ex a∨a∈new
structure RE(C:MC G)(io:List Nat)(p c:Bool)(H:Hp)(σ:St)(δ:Zg)(fp:Fp)(ex:Addr->Prop)(H':Hp)(v:V)(r:OT)(δ':Zg)(fp':Fp)(new:List Addr):Prop where
 rel:Rel C io H' σ δ' fp' (exu ex new)
 stp:Stp p H δ fp H' δ' fp'
 own:Own G H' (λa=>c=true->Lf C fp' (exu ex new) a) v r new
 nd:new.Nodup
 fresh:∀a∈new,H a=none
structure RA(C:MC G)(io:List Nat)(p c:Bool)(H:Hp)(σ:St)(δ:Zg)(fp:Fp)(ex:Addr->Prop)(H':Hp)(v:List V)(r:List OT)(δ':Zg)(fp':Fp)(new:List Addr):Prop where
 rel:Rel C io H' σ δ' fp' (exu ex new)
 stp:Stp p H δ fp H' δ' fp'
 own:Owns G H' (λa=>c=true->Lf C fp' (exu ex new) a) v r new
 nd:new.Nodup
 fresh:∀a∈new,H a=none
noncomputable def SE(G:Xb)(io:List Nat)(p c:Bool)(t:TE)(m:MEt):Prop:=∀(C:MC G) (H:Hp) (σ:St) (δ:Zg) (fp:Fp) (ex:Addr->Prop) (K:OT->Zg->Prop) (Q:VK),Rel C io H σ δ fp ex->m δ K ->
 (∀ H' v r δ' fp' new,RE C io p c H σ δ fp ex H' v r δ' fp' new->K r δ'->Q v H')->t σ H Q
noncomputable def SA(G:Xb)(io:List Nat)(p c:Bool)(t:TA)(m:MAt):Prop:=∀(C:MC G) (H:Hp) (σ:St) (δ:Zg) (fp:Fp) (ex:Addr->Prop) (K:List OT->Zg->Prop) (Q:List V->Hp->Prop),Rel C io H σ δ fp ex->m δ K ->
 (∀ H' v r δ' fp' new,RA C io p c H σ δ fp ex H' v r δ' fp' new->K r δ'->Q v H')->t σ H Q
noncomputable def STt(G:Xb)(io:List Nat)(p:Bool)(t:TT)(m:MTt):Prop:=∀(C:MC G) (H:Hp) (σ:St) (δ:Zg) (fp:Fp) (ex:Addr->Prop) (K:Bool->Zg->Prop) (Q:Bool->Hp->Prop),Rel C io H σ δ fp ex->m δ K ->
 (∀ H' b δ' fp',Rel C io H' σ δ' fp' ex->Stp p H δ fp H' δ' fp'->K b δ'->Q b H')->t σ H Q
noncomputable def ME(X:Cx)(io:List Nat)(p c:Bool)(e:Expr)(m:MEt):Prop:=∃t,PE X e t∧SE X.K io p c t m
noncomputable def MA(X:Cx)(io:List Nat)(p c:Bool)(e:List Expr)(m:MAt):Prop:=∃t,PA X e t∧SA X.K io p c t m
noncomputable def MT(X:Cx)(io:List Nat)(p:Bool)(e:Expr)(m:MTt):Prop:=∃t,PT X e t∧STt X.K io p t m
noncomputable def MW(X:Cx)(io:List Nat)(p:Bool)(e:Expr)(m:MTt):Prop:=∃t,PW X e t∧STt X.K io p t m
section
variable {C:MC G}{io:List Nat}{H H' H'':Hp}{σ:St}{δ δ' δ'':Zg}{fp fp' fp'':Fp}{ex ex':Addr->Prop}{p p' c:Bool}{v:V}{d:Xa}{r:OT}{vs:List V}{rs:List OT}{new:List Addr}
theorem Rel.newOk(R:Rel C io H σ δ fp ex){a:Addr}(h:H a=none):¬Foot fp a∧¬ex a∧C.H₀ a=none:=⟨R.footSome h,λz=>R.xa a z h,R.al a h⟩
theorem RE.da(R:RE C io p c H σ δ fp ex H' v r δ' fp' new)(R0:Rel C io H σ δ fp ex):Da G H' (λa=>c=true->Lf C fp' ex a) v r.data:=by
 refine R.own.da (λa l _ h=>?_) (λa m _=>?_)
 ·exact⟨(l h).1,λz=>(l h).2.1 (.inl z),(l h).2.2⟩
 ·refine⟨λqz9=>?_,(R0.newOk (R.fresh a m)).2.1,.inr (R0.newOk (R.fresh a m)).2.2⟩
  obtain⟨i,z⟩:=qz9
  exact R.rel.dx i a z (.inr m)
theorem RA.das(R:RA C io p c H σ δ fp ex H' vs rs δ' fp' new)(R0:Rel C io H σ δ fp ex):Das G H' (λa=>c=true->Lf C fp' ex a) vs (OT.datas rs):=by
 refine R.own.das (λa l _ h=>?_) (λa m _=>?_)
 ·exact⟨(l h).1,λz=>(l h).2.1 (.inl z),(l h).2.2⟩
 ·refine⟨λqz9=>?_,(R0.newOk (R.fresh a m)).2.1,.inr (R0.newOk (R.fresh a m)).2.2⟩
  obtain⟨i,z⟩:=qz9
  exact R.rel.dx i a z (.inr m)
theorem RE.base(R:RE C io p c H σ δ fp ex H' v r δ' fp' new):Rel C io H' σ δ' fp' ex:=R.rel.drop λa z=>.inl z
theorem RA.base(R:RA C io p c H σ δ fp ex H' vs rs δ' fp' new):Rel C io H' σ δ' fp' ex:=R.rel.drop λa z=>.inl z
theorem Zbd{a:Addr}:exu ex [] a↔ex a:=by simp[exu]
theorem RE.fz(R:Rel C io H' σ δ' fp' ex)(S:Stp p H δ fp H' δ' fp')(h:Da G H' (λa=>c=true->Lf C fp' ex a) v d):RE C io p c H σ δ fp ex H' v (.fz d) δ' fp' [] :=
 ⟨R.drop λa z=>Zbd.mp z,S,.fz (h.wide λa l _ hc=>⟨(l hc).1,λz=>(l hc).2.1 (Zbd.mp z),(l hc).2.2⟩),.nil,λa m=>nomatch m⟩
theorem RE.tree{H1:Hp}(R0:Rel C io H σ δ fp ex)(R:Rel C io H1 σ δ' fp' ex)(S:Stp p H δ fp H1 δ' fp')(s:Same H1 H')(hn:∀a∈new,H1 a=none)(nd:new.Nodup)
  (o:Own G H' (λa=>((c=true->Lf C fp' ex a)∨H1 a=none)∧a∉new) v r new):RE C io p c H σ δ fp ex H' v r δ' fp' new:=by
 refine⟨R.made s λa m=>⟨hn a m,λz=>?_⟩,?_,o.wide λa l q hc=>?_,nd,λa m=>S.al a (hn a m)⟩
 ·obtain⟨xs,e⟩:=o.some a m
  rw[z]at e;cases e
 ·have:=S.trans (p':=true) (Stp.same (p:=true) (δ:=δ') (fp:=fp') s s.al)
  rwa[Va]at this
 ·rcases l.1 with l1|l1
  ·exact⟨(l1 hc).1,λz=>z.elim (l1 hc).2.1 l.2,(l1 hc).2.2⟩
  ·exact⟨R.footSome l1,λz=>z.elim (λz=>R.xa a z l1) l.2,.inr (R.al a l1)⟩
end
inductive ScD:V->Xa->Prop where
 | non:ScD .non .none
 | bl (b:Bool):ScD (.bl b) (.bool b)
 | int (i:Int):ScD (.int i) (.int i)
 | str (x:Str):ScD (.str x) (.str x)
theorem ScD.da{H:Hp}{L:Addr->Prop}{v:V}{d:Xa}(h:ScD v d):Da G H L v d:=by
 cases h
 ·exact .non
 ·exact .bl _
 ·exact .int _
 ·exact .str _
section
variable {X:Cx}{io:List Nat}{p p' c c':Bool}{e a b:Expr}{m ma mb:MEt}{es:List Expr}
noncomputable def Z6g(i:Nat):MEt:=λδ K=>match δ[i]? with|some (some (.fz d))=>K (.fz d) δ|_=>False
noncomputable def Z6j(i:Nat):MEt:=λδ K=>match δ[i]? with|some (some t)=>K (.fz t.data) δ|_=>False
noncomputable def mC(d:Xa):MEt:=λδ K=>K (.fz d) δ
theorem mv(i:Nat){x:Str}{pos:Pos}(hN:X.N[i]? =some x:=by rfl)(hv:Vis X.env.scope x:=by first|exact Qj rfl|exact X8 (Qj rfl)|exact X8 (X8 rfl))(hd:(x==("__debug__" : Str))=false:=by decide)
  (hcd:(x==("__classdict__" : Str))=false:=by decide):ME X io true true (.Name x pos) (Z6g i):=by
 refine⟨_,pv i hN hv hd hcd,λC H σ δ fp ex K Q R h k=>?_⟩
 unfold Z6g at h
 split at h
 ·rename_i d hd
  obtain⟨v,e,o⟩:=R.own i _ hd
  refine⟨v,e,k H v _ δ fp [] (.fz R (.refl _ _ _ _) ?_) h⟩
  generalize fp i=as at o
  cases o with
  | fz q=>exact q.wide λa l _ _=>l
 ·exact h.elim
theorem mo(i:Nat){x:Str}{pos:Pos}(hN:X.N[i]? =some x:=by rfl)(hv:Vis X.env.scope x:=by first|exact Qj rfl|exact X8 (Qj rfl)|exact X8 (X8 rfl))(hd:(x==("__debug__" : Str))=false:=by decide)
  (hcd:(x==("__classdict__" : Str))=false:=by decide):ME X io true false (.Name x pos) (Z6j i):=by
 refine⟨_,pv i hN hv hd hcd,λC H σ δ fp ex K Q R h k=>?_⟩
 unfold Z6j at h
 split at h
 ·rename_i d hd
  obtain⟨v,e,o⟩:=R.own i _ hd
  exact⟨v,e,k H v _ δ fp [] (.fz R (.refl _ _ _ _) (o.da (λa _ _ z=>(nomatch z)) λa _ z=>(nomatch z))) h⟩
 ·exact h.elim
theorem Zja{t:V}{d:Xa}(h:PE X e (tC t))(s:ScD t d):ME X io true true e (mC d) :=
 ⟨_,h,λC H σ δ fp ex K Q R h k=>k H t _ δ fp [] (.fz R (.refl _ _ _ _) s.da) h⟩
theorem Zg1{i j pos}:ME X io true true (.Constant (.int i) j pos) (mC (.int i)):=Zja Zoj (.int i)
theorem Ze7{b j pos}:ME X io true true (.Constant (.bool b) j pos) (mC (.bool b)):=Zja Z62 (.bl b)
theorem Z3y{j pos}:ME X io true true (.Constant .none j pos) (mC .none):=Zja Z20 .non
theorem Zlg{x j pos}:ME X io true true (.Constant (.str x) j pos) (mC (.str x)):=Zja Zxi (.str x)
theorem SE.two{ta tb:TE}(ha:SE G io p c ta ma)(hb:SE G io p' c' tb mb)(hc:p'=true∨c=true){C:MC G}{H:Hp}{σ:St}{δ:Zg}{fp:Fp}{ex:Addr->Prop}{K:OT->OT->Zg->Prop}{Q:V->V->Hp->Prop}
  (R:Rel C io H σ δ fp ex) (h:ma δ λx δ1=>mb δ1 λy δ2=>K x y δ2)
  (k:∀H' x y u v δ' fp',Rel C io H' σ δ' fp' ex->Stp (p&&p') H δ fp H' δ' fp'->Da G H' (λa=>(c&&c')=true->Lf C fp' ex a) x u.data->Da G H' (λa=>(c&&c')=true->Lf C fp' ex a) y v.data->K u v δ'->Q x y H') :
  ta σ H λx H1=>tb σ H1 λy H2=>Q x y H2:=by
 refine ha C H σ δ fp ex _ _ R h λH1 x u δ1 fp1 new1 r1 h1=>?_
 refine hb C H1 σ δ1 fp1 (exu ex new1) _ _ r1.rel h1 λH2 y v δ2 fp2 new2 r2 h2=>?_
 have o1:=r1.rel.own_step (ex':=exu (exu ex new1) new2) r2.stp (c:=c) hc (λa z=>z.imp id λz=>r2.fresh a z) (λa m=>.inr m) r1.own
 have R2:Rel C io H2 σ δ2 fp2 ex:=r2.rel.drop λa z=>.inl (.inl z)
 have q1:Da G H2 (λa=>c=true->Lf C fp2 ex a) x u.data:=by
  refine o1.da (λa l _ z=>?_) (λa m z=>?_)
  ·exact⟨(l z).1,λw=>(l z).2.1 (.inl (.inl w)),(l z).2.2⟩
  ·have:=R.newOk (r1.fresh a m)
   refine⟨λqz9=>?_,this.2.1,.inr this.2.2⟩
   obtain⟨i,w⟩:=qz9
   exact r2.rel.dx i a w (.inl (.inr m))
 have q2:=r2.da r1.rel
 refine k H2 x y u v δ2 fp2 R2 (r1.stp.trans r2.stp) (q1.wide λa l _ z=>l (by rw[Xx]at z;exact z.1)) (q2.wide λa l _ z=>?_) h2
 have l:=l (by rw[Xx]at z;exact z.2)
 exact⟨l.1,λw=>l.2.1 (.inl w),l.2.2⟩
noncomputable def P2s(G:Xb)(r:R2)(rp:Xa->Xa->(Xa->Prop)->Prop):Prop:=∀(H:Hp) (L:Addr->Prop) (x y:V) (d e:Xa) (k:Xa->Prop) (Q:VK),Da G H L x d->Da G H L y e->rp d e k->(∀v d',ScD v d'->k d'->Q v H)->r x y H Q
noncomputable def P2(G:Xb)(r:R2)(rp:Xa->Xa->(OT->Prop)->Prop):Prop:=∀(H:Hp) (L:Addr->Prop) (x y:V) (d e:Xa) (k:OT->Prop) (Q:VK),Da G H L x d->Da G H L y e->rp d e k ->
 (∀ H' v o new,Same H H'->Own G H' (λa=>(L a∨H a=none)∧a∉new) v o new->new.Nodup->(∀a∈new,H a=none)->k o->Q v H')->r x y H Q
noncomputable def Zmt(rp:Xa->Xa->(Xa->Prop)->Prop)(ma mb:MEt):MEt:=λδ K=>ma δ λx δ1=>mb δ1 λy δ2=>rp x.data y.data λd=>K (.fz d) δ2
noncomputable def Z55(rp:Xa->Xa->(OT->Prop)->Prop)(ma mb:MEt):MEt:=λδ K=>ma δ λx δ1=>mb δ1 λy δ2=>rp x.data y.data λd=>K d δ2
theorem Z0f{r:R2}{rp}{ta tb:TE}(P:P2s G r rp)(ha:SE G io p c ta ma)(hb:SE G io p' c' tb mb)(hc:p'=true∨c=true):SE G io (p&&p') true (tOp r ta tb) (Zmt rp ma mb):=by
 intro C H σ δ fp ex K Q R h k
 refine SE.two (K:=λx y δ2=>rp x.data y.data λd=>K (.fz d) δ2) (Q:=λx y H2=>r x y H2 Q) ha hb hc R h λH' x y u v δ' fp' R' S q1 q2 h'=>?_
 exact P H' _ x y _ _ _ _ q1 q2 h' λw d' sc h''=>k H' w _ δ' fp' [] (.fz R' S sc.da) h''
theorem Z9i{r:R2}{rp}{ta tb:TE}(P:P2 G r rp)(ha:SE G io p c ta ma)(hb:SE G io p' c' tb mb)(hc:p'=true∨c=true):SE G io (p&&p') (c&&c') (tOp r ta tb) (Z55 rp ma mb):=by
 intro C H σ δ fp ex K Q R h k
 refine SE.two (K:=λx y δ2=>rp x.data y.data λd=>K d δ2) (Q:=λx y H2=>r x y H2 Q) ha hb hc R h λH' x y u v δ' fp' R' S q1 q2 h'=>?_
 exact P H' _ x y _ _ _ _ q1 q2 h' λH2 w o new s ow nd hn h''=>k H2 w o δ' fp' new (RE.tree R R' S s hn nd ow) h''
theorem Zkf{op:Operator}{r:R2}{rp}{pos:Pos}(ho:OpR X (Vs op) r)(P:P2s X.K r rp)(ha:ME X io p c a ma)(hb:ME X io p' c' b mb)(hc:p'=true∨c=true:=by first|exact Qj rfl|exact X8 rfl):ME X io (p&&p') true (.BinOp a op b pos) (Zmt rp ma mb):=by
 obtain⟨_,A,sa⟩:=ha
 obtain⟨_,B,sb⟩:=hb
 exact⟨_,Z1u ho A B,Z0f P sa sb hc⟩
theorem Zkq{op:Operator}{r:R2}{rp}{pos:Pos}(ho:OpR X (Vs op) r)(P:P2 X.K r rp)(ha:ME X io p c a ma)(hb:ME X io p' c' b mb)(hc:p'=true∨c=true:=by first|exact Qj rfl|exact X8 rfl):ME X io (p&&p') (c&&c') (.BinOp a op b pos) (Z55 rp ma mb):=by
 obtain⟨_,A,sa⟩:=ha
 obtain⟨_,B,sb⟩:=hb
 exact⟨_,Z1u ho A B,Z9i P sa sb hc⟩
theorem Znm{op:CmpOp}{r:R2}{rp}{pos:Pos}(ho:OpR X (Vo op) r)(P:P2s X.K r rp)(ha:ME X io p c a ma)(hb:ME X io p' c' b mb)(hc:p'=true∨c=true:=by first|exact Qj rfl|exact X8 rfl)(hm:V5 op b=false):ME X io (p&&p') true (.Compare a [op] [b] pos) (Zmt rp ma mb):=by
 obtain⟨_,A,sa⟩:=ha
 obtain⟨_,B,sb⟩:=hb
 exact⟨_,Z0q ho A B hm,Z0f P sa sb hc⟩
theorem Ybf{r:R2}{rp}{pos:Pos}(ho:IxR X r)(P:P2 X.K r rp)(ha:ME X io p c a ma)(hb:ME X io p' c' b mb)(hc:p'=true∨c=true:=by first|exact Qj rfl|exact X8 rfl)(hs:Zjp b):ME X io (p&&p') (c&&c') (.Subscript a b pos) (Z55 rp ma mb):=by
 obtain⟨_,A,sa⟩:=ha
 obtain⟨_,B,sb⟩:=hb
 exact⟨_,Zv4 ho A B hs,Z9i P sa sb hc⟩
noncomputable def kB(K:Bool->Zg->Prop):OT->Zg->Prop:=λo δ=>match o with| .fz (.bool b)=>K b δ|_=>False
theorem Z6x{t:TE}(h:SE G io p c t m):STt G io p (Z4u t) (λδ K=>m δ (kB K)):=by
 intro C H σ δ fp ex K Q R h' k
 refine h C H σ δ fp ex _ _ R h' λH' v r δ' fp' new r1 h1=>?_
 cases r with
 | nd ts=>exact h1.elim
 | tp ts=>exact h1.elim
 | dc _ _ _=>exact h1.elim
 | fz d=>
  cases d with
  | bool b=>
   cases r1.own with
   | fz q=>
    cases q
    exact⟨b,rfl,k H' b δ' fp' r1.base r1.stp h1⟩
  | _=>exact h1.elim
theorem Zcp{op:CmpOp}{r:R2}{rp}{pos:Pos}(ho:OpR X (Vo op) r)(P:P2s X.K r rp)(ha:ME X io p c a ma)(hb:ME X io p' c' b mb)(hc:p'=true∨c=true:=by first|exact Qj rfl|exact X8 rfl)(hm:V5 op b=false) :
  MT X io (p&&p') (.Compare a [op] [b] pos) (λδ K=>Zmt rp ma mb δ (kB K)):=by
 obtain⟨_,A,sa⟩:=ha
 obtain⟨_,B,sb⟩:=hb
 exact⟨_,Zzi ho A B hm,Z6x (Z0f P sa sb hc)⟩
end
variable {G:Xb}
section
variable {X:Cx}{io:List Nat}{p p' p'' c c':Bool}{e a b:Expr}{m ma mb:MEt}{es rest:List Expr}{ta tb:MTt}{pos:Pos}
noncomputable def Yah(t:MTt):MTt:=λδ K=>t δ λb δ'=>K (!b) δ'
noncomputable def Z9g(t u:MTt):MTt:=λδ K=>t δ λb δ'=>if b=true then u δ' K else K false δ'
noncomputable def mOr(t u:MTt):MTt:=λδ K=>t δ λb δ'=>if b=true then K true δ' else u δ' K
theorem Zld(h:MT X io p a ta):MT X io p (.UnaryOp .Not a pos) (Yah ta):=by
 obtain⟨_,A,sa⟩:=h
 exact⟨_,Z5w A,λC H σ δ fp ex K Q R h k=>sa C H σ δ fp ex _ _ R h λH' b δ' fp' R' S h'=>k H' (!b) δ' fp' R' S h'⟩
theorem Zqt(h:MT X io p a ta):MW X io p (.BoolOp .And [a] pos) ta:=by
 obtain⟨_,A,sa⟩:=h
 exact⟨_,Z0l A,sa⟩
theorem Zo8(h:MT X io p a ta):MW X io p (.BoolOp .Or [a] pos) ta:=by
 obtain⟨_,A,sa⟩:=h
 exact⟨_,Z5i A,sa⟩
theorem Stp.andL{H H':Hp}{δ δ':Zg}{fp fp':Fp}(S:Stp p H δ fp H' δ' fp'):Stp (p&&p') H δ fp H' δ' fp':=by
 have:=S.trans (Stp.refl p' H' δ' fp')
 exact this
theorem Zx5(h:MT X io p a ta)(g:MW X io p' (.BoolOp .And (b :: rest) pos) tb):MW X io (p&&p') (.BoolOp .And (a :: b :: rest) pos) (Z9g ta tb):=by
 obtain⟨_,A,sa⟩:=h
 obtain⟨_,B,sb⟩:=g
 exact⟨_,Z5j A B,λC H σ δ fp ex K Q R h k=>sa C H σ δ fp ex _ _ R h λH' b δ' fp' R' S h'=>by
  cases b with
  | true=>
   rw[if_pos rfl]at h'⊢
   exact sb C H' σ δ' fp' ex _ _ R' h' λH2 b2 δ2 fp2 R2 S2 h2=>k H2 b2 δ2 fp2 R2 (S.trans S2) h2
  | false=>
   rw[if_neg Xp]at h'⊢
   exact k H' false δ' fp' R' S.andL h'⟩
theorem Ztn(h:MT X io p a ta)(g:MW X io p' (.BoolOp .Or (b :: rest) pos) tb):MW X io (p&&p') (.BoolOp .Or (a :: b :: rest) pos) (mOr ta tb):=by
 obtain⟨_,A,sa⟩:=h
 obtain⟨_,B,sb⟩:=g
 exact⟨_,Z7n A B,λC H σ δ fp ex K Q R h k=>sa C H σ δ fp ex _ _ R h λH' b δ' fp' R' S h'=>by
  cases b with
  | true=>
   rw[if_pos rfl]at h'⊢
   exact k H' true δ' fp' R' S.andL h'
  | false=>
   rw[if_neg Xp]at h'⊢
   exact sb C H' σ δ' fp' ex _ _ R' h' λH2 b2 δ2 fp2 R2 S2 h2=>k H2 b2 δ2 fp2 R2 (S.trans S2) h2⟩
theorem MW.mt(h:MW X io p e ta):MT X io p e ta:=by
 obtain⟨_,A,sa⟩:=h
 exact⟨_,A.pt,sa⟩
noncomputable def Zvs:Xa->Option Bool
 | .none=>some false
 | .bool b=>some b
 | .int i=>some (i !=0)
 | .list ds=>some (!ds.isEmpty)
 | .tuple ds=>some (!ds.isEmpty)
 | _=>none
noncomputable def Yau(m:MEt):MTt:=λδ K=>m δ λr δ'=>match Zvs r.data with|some b=>K b δ'|none=>False
theorem Das.isEmpty{H:Hp}{L:Addr->Prop}{xs:List V}{ds:List Xa}(h:Das G H L xs ds):xs.isEmpty=ds.isEmpty:=by cases h<;>rfl
theorem Zcr(ha:ME X io p c a ma)(he:∀whole,isTrue a X.env whole=(do let v←whole;standAt a.pos;holding [v] (truthy v))):MT X io p a (Yau ma):=by
 obtain⟨_,A,sa⟩:=ha
 exact⟨_,Z1t rfl A he,λC H σ δ fp ex K' Q R h k=>sa C H σ δ fp ex _ _ R h λH' v r δ' fp' new r1 h1=>by
  have q:=r1.da R
  generalize r.data=d at q h1
  cases q with
  | non=>exact⟨_,rfl,k H' _ δ' fp' r1.base r1.stp h1⟩
  | bl b=>exact⟨_,rfl,k H' _ δ' fp' r1.base r1.stp h1⟩
  | int b=>exact⟨_,rfl,k H' _ δ' fp' r1.base r1.stp h1⟩
  | str x=>exact h1.elim
  | lst _ e q=>exact⟨_,.inl ⟨_,.inl e,rfl⟩,k H' _ δ' fp' r1.base r1.stp (by rw[q.isEmpty];exact h1)⟩
  | tup e q=>exact⟨_,.inr (.inl ⟨_,.inl (.inl e),rfl⟩),k H' _ δ' fp' r1.base r1.stp (by rw[q.isEmpty];exact h1)⟩
  | scr q=>exact⟨_,.inl ⟨_,q.sq,rfl⟩,k H' _ δ' fp' r1.base r1.stp (by simpa [Zvs]using h1)⟩
  | exc _ _ _=>exact h1.elim
  | fn _=>exact h1.elim
  | dic _ _ _ _=>exact h1.elim⟩
noncomputable def asB(d:Xa)(k:Bool->Prop):Prop:=match d with| .bool b=>k b|_=>False
noncomputable def Z2s(a b:MEt):MEt:=λδ K=>a δ λx δ1=>asB x.data λc=>if c=true then b δ1 K else K (.fz (.bool false)) δ1
noncomputable def Z5v(a:MEt):MEt:=λδ K=>a δ λx δ1=>asB x.data λc=>K (.fz (.bool (!c))) δ1
theorem Da.boolInv{H:Hp}{L:Addr->Prop}{v:V}{d:Xa}{k:Bool->Prop}(q:Da G H L v d)(h:asB d k):∃b,v= .bl b∧k b:=by
 cases q with
 | bl b=>exact⟨b,rfl,h⟩
 | _=>exact h.elim
theorem RE.step{C:MC G}{H H1 H2:Hp}{σ:St}{δ δ1 δ2:Zg}{fp fp1 fp2:Fp}{ex:Addr->Prop}{v:V}{r:OT}{new:List Addr}(S:Stp p H δ fp H1 δ1 fp1)(R:RE C io p' c H1 σ δ1 fp1 ex H2 v r δ2 fp2 new) :
  RE C io (p&&p') c H σ δ fp ex H2 v r δ2 fp2 new:=⟨R.rel,S.trans R.stp,R.own,R.nd,λa m=>S.al a (R.fresh a m)⟩
theorem Zr9{op}(h:ME X io p c a ma):ME X io p c (.BoolOp op [a] pos) ma:=by
 obtain⟨_,A,sa⟩:=h
 exact⟨_,Z37 A,sa⟩
theorem Zn0(ha:ME X io p c a ma)(hb:ME X io p' c' (.BoolOp .And (b :: rest) pos) mb):ME X io (p&&p') c' (.BoolOp .And (a :: b :: rest) pos) (Z2s ma mb):=by
 obtain⟨_,A,sa⟩:=ha
 obtain⟨_,B,sb⟩:=hb
 exact⟨_,Z4c A B,λC H σ δ fp ex K Q R h k=>sa C H σ δ fp ex _ _ R h λH' v r δ' fp' new r1 h1=>by
  obtain⟨b,rfl,h1⟩:=(r1.da R).boolInv h1
  refine⟨b,rfl,?_⟩
  cases b with
  | true=>
   rw[if_pos rfl]at h1⊢
   exact sb C H' σ δ' fp' ex _ _ r1.base h1 λH2 w r2 δ2 fp2 new2 R2 h2=>k H2 w r2 δ2 fp2 new2 (R2.step r1.stp) h2
  | false=>
   rw[if_neg Xp]at h1⊢
   exact k H' _ _ δ' fp' [] (RE.fz r1.base r1.stp.andL (.bl false)) h1⟩
theorem Z44(ha:ME X io p c a ma):ME X io p true (.UnaryOp .Not a pos) (Z5v ma):=by
 obtain⟨_,A,sa⟩:=ha
 exact⟨_,Z3c A,λC H σ δ fp ex K Q R h k=>sa C H σ δ fp ex _ _ R h λH' v r δ' fp' new r1 h1=>by
  obtain⟨b,rfl,h1⟩:=(r1.da R).boolInv h1
  exact⟨b,rfl,k H' _ _ δ' fp' [] (RE.fz r1.base r1.stp (.bl _)) h1⟩⟩
theorem Stp.cast{p p':Bool}{H H':Hp}{δ δ':Zg}{fp fp':Fp}(h:p'=true->p=true)(S:Stp p H δ fp H' δ' fp'):Stp p' H δ fp H' δ' fp' :=
 ⟨λb o e q=>S.keep b o e (q.imp h id),λq=>S.env (h q),S.grow,S.al⟩
end
section
variable {X:Cx}{io:List Nat}{p p' p'' c c':Bool}{e a b:Expr}{m ma mb:MEt}{es rest:List Expr}{mr:MAt}{pos:Pos}
noncomputable def Z9z:MAt:=λδ K=>K [] δ
noncomputable def Z49(m:MEt)(mr:MAt):MAt:=λδ K=>m δ λr δ1=>mr δ1 λrs δ2=>K (r :: rs) δ2
theorem Wv:MA X io true true [] Z9z:=⟨_,J8,λC H σ δ fp ex K Q R h k=>k H [] [] δ fp [] ⟨R.drop λa z=>Zbd.mp z,.refl _ _ _ _,.nil,.nil,λa m=>nomatch m⟩ h⟩
theorem Z1q(ha:ME X io p c e m)(hr:MA X io p' c' es mr)(hc:p'=true∨c=true)(hs:Xk (e :: es) X.env=(false,eval e X.env) :: Xk es X.env:=by rfl):MA X io (p&&p') (c&&c') (e :: es) (Z49 m mr):=by
 obtain⟨tA,A,sa⟩:=ha
 obtain⟨tB,B,sb⟩:=hr
 refine⟨_,Ye A B hs,λC H σ δ fp ex K Q R h k=>?_⟩
 refine sa C H σ δ fp ex _ _ R h λH1 x u δ1 fp1 new1 r1 h1=>?_
 refine sb C H1 σ δ1 fp1 (exu ex new1) _ _ r1.rel h1 λH2 ys us δ2 fp2 new2 r2 h2=>?_
 have o1:=r1.rel.own_step (ex':=exu (exu ex new1) new2) r2.stp (c:=c) hc (λa z=>z.imp id λz=>r2.fresh a z) (λa m=>.inr m) r1.own
 have eqx:∀a,exu ex (new1 ++ new2) a->exu (exu ex new1) new2 a:=λa z=>by
  rcases z with z|z
  ·exact .inl (.inl z)
  ·rcases Qz.mp z with z|z
   ·exact .inl (.inr z)
   ·exact .inr z
 refine k H2 (x :: ys) (u :: us) δ2 fp2 (new1 ++ new2) ⟨r2.rel.drop eqx,r1.stp.trans r2.stp,.cons (o1.wide λa l _ z=>?_) (r2.own.wide λa l _ z=>?_),?_,?_⟩ h2
 ·have l:=l (by rw[Xx]at z;exact z.1)
  exact⟨l.1,λw=>l.2.1 (eqx a w),l.2.2⟩
 ·have l:=l (by rw[Xx]at z;exact z.2)
  exact⟨l.1,λw=>l.2.1 (eqx a w),l.2.2⟩
 ·refine JQ.mpr ⟨r1.nd,r2.nd,λa m b m' z=>?_⟩
  subst z
  obtain⟨xs,e⟩:=r1.own.some a m
  rw[r2.fresh a m']at e
  cases e
 ·intro a m
  rcases Qz.mp m with m|m
  ·exact r1.fresh a m
  ·exact r1.stp.al a (r2.fresh a m)
noncomputable def Yab(m:MAt):MEt:=λδ K=>m δ λrs δ'=>rs.length≤Xo∧K (.fz (.tuple (OT.datas rs))) δ'
noncomputable def Z9n(m:MAt):MEt:=λδ K=>m δ λrs δ'=>rs.length≤Xo∧K (.nd rs) δ'
theorem Z76{x1}(h:MA X io p c es mr):ME X io p c (.Tuple es x1 pos) (Yab mr):=by
 obtain⟨tA,A,sa⟩:=h
 refine⟨_,Zox A,λC H σ δ fp ex K Q R h k=>?_⟩
 refine sa C H σ δ fp ex _ _ R h λH1 vs rs δ1 fp1 new1 r1 h1=>⟨by rw[r1.own.length];exact h1.1,λq hq=>?_⟩
 have s:=Z3 hq (.tup vs)
 have R1:=r1.base
 have S:=r1.stp.trans (p':=true) (Stp.same (p:=true) (δ:=δ1) (fp:=fp1) s s.al)
 rw[Va]at S
 refine k _ _ _ δ1 fp1 [] (.fz ?_ S (.tup Zv ((r1.das R).same s))) h1.2
 exact(R1.made (new:=[]) s λa m=>nomatch m).drop λa z=>.inl z
theorem Z3e(h:MA X io p c es mr):ME X io p c (.List es pos) (Z9n mr):=by
 obtain⟨tA,A,sa⟩:=h
 refine⟨_,Zyr A,λC H σ δ fp ex K Q R h k=>?_⟩
 refine sa C H σ δ fp ex _ _ R h λH1 vs rs δ1 fp1 new1 r1 h1=>⟨by rw[r1.own.length];exact h1.1,λq hq=>?_⟩
 have s:=Z3 hq (.lst vs)
 have S:=r1.stp.trans (p':=true) (Stp.same (p:=true) (δ:=δ1) (fp:=fp1) s s.al)
 rw[Va]at S
 have hqn:q∉new1:=λm=>by
  obtain⟨xs,e⟩:=r1.own.some q m
  rw[hq]at e;cases e
 have R2:=(r1.rel.made (new:=[q]) s λa m=>by
  rcases XH.mp m with rfl
  exact⟨hq,by rw[Zv];intro z;cases z⟩)
 have eqx:∀a,exu ex (q :: new1) a->exu (exu ex new1) [q] a:=λa z=>by
  rcases z with z|z
  ·exact .inl (.inl z)
  ·rcases Xl.mp z with z|z
   ·exact .inr (XH.mpr z)
   ·exact .inl (.inr z)
 refine k _ _ _ δ1 fp1 (q :: new1) ⟨R2.drop eqx,S,.nd Zv ((r1.own.wide λa l w z=>?_).same s),Qd.mpr ⟨hqn,r1.nd⟩,λa m=>?_⟩ h1.2
 ·have l:=l z
  refine⟨l.1,λy=>?_,l.2.2⟩
  rcases eqx a y with y|y
  ·exact l.2.1 y
  ·rcases XH.mp y with rfl
   exact w hq
 ·rcases Xl.mp m with rfl|m
  ·exact r1.stp.al _ hq
  ·exact r1.fresh a m
end
variable {G:Xb}
noncomputable def spD(G:Xb)(S:List Xa->(OT->Prop)->Prop):Sp:=λvs H Q _=>∃L ds k,Das G H L vs ds∧S ds k∧
 ∀r v H' new,k r->Same H H'->Own G H' (λa=>(L a∨H a=none)∧a∉new) v r new->new.Nodup->(∀a∈new,H a=none)->Q v H'
section
variable {X:Cx}{io:List Nat}{p p' p'' c c':Bool}{e a b:Expr}{m ma mb:MEt}{es rest:List Expr}{mr:MAt}{pos:Pos}
variable {CX:CXT}{k:Nat}{f:Addr}{fd:XC}{ps:List Str}{E:XK}{x:Str}{pp:Pos}
noncomputable def Zyw(S:List Xa->(OT->Prop)->Prop)(mr:MAt):MEt:=λδ K=>mr δ λrs δ1=>S (OT.datas rs) λr=>K r δ1
theorem Z8g{S}{t:TA}(sa:SA G io p c t mr):SE G io p c (Z3q (spD G S) [] E t) (Zyw S mr):=by
 intro C H σ δ fp ex K Q R h kk
 refine sa C H σ δ fp ex _ _ R h λH1 vs rs δ1 fp1 new1 r1 h1=>?_
 rw[Qw]
 refine⟨_,_,_,r1.das R,h1,λr v H' new kr s o nd hn=>?_⟩
 exact kk H' v r δ1 fp1 new (RE.tree R r1.base r1.stp s hn nd o) kr
theorem Zb5{S}(F:FnOk X.prog X.w X.K X.mg X.base CX k f fd ps (spD X.K S))(hr:Room k X.A)(hg:Gl X x)(hm:X.mg x=some (.ref f))(hk:By X.K (.ref f)=true)(hb:Binds X.K fd ps [])(hx:Zoh CX X E)
  (ha:MA X io p c (e :: es) mr) (hdb:(x==("__debug__" : Str))=false:=by decide) (he:Xk (e :: es) X.env=(false,eval e X.env) :: Xk es X.env:=by rfl) (hpl:(QW pos (Xk es X.env)).any (·.1)=false:=by rfl) :
  ME X io p c (.Call (.Name x pp) (e :: es) [] pos) (Zyw S mr):=by
 obtain⟨_,A,sa⟩:=ha
 exact⟨_,Z03 F hr hg hm hk hb .nil hx A hdb he hpl,Z8g sa⟩
noncomputable def fpu(fp:Fp)(i:Nat)(as:List Addr):Fp:=λj=>if j=i then as else fp j
theorem Z1{fp:Fp}{i:Nat}{as:List Addr}:fpu fp i as i=as:=if_pos rfl
theorem Yh{fp:Fp}{i j:Nat}{as:List Addr}(h:j≠i):fpu fp i as j=fp j:=if_neg h
theorem Foot.of_u{fp:Fp}{i:Nat}{as:List Addr}{a:Addr}(h:Foot (fpu fp i as) a):a∈as∨∃j,j≠i∧a∈fp j:=by
 obtain⟨j,h⟩:=h
 by_cases e:j=i
 ·subst e;rw[Z1]at h;exact .inl h
 ·rw[Yh e]at h;exact .inr ⟨j,e,h⟩
theorem Rel.change{C:MC G}{H H':Hp}{σ:St}{δ:Zg}{fp:Fp}{ex:Addr->Prop}{i:Nat}{t t':OT}{v:V}{as' new:List Addr}(R:Rel C io H σ δ fp ex)(hi:δ[i]? =some (some t))(hv:σ[i]? =some (some v))
  (keep:∀b o,H b=some o->b∉fp i->H' b=some o) (al:∀b,H' b=none->H b=none) (o:Own G H' (Lf C (fpu fp i as') (exu ex new)) v t' as') (nd:as'.Nodup) (new':∀a∈as',a∈fp i∨H a=none)
  (hn:∀a∈new,H a=none∧H' a≠none∧a∉as') :
  Rel C io H' σ (δ.set i (some t')) (fpu fp i as') (exu ex new)∧Stp false H δ fp H' (δ.set i (some t')) (fpu fp i as'):=by
 have hil:i<δ.length:=(Xn.mp hi).1
 have apart:∀j a,j≠i->a∈fp j->a∉as':=λj a e m z=>by
  rcases new' a z with z|z
  ·exact e (R.dj j i a m z)
  ·exact R.footSome z ⟨j,m⟩
 constructor
 ·refine⟨by rw[Qv];exact R.len,λj t'' e=>?_,λj h=>?_,λj=>?_,λj k a h1 h2=>?_,λj a h z=>?_,λa z w=>z.elim (λz=>R.xa a z (al a w)) (λz=>(hn a z).2.1 w),λb ob e n=>?_,λb z=>R.al b (al b z),λj a h=>?_,R.io⟩
  ·by_cases ej:j=i
   ·subst ej
    rw[X7 hil]at e
    cases e
    exact⟨v,hv,by rw[Z1];exact o⟩
   ·rw[Xv (Q4 ej)]at e
    obtain⟨w,e1,o1⟩:=R.own j t'' e
    refine⟨w,e1,?_⟩
    rw[Yh ej]
    refine o1.frame (λa xs l q=>?_) (λa xs q=>keep a _ q λz=>?_) λa m xs q=>keep a _ q λz=>ej (R.dj j i a m z)
    ·have na:a∉fp i:=λz=>l.1 ⟨i,z⟩
     refine⟨⟨λz=>?_,λz=>z.elim l.2.1 λz=>q.some (hn a z).1,l.2.2⟩,?_⟩
     ·rcases z.of_u with z|⟨k,_,z⟩
      ·rcases new' a z with z|z
       ·exact na z
       ·exact q.some z
      ·exact l.1 ⟨k,z⟩
     ·rcases q with q|⟨u,q⟩
      ·exact .inl (keep a _ q na)
      ·exact .inr ⟨u,keep a _ q na⟩
    ·obtain⟨ys,e⟩:=R.foot ⟨i,z⟩
     exact ImO.nm q e
  ·by_cases ej:j=i
   ·subst ej
    exact absurd (X7 hil) (h t')
   ·rw[Yh ej]
    refine R.emp j λt'' z=>h t'' ?_
    rw[Xv (Q4 ej)]
    exact z
  ·by_cases ej:j=i
   ·subst ej;rw[Z1];exact nd
   ·rw[Yh ej];exact R.nd j
  ·by_cases ej:j=i
   ·subst ej
    rw[Z1]at h1
    by_cases ek:k=j
    ·exact ek.symm
    ·rw[Yh ek]at h2
     exact absurd h1 (apart k a ek h2)
   ·rw[Yh ej]at h1
    by_cases ek:k=i
    ·subst ek
     rw[Z1]at h2
     exact absurd h2 (apart j a ej h1)
    ·rw[Yh ek]at h2
     exact R.dj j k a h1 h2
  ·by_cases ej:j=i
   ·subst ej
    rw[Z1]at h
    rcases z with z|z
    ·rcases new' a h with w|w
     ·exact R.dx _ a w z
     ·exact R.xa a z w
    ·exact(hn a z).2.2 h
   ·rw[Yh ej]at h
    rcases z with z|z
    ·exact R.dx j a h z
    ·exact R.footSome (hn a z).1 ⟨j,h⟩
  ·refine keep b ob (R.fr b ob e n) λz=>?_
   rcases R.new i b z with w|w
   ·exact n w.2
   ·rw[e]at w;cases w
  ·by_cases ej:j=i
   ·subst ej
    rw[Z1]at h
    rcases new' a h with w|w
    ·exact R.new _ a w
    ·exact .inr (R.al a w)
   ·rw[Yh ej]at h
    exact R.new j a h
 ·refine⟨λb ob e q=>keep b ob e λz=>(q.resolve_left (by decide)) ⟨i,z⟩,λz=>(nomatch z),λa z=>?_,al⟩
  rcases z.of_u with z|⟨j,_,z⟩
  ·exact(new' a z).imp (λw=>⟨i,w⟩) id
  ·exact .inl ⟨j,z⟩
noncomputable def PNs(G:Xb)(r:List V->Hp->VK->Prop)(rp:List Xa->(Xa->Prop)->Prop):Prop:=∀(H:Hp) (L:Addr->Prop) (xs:List V) (ds:List Xa) (k:Xa->Prop) (Q:VK),Das G H L xs ds->rp ds k->(∀v d',ScD v d'->k d'->Q v H)->r xs H Q
noncomputable def PN(G:Xb)(r:List V->Hp->VK->Prop)(rp:List Xa->(OT->Prop)->Prop):Prop:=∀(H:Hp) (L:Addr->Prop) (xs:List V) (ds:List Xa) (k:OT->Prop) (Q:VK),Das G H L xs ds->rp ds k ->
 (∀ H' v o new,Same H H'->Own G H' (λa=>(L a∨H a=none)∧a∉new) v o new->new.Nodup->(∀a∈new,H a=none)->k o->Q v H')->r xs H Q
noncomputable def Z6z(rp:List Xa->(Xa->Prop)->Prop)(mr:MAt):MEt:=λδ K=>mr δ λrs δ1=>rp (OT.datas rs) λd=>K (.fz d) δ1
noncomputable def mBl(rp:List Xa->(OT->Prop)->Prop)(mr:MAt):MEt:=λδ K=>mr δ λrs δ1=>rp (OT.datas rs) λo=>K o δ1
theorem Ya7{r rp}{t:TA}(P:PNs G r rp)(sa:SA G io p c t mr):SE G io p true (tCB r t) (Z6z rp mr):=λC H σ δ fp ex K Q R h kk=>
 sa C H σ δ fp ex _ _ R h λH1 vs rs δ1 fp1 new1 r1 h1=>P H1 _ vs _ _ _ (r1.das R) h1 λv d' sc h2=>kk H1 v _ δ1 fp1 [] (.fz r1.base r1.stp sc.da) h2
theorem sBl{r rp}{t:TA}(P:PN G r rp)(sa:SA G io p c t mr):SE G io p c (tCB r t) (mBl rp mr):=λC H σ δ fp ex K Q R h kk=>
 sa C H σ δ fp ex _ _ R h λH1 vs rs δ1 fp1 new1 r1 h1=>P H1 _ vs _ _ _ (r1.das R) h1 λH' v o new s ow nd hn h2=>kk H' v o δ1 fp1 new (RE.tree R r1.base r1.stp s hn nd ow) h2
variable {id T:String}{r:List V->Hp->VK->Prop}
theorem Zl5{rp}(P:PNs X.K r rp)(hc:Zcq X (.builtin id) r)(hg:Gl X x)(hm:X.mg x=none)(hv:Qg x=some (.builtin id))(ha:MA X io p c (e :: es) mr)(hn:x≠"__name__" :=by decide)(hdb:(x==("__debug__" : Str))=false:=by decide)
  (he:Xk (e :: es) X.env=(false,eval e X.env) :: Xk es X.env:=by rfl) (hpl:(QW pos (Xk es X.env)).any (·.1)=false:=by rfl):ME X io p true (.Call (.Name x pp) (e :: es) [] pos) (Z6z rp mr):=by
 obtain⟨_,A,sa⟩:=ha
 exact⟨_,Zdj hc hg hm hv A hn hdb he hpl,Ya7 P sa⟩
theorem Z53{rp}(P:PN X.K r rp)(hc:Zcq X (.builtin id) r)(hg:Gl X x)(hm:X.mg x=none)(hv:Qg x=some (.builtin id))(ha:MA X io p c (e :: es) mr)(hn:x≠"__name__" :=by decide)(hdb:(x==("__debug__" : Str))=false:=by decide)
  (he:Xk (e :: es) X.env=(false,eval e X.env) :: Xk es X.env:=by rfl) (hpl:(QW pos (Xk es X.env)).any (·.1)=false:=by rfl):ME X io p c (.Call (.Name x pp) (e :: es) [] pos) (mBl rp mr):=by
 obtain⟨_,A,sa⟩:=ha
 exact⟨_,Zdj hc hg hm hv A hn hdb he hpl,sBl P sa⟩
theorem Z78{rp}(P:PN X.K r rp)(hc:Zcq X (.type T) r)(hg:Gl X x)(hm:X.mg x=none)(hv:Qg x=some (.type T))(ha:MA X io p c (e :: es) mr)(hn:x≠"__name__" :=by decide)(hdb:(x==("__debug__" : Str))=false:=by decide)
  (he:Xk (e :: es) X.env=(false,eval e X.env) :: Xk es X.env:=by rfl) (hpl:(QW pos (Xk es X.env)).any (·.1)=false:=by rfl):ME X io p c (.Call (.Name x pp) (e :: es) [] pos) (mBl rp mr):=by
 obtain⟨_,A,sa⟩:=ha
 exact⟨_,Zht hc hg hm hv A hn hdb he hpl,sBl P sa⟩
end
variable {G:Xb}
mutual
noncomputable def Zbl:Xa->Bool
 | .none=>true
 | .bool _=>true
 | .int _=>true
 | .str _=>true
 | .tuple ds=>Zkr ds
 | .list _=>false
 | .dict _=>false
noncomputable def Zkr:List Xa->Bool
 | []=>true
 | d :: ds=>Zbl d&&Zkr ds
end
theorem Da.flat2{H:Hp}{L L':Addr->Prop}:(∀{v:V} {d:Xa},Da G H L v d->Zbl d=true->Da G H L' v d)∧∀{v:List V} {d:List Xa},Das G H L v d->Zkr d=true->Das G H L' v d :=
 Da.both (λ_=>.non) (λb _=>.bl b) (λi _=>.int i) (λx _=>.str x) (λ_ _ _ h=>by rw[Zbl]at h;cases h) (λe r h=>.tup e (r (by rw[Zbl]at h;exact h))) (λk _=>.scr k) (λc n e _=>.exc c n e) (λk _=>.fn k) (λ_ _ _ _ h=>by rw[dcD,Zbl]at h;cases h) (λ_=>.nil)
  (λk r h=>by rw[Zkr,Xx]at h;exact .cons (k h.1) (r h.2))
theorem Da.flat{H:Hp}{L L':Addr->Prop}{v:V}{d:Xa}(h:Da G H L v d)(f:Zbl d=true):Da G H L' v d:=Da.flat2.1 h f
set_option genInjectivity false in
structure Zhi where
 nx:Zg->Prop
 rt:OT->Zg->Prop
 bk:Zg->Prop:=λ_=>False
 ct:Zg->Prop:=λ_=>False
noncomputable abbrev MSt:=Zhi->Zg->Prop
noncomputable abbrev Kp(H:Hp)(fp:Fp)(H':Hp)(fp':Fp):Prop:=Stp false H [] fp H' [] fp'
theorem Stp.kp{p:Bool}{H H':Hp}{δ δ':Zg}{fp fp':Fp}(S:Stp p H δ fp H' δ' fp'):Kp H fp H' fp':=⟨λb o e q=>S.keep b o e (.inr (q.resolve_left (by decide))),λz=>(nomatch z),S.grow,S.al⟩
theorem Kp.trans{H H1 H2:Hp}{fp fp1 fp2:Fp}(a:Kp H fp H1 fp1)(b:Kp H1 fp1 H2 fp2):Kp H fp H2 fp2:=Stp.trans a b
theorem Kp.refl(H:Hp)(fp:Fp):Kp H fp H fp:=Stp.refl _ _ _ _
structure RelEnds(C:MC G)(io:List Nat)(ex:Addr->Prop)(H:Hp)(fp:Fp)(D:Zhi)(D':Ends):Prop where
 nx:∀H' σ' δ' fp',Rel C io H' σ' δ' fp' ex->Kp H fp H' fp'->D.nx δ'->D'.nx σ' H'
 bk:∀H' σ' δ' fp',Rel C io H' σ' δ' fp' ex->Kp H fp H' fp'->D.bk δ'->D'.bk σ' H'
 ct:∀H' σ' δ' fp',Rel C io H' σ' δ' fp' ex->Kp H fp H' fp'->D.ct δ'->D'.ct σ' H'
 rt:∀H' σ' v r δ' fp' new,Rel C io H' σ' δ' fp' (exu ex new)->Own G H' (Lf C fp' (exu ex new)) v r new->new.Nodup->(∀a∈new,C.H₀ a=none)->D.rt r δ'->D'.rt v H'
theorem RelEnds.shift{C:MC G}{io:List Nat}{ex:Addr->Prop}{H H1:Hp}{fp fp1:Fp}{D:Zhi}{D':Ends}(E:RelEnds C io ex H fp D D')(k:Kp H fp H1 fp1):RelEnds C io ex H1 fp1 D D' :=
 ⟨λH' σ' δ' fp' R q=>E.nx H' σ' δ' fp' R (k.trans q),λH' σ' δ' fp' R q=>E.bk H' σ' δ' fp' R (k.trans q),λH' σ' δ' fp' R q=>E.ct H' σ' δ' fp' R (k.trans q),E.rt⟩
noncomputable def SS(G:Xb)(io:List Nat)(t:TS)(m:MSt):Prop:=∀(C:MC G) (H:Hp) (σ:St) (δ:Zg) (fp:Fp) (ex:Addr->Prop) (D:Zhi) (D':Ends),Rel C io H σ δ fp ex->m D δ->RelEnds C io ex H fp D D'->t D' σ H
noncomputable def MS(X:Cx)(io:List Nat)(st:Stmt)(m:MSt):Prop:=∃t,PS X st t∧SS X.K io t m
noncomputable def MSs(X:Cx)(io:List Nat)(st:List Stmt)(m:MSt):Prop:=∃t,PSs X st t∧SS X.K io t m
section
variable {X:Cx}{io:List Nat}{p p' p'' c c':Bool}{e a b:Expr}{m ma mb:MEt}{es rest:List Expr}{mr:MAt}{pos:Pos}{st:Stmt}{sts:List Stmt}{u w:MSt}{mt:MTt}
noncomputable def Z5z:MSt:=λD δ=>D.nx δ
noncomputable def Yca(w:MSt)(D:Zhi)(δ:Zg):Prop:=w D δ
noncomputable def Z7e(u w:MSt):MSt:=λD δ=>u { D with nx:=Yca w D } δ
theorem Zbc:MSs X io [] Z5z:=⟨_,Zy4,λC H σ δ fp ex D D' R h E=>E.nx H σ δ fp R (.refl _ _) h⟩
theorem Zi(h:MS X io st u):MSs X io [st] u:=by
 obtain⟨_,A,s⟩:=h
 exact⟨_,Zri A,s⟩
theorem W0(h:MS X io st u)(g:MSs X io sts w):MSs X io (st :: sts) (Z7e u w):=by
 obtain⟨_,A,s⟩:=h
 obtain⟨tb,B,s'⟩:=g
 exact⟨_,Zwg A B,λC H σ δ fp ex D D' R h E=>s C H σ δ fp ex _ _ R h ⟨λH1 σ1 δ1 fp1 R1 k1 h1=>s' C H1 σ1 δ1 fp1 ex D D' R1 h1 (E.shift k1),E.bk,E.ct,E.rt⟩⟩
noncomputable def Z17:MSt:=λ_ _=>False
theorem Zv0:MS X io st Z17:=⟨_,Zv1,λC H σ δ fp ex D D' R h E=>h.elim⟩
noncomputable def Z3t(m:MEt):MSt:=λD δ=>m δ λ_ δ'=>D.nx δ'
theorem Znd(he:ME X io p c e m)(hs:Bs e none pos.line X.env=pure false:=by rfl):MS X io (.Expr e pos) (Z3t m):=by
 obtain⟨_,A,s⟩:=he
 exact⟨_,Zfn A hs,λC H σ δ fp ex D D' R h E=>s C H σ δ fp ex _ _ R h λH' v r δ' fp' new r1 h1=>E.nx H' σ δ' fp' r1.base r1.stp.kp h1⟩
noncomputable def Yap(m:MEt):MSt:=λD δ=>m δ λr δ'=>D.rt r δ'
theorem Zef(he:ME X io p true e m):MS X io (.Return (some e) pos) (Yap m):=by
 obtain⟨_,A,s⟩:=he
 exact⟨_,Ztd A,λC H σ δ fp ex D D' R h E=>s C H σ δ fp ex _ _ R h λH' v r δ' fp' new r1 h1=>E.rt H' σ v r δ' fp' new r1.rel (r1.own.wide λa l _=>l rfl) r1.nd (λa m=>(R.newOk (r1.fresh a m)).2.2) h1⟩
noncomputable def Zuw(i:Nat):MSt:=λD δ=>match δ[i]? with|some (some t)=>D.rt t (δ.set i none)|_=>False
theorem Rel.take{C:MC G}{H:Hp}{σ:St}{δ:Zg}{fp:Fp}{ex:Addr->Prop}{i:Nat}{t:OT}(R:Rel C io H σ δ fp ex)(hi:δ[i]? =some (some t)):Rel C io H σ (δ.set i none) (fpu fp i []) (exu ex (fp i)):=by
 have hil:i<δ.length:=(Xn.mp hi).1
 have get:∀j (t':OT),(δ.set i none)[j]? =some (some t')->j≠i∧δ[j]? =some (some t'):=λj t' e=>by
  by_cases ej:j=i
  ·subst ej;rw[X7 hil]at e;cases e
  ·rw[Xv (Q4 ej)]at e;exact⟨ej,e⟩
 have sub:∀j a,a∈fpu fp i [] j->j≠i∧a∈fp j:=λj a m=>by
  by_cases ej:j=i
  ·subst ej;rw[Z1]at m;exact nomatch m
  ·rw[Yh ej]at m;exact⟨ej,m⟩
 have lw:∀a,Lf C fp ex a->Lf C (fpu fp i []) (exu ex (fp i)) a:=λa l=>⟨λ⟨j,z⟩=>l.1 ⟨j,(sub j a z).2⟩,λz=>z.elim l.2.1 λz=>l.1 ⟨i,z⟩,l.2.2⟩
 refine⟨by rw[Qv];exact R.len,λj t' e=>?_,λj h=>?_,λj=>?_,λj k a h1 h2=>R.dj j k a (sub j a h1).2 (sub k a h2).2,λj a h z=>?_,λa z w=>?_,R.fr,R.al,λj a h=>R.new j a (sub j a h).2,R.io⟩
 ·obtain⟨ej,e⟩:=get j t' e
  obtain⟨w,e1,o⟩:=R.own j t' e
  exact⟨w,e1,by rw[Yh ej];exact o.wide λa l _=>lw a l⟩
 ·by_cases ej:j=i
  ·subst ej;rw[Z1]
  ·rw[Yh ej]
   exact R.emp j λt' z=>h t' (by rw[Xv (Q4 ej)];exact z)
 ·by_cases ej:j=i
  ·subst ej;rw[Z1];exact .nil
  ·rw[Yh ej];exact R.nd j
 ·obtain⟨ej,h⟩:=sub j a h
  rcases z with z|z
  ·exact R.dx j a h z
  ·exact ej (R.dj j i a h z)
 ·rcases z with z|z
  ·exact R.xa a z w
  ·exact R.footSome w ⟨i,z⟩
theorem Zdz(i:Nat){x:Str}{px:Pos}(hio:i∉io:=by decide)(hN:X.N[i]? =some x:=by rfl)(hv:Vis X.env.scope x:=by first|exact Qj rfl|exact X8 (Qj rfl)|exact X8 (X8 rfl))(hd:(x==("__debug__" : Str))=false:=by decide)
  (hcd:(x==("__classdict__" : Str))=false:=by decide):MS X io (.Return (some (.Name x px)) pos) (Zuw i):=by
 refine⟨_,Ztd (pv i hN hv hd hcd),λC H σ δ fp ex D D' R h E=>?_⟩
 unfold Zuw at h
 split at h
 case h_2=>exact h.elim
 rename_i t hi
 obtain⟨v,e,o⟩:=R.own i t hi
 have lw:∀a,Lf C fp ex a->H a≠none->Lf C (fpu fp i []) (exu ex (fp i)) a:=λa l _=>⟨λz=>by
  rcases z.of_u with z|⟨j,_,z⟩
  ·exact nomatch z
  ·exact l.1 ⟨j,z⟩,λz=>z.elim l.2.1 λz=>l.1 ⟨i,z⟩,l.2.2⟩
 have hn:∀a∈fp i,C.H₀ a=none:=λa m=>by
  rcases R.new i a m with z|z
  ·exact absurd z.1 hio
  ·exact z
 exact⟨v,e,E.rt H σ v t _ _ (fp i) (R.take hi) (o.wide lw) (R.nd i) hn h⟩
noncomputable def Z9e(t:MTt)(u w:MSt):MSt:=λD δ=>t δ λb δ'=>if b=true then u D δ' else w D δ'
theorem Zl3{cnd:Expr}{ss ss':List Stmt}(hc:MT X io p cnd mt)(ha:MSs X io ss u)(hb:MSs X io ss' w):MS X io (.If cnd ss ss' pos) (Z9e mt u w):=by
 obtain⟨_,T,s⟩:=hc
 obtain⟨_,A,sa⟩:=ha
 obtain⟨_,B,sb⟩:=hb
 exact⟨_,Z72 T A B,λC H σ δ fp ex D D' R h E=>s C H σ δ fp ex _ _ R h λH' b δ' fp' R' S h'=>by
  cases b with
  | true=>
   rw[if_pos rfl]at h'⊢
   exact sa C H' σ δ' fp' ex D D' R' h' (E.shift S.kp)
  | false=>
   rw[if_neg Xp]at h'⊢
   exact sb C H' σ δ' fp' ex D D' R' h' (E.shift S.kp)⟩
theorem Rel.put{C:MC G}{H:Hp}{σ:St}{δ:Zg}{fp:Fp}{ex:Addr->Prop}{i:Nat}{v:V}{r:OT}{new:List Addr}(R:Rel C io H σ δ fp (exu ex new))(hio:i∉io)(o:Own G H (Lf C fp (exu ex new)) v r new)(nd:new.Nodup)
  (hn:∀a∈new,C.H₀ a=none∧¬ex a):∃fp',Rel C io H (σ.set i (some v)) (δ.set i (some r)) fp' ex∧∀a,Foot fp' a->Foot fp a∨a∈new:=by
 by_cases hil:i<δ.length
 case neg=>
  refine⟨fp,?_,λa h=>.inl h⟩
  have hl:=R.len
  rw[Uy (show δ.length≤i by omega),Uy (show σ.length≤i by omega)]
  exact R.drop λa z=>.inl z
 have hsl:i<σ.length:=by rw[R.len];exact hil
 have sub:∀a,Foot (fpu fp i new) a->Foot fp a∨a∈new:=λa z=>by
  rcases z.of_u with z|⟨j,_,z⟩
  ·exact .inr z
  ·exact .inl ⟨j,z⟩
 have lw:∀a,Lf C fp (exu ex new) a->Lf C (fpu fp i new) ex a:=λa l=>⟨λz=>(sub a z).elim l.1 λz=>l.2.1 (.inr z),λz=>l.2.1 (.inl z),l.2.2⟩
 refine⟨fpu fp i new,⟨by rw[Qv,Qv];exact R.len,λj t' e=>?_,λj h=>?_,λj=>?_,λj k a h1 h2=>?_,λj a h z=>?_,λa z=>R.xa a (.inl z),R.fr,R.al,λj a h=>?_,λj hj=>?_⟩,sub⟩
 ·by_cases ej:j=i
  ·subst ej
   rw[X7 hil]at e
   cases e
   exact⟨v,X7 hsl,by rw[Z1];exact o.wide λa l _=>lw a l⟩
  ·rw[Xv (Q4 ej)]at e
   obtain⟨w,e1,o1⟩:=R.own j t' e
   exact⟨w,by rw[Xv (Q4 ej)];exact e1,by rw[Yh ej];exact o1.wide λa l _=>lw a l⟩
 ·by_cases ej:j=i
  ·subst ej;exact absurd (X7 hil) (h r)
  ·rw[Yh ej]
   exact R.emp j λt' z=>h t' (by rw[Xv (Q4 ej)];exact z)
 ·by_cases ej:j=i
  ·subst ej;rw[Z1];exact nd
  ·rw[Yh ej];exact R.nd j
 ·by_cases ej:j=i
  ·subst ej
   rw[Z1]at h1
   by_cases ek:k=j
   ·exact ek.symm
   ·rw[Yh ek]at h2
    exact absurd (.inr h1) (R.dx k a h2)
  ·rw[Yh ej]at h1
   by_cases ek:k=i
   ·subst ek
    rw[Z1]at h2
    exact absurd (.inr h2) (R.dx j a h1)
   ·rw[Yh ek]at h2
    exact R.dj j k a h1 h2
 ·by_cases ej:j=i
  ·subst ej
   rw[Z1]at h
   exact(hn a h).2 z
  ·rw[Yh ej]at h
   exact R.dx j a h (.inl z)
 ·by_cases ej:j=i
  ·subst ej
   rw[Z1]at h
   exact .inr (hn a h).1
  ·rw[Yh ej]at h
   exact R.new j a h
 ·have ej:j≠i:=λz=>hio (z▸hj)
  rw[Xv (Q4 ej)]
  exact R.io j hj
theorem RE.put{C:MC G}{H H':Hp}{σ:St}{δ δ':Zg}{fp fp':Fp}{ex:Addr->Prop}{i:Nat}{v:V}{r:OT}{new:List Addr}(R:RE C io p true H σ δ fp ex H' v r δ' fp' new)(R0:Rel C io H σ δ fp ex)(hio:i∉io) :
  ∃fp2,Rel C io H' (σ.set i (some v)) (δ'.set i (some r)) fp2 ex∧Kp H fp H' fp2:=by
 obtain⟨fp2,R2,g⟩:=R.rel.put hio (R.own.wide λa l _=>l rfl) R.nd λa m=>⟨(R0.newOk (R.fresh a m)).2.2,(R0.newOk (R.fresh a m)).2.1⟩
 refine⟨fp2,R2,λb o e q=>R.stp.keep b o e (.inr (q.resolve_left (by decide))),λz=>(nomatch z),λa z=>?_,R.stp.al⟩
 rcases g a z with z|z
 ·exact R.stp.grow a z
 ·exact .inr (R.fresh a z)
theorem RE.fzc{C:MC G}{H H':Hp}{σ:St}{δ δ':Zg}{fp fp':Fp}{ex:Addr->Prop}{v:V}{r:OT}{new:List Addr}(R:RE C io p c H σ δ fp ex H' v r δ' fp' new)(R0:Rel C io H σ δ fp ex) :
  RE C io p c H σ δ fp ex H' v (.fz r.data) δ' fp' []:=.fz R.base R.stp (R.da R0)
noncomputable def Z10(i:Nat)(m:MEt):MSt:=λD δ=>m δ λr δ'=>D.nx (δ'.set i (some (.fz r.data)))
noncomputable def Zqc(i:Nat)(m:MEt):MSt:=λD δ=>m δ λr δ'=>D.nx (δ'.set i (some r))
section
variable {i:Nat}{x:Str}{px:Pos}
theorem Yai{t:TE}(s:SE G io p true t m)(hio:i∉io):SS G io (Z32 t (Zse i)) (Z10 i m):=λC H σ δ fp ex D D' R h E=>s C H σ δ fp ex _ _ R h λH' v r δ' fp' new r1 h1=>by
 obtain⟨fp2,R2,k2⟩:=(r1.fzc R).put R hio
 exact E.nx H' _ _ fp2 R2 k2 h1
theorem Z43{t:TE}(s:SE G io p true t m)(hio:i∉io):SS G io (Z32 t (Zse i)) (Zqc i m):=λC H σ δ fp ex D D' R h E=>s C H σ δ fp ex _ _ R h λH' v r δ' fp' new r1 h1=>by
 obtain⟨fp2,R2,k2⟩:=r1.put R hio
 exact E.nx H' _ _ fp2 R2 k2 h1
theorem Zev(hN:X.N.Nodup)(hi:X.N[i]? =some x)(hx:Loc X.env.scope x)(he:ME X io p true e m)(hio:i∉io:=by decide)(hs:Bs e (some (.Name x px)) pos.line X.env=pure false:=by rfl)(hf:X.fn x=true∨X.env.scope.names.lookup x=some .local:=by first|exact .inl rfl|exact .inr rfl|assumption) :
  MS X io (.Assign [.Name x px] e pos) (Z10 i m):=by
 obtain⟨_,A,s⟩:=he
 exact⟨_,Zyu hN hi hx A hs hf,Yai s hio⟩
theorem Zsf(hN:X.N.Nodup)(hi:X.N[i]? =some x)(hx:Loc X.env.scope x)(he:ME X io p true e m)(hio:i∉io:=by decide)(hs:Bs e (some (.Name x px)) pos.line X.env=pure false:=by rfl)(hf:X.fn x=true∨X.env.scope.names.lookup x=some .local:=by first|exact .inl rfl|exact .inr rfl|assumption) :
  MS X io (.Assign [.Name x px] e pos) (Zqc i m):=by
 obtain⟨_,A,s⟩:=he
 exact⟨_,Zyu hN hi hx A hs hf,Z43 s hio⟩
end
noncomputable def Zx2(t:MTt)(u:MSt):MSt:=λD δ=>∃W:Nat->Zg->Prop,(∃n,W n δ)∧∀n δ,W n δ->t δ λb δ'=>if b=true then∃N:Zg->Prop,(∀δ',N δ'->∃n',n'<n∧W n' δ')∧u { D with nx:=N,ct:=N,bk:=D.nx } δ' else D.nx δ'
theorem Zof{cnd:Expr}{ss:List Stmt}(hp:PassesOwn (Qa X.prog X.w) X.A X.env X.xe)(hc:MT X io p cnd mt)(ha:MSs X io ss u):MS X io (.While cnd ss [] pos) (Zx2 mt u):=by
 obtain⟨_,T,s⟩:=hc
 obtain⟨_,A,sa⟩:=ha
 refine⟨_,Zwa hp T A,λC H σ δ fp ex D D' R h E=>?_⟩
 obtain⟨W,⟨n0,w0⟩,turn⟩:=h
 refine⟨λn σ' H'=>∃δ' fp',Rel C io H' σ' δ' fp' ex∧Kp H fp H' fp'∧W n δ',⟨n0,δ,fp,R,.refl _ _,w0⟩,?_⟩
 rintro n σ1 H1 ⟨δ1,fp1,R1,k1,w1⟩
 refine s C H1 σ1 δ1 fp1 ex _ _ R1 (turn n δ1 w1) λH2 b δ2 fp2 R2 S2 h2=>?_
 have k2:=k1.trans S2.kp
 cases b with
 | true=>
  rw[if_pos rfl]at h2⊢
  obtain⟨N,hN,h2⟩:=h2
  refine⟨λσ' H'=>∃δ' fp',Rel C io H' σ' δ' fp' ex∧Kp H fp H' fp'∧N δ',λσ' H' ⟨δ',fp',R',k',n'⟩=>?_,?_⟩
  ·obtain⟨n1,hn1,w1⟩:=hN δ' n'
   exact⟨n1,hn1,δ',fp',R',k',w1⟩
  ·refine sa C H2 σ1 δ2 fp2 ex _ _ R2 h2 ⟨λH' σ' δ' fp' R' k' n'=>⟨δ',fp',R',k2.trans k',n'⟩,λH' σ' δ' fp' R' k' n'=>E.nx H' σ' δ' fp' R' (k2.trans k') n',λH' σ' δ' fp' R' k' n'=>⟨δ',fp',R',k2.trans k',n'⟩,E.rt⟩
 | false=>
  rw[if_neg Xp]at h2⊢
  exact E.nx H2 σ1 δ2 fp2 R2 k2 h2
end
variable {G:Xb}
noncomputable def Zia(N:List Str)(ds:List Xa):Zg:=ds.map (λd=>some (.fz d)) ++ Xr (N.length-ds.length) none
section
variable {H:Hp}{L:Addr->Prop}{vs:List V}{ds:List Xa}{N:List Str}
theorem Zto{i:Nat}{t:OT}{n:Nat}(h:(ds.map (λd=>some (.fz d)) ++ Xr n none:Zg)[i]? =some (some t)):∃d,ds[i]? =some d∧t= .fz d:=by
 rw[List.getElem?_append]at h
 split at h
 ·rw[Xy]at h
  cases e:ds[i]? with
  | none=>rw[e]at h;cases h
  | some d=>rw[e]at h;cases h;exact⟨d,rfl,rfl⟩
 ·rw[BP]at h
  split at h
  ·cases h
  ·cases h
theorem Rel.entry(h:Das G H L vs ds):Rel (G:=G) ⟨H,λ_=>False,L,start N vs⟩ [] H (start N vs) (Zia N ds) (λ_=>[]) (λ_=>False):=by
 refine⟨?_,λi t e=>?_,λ_ _=>rfl,λ_=>.nil,λi j a m=>(nomatch m),λi a m=>(nomatch m),λa z=>z.elim,λb o e _=>e,λb e=>e,λi a m=>(nomatch m),λi m=>nomatch m⟩
 ·unfold start Zia
  simp[h.length]
 ·obtain⟨d,e',rfl⟩:=Zto e
  obtain⟨x,e1,q⟩:=h.get e'
  refine⟨x,?_,.fz (q.wide λa l _=>⟨λ⟨j,z⟩=>(nomatch z),λz=>z,.inl l⟩)⟩
  unfold L2.start
  rw[JW (by rw[Xi];exact(Xn.mp e1).1),Xy,e1]
  rfl
variable {P:X6}{w:Qu}{K:Xb}{mg:Str->Option Xe}{base:Heap}
noncomputable def Zzp(k:OT->Prop):Zhi:={ nx:=λ_=>k (.fz .none),rt:=λr _=>k r }
theorem Fun.okD{x qual:Str}{st:Stmt}{f:Addr}{fd:XC}{N ps:List Str}{n:Nat}{S:List Xa->(OT->Prop)->Prop}(F:Fun K x qual st f fd)(Sc:Zu N ps (Zk st))(len:∀ds k,S ds k->ds.length=ps.length)
  (hbody:∀(cdv:Xe) (A:Qo) (outer:List Env) (s:Xf) (H:Hp) (E:XK),Room n (A.deeper (Uj qual (Zk st) s.heap.objs.size f cdv)) ->
   ∃m,MSs (Zqq CX0 P w K mg base N qual (Zk st) f cdv A outer s H E).nox [] (J7 st) m∧∀ds k,S ds k->m (Zzp k) (Zia N ds)):FnOk P w K mg base CX0 (n+1) f fd ps (spD K S):=by
 refine F.ok Sc (λvs H Q E h=>?_) (λcdv A outer s H vs Q E hr h=>?_)
 ·obtain⟨L,ds,k,h1,h2,_⟩:=h
  rw[h1.length]
  exact len ds k h2
 ·obtain⟨L,ds,k,h1,h2,h3⟩:=h
  obtain⟨m,⟨t,A1,s1⟩,q⟩:=hbody cdv A outer s H E hr
  refine⟨t,A1,s1 ⟨H,λ_=>False,L,start N vs⟩ H _ _ _ _ (Zzp k) _ (Rel.entry h1) (q ds k h2) ⟨λH' σ' δ' fp' R _ hk=>?_,λ_ _ _ _ _ _ z=>z.elim,λ_ _ _ _ _ _ z=>z.elim,λH' σ' v r δ' fp' new R o nd hn hk=>?_⟩⟩
  ·exact h3 _ .non H' [] hk (λb o e=>R.fr b o e id) (.fz .non) .nil λa m=>nomatch m
  ·refine h3 r v H' new hk (λb o e=>R.fr b o e id) (o.wide λa l _=>⟨?_,λz=>l.2.1 (.inr z)⟩) nd hn
   exact l.2.2
end
noncomputable abbrev MGt:=Xa->Zg->(Zg->Prop)->Prop
noncomputable abbrev Zut:=List Xa->Zg->(Zg->Prop)->Prop
noncomputable def SG(G:Xb)(io:List Nat)(c:Bool)(t:TG)(g:MGt):Prop:=∀(C:MC G) (H:Hp) (σ:St) (δ:Zg) (fp:Fp) (ex:Addr->Prop) (v:V) (d:Xa) (k:Zg->Prop) (Q:St->Hp->Prop),Rel C io H σ δ fp ex->Da G H (λa=>c=true->Lf C fp ex a) v d->g d δ k ->
 (∀ σ' δ' fp',Rel C io H σ' δ' fp' ex->Kp H fp H fp'->k δ'->Q σ' H)->t v σ H Q
noncomputable def SGs(G:Xb)(io:List Nat)(c:Bool)(t:TGs)(g:Zut):Prop:=∀(C:MC G) (H:Hp) (σ:St) (δ:Zg) (fp:Fp) (ex:Addr->Prop) (v:List V) (d:List Xa) (k:Zg->Prop) (Q:St->Hp->Prop),Rel C io H σ δ fp ex->Das G H (λa=>c=true->Lf C fp ex a) v d->g d δ k ->
 (∀ σ' δ' fp',Rel C io H σ' δ' fp' ex->Kp H fp H fp'->k δ'->Q σ' H)->t v σ H Q
noncomputable def MG(X:Cx)(io:List Nat)(c:Bool)(tg:Expr)(g:MGt):Prop:=∃t,PG X tg t∧SG X.K io c t g
noncomputable def MGs(X:Cx)(io:List Nat)(c:Bool)(tg:List Expr)(g:Zut):Prop:=∃t,PGs X tg t∧SGs X.K io c t g
section
variable {X:Cx}{io:List Nat}{c:Bool}{pos:Pos}{i:Nat}{x:Str}
noncomputable def dName(i:Nat):MGt:=λd δ k=>k (δ.set i (some (.fz d)))
noncomputable def Zyl(i:Nat):MGt:=λd δ k=>Zbl d=true∧k (δ.set i (some (.fz d)))
theorem Rel.putD{C:MC G}{H:Hp}{σ:St}{δ:Zg}{fp:Fp}{ex:Addr->Prop}{v:V}{d:Xa}(R:Rel C io H σ δ fp ex)(hio:i∉io)(q:Da G H (Lf C fp ex) v d) :
  ∃fp',Rel C io H (σ.set i (some v)) (δ.set i (some (.fz d))) fp' ex∧Kp H fp H fp':=by
 obtain⟨fp',R',g⟩:=(R.drop λa z=>Zbd.mp z).put (new:=[]) hio (.fz (q.wide λa l _=>⟨l.1,λz=>l.2.1 (Zbd.mp z),l.2.2⟩)) .nil (λa m=>nomatch m)
 exact⟨fp',R',λb o e _=>e,λz=>(nomatch z),λa z=>(g a z).imp id λz=>(nomatch z),λb e=>e⟩
theorem Zg5(hN:X.N.Nodup)(hi:X.N[i]? =some x:=by rfl)(hx:Loc X.env.scope x:=by first|exact Qj rfl|exact X8 rfl)(hio:i∉io:=by decide)(hf:X.fn x=true∨X.env.scope.names.lookup x=some .local:=by first|exact .inl rfl|exact .inr rfl|assumption):MG X io true (.Name x pos) (dName i) :=
 ⟨_,Zj6 hN hi hx hf,λC H σ δ fp ex v d k Q R q h kk=>by
  obtain⟨fp',R',k'⟩:=R.putD hio (q.wide λa l _=>l rfl)
  exact kk _ _ fp' R' k' h⟩
theorem Zuy(hN:X.N.Nodup)(hi:X.N[i]? =some x:=by rfl)(hx:Loc X.env.scope x:=by first|exact Qj rfl|exact X8 rfl)(hio:i∉io:=by decide)(hf:X.fn x=true∨X.env.scope.names.lookup x=some .local:=by first|exact .inl rfl|exact .inr rfl|assumption):MG X io c (.Name x pos) (Zyl i) :=
 ⟨_,Zj6 hN hi hx hf,λC H σ δ fp ex v d k Q R q h kk=>by
  obtain⟨fp',R',k'⟩:=R.putD hio (q.flat h.1)
  exact kk _ _ fp' R' k' h.2⟩
noncomputable def Yaz:Zut:=λds δ k=>ds=[]∧k δ
noncomputable def Z48(g:MGt)(gs:Zut):Zut:=λds δ k=>match ds with|d :: r=>g d δ λδ'=>gs r δ' k|[]=>False
theorem Zmp:MGs X io c [] Yaz:=⟨_,Zqp,λC H σ δ fp ex v d k Q R q h kk=>by
 obtain⟨rfl,h⟩:=h
 cases q
 exact⟨rfl,kk σ δ fp R (.refl _ _) h⟩⟩
theorem Rel.kp_das{C:MC G}{H H':Hp}{σ:St}{δ:Zg}{fp fp':Fp}{ex:Addr->Prop}{vs:List V}{ds:List Xa}(R:Rel C io H σ δ fp ex)(S:Kp H fp H' fp')(h:Das G H (Lf C fp ex) vs ds):Das G H' (Lf C fp' ex) vs ds:=by
 have S':Stp false H δ fp H' δ fp':=⟨S.keep,λz=>(nomatch z),S.grow,S.al⟩
 obtain⟨f1,f2⟩:=R.frameL (c:=true) (ex':=ex) S' (.inr rfl) λa z=>.inl z
 exact h.frame (λa xs l q=>⟨(f1 a xs (λ_=>l) q).1 rfl,(f1 a xs (λ_=>l) q).2⟩) f2
theorem Zdl{e:Expr}{es:List Expr}{g:MGt}{gs:Zut}(h1:MG X io true e g)(h2:MGs X io true es gs)
  (hs:(QH (e :: es) X.env).map (·.2)=Vy e X.env :: (QH es X.env).map (·.2):=by rfl):MGs X io true (e :: es) (Z48 g gs):=by
 obtain⟨_,A,s⟩:=h1
 obtain⟨_,B,s'⟩:=h2
 exact⟨_,Zjm A B hs,λC H σ δ fp ex v d k Q R q h kk=>by
  cases q with
  | nil=>exact h.elim
  | cons q qs=>
   refine⟨_,_,rfl,s C H σ δ fp ex _ _ _ _ R q h λσ1 δ1 fp1 R1 k1 h1=>?_⟩
   exact s' C H σ1 δ1 fp1 ex _ _ _ _ R1 ((R.kp_das k1 (qs.wide λa l _=>l rfl)).wide λa l _ _=>l) h1 λσ2 δ2 fp2 R2 k2 h2=>kk σ2 δ2 fp2 R2 (k1.trans k2) h2⟩
noncomputable def dTup(n:Nat)(gs:Zut):MGt:=λd δ k=>match d with| .tuple ds=>ds.length=n∧gs ds δ k|_=>False
theorem Zrl{es:List Expr}{k:Nat}{gs:Zut}{n:Nat}(hc:X.calm=true)(h:MGs X io c es gs)
  (hn:(QH es X.env).length=n:=by rfl) (hst:(QH es X.env).findIdx? (·.1)=none:=by rfl):MG X io c (.Tuple es k pos) (dTup n gs):=by
 obtain⟨_,A,s⟩:=h
 exact⟨_,Zyb hc A hn hst,λC H σ δ fp ex v d k Q R q h kk=>by
  cases q with
  | tup e qs=>exact⟨_,_,rfl,.inl (.inl e),by rw[qs.length];exact h.1,s C H σ δ fp ex _ _ _ _ R qs h.2 kk⟩
  | _=>exact h.elim⟩
end
variable {G:Xb}
noncomputable def IterOk(C:MC G)(fp:Fp)(ex:Addr->Prop)(H1:Hp)(c:Bool)(J:It)(ds:List Xa):Prop:=∀H':Hp,(∀b o,H1 b=some o->(c=false∨¬Foot fp b)->H' b=some o)->∀i:Nat,
 (∀ d,ds[i]? =some d->J.go i H'∧∀x H'',J.yld i H' x H''->Same H' H''∧Da G H'' (λa=>c=true->(Lf C fp ex a∧H1 a≠none)) x d)∧(ds[i]? =none->J.stop i H')
noncomputable abbrev MIt:=Zg->(List Xa->Zg->Prop)->Prop
noncomputable def SI(G:Xb)(io:List Nat)(p c:Bool)(t:TI)(m:MIt):Prop:=∀(C:MC G) (H:Hp) (σ:St) (δ:Zg) (fp:Fp) (ex:Addr->Prop) (K:List Xa->Zg->Prop) (Q:It->Hp->Prop),Rel C io H σ δ fp ex->m δ K ->
 (∀ J H1 ds δ1 fp1,Rel C io H1 σ δ1 fp1 ex->Stp p H δ fp H1 δ1 fp1->IterOk C fp1 ex H1 c J ds->K ds δ1->Q J H1)->t σ H Q
noncomputable def MI(X:Cx)(io:List Nat)(p c:Bool)(tg iter:Expr)(m:MIt):Prop:=∃t,PI X tg iter t∧SI X.K io p c t m
section
variable {X:Cx}{io:List Nat}{p c:Bool}{e a b tg:Expr}{m:MEt}{mr:MAt}{K:Xb}
noncomputable def iL(m:MEt):MIt:=λδ K=>m δ λr δ'=>match r.data with| .list ds=>K ds δ'|_=>False
theorem Rel.kept{C:MC G}{H H':Hp}{σ:St}{δ:Zg}{fp:Fp}{ex:Addr->Prop}(R:Rel C io H σ δ fp ex)(kp:∀b o,H b=some o->(c=false∨¬Foot fp b)->H' b=some o) :
  (∀ a (xs:MuO),(c=true->Lf C fp ex a)->Rd H a xs.ho->(c=true->(Lf C fp ex a∧H a≠none))∧Rd H' a xs.ho)∧(∀a (xs:ImO),H a=some xs.ho->H' a=some xs.ho):=by
 refine⟨λa xs l q=>⟨λhc=>⟨l hc,q.some⟩,?_⟩,λa xs q=>kp a _ q (.inr λz=>?_)⟩
 ·have hk:c=false∨¬Foot fp a:=by
   cases c with
   | false=>exact .inl rfl
   | true=>exact .inr (l rfl).1
  rcases q with q|⟨o,q⟩
  ·exact .inl (kp a _ q hk)
  ·exact .inr ⟨o,kp a _ q hk⟩
 ·obtain⟨ys,e⟩:=R.foot z
  exact ImO.nm q e
theorem Zrg(h:ME X io p c e m):MI X io p c tg e (iL m):=by
 obtain⟨_,A,s⟩:=h
 exact⟨_,Zw1 rfl A,λC H σ δ fp ex K' Q R h kk=>s C H σ δ fp ex _ _ R h λH1 v r δ1 fp1 new r1 h1=>by
  have q:=r1.da R
  generalize r.data=d at q h1
  cases q with
  | lst l e qs=>
   refine⟨_,rfl,⟨_,.inl e⟩,kk _ H1 _ δ1 fp1 r1.base r1.stp (λH' kp i=>?_) h1⟩
   obtain⟨f1,f2⟩:=r1.base.kept kp
   have e':=(f1 _ (.lst _) l e).2
   have qs':=qs.frame f1 f2
   refine⟨λd hd=>?_,λhd=>?_⟩
   ·obtain⟨x,hx,qx⟩:=qs'.get hd
    refine⟨⟨_,x,.inl e',hx⟩,λy H'' hy=>?_⟩
    obtain⟨rfl,hy⟩:=hy
    have:=hy _ (.inl e')
    rw[hx]at this
    cases this
    exact⟨Same.refl _,qx⟩
   ·exact⟨_,.inl e',by rw[qs'.length];exact QD.mp hd⟩
  | scr ks=>
   refine⟨_,rfl,⟨_,ks.sq⟩,kk _ H1 _ δ1 fp1 r1.base r1.stp (λH' kp i=>?_) h1⟩
   refine⟨λd hd=>?_,λhd=>?_⟩
   ·obtain⟨x,hx,qx⟩:=(Das.ints (G:=X.K) (H:=H') (L:=λa=>c=true->(Lf C fp1 ex a∧H1 a≠none)) _).get hd
    refine⟨⟨_,x,ks.sq,hx⟩,λy H'' hy=>?_⟩
    obtain⟨rfl,hy⟩:=hy
    have:=hy _ ks.sq
    rw[hx]at this
    cases this
    exact⟨Same.refl _,qx⟩
   ·refine⟨_,ks.sq,?_⟩
    have:=QD.mp hd
    simpa using this
  | _=>exact h1.elim⟩
noncomputable def Zch(lo:Int)(n:Nat):List Xa:=(Xz n).map λ(i:Nat)=>Xj (lo+(i:Int))
@[simp] theorem Wo(lo:Int)(n:Nat):(Zch lo n).length=n:=by simp[Zch]
theorem W6{lo:Int}{n i:Nat}{d:Xa}(h:(Zch lo n)[i]? =some d):i<n∧d= .int (lo+i):=by
 have hi:i<n:=by
  have:=(Xn.mp h).1
  simpa using this
 unfold Zch at h
 rw[Xy,Bk hi]at h
 cases h
 exact⟨hi,rfl⟩
theorem Zow{C:MC G}{fp:Fp}{ex:Addr->Prop}{H1:Hp}{lo:Int}{n:Nat}:IterOk C fp ex H1 true (Itr lo n) (Zch lo n):=λH' _ i=>by
 refine⟨λd hd=>?_,λhd=>?_⟩
 ·obtain⟨hi,rfl⟩:=W6 hd
  refine⟨hi,λx H'' hy=>?_⟩
  obtain⟨rfl,rfl⟩:=hy
  exact⟨Same.refl _,.int _⟩
 ·have:=QD.mp hd
  show n≤i
  simpa using this
noncomputable def iR1(mr:MAt):MIt:=λδ K=>mr δ λrs δ'=>match OT.datas rs with|[.int j]=>(-(2^62)≤j∧j<2^62)∧K (Zch 0 j.toNat) δ'|_=>False
noncomputable def iR2(mr:MAt):MIt:=λδ K=>mr δ λrs δ'=>match OT.datas rs with|[.int i,.int j]=>(-(2^62)≤i∧i<2^62∧-(2^62)≤j∧j<2^62)∧K (Zch i (j-i).toNat) δ'|_=>False
theorem Wa{p' pos:Pos}(hg:Gl X "range")(hm:X.mg "range"=none)(ha:MA X io p c [a] mr)(hs:Xk [a] X.env=[(false,eval a X.env)]:=by rfl):MI X io p true tg (.Call (.Name "range" p') [a] [] pos) (iR1 mr):=by
 obtain⟨_,A,s⟩:=ha
 exact⟨_,Zr6 hg hm A hs,λC H σ δ fp ex K' Q R h kk=>s C H σ δ fp ex _ _ R h λH1 vs rs δ1 fp1 new r1 h1=>by
  have q:=r1.das R
  generalize OT.datas rs=d at q h1
  split at h1
  case h_2=>exact h1.elim
  cases q with
  | cons q1 q2=>
   cases q1
   cases q2
   exact⟨_,rfl,h1.1.1,h1.1.2,kk _ H1 _ δ1 fp1 r1.base r1.stp Zow h1.2⟩⟩
theorem Zg4{p' pos:Pos}(hg:Gl X "range")(hm:X.mg "range"=none)(ha:MA X io p c [a,b] mr)(hs:Xk [a,b] X.env=[(false,eval a X.env),(false,eval b X.env)]:=by rfl)(hs2:Xk [b] X.env=[(false,eval b X.env)]:=by rfl):MI X io p true tg (.Call (.Name "range" p') [a,b] [] pos) (iR2 mr):=by
 obtain⟨_,A,s⟩:=ha
 exact⟨_,Zsq hg hm A hs hs2,λC H σ δ fp ex K' Q R h kk=>s C H σ δ fp ex _ _ R h λH1 vs rs δ1 fp1 new r1 h1=>by
  have q:=r1.das R
  generalize OT.datas rs=d at q h1
  split at h1
  case h_2=>exact h1.elim
  cases q with
  | cons q1 q2=>
   cases q1
   cases q2 with
   | cons q2 q3=>
    cases q2
    cases q3
    exact⟨_,_,rfl,h1.1,kk _ H1 _ δ1 fp1 r1.base r1.stp Zow h1.2⟩⟩
theorem IterOk.at{C:MC G}{fp fp':Fp}{ex:Addr->Prop}{H1 H' H'':Hp}{J:It}{ds:List Xa}{x:V}{d:Xa}(g:∀a,Foot fp' a->Foot fp a∨H1 a=none)(h:Da G H'' (λa=>true=true->(Lf C fp ex a∧H1 a≠none)) x d):Da G H'' (λa=>true=true->Lf C fp' ex a) x d :=
 h.wide λa l _ z=>⟨λw=>(g a w).elim (l z).1.1 (l z).2,(l z).1.2.1,(l z).1.2.2⟩
noncomputable def Z7r(ds:List Xa)(g:MGt)(u:MSt)(D:Zhi)(δ1:Zg):Prop:=∃I:Nat->Zg->Prop,I 0 δ1∧(∀(i:Nat) (d:Xa) (δ':Zg),ds[i]? =some d->I i δ'->g d δ' λδ2=>u { D with nx:=I (i+1),ct:=I (i+1),bk:=D.nx } δ2)∧∀δ',I ds.length δ'->D.nx δ'
noncomputable def Z9r(mi:MIt)(g:MGt)(u:MSt):MSt:=λD δ=>mi δ λds δ1=>Z7r ds g u D δ1
theorem Rel.mk0{C:MC G}{H H':Hp}{σ:St}{δ:Zg}{fp:Fp}{ex:Addr->Prop}(R:Rel C io H σ δ fp ex)(s:Same H H'):Rel C io H' σ δ fp ex:=(R.made (new:=[]) s λa m=>nomatch m).drop λa z=>.inl z
theorem Ztr{iter:Expr}{body:List Stmt}{mi:MIt}{g:MGt}{u:MSt}{pos:Pos}(hp:PassesOwn (Qa X.prog X.w) X.A X.env X.xe)(hc:X.calm=true)(hi:MI X io p true tg iter mi)(hg:MG X io true tg g)(hb:MSs X io body u)
  (hs:∀x,JV iter X.env x=pure x:=by intro _;rfl):MS X io (.For tg iter body [] pos) (Z9r mi g u):=by
 obtain⟨_,A,s⟩:=hi
 obtain⟨_,G,sg⟩:=hg
 obtain⟨_,B,sb⟩:=hb
 refine⟨_,Zxt hp hc A G B hs,λC H σ δ fp ex D D' R h E=>s C H σ δ fp ex _ _ R h λJ H1 ds δ1 fp1 R1 S1 it h1=>?_⟩
 obtain⟨I,h0,turn,fin⟩:=h1
 refine⟨λi n σ' H'=>n=ds.length-i∧i≤ds.length∧∃δ' fp',Rel C io H' σ' δ' fp' ex∧Kp H1 fp1 H' fp'∧I i δ',⟨ds.length,rfl,Q9 _,δ1,fp1,R1,.refl _ _,h0⟩,?_⟩
 rintro i n σ2 H2 ⟨rfl,hle,δ2,fp2,R2,k2,i2⟩
 have itk:=it H2 (λb o e q=>k2.keep b o e (.inr (q.resolve_left (by decide)))) i
 by_cases hlt:i<ds.length
 ·have hd:ds[i]? =some ds[i]:=Xh hlt
  obtain⟨go,yl⟩:=itk.1 _ hd
  refine .inr ⟨go,λσ' H'=>∃δ' fp',Rel C io H' σ' δ' fp' ex∧Kp H1 fp1 H' fp'∧I (i+1) δ',λσ' H' ⟨δ',fp',R',k',i'⟩=>⟨ds.length-(i+1),by omega,rfl,hlt,δ',fp',R',k',i'⟩,λx H3 hy=>?_⟩
  obtain⟨s3,q3⟩:=yl x H3 hy
  have R3:=R2.mk0 s3
  have k3:Kp H1 fp1 H3 fp2:=k2.trans ⟨λb o e _=>s3 _ _ e,λz=>(nomatch z),λa z=>.inl z,s3.al⟩
  refine sg C H3 σ2 δ2 fp2 ex x _ _ _ R3 (IterOk.at (H':=H2) (J:=J) (ds:=ds) k2.grow q3) (turn i _ δ2 hd i2) λσ4 δ4 fp4 R4 k4 h4=>?_
  have k5:=k3.trans k4
  refine sb C H3 σ4 δ4 fp4 ex _ _ R4 h4 ⟨λH' σ' δ' fp' R' k' n'=>⟨δ',fp',R',k5.trans k',n'⟩,λH' σ' δ' fp' R' k' n'=>E.nx H' σ' δ' fp' R' (S1.kp.trans (k5.trans k')) n',λH' σ' δ' fp' R' k' n'=>⟨δ',fp',R',k5.trans k',n'⟩,E.rt⟩
 ·have e:i=ds.length:=by omega
  subst e
  exact .inl ⟨itk.2 (by simp),E.nx H2 σ2 δ2 fp2 R2 (S1.kp.trans k2) (fin δ2 i2)⟩
end
noncomputable def gM(G:Xb)(io:List Nat)(c:Bool)(g:MGt):TG:=λv σ H Q=>∃(C:MC G) (δ:Zg) (fp:Fp) (ex:Addr->Prop) (d:Xa) (k:Zg->Prop),Rel C io H σ δ fp ex∧Da G H (λa=>c=true->Lf C fp ex a) v d∧g d δ k∧
 ∀σ' δ' fp',Rel C io H σ' δ' fp' ex->Kp H fp H fp'->k δ'->Q σ' H
noncomputable def tM(G:Xb)(io:List Nat)(p c:Bool)(m:MEt):TE:=λσ H Q=>∃(C:MC G) (δ:Zg) (fp:Fp) (ex:Addr->Prop) (K:OT->Zg->Prop),Rel C io H σ δ fp ex∧m δ K∧∀H' v r δ' fp' new,RE C io p c H σ δ fp ex H' v r δ' fp' new->K r δ'->Q v H'
noncomputable def ttM(G:Xb)(io:List Nat)(p:Bool)(m:MTt):TT:=λσ H Q=>∃(C:MC G) (δ:Zg) (fp:Fp) (ex:Addr->Prop) (K:Bool->Zg->Prop),Rel C io H σ δ fp ex∧m δ K∧∀H' b δ' fp',Rel C io H' σ δ' fp' ex->Stp p H δ fp H' δ' fp'->K b δ'->Q b H'
noncomputable def MIfs(X:Cx)(io:List Nat)(p:Bool)(ifs:List Expr)(m:MTt):Prop:=∃t,Z0w X ifs t∧STt X.K io p t m
section
variable {X:Cx}{io:List Nat}{p c:Bool}{e tg:Expr}{m:MEt}{mt:MTt}{g:MGt}{ifs:List Expr}
theorem MG.canon(h:MG X io c tg g):PG X tg (gM X.K io c g):=by
 obtain⟨t,A,s⟩:=h
 rintro pins sh σ H v u Q I r ⟨C,δ,fp,ex,d,k,R,q,h,kk⟩
 exact A pins sh σ H v u Q I r (s C H σ δ fp ex v d k Q R q h kk)
theorem ME.canon(h:ME X io p c e m):PE X e (tM X.K io p c m):=by
 obtain⟨t,A,s⟩:=h
 rintro pins sh σ H Q I ⟨C,δ,fp,ex,K,R,h,kk⟩
 exact A pins sh σ H Q I (s C H σ δ fp ex K Q R h kk)
theorem MIfs.canon(h:MIfs X io p ifs mt):Z0w X ifs (ttM X.K io p mt):=by
 obtain⟨t,A,s⟩:=h
 rintro pins sh σ H Q I ⟨C,δ,fp,ex,K,R,h,kk⟩
 exact A pins sh σ H Q I (s C H σ δ fp ex K Q R h kk)
noncomputable def Z4y:MTt:=λδ K=>K true δ
theorem Ju:MIfs X io true [] Z4y:=⟨_,Z0e,λC H σ δ fp ex K Q R h kk=>kk H true δ fp R (.refl _ _ _ _) h⟩
theorem Zua{cnd:Expr}(h:MT X io p cnd mt):MIfs X io p [cnd] mt:=by
 obtain⟨_,A,s⟩:=h
 exact⟨_,Z0b A,s⟩
end
variable {G:Xb}
noncomputable def blk(n:Nat)(caps:List Nat)(δ:Zg):Zg:=Xr n none ++ caps.map λi=>(δ[i]?).getD none
noncomputable def Jm(n:Nat)(caps:List Nat)(fp:Fp):Fp:=λk=>if k<n then[]else match caps[k-n]? with|some i=>fp i|none=>[]
noncomputable def Zbk(n:Nat)(caps:List Nat):List Nat:=(Xz caps.length).map (·+n)
noncomputable def Zyi(C:MC G)(H1:Hp)(fp:Fp)(σ0:St):MC G:=⟨H1,Foot fp,λa=>(C.L a∨C.H₀ a=none)∧¬Foot fp a,σ0⟩
noncomputable def Zgb(ex:Addr->Prop)(D:Addr)(fp fpb:Fp)(a:Addr):Prop:=ex a∨a=D∨(Foot fp a∧¬Foot fpb a)
section
variable {C:MC G}{io:List Nat}{H1 H':Hp}{σ:St}{δ:Zg}{fp:Fp}{ex:Addr->Prop}{own:List Str}{caps:List Nat}{D:Addr}{n:Nat}
theorem Zdm{k:Nat}{a:Addr}(h:a∈Jm n caps fp k):∃i,n≤k∧caps[k-n]? =some i∧a∈fp i:=by
 unfold Jm at h
 split at h
 ·exact nomatch h
 ·split at h
  ·rename_i i e
   exact⟨i,by omega,e,h⟩
  ·exact nomatch h
theorem Zwk{j i:Nat}(h:caps[j]? =some i):Jm n caps fp (n+j)=fp i:=by
 unfold Jm
 rw[if_neg (by omega),show n+j-n=j by omega,h]
theorem Z3l{k:Nat}{t:OT}(h:(blk n caps δ)[k]? =some (some t)):∃i,n≤k∧caps[k-n]? =some i∧δ[i]? =some (some t):=by
 unfold blk at h
 rw[List.getElem?_append]at h
 split at h
 ·rw[BP]at h
  split at h<;>cases h
 ·rename_i hk
  rw[Bo]at hk h
  rw[Xy]at h
  cases e:caps[k-n]? with
  | none=>rw[e]at h;cases h
  | some i=>
   rw[e]at h
   refine⟨i,by omega,rfl,?_⟩
   simp only[Option.map_some]at h
   cases e2:δ[i]? with
   | none=>rw[e2]at h;cases h
   | some o=>
    rw[e2]at h
    simpa using h
theorem Rel.block(R:Rel C io H1 σ δ fp ex)(nd:caps.Nodup)(hD:H1 D=none) :
  Rel (Zyi C H1 fp (Zaa own caps σ)) (Zbk own.length caps) (upd H1 D (.lst [])) (Zaa own caps σ) (blk own.length caps δ) (Jm own.length caps fp) (Zgb ex D fp (Jm own.length caps fp)):=by
 have s:=Z3 hD (.lst [])
 have sub:∀a,Foot (Jm own.length caps fp) a->Foot fp a:=λa q91=>by
  obtain⟨k,z⟩:=q91
  obtain⟨i,_,_,z⟩:=Zdm z
  exact⟨i,z⟩
 have neD:∀a,H1 a≠none->a≠D:=λa h z=>h (z▸hD)
 refine⟨by unfold Zaa blk;simp,λk t e=>?_,λk h=>?_,λk=>?_,λk l a h1 h2=>?_,λk a h z=>?_,λa z=>?_,λb o e _=>s _ _ e,λb e=>s.free e,λk a h=>?_,λk _=>rfl⟩
 ·obtain⟨i,hk,e1,e2⟩:=Z3l e
  obtain⟨v,e3,o⟩:=R.own i t e2
  refine⟨v,?_,?_⟩
  ·unfold Zaa
   rw[Q3 (by simpa using hk),Xi,Xy,e1]
   simp[e3]
  ·have ef:Jm own.length caps fp k=fp i:=by
    have:=Zwk (n:=own.length) (fp:=fp) e1
    rwa[show own.length+(k-own.length)=k by omega]at this
   rw[ef]
   refine(o.wide λa l q=>⟨λz=>l.1 (sub a z),λz=>?_,.inl ⟨l.2.2,l.1⟩⟩).same s
   rcases z with z|z|z
   ·exact l.2.1 z
   ·exact neD a q z
   ·exact l.1 z.1
 ·unfold Jm
  split
  ·rfl
  ·split
   ·rename_i i e1
    refine R.emp i λt z=>h t ?_
    unfold blk
    rw[Q3 (by rw[Bo];omega),Bo,Xy,e1]
    simp[z]
   ·rfl
 ·unfold Jm
  split
  ·exact .nil
  ·split
   ·exact R.nd _
   ·exact .nil
 ·obtain⟨i,hk,e1,m1⟩:=Zdm h1
  obtain⟨j,hl,e2,m2⟩:=Zdm h2
  have:=R.dj i j a m1 m2
  subst this
  have hlt:=(Xn.mp e1).1
  have:=(List.getElem?_inj hlt nd).mp (e1.trans e2.symm)
  omega
 ·obtain⟨i,hk,e1,m⟩:=Zdm h
  rcases z with z|z|z
  ·exact R.dx i a m z
  ·exact R.footSome (z▸hD) ⟨i,m⟩
  ·exact z.2 ⟨k,h⟩
 ·rcases z with z|z|z
  ·intro q;exact R.xa a z (s.free q)
  ·subst z;rw[Zv];intro q;cases q
  ·obtain⟨xs,e⟩:=R.foot z.1
   rw[s _ _ e];intro q;cases q
 ·obtain⟨i,hk,e1,m⟩:=Zdm h
  refine .inl ⟨?_,⟨i,m⟩⟩
  have:=(Xn.mp e1).1
  exact X4.mpr ⟨k-own.length,by simpa using this,by omega⟩
theorem Z2c{σ0:St}{fp':Fp}{ex':Addr->Prop}{a:Addr}(hx:∀a,ex a->ex' a)(l:Lf (Zyi C H1 fp σ0) fp' ex' a):Lf C fp ex a∨H1 a=none:=by
 obtain⟨l1,l2,l3⟩:=l
 rcases l3 with l3|l3
 ·exact .inl ⟨l3.2,λz=>l2 (hx a z),l3.1⟩
 ·exact .inr l3
theorem Rel.poke(R:Rel C io H' σ δ fp ex){xs ys:List V}(hx:ex D)(hD:H' D=some (.lst xs))(h0:C.H₀ D=none):Rel C io (upd H' D (.lst ys)) σ δ fp ex:=by
 have nf:¬Foot fp D:=λ⟨i,z⟩=>R.dx i D z hx
 have kp:∀b o,b≠D->H' b=some o->upd H' D (.lst ys) b=some o:=λb o n e=>by rw[Zr n];exact e
 refine⟨R.len,λi t e=>?_,R.emp,R.nd,R.dj,R.dx,λa z=>?_,λb o e n=>?_,λb e=>?_,R.new,R.io⟩
 ·obtain⟨v,e1,o⟩:=R.own i t e
  refine⟨v,e1,o.frame (λa zs l q=>⟨l,?_⟩) (λa zs q=>kp a _ (λz=>?_) q) λa m zs q=>kp a _ (λz=>nf ⟨i,z▸m⟩) q⟩
  ·have na:a≠D:=λz=>l.2.1 (z▸hx)
   rcases q with q|⟨u,q⟩
   ·exact .inl (kp a _ na q)
   ·exact .inr ⟨u,kp a _ na q⟩
  ·exact ImO.nl q (z▸hD)
 ·by_cases e:a=D
  ·subst e;rw[Zv];intro q;cases q
  ·rw[Zr e];exact R.xa a z
 ·refine kp b o (λz=>?_) (R.fr b o e n)
  rw[z,h0]at e;cases e
 ·refine R.al b ?_
  by_cases q:b=D
  ·subst q;rw[Zv]at e;cases e
  ·rwa[Zr q]at e
theorem Owns.poke{L:Addr->Prop}{xs ys zs:List V}{rs:List OT}{as:List Addr}(o:Owns G H' L zs rs as)(hD:H' D=Qh (HO.lst xs))(hL:¬L D)(hn:D∉as):Owns G (upd H' D (.lst ys)) L zs rs as:=by
 refine o.frame (λa zs l q=>⟨l,?_⟩) (λa zs q=>?_) λa m zs q=>?_
 ·have na:a≠D:=λz=>hL (z▸l)
  rcases q with q|⟨u,q⟩
  ·exact .inl (by rw[Zr na];exact q)
  ·exact .inr ⟨u,by rw[Zr na];exact q⟩
 ·rw[Zr (λz=>ImO.nl q (z▸hD))];exact q
 ·have na:a≠D:=λz=>hn (by rw[←z];exact m)
  rw[Zr na];exact q
theorem Owns.snoc{L:Addr->Prop}{xs:List V}{rs:List OT}{as bs:List Addr}{x:V}{r:OT}(h:Owns G H' L xs rs as)(k:Own G H' L x r bs):Owns G H' L (xs ++ [x]) (rs ++ [r]) (as ++ bs) :=
 Owns.rec (motive_1:=λ_ _ _ _=>True) (motive_2:=λxs rs as _=>Owns G H' L (xs ++ [x]) (rs ++ [r]) (as ++ bs)) (λ_=>trivial) (λ_ _ _=>trivial) (λ_ _ _=>trivial) (λ_ _ _=>trivial) (by have:=Owns.cons k .nil;rwa[Qw]at this) (λk _ _ ih=>by rw[Q8];exact .cons k ih) h
end
structure Zx1(C:MC G)(H1:Hp)(fp1:Fp)(ex:Addr->Prop)(n:Nat)(caps:List Nat)(σ0:St)(D:Addr)(pb:Bool)(H':Hp)(σ':St)(δ':Zg)(fp':Fp)(ys:List V)(rs:List OT)(new:List Addr):Prop where
 keep:∀b o,H1 b=some o->(pb=true∨¬Foot (Jm n caps fp1) b)->H' b=some o
 al:∀b,H' b=none->H1 b=none
 dat:H' D=some (.lst ys)
 rel:Rel (Zyi C H1 fp1 σ0) (Zbk n caps) H' σ' δ' fp' (exu (Zgb ex D fp1 (Jm n caps fp1)) new)
 grow:∀a,Foot fp' a->Foot (Jm n caps fp1) a∨H1 a=none
 own:Owns G H' (λa=>true=true->Lf (Zyi C H1 fp1 σ0) fp' (exu (Zgb ex D fp1 (Jm n caps fp1)) new) a) ys rs new
 nd:new.Nodup
 fresh:∀a∈new,H1 a=none∧a≠D
section
variable {io:List Nat}{p c pt pe ci:Bool}{g:MGt}{mt:MTt}{me:MEt}{own:List Str}{caps:List Nat}
theorem Zq3{C:MC G}{H1:Hp}{σ:St}{δ1:Zg}{fp1:Fp}{ex:Addr->Prop}{J:It}{ds:List Xa}{D:Addr}{Qf:Hp->Prop}(I:Nat->List OT->Zg->Prop)(R1:Rel C io H1 σ δ1 fp1 ex)
  (it:∀H':Hp,(∀b o,H1 b=some o->((pt&&pe)=true∨¬Foot (Jm own.length caps fp1) b)->H' b=some o)->∀i:Nat,(∀d,ds[i]? =some d->J.go i H'∧∀x H'',J.yld i H' x H''->Same H' H''∧Da G H'' (λa=>ci=true->(Lf C fp1 ex a∧H1 a≠none)) x d)∧(ds[i]? =none->J.stop i H'))
  (nd:caps.Nodup) (hD:H1 D=none) (hz:ds.length≤Xo) (h0:I 0 [] (blk own.length caps δ1))
  (turn:∀(i:Nat) (d:Xa) (rs:List OT) (δ':Zg),ds[i]? =some d->I i rs δ'->g d δ' λδ2=>mt δ2 λb δ3=>if b=true then me δ3 λr δ4=>I (i+1) (rs ++ [r]) δ4 else I (i+1) rs δ3)
  (fin:∀H' σ' δ' fp' ys rs new,Zx1 C H1 fp1 ex own.length caps (Zaa own caps σ) D (pt&&pe) H' σ' δ' fp' ys rs new->I ds.length rs δ'->Qf H') :
  Z0u J (gM G (Zbk own.length caps) ci g) (ttM G (Zbk own.length caps) pt mt) (tM G (Zbk own.length caps) pe true me) (Zaa own caps σ) D Qf H1:=by
 have hx:Zgb ex D fp1 (Jm own.length caps fp1) D:=.inr (.inl rfl)
 refine⟨λi n σ' H'=>n=ds.length-i∧i≤ds.length∧∃rs ys new δ' fp',Zx1 C H1 fp1 ex own.length caps (Zaa own caps σ) D (pt&&pe) H' σ' δ' fp' ys rs new∧ys.length≤i∧I i rs δ',⟨ds.length,rfl,Q9 _,[],[],[],_,_,⟨λb o e _=>Z3 hD _ _ _ e,(Z3 hD _).al,Zv,?_,λa z=>.inl z,.nil,.nil,λa m=>(nomatch m)⟩,Qp _,h0⟩,?_⟩
 ·exact(R1.block nd hD).drop λa z=>Zbd.mp z
 rintro i n σ2 H2 ⟨rfl,hle,rs,ys,new,δ2,fp2,B,hl,i2⟩
 have subB:∀b,Foot (Jm own.length caps fp1) b->Foot fp1 b:=λb q92=>by
  obtain⟨k,z⟩:=q92
  obtain⟨i,_,_,z⟩:=Zdm z
  exact⟨i,z⟩
 have itk:=it H2 B.keep i
 by_cases hlt:i<ds.length
 case neg=>
  have e:i=ds.length:=by omega
  subst e
  exact .inl ⟨itk.2 (by simp),fin H2 σ2 δ2 fp2 ys rs new B i2⟩
 have hd:ds[i]? =some ds[i]:=Xh hlt
 obtain⟨go,yl⟩:=itk.1 _ hd
 refine .inr ⟨go,λx H3 hy=>?_⟩
 obtain⟨s3,q3⟩:=yl x H3 hy
 have R3:=B.rel.mk0 s3
 have D3:H3 D=some (.lst ys):=s3 _ _ B.dat
 -- the item,clean in the block
 have q3':Da G H3 (λa=>ci=true->Lf (Zyi C H1 fp1 (Zaa own caps σ)) fp2 (exu (Zgb ex D fp1 (Jm own.length caps fp1)) new) a) x ds[i]:=by
  refine q3.wide λa l _ z=>?_
  obtain⟨⟨l1,l2,l3⟩,l4⟩:=l z
  refine⟨λw=>?_,λw=>?_,.inl ⟨l3,l1⟩⟩
  ·rcases B.grow a w with w|w
   ·exact l1 (subB a w)
   ·exact l4 w
  ·rcases w with(w|w|w)|w
   ·exact l2 w
   ·subst w;exact l4 hD
   ·exact l1 w.1
   ·exact l4 (B.fresh a w).1
 refine⟨_,δ2,fp2,_,_,_,R3,q3',turn i _ rs δ2 hd i2,λσ4 δ4 fp4 R4 k4 h4=>?_⟩
 refine⟨_,δ4,fp4,_,_,R4,h4,λH5 b δ5 fp5 R5 S5 h5=>?_⟩
 -- the state behind the test
 have keep5:∀b o,H1 b=some o->((pt&&pe)=true∨¬Foot (Jm own.length caps fp1) b)->H5 b=some o:=λb o e q=>by
  refine S5.keep b o (s3 _ _ (B.keep b o e q)) ?_
  rcases q with q|q
  ·rw[Xx]at q;exact .inl q.1
  ·refine .inr λz=>?_
   rcases k4.grow b z with z|z
   ·rcases B.grow b z with z|z
    ·exact q z
    ·rw[e]at z;cases z
   ·rw[s3 _ _ (B.keep b o e (.inr q))]at z;cases z
 have al5:∀b,H5 b=none->H1 b=none:=λb e=>B.al b (s3.al b (S5.al b e))
 have grow4:∀a,Foot fp4 a->Foot (Jm own.length caps fp1) a∨H1 a=none:=λa z=>by
  rcases k4.grow a z with z|z
  ·exact B.grow a z
  ·exact .inr (B.al a (s3.al a z))
 have grow5:∀a,Foot fp5 a->Foot (Jm own.length caps fp1) a∨H1 a=none:=λa z=>by
  rcases S5.grow a z with z|z
  ·exact grow4 a z
  ·exact .inr (B.al a (s3.al a z))
 have D5:H5 D=some (.lst ys):=S5.keep D _ D3 (.inr λ⟨k,z⟩=>R4.dx k D z (.inl hx))
 have own3:=B.own.same s3
 -- the items so far behind the target and the test
 have own4:Owns G H3 (λa=>true=true->Lf (Zyi C H1 fp1 (Zaa own caps σ)) fp4 (exu (Zgb ex D fp1 (Jm own.length caps fp1)) new) a) ys rs new:=by
  refine own3.wide λa l q z=>?_
  obtain⟨l1,l2,l3⟩:=l z
  exact⟨λw=>(k4.grow a w).elim l1 q,l2,l3⟩
 have own5:=R4.owns_step (ex':=exu (Zgb ex D fp1 (Jm own.length caps fp1)) new) S5 (c:=true) (.inr rfl) (λa z=>.inl z) (λa m=>.inr m) own4
 dsimp only at h5⊢
 cases b with
 | false=>
  rw[if_neg Xp]at h5⊢
  exact⟨ds.length-(i+1),by omega,rfl,hlt,rs,ys,new,δ5,fp5,⟨keep5,al5,D5,R5,grow5,own5,B.nd,B.fresh⟩,by omega,h5⟩
 | true=>
  rw[if_pos rfl]at h5⊢
  refine⟨_,δ5,fp5,_,_,R5,h5,λH6 v r δ6 fp6 nr r6 h6=>?_⟩
  have D6:H6 D=some (.lst ys):=r6.stp.keep D _ D5 (.inr λ⟨k,z⟩=>R5.dx k D z (.inl hx))
  have hDnr:D∉nr:=λz=>by
   have:=r6.fresh D z
   rw[D5]at this;cases this
  have own6:=R5.owns_step (ex':=exu (exu (Zgb ex D fp1 (Jm own.length caps fp1)) new) nr) r6.stp (c:=true) (.inr rfl) (λa z=>z.imp id λz=>r6.fresh a z) (λa m=>.inr m) own5
  have eqx:∀a,exu (Zgb ex D fp1 (Jm own.length caps fp1)) (new ++ nr) a->exu (exu (Zgb ex D fp1 (Jm own.length caps fp1)) new) nr a:=λa z=>by
   rcases z with z|z
   ·exact .inl (.inl z)
   ·rcases Qz.mp z with z|z
    ·exact .inl (.inr z)
    ·exact .inr z
  have lw:∀a,(true=true->Lf (Zyi C H1 fp1 (Zaa own caps σ)) fp6 (exu (exu (Zgb ex D fp1 (Jm own.length caps fp1)) new) nr) a)->H6 a≠none->(true=true->Lf (Zyi C H1 fp1 (Zaa own caps σ)) fp6 (exu (Zgb ex D fp1 (Jm own.length caps fp1)) (new ++ nr)) a) :=
   λa l _ z=>⟨(l z).1,λw=>(l z).2.1 (eqx a w),(l z).2.2⟩
  have ownA:=(own6.snoc r6.own).wide lw
  refine⟨ys,D6,by omega,ds.length-(i+1),by omega,rfl,hlt,rs ++ [r],ys ++ [v],new ++ nr,δ6,fp6,⟨λb o e q=>?_,λb e=>?_,Zv,?_,λa z=>?_,?_,?_,λa m=>?_⟩,by rw[XX];show ys.length+1≤i+1;omega,h6⟩
  ·have nD:b≠D:=λz=>by rw[z,hD]at e;cases e
   rw[Zr nD]
   refine r6.stp.keep b o (keep5 b o e q) ?_
   rcases q with q|q
   ·rw[Xx]at q;exact .inl q.2
   ·refine .inr λz=>?_
    rcases grow5 b z with z|z
    ·exact q z
    ·rw[e]at z;cases z
  ·by_cases q:b=D
   ·subst q;rw[Zv]at e;cases e
   ·rw[Zr q]at e
    exact al5 b (r6.stp.al b e)
  ·exact(r6.rel.drop eqx).poke (.inl hx) D6 hD
  ·rcases r6.stp.grow a z with z|z
   ·exact grow5 a z
   ·exact .inr (al5 a z)
  ·exact ownA.poke D6 (λz=>(z rfl).2.1 (.inl hx)) (λm=>by
    rcases Qz.mp m with m|m
    ·exact(B.fresh D m).2 rfl
    ·exact hDnr m)
  ·refine JQ.mpr ⟨B.nd,r6.nd,λa m b m' z=>?_⟩
   subst z
   obtain⟨xs,e⟩:=own5.some a m
   rw[r6.fresh a m']at e;cases e
  ·rcases Qz.mp m with m|m
   ·exact B.fresh a m
   ·exact⟨al5 a (r6.fresh a m),λz=>hDnr (z▸m)⟩
end
variable {G:Xb}
section
variable {X:Cx}{io:List Nat}{p p' c pt pe ci:Bool}{g:MGt}{mt:MTt}{me m:MEt}{mi:MIt}{own:List Str}{caps:List Nat}{e:Expr}
noncomputable def Z5e(n:Nat)(caps:List Nat)(ds:List Xa)(g:MGt)(mt:MTt)(me:MEt)(δ1:Zg)(K:OT->Zg->Prop):Prop:=ds.length≤Xo∧∃I:Nat->List OT->Zg->Prop,I 0 [] (blk n caps δ1)∧
 (∀ (i:Nat) (d:Xa) (rs:List OT) (δ':Zg),ds[i]? =some d->I i rs δ'->g d δ' λδ2=>mt δ2 λb δ3=>if b=true then me δ3 λr δ4=>I (i+1) (rs ++ [r]) δ4 else I (i+1) rs δ3)∧
 ∀rs δ',I ds.length rs δ'->K (.nd rs) δ1
noncomputable def Zhe(n:Nat)(caps:List Nat)(mi:MIt)(g:MGt)(mt:MTt)(me:MEt):MEt:=λδ K=>mi δ λds δ1=>Z5e n caps ds g mt me δ1 K
theorem Z0i{wi:TI}(si:SI G io p ci wi mi)(nd:caps.Nodup)(hp:(pt&&pe)=true) :
  SE G io p true (Z0y own caps wi (gM G (Zbk own.length caps) ci g) (ttM G (Zbk own.length caps) pt mt) (tM G (Zbk own.length caps) pe true me)) (Zhe own.length caps mi g mt me):=by
 intro C H σ δ fp ex K Q R h k
 refine si C H σ δ fp ex _ _ R h λJ H1 ds δ1 fp1 R1 S1 it h1 D hD=>?_
 obtain⟨hz,I,h0,turn,fin⟩:=h1
 refine Zq3 I R1 (λH' kp=>it H' λb o e _=>kp b o e (.inl hp)) nd hD hz h0 turn λH' σ' δ' fp' ys rs new B i'=>?_
 have s:Same H1 H':=λb o e=>B.keep b o e (.inl hp)
 refine k H' (.ref D) (.nd rs) δ1 fp1 (D :: new) (RE.tree R R1 S1 s (λa m=>?_) (Qd.mpr ⟨λm=>(B.fresh D m).2 rfl,B.nd⟩) (.nd B.dat (B.own.wide λa l _=>?_))) (fin rs δ' i')
 ·rcases Xl.mp m with rfl|m
  ·exact hD
  ·exact(B.fresh a m).1
 ·refine⟨?_,λm=>?_⟩
  ·rcases Z2c (λa z=>.inl (.inl z)) (l rfl)with z|z
   ·exact .inl λ_=>z
   ·exact .inr z
  ·rcases Xl.mp m with z|z
   ·exact(l rfl).2.1 (.inl (.inr (.inl z)))
   ·exact(l rfl).2.1 (.inr z)
variable {N':List Str}{sc:VN}{tg elt iter:Expr}{ifs:List Expr}{pos:Pos}
theorem Z3p(S:CompScope X own caps N' sc)(hc:X.calm=true)(nd:caps.Nodup)(hi:MI X io p ci tg iter mi)
  (hg:∀C cells s₂ H₂ fp,MG (Wg X N' sc C cells s₂ H₂ fp) (Zbk own.length caps) ci tg g) (ht:∀C cells s₂ H₂ fp,MIfs (Wg X N' sc C cells s₂ H₂ fp) (Zbk own.length caps) pt ifs mt) (he:∀C cells s₂ H₂ fp,ME (Wg X N' sc C cells s₂ H₂ fp) (Zbk own.length caps) pe true elt me)
  (hp:(pt&&pe)=true:=by rfl) (hs:∀x,JV iter X.env x=pure x:=by intro _;rfl):ME X io p true (.ListComp elt [⟨tg,iter,ifs,0⟩] sc pos) (Zhe own.length caps mi g mt me):=by
 obtain⟨_,A,si⟩:=hi
 exact⟨_,Zzb S hc A (λC cells s₂ H₂ fp=>(hg C cells s₂ H₂ fp).canon) (λC cells s₂ H₂ fp=>(ht C cells s₂ H₂ fp).canon) (λC cells s₂ H₂ fp=>(he C cells s₂ H₂ fp).canon) hs,Z0i si nd hp⟩
section
variable {i:Nat}{y:Str}{py spos:Pos}
theorem Zbn(own':Bool)(hN:X.N.Nodup)(hy:X.N[i]? =some y)(hx:Loc X.env.scope y)(S:CompScope X own caps N' sc)(hc:X.calm=true)(nd:caps.Nodup)(hi:MI X io p ci tg iter mi)
  (hg:∀C cells s₂ H₂ fp,MG (Wg X N' sc C cells s₂ H₂ fp) (Zbk own.length caps) ci tg g) (ht:∀C cells s₂ H₂ fp,MIfs (Wg X N' sc C cells s₂ H₂ fp) (Zbk own.length caps) pt ifs mt) (he:∀C cells s₂ H₂ fp,ME (Wg X N' sc C cells s₂ H₂ fp) (Zbk own.length caps) pe true elt me)
  (hp:(pt&&pe)=true:=by rfl) (hio:i∉io:=by decide)
  (hsw:Bs (.ListComp elt [⟨tg,iter,ifs,0⟩] sc pos) (some (.Name y py)) spos.line X.env=pure true:=by rfl)
  (hs:∀x,JV iter X.env x=pure x:=by intro _;rfl) (hf:X.fn y=true∨X.env.scope.names.lookup y=some .local:=by first|exact .inl rfl|exact .inr rfl|assumption) :
  MS X io (.Assign [.Name y py] (.ListComp elt [⟨tg,iter,ifs,0⟩] sc pos) spos) (if own'=true then Zqc i (Zhe own.length caps mi g mt me)else Z10 i (Zhe own.length caps mi g mt me)):=by
 obtain⟨_,A,si⟩:=hi
 refine⟨_,Zpy (g:=gM X.K (Zbk own.length caps) ci g) (tt:=ttM X.K (Zbk own.length caps) pt mt) (te:=tM X.K (Zbk own.length caps) pe true me) hN hy hx S hc A (λC cells s₂ H₂ fp=>(hg C cells s₂ H₂ fp).canon) (λC cells s₂ H₂ fp=>(ht C cells s₂ H₂ fp).canon) (λC cells s₂ H₂ fp=>(he C cells s₂ H₂ fp).canon) hsw hs hf,?_⟩
 cases own'
 ·exact Yai (Z0i si nd hp) hio
 ·exact Z43 (Z0i si nd hp) hio
end
end
variable {G:Xb}
section
variable {X:Cx}{pins:List (Addr×Obj)}{σ:St}{H:Hp}{s:Xf}{l:Addr}{xs:List V}
noncomputable def Z2z(K:Xb):R2:=λx y H Q=>∃l b xs zs,x= .ref l∧y= .ref b∧SqL K H l xs∧SqL K H b zs∧xs.length+zs.length≤Xo∧∀p,H p=none->Q (.ref p) (upd H p (.lst (xs ++ zs)))
theorem Inv.lstQ{K:Xb}(hK:X.K=K)(I:Inv X pins σ H s)(hH:SqL K H l xs):∃(its:List Xe) (n:Nat),Vals xs its∧xs.length=its.length∧∃o,s.heap.get? l=some o∧o.cls= .type "list"∧o.dict=none∧o.data= .seq its.toArray n:=by
 subst hK
 obtain⟨its,r,⟨o,n,e,h1,h2,h3⟩,_⟩:=I.list hH
 exact⟨its,n,r,r.length,o,e,h1,h2,h3⟩
theorem Wn{K:Xb}(hK:X.K=K):OpR X (Vs .Add) (Z2z K):=by
 intro pins s σ H x y v u Q I rx ry h
 obtain⟨l,b,xs,zs,rfl,rfl,hH,hB,hz,q⟩:=h
 cases rx
 cases ry
 obtain⟨its,n,r,hl,⟨cls,dd,data,sl⟩,ho,hc,_,hd⟩:=I.lstQ hK hH
 obtain⟨its2,n2,r2,hl2,⟨cls2,dd2,data2,sl2⟩,ho2,hc2,_,hd2⟩:=I.lstQ hK hB
 simp only at hc hd hc2 hd2
 subst hc hd hc2 hd2
 have ea:its.toArray ++ its2.toArray=(its ++ its2).toArray:=by simp
 refine concat_meets ⟨_,ho,rfl⟩ ⟨_,ho2,rfl⟩ noFill_list_add seq_list_add PySem.F.slot_list_add PySem.F.entry_list_add (PySem.F.args_list_add_2 _ _) (list_addW l b its.toArray its2.toArray n n2 dd dd2 sl sl2 (by simp only[Xu];omega)) ⟨ho,ho2,?_⟩
 rw[ea]
 exact⟨.ref _,_,I.lnew (t':=s.toks) (r.append r2) (by rw[XX];omega),rfl,q _ I.fresh⟩
end
noncomputable def asI(d:Xa)(k:Int->Prop):Prop:=match d with| .int i=>k i|_=>False
noncomputable def asL(d:Xa)(k:List Xa->Prop):Prop:=match d with| .list ds=>k ds|_=>False
section
variable {H:Hp}{L:Addr->Prop}{v:V}{d:Xa}
theorem Da.intInv{k:Int->Prop}(q:Da G H L v d)(h:asI d k):∃i,v= .int i∧k i:=by
 cases q with
 | int b=>exact⟨b,rfl,h⟩
 | _=>exact h.elim
theorem Da.lstInv{k:List Xa->Prop}(q:Da G H L v d)(h:asL d k):∃a xs ds,v= .ref a∧SqL G H a xs∧Das G H L xs ds∧k ds:=by
 cases q with
 | lst l e r=>exact⟨_,_,_,rfl,.inl e,r,h⟩
 | scr s=>exact⟨_,_,_,rfl,s.sq,.ints _,h⟩
 | _=>exact h.elim
end
noncomputable def d2I(C:Int->Int->Prop)(g:Int->Int->Xa):Xa->Xa->(Xa->Prop)->Prop:=λd e k=>asI d λi=>asI e λj=>C i j∧k (g i j)
noncomputable def Zyc(g:Int->Int->Xa):Xa->Xa->(Xa->Prop)->Prop:=λd e k=>asI d λi=>asI e λj=>k (g i j)
theorem Z5p{C:Int->Int->Prop}{f:Int->Int->Int}:P2s G (rI C λi j=>.int (f i j)) (d2I C λi j=>.int (f i j)):=λH L x y d e k Q hx hy h kk=>by
 obtain⟨i,rfl,h⟩:=hx.intInv h
 obtain⟨j,rfl,h⟩:=hy.intInv h
 exact⟨i,j,rfl,rfl,h.1,kk _ _ (.int _) h.2⟩
structure MulOk(i j:Int):Prop where
 ok:IntMulOk i j
structure Yad(i j:Int):Prop where
 ok:DivOk i j
structure Ya0(i j:Int):Prop where
 ok:Z6s i j
theorem Zx7{f:Int->Int->Int}:P2s G (rI IntMulOk λi j=>.int (f i j)) (d2I MulOk λi j=>.int (f i j)):=λH L x y d e k Q hx hy h kk=>by
 obtain⟨i,rfl,h⟩:=hx.intInv h
 obtain⟨j,rfl,h⟩:=hy.intInv h
 exact⟨i,j,rfl,rfl,h.1.ok,kk _ _ (.int _) h.2⟩
theorem Z5s{f:Int->Int->Int}:P2s G (rI DivOk λi j=>.int (f i j)) (d2I Yad λi j=>.int (f i j)):=λH L x y d e k Q hx hy h kk=>by
 obtain⟨i,rfl,h⟩:=hx.intInv h
 obtain⟨j,rfl,h⟩:=hy.intInv h
 exact⟨i,j,rfl,rfl,h.1.ok,kk _ _ (.int _) h.2⟩
theorem Z2x{f:Int->Int->Int}:P2s G (rI Z6s λi j=>.int (f i j)) (d2I Ya0 λi j=>.int (f i j)):=λH L x y d e k Q hx hy h kk=>by
 obtain⟨i,rfl,h⟩:=hx.intInv h
 obtain⟨j,rfl,h⟩:=hy.intInv h
 exact⟨i,j,rfl,rfl,h.1.ok,kk _ _ (.int _) h.2⟩
theorem Zjn{f:Int->Int->Int}:P2s G (rI0 λi j=>.int (f i j)) (Zyc λi j=>.int (f i j)):=λH L x y d e k Q hx hy h kk=>by
 obtain⟨i,rfl,h⟩:=hx.intInv h
 obtain⟨j,rfl,h⟩:=hy.intInv h
 exact⟨i,j,rfl,rfl,kk _ _ (.int _) h⟩
theorem Zib{f:Int->Int->Bool}:P2s G (rI0 λi j=>.bl (f i j)) (Zyc λi j=>.bool (f i j)):=λH L x y d e k Q hx hy h kk=>by
 obtain⟨i,rfl,h⟩:=hx.intInv h
 obtain⟨j,rfl,h⟩:=hy.intInv h
 exact⟨i,j,rfl,rfl,kk _ _ (.bl _) h⟩
section
variable {X:Cx}
noncomputable def Z9u(K:Xb):R2:=λx y H Q=>∃(L L':Addr->Prop) (d e:Xa),Da K H L x d∧Da K H L' y e∧Shp d∧Shp e∧Q (.bl (Qx d e)) H
noncomputable def Yal(K:Xb):R2:=λx y H Q=>∃(L L':Addr->Prop) (d e:Xa),Da K H L x d∧Da K H L' y e∧Shp d∧Shp e∧Q (.bl (!Qx d e)) H
theorem Zig(hu:X.A.units+64<cLine):OpR X (Vo .Eq) (Z9u X.K):=by
 intro pins s σ H x y v u Q I rx ry h
 obtain⟨L,L',d,e,h1,h2,s1,s2,q⟩:=h
 obtain⟨as,k1⟩:=h1.reads rfl I rx (Vt s1)
 obtain⟨bs,k2⟩:=h2.reads rfl I ry (Vt s2)
 exact eq_dataH k1 k2 s1 s2 hu ⟨.bl _,H,I,rfl,q⟩
theorem Zpf(hu:X.A.units+64<cLine):OpR X (Vo .NotEq) (Yal X.K):=by
 intro pins s σ H x y v u Q I rx ry h
 obtain⟨L,L',d,e,h1,h2,s1,s2,q⟩:=h
 obtain⟨as,k1⟩:=h1.reads rfl I rx (Vt s1)
 obtain⟨bs,k2⟩:=h2.reads rfl I ry (Vt s2)
 exact ne_dataH k1 k2 s1 s2 hu ⟨.bl _,H,I,rfl,q⟩
end
structure Z2f(d:Xa):Prop where
 ok:Shp d
noncomputable def dEq:Xa->Xa->(Xa->Prop)->Prop:=λd e k=>Z2f d∧Z2f e∧k (.bool (Qx d e))
noncomputable def dNe:Xa->Xa->(Xa->Prop)->Prop:=λd e k=>Z2f d∧Z2f e∧k (.bool (!Qx d e))
theorem Zp2:P2s G (Z9u G) dEq:=λH L x y d e k Q hx hy h kk=>⟨L,L,d,e,hx,hy,h.1.ok,h.2.1.ok,kk _ _ (.bl _) h.2.2⟩
theorem Zwp:P2s G (Yal G) dNe:=λH L x y d e k Q hx hy h kk=>⟨L,L,d,e,hx,hy,h.1.ok,h.2.1.ok,kk _ _ (.bl _) h.2.2⟩
noncomputable def Zi9:Xa->Bool
 | .none=>true
 | _=>false
noncomputable def scD:Xa->Bool
 | .none=>true
 | .bool _=>true
 | .int _=>true
 | .str _=>true
 | _=>false
noncomputable def eqS:Xa->Xa->Bool
 | .none,.none=>true
 | .bool a,.bool b=>a==b
 | .bool a,.int b=>(if a then 1 else 0)==b
 | .int a,.bool b=>a==(if b then 1 else 0)
 | .int a,.int b=>a==b
 | .str a,.str b=>a==b
 | _,_=>false
noncomputable def memS(d:Xa)(ds:List Xa):Bool:=ds.any λe=>eqS e d
theorem Da.toSc{H:Hp}{L:Addr->Prop}{v:V}{d:Xa}(h:Da G H L v d)(s:scD d=true):ScD v d:=by
 cases h with
 | non=>exact .non
 | bl b=>exact .bl b
 | int i=>exact .int i
 | str x=>exact .str x
 | _=>cases s
theorem Da.sc{H:Hp}{L:Addr->Prop}{v:V}{d:Xa}(h:Da G H L v d)(s:scD d=true):Zhc v=true:=by
 cases h.toSc s<;>rfl
theorem Das.sc{H:Hp}{L:Addr->Prop}{vs:List V}{ds:List Xa}(h:Das G H L vs ds):ds.all scD=true->vs.all Zhc=true :=
 Das.ind (Q:=λvs ds=>ds.all scD=true->vs.all Zhc=true) (λ_=>rfl) (λh _ r s=>by
  rw[Uz,Xx]at s
  rw[Uz,h.sc s.1,r s.2];rfl) h
theorem Da.eqS{H:Hp}{L:Addr->Prop}{v u:V}{d e:Xa}(h:Da G H L v d)(g:Da G H L u e)(s:scD d=true)(t:scD e=true):eqV v u=L2.eqS d e:=by
 cases h.toSc s<;>cases g.toSc t<;>rfl
theorem Das.memS{H:Hp}{L:Addr->Prop}{v:V}{d:Xa}(h:Da G H L v d)(s:scD d=true){vs:List V}{ds:List Xa}(g:Das G H L vs ds):ds.all scD=true->inV v vs=L2.memS d ds :=
 Das.ind (Q:=λvs ds=>ds.all scD=true->inV v vs=L2.memS d ds) (λ_=>rfl) (λg _ r t=>by
  rw[Uz,Xx]at t
  have:=r t.2
  unfold inV L2.memS at*
  rw[List.any_cons,List.any_cons,this,g.eqS h t.1 s]) g
noncomputable def dIn(neg:Bool):Xa->Xa->(Xa->Prop)->Prop:=λd e k=>scD d=true∧match e with
 | .list ds=>ds.all scD=true∧k (.bool (if neg then !memS d ds else memS d ds))
 | .tuple ds=>ds.all scD=true∧k (.bool (if neg then !memS d ds else memS d ds))
 | _=>False
theorem Z4i{neg:Bool}:P2s G (rIn G neg) (dIn neg):=λH L x y d e k Q hx hy h kk=>by
 obtain⟨s,h⟩:=h
 cases hy with
 | lst l e r=>exact⟨_,_,rfl,.inl (.inl e),hx.sc s,r.sc h.1,by rw[Das.memS hx s r h.1];exact kk _ _ (.bl _) h.2⟩
 | tup e r=>exact⟨_,_,rfl,.inr (.inl (.inl e)),hx.sc s,r.sc h.1,by rw[Das.memS hx s r h.1];exact kk _ _ (.bl _) h.2⟩
 | scr ks=>exact⟨_,_,rfl,.inl ks.sq,hx.sc s,(Das.ints (G:=G) (H:=H) (L:=L) _).sc h.1,by rw[Das.memS hx s (Das.ints (G:=G) (H:=H) (L:=L) _) h.1];exact kk _ _ (.bl _) h.2⟩
 | _=>exact h.elim
noncomputable def ixD(d e:Xa):Option Xa:=match d,e with
 | .list ds,.int i=>atI ds i
 | .tuple ds,.int i=>atI ds i
 | _,_=>none
noncomputable def dIx:Xa->Xa->(OT->Prop)->Prop:=λd e k=>match ixD d e with|some x=>k (.fz x)|none=>False
theorem Das.atI{H:Hp}{L:Addr->Prop}{xs:List V}{ds:List Xa}{i:Int}{d:Xa}(h:Das G H L xs ds)(e:L2.atI ds i=some d):∃x,L2.atI xs i=some x∧Da G H L x d:=by
 unfold L2.atI at*
 rw[h.length]
 cases q:ixN ds.length i with
 | none=>rw[q]at e;cases e
 | some j=>
  rw[q]at e
  exact h.get e
theorem Z81:P2 G (rIx G) dIx:=λH L x y d e k Q hx hy h kk=>by
 unfold dIx at h
 split at h
 case h_2=>exact h.elim
 rename_i z ez
 have fin:∀v,Da G H L v z->Q v H:=λv q=>kk H v (.fz z) [] (Same.refl _) (.fz (q.wide λa l _=>⟨.inl l,λm=>nomatch m⟩)) .nil (λa m=>nomatch m) h
 cases hx with
 | lst l e1 r=>
  cases hy with
  | int i=>
   obtain⟨v,e2,q⟩:=r.atI (show L2.atI _ i=some z from ez)
   exact .inl ⟨_,_,i,v,rfl,rfl,.inl e1,e2,fin v q⟩
  | _=>cases ez
 | tup e1 r=>
  cases hy with
  | int i=>
   obtain⟨v,e2,q⟩:=r.atI (show L2.atI _ i=some z from ez)
   exact .inr (.inl ⟨_,_,i,v,rfl,rfl,.inl (.inl e1),e2,fin v q⟩)
  | _=>cases ez
 | scr ks=>
  cases hy with
  | int i=>
   obtain⟨v,e2,q⟩:=(Das.ints (G:=G) (H:=H) (L:=L) _).atI (show L2.atI _ i=some z from ez)
   exact .inl ⟨_,_,i,v,rfl,rfl,ks.sq,e2,fin v q⟩
  | _=>cases ez
 | _=>cases ez
theorem Own.list{H:Hp}{L:Addr->Prop}{p:Addr}{xs:List V}{ds:List Xa}(hp:H p=none)(h:Das G H L xs ds):Own G (upd H p (.lst xs)) (λa=>(L a∨H a=none)∧a∉[p]) (.ref p) (.nd (ds.map OT.fz)) [p] :=
 .nd Zv (((h.wide λa l q=>⟨.inl l,λm=>q (by rw[XH.mp m];exact hp)⟩).same (Z3 hp _)).owns)
theorem Za5{H:Hp}{p:Addr}(hp:H p=none):∀a∈[p],H a=none:=λa m=>by rw[XH.mp m];exact hp
theorem Zdw(p:Addr):[p].Nodup:=Qd.mpr ⟨λm=>(nomatch m),.nil⟩
noncomputable def dCat:Xa->Xa->(OT->Prop)->Prop:=λd e k=>asL d λds=>asL e λes=>ds.length+es.length≤Xo∧k (.nd ((ds ++ es).map OT.fz))
theorem J1:P2 G (Z2z G) dCat:=λH L x y d e k Q hx hy h kk=>by
 obtain⟨a,xs,ds,rfl,e1,r1,h⟩:=hx.lstInv h
 obtain⟨b,ys,es,rfl,e2,r2,h⟩:=hy.lstInv h
 exact⟨a,b,xs,ys,rfl,rfl,e1,e2,by rw[r1.length,r2.length];exact h.1,λp hp=>kk _ _ _ [p] (Z3 hp _) (Own.list hp (r1.append r2)) (Zdw p) (Za5 hp) h.2⟩
noncomputable def n1(k:Xa->Prop)(ds:List Xa):Prop:=match ds with|[d]=>k d|_=>False
noncomputable def n2(k:Xa->Xa->Prop)(ds:List Xa):Prop:=match ds with|[d,e]=>k d e|_=>False
theorem Das.one{H:Hp}{L:Addr->Prop}{vs:List V}{ds:List Xa}{k:Xa->Prop}(q:Das G H L vs ds)(h:n1 k ds):∃v d,vs=[v]∧ds=[d]∧Da G H L v d∧k d:=by
 cases q with
 | nil=>exact h.elim
 | cons q r=>
  cases r with
  | nil=>exact⟨_,_,rfl,rfl,q,h⟩
  | cons _ _=>exact h.elim
noncomputable def Zvl:Xa->Option Nat
 | .list ds=>some ds.length
 | .tuple ds=>some ds.length
 | _=>none
noncomputable def Yaj:List Xa->(Xa->Prop)->Prop:=λds k=>n1 (λd=>match Zvl d with|some n=>k (.int n)|none=>False) ds
theorem Zlj:PNs G (Z9w G) Yaj:=λH L xs ds k Q hx h kk=>by
 obtain⟨v,d,rfl,rfl,q,h⟩:=hx.one h
 cases q with
 | lst l e r=>exact⟨_,_,rfl,.inl (.inl e),by rw[r.length];exact kk _ _ (.int _) h⟩
 | tup e r=>exact⟨_,_,rfl,.inr (.inl (.inl e)),by rw[r.length];exact kk _ _ (.int _) h⟩
 | scr ks=>exact⟨_,_,rfl,.inl ks.sq,by rw[(Das.ints (G:=G) (H:=H) (L:=L) _).length];exact kk _ _ (.int _) h⟩
 | _=>exact h.elim
noncomputable def Z9a:List Xa->(Xa->Prop)->Prop:=λds k=>n1 (λd=>asI d λi=>k (.int (if i<0 then -i else i))) ds
theorem Zun:PNs G (λxs H Q=>∃i,xs=[.int i]∧Q (.int (if i<0 then -i else i)) H) Z9a:=λH L xs ds k Q hx h kk=>by
 obtain⟨v,d,rfl,rfl,q,h⟩:=hx.one h
 obtain⟨i,rfl,h⟩:=q.intInv h
 exact⟨i,rfl,kk _ _ (.int _) h⟩
noncomputable def Zn3:Xa->Option (List Xa)
 | .list ds=>some ds
 | .tuple ds=>some ds
 | _=>none
noncomputable def Z4v:List Xa->(OT->Prop)->Prop:=λds k=>n1 (λd=>match Zn3 d with|some es=>k (.nd (es.map OT.fz))|none=>False) ds
theorem Znq:PN G (Ztb G) Z4v:=λH L xs ds k Q hx h kk=>by
 obtain⟨v,d,rfl,rfl,q,h⟩:=hx.one h
 cases q with
 | lst l e r=>exact⟨_,_,rfl,.inl (.inl e),λp hp=>kk _ _ _ [p] (Z3 hp _) (Own.list hp r) (Zdw p) (Za5 hp) h⟩
 | tup e r=>exact⟨_,_,rfl,.inr (.inl (.inl e)),λp hp=>kk _ _ _ [p] (Z3 hp _) (Own.list hp r) (Zdw p) (Za5 hp) h⟩
 | scr ks=>exact⟨_,_,rfl,.inl ks.sq,λp hp=>kk _ _ _ [p] (Z3 hp _) (Own.list hp (Das.ints _)) (Zdw p) (Za5 hp) h⟩
 | _=>exact h.elim
section
variable {X:Cx}{io:List Nat}{p c:Bool}{a:Expr}{ma:MEt}{pos:Pos}
noncomputable def Yae(m:MEt):MEt:=λδ K=>m δ λr δ'=>asI r.data λi=>K (.fz (.int (-i))) δ'
theorem Zdo(ha:ME X io p c a ma):ME X io p true (.UnaryOp .USub a pos) (Yae ma):=by
 obtain⟨_,A,s⟩:=ha
 exact⟨_,Z7q Z4q A,λC H σ δ fp ex K Q R h k=>s C H σ δ fp ex _ _ R h λH' v r δ' fp' new r1 h1=>by
  obtain⟨i,rfl,h1⟩:=(r1.da R).intInv h1
  exact⟨i,rfl,k H' _ _ δ' fp' [] (.fz r1.base r1.stp (.int _)) h1⟩⟩
noncomputable def Zo2(T:String):Xa->Bool
 | .none=>false
 | .bool _=>T=="bool"||T=="int"
 | .int _=>T=="int"
 | .str _=>T=="str"
 | .list _=>T=="list"
 | .tuple _=>T=="tuple"
 | .dict _=>false
noncomputable def Yay(T:String)(m:MEt):MEt:=λδ K=>m δ λr δ'=>Zgv r.data=false∧K (.fz (.bool (Zo2 T r.data))) δ'
end
section
variable {prog:X6}{w:Qu}{A:Qo}{E:Xe->Xf->Prop}{h:Heap}{g:Array GenState}{d:Drawn}{t:Nat}{os:OsState}{a C:Addr}{o:Obj}{K:Xb}
theorem Z0r(M:Model)(hx:h.get? a=some o)(hc:o.cls= .ref C):QX M h (typeOf (.ref a)) (.ref C):=hc▸(QX.ld hx).andThen .now
theorem Zwc{R:Result->Xf->Prop}(X:K.In h)(Z:Zbz K C)(hx:h.get? a=some o)(hc:o.cls= .ref C)(hq:R (.ok (.ret (.ref C))) ⟨h,g,d,t,os⟩) :
  codeAny (Qa prog w) A (.call (.builtin "getset_descriptor.__get__") ⟨[.builtin "object.__class__",.ref a,.ref C],[]⟩) R ⟨h,g,d,t,os⟩:=by
 have L1:QX (Qa prog w) h (isSubtype (.ref C) (.type (".".intercalate ("object.__class__".cutAt '.').dropLast))) true:=by
  rw[F.owner_object_class]
  exact PySem.W.looks_subIn X Z.isO
 have T5:(⟨h,g,d,t,os⟩:Xf).TypeIs (.builtin "object.__class__") "getset_descriptor" :=F.typeOf_object_class
 refine codeAny_call_builtin F.slot_gs_get.plain F.entry_gs_get (F.slot_gs_get.check _ _ _ _ _ _ _ _ T5 (F.args_gs_get _ _ _) ?_)
 repeat (any_goals (first|assumption|(with_reducible refine BK hx ?_;rw[hc])|(with_reducible refine Xg (QX.at L1 ?_))|(with_reducible refine QX.at L1 ?_)|wp_step))
 refine⟨Code.quiet_builtin _ (by decide +kernel),codeAny_builtin F.entry_object_class ?_⟩
 repeat (any_goals (first|assumption|(with_reducible refine BK hx ?_;rw[hc])|wp_step))
theorem Zpt{tk:Tok}{Q:Fin->Xf->Prop}(X:K.In h)(Z:Zbz K C)(hx:h.get? a=some o)(hc:o.cls= .ref C)(hq:Q (.done (.ret (.ref C))) ⟨h,g,d,t,os⟩) :
  XR (Qa prog w) A (U6.«object.__getattribute__» ⟨[.ref a,.str "__class__" tk],[]⟩) Q E ⟨h,g,d,t,os⟩:=by
 have T5:(⟨h,g,d,t,os⟩:Xf).TypeIs (.builtin "object.__class__") "getset_descriptor" :=F.typeOf_object_class
 have g5:=F.typeOf_object_class
 have g6:=F.slot_gs_get.lookup
 have g7:=F.slot_gs_set.lookup
 have L4:=PySem.W.looks_findIn (M:=Qa prog w) X Z.cl
 repeat (any_goals (first|assumption|(with_reducible refine BK hx ?_;rw[hc])|(with_reducible refine Xg (QX.at L4 ?_))|(with_reducible refine QX.at L4 ?_)|wp_step))
 refine Zwc X Z hx hc ?_
 repeat (any_goals (first|assumption|wp_step))
theorem Zqe{M:Model}{nameV:Xe}{Q:Unit->Xf->Prop}(X:K.In h)(Z:Zbz K C)(hx:h.get? a=some o)(hc:o.cls= .ref C)(hq:Q () ⟨h,g,d,t,os⟩) :
  XR M A (checkBuiltinCall "BaseException.__getattribute__" ⟨[.ref a,nameV],[]⟩) Q E ⟨h,g,d,t,os⟩:=by
 have e1:builtinKind "BaseException.__getattribute__"=some .slot:=by decide +kernel
 have e2:splitId "BaseException.__getattribute__"=some ("BaseException","__getattribute__"):=by decide +kernel
 have L1:=PySem.W.looks_subIn (M:=M) X Z.isB
 have e3:=F.args_bexc_ga (.ref a) nameV
 simp only[checkBuiltinCall,e1,e2]
 refine Xg ?_
 unfold isInstance
 repeat (first|(with_reducible refine BK hx ?_;rw[hc])|(with_reducible refine Xg (QX.at L1 ?_))|(with_reducible refine QX.at L1 ?_)|wp_step)
 exact hq
theorem Zr1{tk:Tok}{R:Result->Xf->Prop}(X:K.In h)(Z:Zbz K C)(hx:h.get? a=some o)(hc:o.cls= .ref C)(hq:R (.ok (.ret (.ref C))) ⟨h,g,d,t,os⟩) :
  codeAny (Qa prog w) A (.call (.builtin "BaseException.__getattribute__") ⟨[.ref a,.str "__class__" tk],[]⟩) R ⟨h,g,d,t,os⟩ :=
 codeAny_call_builtin F.excAttr_ValueError.ga.plain F.entry_bexc_ga (Zqe X Z hx hc (Zpt X Z hx hc hq))
theorem Z0z{tk:Tok}{fill expr:Bool}{Q:Xe->Xf->Prop}(X:K.In h)(Z:Zbz K C)(hx:h.get? a=some o)(hc:o.cls= .ref C)(hq:Q (.ref C) ⟨h,g,d,t,os⟩) :
  XR (Qa prog w) A (getAttrBy (.ref a) (.str "__class__" tk) fill expr) Q E ⟨h,g,d,t,os⟩:=by
 have f3:=F.excAttr_ValueError.ga.bind (.ref a)
 have y0:(expr&&onTheHeap (Uq "BaseException.__getattribute__"))=false:=by cases expr<;>rfl
 have y2:(Uq "BaseException.__getattribute__"==Uq "object.__getattribute__")=false:=by decide +kernel
 have y1:(onTheHeap (QB C)&&Uq "BaseException.__getattribute__"==Uq "object.__getattribute__")=false:=by rw[y2];rfl
 have L2:=PySem.W.looks_findIn (M:=Qa prog w) X Z.ga
 have L3:=PySem.W.looks_findIn (M:=Qa prog w) X Z.gt
 repeat (any_goals (first|assumption|(with_reducible refine BK hx ?_;rw[hc])|(with_reducible refine QX.at L2 ?_)|(with_reducible refine QX.at L3 ?_)|(with_reducible refine Xg (QX.at L2 ?_))|(with_reducible refine Xg (QX.at L3 ?_))|wp_step))
 refine Zr1 X Z hx hc ?_
 repeat (any_goals (first|assumption|wp_step))
theorem Zqu{Q:Option Xe->Xf->Prop}(X:K.In h)(Z:Zbz K C)(hx:h.get? a=some o)(hc:o.cls= .ref C)(hq:Q (some (.ref C)) ⟨h,g,d,t+1,os⟩) :
  XR (Qa prog w) A (getAttr? (.ref a) "__class__") Q E ⟨h,g,d,t,os⟩:=by
 unfold getAttr? getAttrBy?
 repeat (any_goals (first|assumption|with_reducible apply Z0z X Z hx hc|wp_step))
end
theorem Zjy{K:Xb}{a C:Addr}(Z:Zbz K C):PySem.W.KitX K (.ref a) (.ref C) (λh=>∃o,h.get? a=some o∧o.cls= .ref C) where
 ty:=λM h _ p=>let⟨_,hx,hc⟩:=p;Z0r M hx hc
 it:=λM h X _=>by
  have z:=Z.isC
  unfold PySem.W.clsIn at z
  split at z
  ·rename_i ho
   intro A' Q' E' s' k q
   unfold isType loadHead
   exact Xg (wpAny_loadPart (k _ _ (X _ _ ho)) (Qe q))
  ·cases z
 ne:=λh tp dd its n sl X htp=>by
  have z:=Z.isC
  refine Uv.mpr λq=>?_
  have e:C=tp:=QB.inj (beq_iff_eq.mp q)
  subst e
  unfold PySem.W.clsIn at z
  split at z
  ·rename_i ho
   have z:=(X _ _ ho).symm.trans htp
   cases z
  ·cases z
 ca:=fun{_ _ _ _ _ s} X p k=>by
  obtain⟨h,g,d,t,os⟩:=s
  obtain⟨_,hx,hc⟩:=p
  exact Zqu X Z hx hc k
variable {G:Xb}
noncomputable def tyD:Xa->String
 | .none=>"NoneType"
 | .bool _=>"bool"
 | .int _=>"int"
 | .str _=>"str"
 | .list _=>"list"
 | .tuple _=>"tuple"
 | .dict _=>"dict"
theorem Zxu{K:Xb}{T:String}{d:Xa}(h:T="int"∨T="bool"∨T="str"∨T="list"∨T="tuple")(hd:∀kvs,d≠ .dict kvs):Qm K (.type (tyD d)) (.type T)=some (Zo2 T d):=by
 rcases h with rfl|rfl|rfl|rfl|rfl<;>cases d<;>first|rfl|(exact absurd rfl (hd _))|(unfold Qm PySem.W.kitCls;rfl)|(simp only[tyD,Zo2];decide +kernel)
noncomputable def Z8s(G:Xb):List V->Hp->VK->Prop:=λxs H Q=>∃(x:V) (T:String) (L:Addr->Prop) (d:Xa),xs=[x,.ty T]∧Da G H L x d∧Zgv d=false∧(T="int"∨T="bool"∨T="str"∨T="list"∨T="tuple")∧Q (.bl (Zo2 T d)) H
theorem Zs0{X:Cx}(hK:X.K=G):Zcq X (.builtin "isinstance") (Z8s G):=by
 subst hK
 intro pins s σ H xs us Q I r h
 obtain⟨x,T,L,d,rfl,q,hf,hT,h⟩:=h
 obtain⟨u,w',rfl,r1,r2⟩:=vals2 r
 cases(show w'=Xe.type T from r2)
 have fin:∀tk:Nat,EP X pins σ Q (.bool (Zo2 T d)) { s with toks:=tk }:=λtk=>⟨.bl _,H,I.tok tk,rfl,h⟩
 cases q with
 | non=>exact Zam I r1 .non (Zxu (d:=.none) hT λ_ z=>by cases z) fin
 | bl b=>exact Zam I r1 (.bl b) (Zxu (d:=.bool b) hT λ_ z=>by cases z) fin
 | int b=>exact Zam I r1 (.int b) (Zxu (d:=.int b) hT λ_ z=>by cases z) fin
 | str b=>exact Zam I r1 (.str b) (Zxu (d:=.str b) hT λ_ z=>by cases z) fin
 | lst l e qs=>
  rename_i ds
  rcases e with e|⟨o,e⟩
  ·exact Zam I r1 (.lst e) (Zxu (d:=.list ds) hT λ_ z=>by cases z) fin
  ·exact Zam I r1 (.frz e) (Zxu (d:=.list ds) hT λ_ z=>by cases z) fin
 | tup e qs=>
  rename_i ds
  exact Zam I r1 (.tup e) (Zxu (d:=.tuple ds) hT λ_ z=>by cases z) fin
 | scr ks=>
  rename_i a ns
  cases(show u=QB a from r1)
  obtain⟨its,vs,⟨o,n,ho,hc,hd,hs⟩,_⟩:=I.list (ks.sq (H:=H))
  exact QM PySem.W.kitx_list I.kIn ⟨o,ho,hc⟩ (Zxu (d:=.list (ns.map Xj)) hT λ_ z=>by cases z) (λz=>nomatch z) fin
 | exc Z hn e=>
  rename_i a C x
  cases(show u=QB a from r1)
  obtain⟨⟨o,vs,ho,hc,_⟩,_,_⟩:=(show ObjOk X.prog X.w H s.heap a (.ext (ExO C a))from I.hok a _ e)
  refine QM (Zjy Z) I.kIn ⟨o,ho,hc⟩ (b:=Zo2 T (exD x)) ?_ (λz=>nomatch z) fin
  rcases hT with rfl|rfl|rfl|rfl|rfl
  ·exact Z.k1
  ·exact Z.k2
  ·exact Z.k3
  ·exact Z.k4
  ·exact Z.k5
 | fn _=>cases hf
 | dic _ _ _ _=>unfold dcD Zgv at hf;cases hf
section
variable {X:Cx}{io:List Nat}{p c p' c':Bool}{a b e:Expr}{ma m:MEt}{pos pp p2:Pos}{K:Xb}
theorem Zhl{T:Str}{T':String}(hT:T'="int"∨T'="bool"∨T'="str"∨T'="list"∨T'="tuple")(hg:Gl X "isinstance")(hm:X.mg "isinstance"=none)(hv:Qg "isinstance"=some (.builtin "isinstance"))
  (hg2:Gl X T) (hm2:X.mg T=none) (hv2:Qg T=some (.type T')) (ha:ME X io p c a ma) (hn:T≠"__name__" :=by decide) (hd:(T==("__debug__" : Str))=false:=by decide)
  (he:Xk [a,.Name T p2] X.env=(false,eval a X.env) :: Xk [.Name T p2] X.env:=by rfl) (he2:Xk [.Name T p2] X.env=(false,eval (.Name T p2) X.env) :: Xk [] X.env:=by rfl) (hpl:(QW pos (Xk [.Name T p2] X.env)).any (·.1)=false:=by rfl) :
  ME X io p true (.Call (.Name "isinstance" pp) [a,.Name T p2] [] pos) (Yay T' ma):=by
 obtain⟨_,A,s⟩:=ha
 refine⟨_,Zdj (Zs0 rfl) hg hm hv (Ye A (Ye (Zqz (v:=.ty T') hg2 hm2 hv2 rfl hn hd) J8 he2) he) (by decide) (by decide) he hpl,?_⟩
 intro C H σ δ fp ex K' Q R h k
 refine s C H σ δ fp ex _ _ R h λH' v r δ' fp' new r1 h1=>?_
 exact⟨v,T',_,_,rfl,r1.da R,h1.1,hT,k H' _ _ δ' fp' [] (.fz r1.base r1.stp (.bl _)) h1.2⟩
noncomputable abbrev MOt:=Zg->(Option Int->Zg->Prop)->Prop
noncomputable def MO(X:Cx)(io:List Nat)(p:Bool)(e:Option Expr)(m:MOt):Prop:=∃t,PO X e t∧∀(C:MC X.K) (H:Hp) (σ:St) (δ:Zg) (fp:Fp) (ex:Addr->Prop) (K:Option Int->Zg->Prop) (Q:Option Int->Hp->Prop),Rel C io H σ δ fp ex->m δ K ->
 (∀ H' b δ' fp',Rel C io H' σ δ' fp' ex->Stp p H δ fp H' δ' fp'->K b δ'->Q b H')->t σ H Q
noncomputable def Zsh:MOt:=λδ K=>K none δ
noncomputable def Z3s(m:MEt):MOt:=λδ K=>m δ λr δ'=>asI r.data λi=>K (some i) δ'
theorem Wd:MO X io true none Zsh:=⟨_,Zy1,λC H σ δ fp ex K Q R h k=>k H none δ fp R (.refl _ _ _ _) h⟩
theorem Yb(h:ME X io p c e m):MO X io p (some e) (Z3s m):=by
 obtain⟨_,A,s⟩:=h
 exact⟨_,Zzz A,λC H σ δ fp ex K Q R h k=>s C H σ δ fp ex _ _ R h λH' v r δ' fp' new r1 h1=>by
  obtain⟨i,rfl,h1⟩:=(r1.da R).intInv h1
  exact⟨i,rfl,k H' _ δ' fp' r1.base r1.stp h1⟩⟩
noncomputable def cutD(ds:List Xa)(lo hi:Option Int):List Xa:=(ds.drop (HT.sIx ds.length 0 lo)).take (HT.sIx ds.length ds.length hi-HT.sIx ds.length 0 lo)
theorem Das.cut{H:Hp}{L:Addr->Prop}{xs:List V}{ds:List Xa}(h:Das G H L xs ds)(lo hi:Option Int):Das G H L (Z12 xs lo hi) (cutD ds lo hi):=by
 unfold Z12 cutD
 rw[h.length]
 exact(h.drop _).take _
noncomputable def mSl(m:MEt)(ml mh:MOt):MEt:=λδ K=>m δ λr δ1=>ml δ1 λlo δ2=>mh δ2 λhi δ3=>asL r.data λds=>K (.nd ((cutD ds lo hi).map OT.fz)) δ3
theorem Zbe{lo hi:Option Expr}{ml mh:MOt}(ha:ME X io true c a ma)(hl:MO X io true lo ml)(hh:MO X io true hi mh):ME X io true c (.Subscript a (.Slice lo hi none p2) pos) (mSl ma ml mh):=by
 obtain⟨_,A,s⟩:=ha
 obtain⟨_,B,sl⟩:=hl
 obtain⟨_,D,sh⟩:=hh
 refine⟨_,Zwj (Zw4 rfl) A B D,?_⟩
 intro C H σ δ fp ex K' Q R h k
 refine s C H σ δ fp ex _ _ R h λH1 v r δ1 fp1 new r1 h1=>?_
 refine sl C H1 σ δ1 fp1 ex _ _ r1.base h1 λH2 l δ2 fp2 R2 S2 h2=>?_
 refine sh C H2 σ δ2 fp2 ex _ _ R2 h2 λH3 u δ3 fp3 R3 S3 h3=>?_
 have s2:Same H1 H2:=λb o e=>S2.keep b o e (.inl rfl)
 have s3:Same H2 H3:=λb o e=>S3.keep b o e (.inl rfl)
 obtain⟨e1,e2⟩:=r1.stp.env rfl
 obtain⟨e3,e4⟩:=S2.env rfl
 obtain⟨e5,e6⟩:=S3.env rfl
 have q:=((r1.da R).same s2).same s3
 obtain⟨a',xs,ds,rfl,e,qs,h3⟩:=q.lstInv h3
 refine⟨a',xs,rfl,e,λp hp=>?_⟩
 have S:=(r1.stp.trans S2).trans S3
 refine k _ _ _ δ3 fp3 [p] (RE.tree R R3 S (Z3 hp _) (Za5 hp) (Zdw p) (Own.list hp ((qs.cut l u).wide λa l _=>?_))) h3
 rw[e6,e4]
 exact l
theorem Owns.set{H:Hp}{L:Addr->Prop}{x:V}{r:OT}(hr:Own G H L x r []):∀{xs:List V} {ts:List OT} {as:List Addr} (j:Nat),Owns G H L xs ts as->∃bs,Owns G H L (xs.set j x) (ts.set j r) bs∧bs.Sublist as
 | _,_,_,_,.nil=>⟨[],.nil,.refl _⟩
 | _,_,_,0,.cons k t=>⟨_,.cons hr t,by simp⟩
 | _,_,_,j+1,.cons (as:=as) k t=>by
  obtain⟨bs,o,s⟩:=Owns.set hr j t
  exact⟨as ++ bs,.cons k o,Vf s as⟩
theorem Owns.get{H:Hp}{L:Addr->Prop}:∀{xs:List V} {ts:List OT} {as:List Addr} {j:Nat} {t:OT},Owns G H L xs ts as->ts[j]? =Qh t->∃x bs,xs[j]? =Qh x∧Own G H L x t bs∧bs.Sublist as
 | _,_,_,_,_,.nil,e=>by simp at e
 | _,_,_,0,_,.cons k _,e=>by simp at e;subst e;exact⟨_,_,rfl,k,List.sublist_append_left _ _⟩
 | _,_,_,j+1,t,.cons _ r,e=>by
  obtain⟨x,bs,h1,h2,h3⟩:=Owns.get (j:=j) (t:=t) r (by simpa using e)
  exact⟨x,bs,by simpa using h1,h2,h3.trans (List.sublist_append_right _ _)⟩
theorem Rel.top{C:MC G}{H:Hp}{σ:St}{δ:Zg}{fp:Fp}{ex:Addr->Prop}{i:Nat}{ts ts':List OT}{a':Addr}{xs ys:List V}{bs bs':List Addr}(R:Rel C io H σ δ fp ex)(hi:δ[i]? =some (some (.nd ts)))(hv:σ[i]? =some (some (.ref a')))
  (hf:fp i=a' :: bs) (hx:H a'=some (.lst xs)) (o:Owns G H (Lf C fp ex) ys ts' bs') (hs:bs'.Sublist bs) :
  Rel C io (upd H a' (.lst ys)) σ (δ.set i (some (.nd ts'))) (fpu fp i (a' :: bs')) ex∧Stp false H δ fp (upd H a' (.lst ys)) (δ.set i (some (.nd ts'))) (fpu fp i (a' :: bs')):=by
 have nd:=R.nd i
 rw[hf]at nd
 have hn:=Qd.mp nd
 have hm:a'∈fp i:=by rw[hf];exact .head _
 have ne':∀a,¬Foot fp a->a≠a':=λa h z=>h ⟨i,by rw[z];exact hm⟩
 have kp:∀b o,H b=some o->b≠a'->upd H a' (.lst ys) b=some o:=λb o e n=>by rw[Zr n];exact e
 have sub:∀a,a∈a' :: bs'->a∈fp i:=λa m=>by
  rw[hf]
  rcases Xl.mp m with rfl|m
  ·exact .head _
  ·exact .tail _ (hs.subset m)
 have o':Owns G (upd H a' (.lst ys)) (Lf C (fpu fp i (a' :: bs')) (exu ex [])) ys ts' bs':=by
  have f0:∀a,¬Foot fp a->¬Foot (fpu fp i (a' :: bs')) a:=λa h z=>by
   rcases z.of_u with z|⟨j,_,z⟩
   ·exact h ⟨i,sub a z⟩
   ·exact h ⟨j,z⟩
  have f1:∀a (zs:MuO),Lf C fp ex a->Rd H a zs.ho->Lf C (fpu fp i (a' :: bs')) (exu ex []) a∧Rd (upd H a' (.lst ys)) a zs.ho:=λa zs l q=>by
   refine⟨⟨f0 a l.1,λz=>l.2.1 (Zbd.mp z),l.2.2⟩,?_⟩
   rcases q with q|⟨u,q⟩
   ·exact .inl (kp a _ q (ne' a l.1))
   ·exact .inr ⟨u,kp a _ q (ne' a l.1)⟩
  have f2:∀a (zs:ImO),H a=some zs.ho->upd H a' (.lst ys) a=some zs.ho:=λa zs q=>kp a _ q λz=>ImO.nl q (z▸hx)
  exact o.frame f1 f2 λa m zs q=>kp a _ q λz=>hn.1 (hs.subset (z▸m))
 have key:=R.change (new:=[]) (as':=a' :: bs') (t':=.nd ts') (H':=upd H a' (.lst ys)) hi hv (λb o e nb=>kp b o e λz=>nb (by rw[z];exact hm)) (λb e=>by
   by_cases q:b=a'
   ·subst q;rw[Zv]at e;cases e
   ·rwa[Zr q]at e) (.nd Zv o') (Qd.mpr ⟨λm=>hn.1 (hs.subset m),hn.2.sublist hs⟩) (λa m=>.inl (sub a m)) (λa m=>nomatch m)
 exact⟨key.1.drop λa z=>.inl z,key.2⟩
end
variable {G:Xb}
section
variable {X:Cx}{io:List Nat}{p c p' c':Bool}{a b e:Expr}{ma m mi mj:MEt}{pos pp p2 apos cpos px:Pos}{K:Xb}{i:Nat}{x:Str}
theorem Rel.ownNd{C:MC G}{H:Hp}{σ:St}{δ:Zg}{fp:Fp}{ex:Addr->Prop}{ts:List OT}(R:Rel C io H σ δ fp ex)(hi:δ[i]? =some (some (.nd ts))) :
  ∃a' xs bs,σ[i]? =some (some (.ref a'))∧H a'=some (.lst xs)∧Owns G H (Lf C fp ex) xs ts bs∧fp i=a' :: bs:=by
 obtain⟨v,e,o⟩:=R.own i _ hi
 generalize hf:fp i=as at o
 cases o with
 | nd h r=>exact⟨_,_,_,e,h,r,rfl⟩
noncomputable def Zkb(i:Nat)(m:MEt):MSt:=λD δ=>match δ[i]? with
 | some (some (.nd _))=>m δ λr δ1=>match δ1[i]? with
  | some (some (.nd ts))=>ts.length<Xo∧D.nx (δ1.set i (some (.nd (ts ++ [.fz r.data]))))
  | _=>False
 | _=>False
theorem Zbh(i:Nat)(he:ME X io p true e m)(hN:X.N[i]? =some x:=by rfl)(hv:Vis X.env.scope x:=by first|exact Qj rfl|exact X8 (Qj rfl)|exact X8 (X8 rfl))(hd:(x==("__debug__" : Str))=false:=by decide)
  (hcd:(x==("__classdict__" : Str))=false:=by decide)
  (hbase:Br (.Name x px) "append" X.env (eval (.Name x px) X.env)=eval (.Name x px) X.env:=by rfl)
  (hfew:((QW cpos (Xk [e] X.env)).all (λx=>!x.1)&&(V7 cpos (Vb [] X.env)).all (λx=>x.1.isSome)
   &&decide ([e].length+([]:List Bp).length+(if([]:List Bp).isEmpty then 0 else 1)<30))=true:=by rfl)
  (hline:(apos.endLine==cpos.line)=true:=by rfl) (hs:Xk [e] X.env=(false,eval e X.env) :: Xk [] X.env:=by rfl) (hplain:(QW cpos (Xk [] X.env)).any (·.1)=false:=by rfl)
  (hsw:Bs (.Call (.Attribute (.Name x px) "append" apos) [e] [] cpos) none pos.line X.env=pure false:=by rfl) :
  MS X io (.Expr (.Call (.Attribute (.Name x px) "append" apos) [e] [] cpos) pos) (Zkb i m):=by
 obtain⟨_,A,s⟩:=he
 refine⟨_,Zfn (Zm7 JD Vm Vl Zc1 (pv i hN hv hd hcd) (Ye A J8 hs) hbase hfew hline hs hplain) hsw,λC H σ δ fp ex D D' R h E=>?_⟩
 unfold Zkb at h
 split at h
 case h_2=>exact h.elim
 rename_i ts0 hi0
 obtain⟨a',xs0,bs0,hv0,hx0,_,_⟩:=R.ownNd hi0
 refine⟨_,hv0,.inl ⟨rfl,xs0,.inl (.inl hx0)⟩,?_⟩
 refine s C H σ δ fp ex _ _ R h λH1 v r δ1 fp1 new r1 h1=>?_
 split at h1
 case h_2=>exact h1.elim
 rename_i ts1 hi1
 have R1:=r1.base
 obtain⟨a1,xs1,bs1,hv1,hx1,o1,hf1⟩:=R1.ownNd hi1
 rw[hv0]at hv1
 cases hv1
 have q:=(r1.da R).wide (L':=Lf C fp1 ex) λa l _=>l rfl
 refine⟨a',xs1,v,rfl,rfl,hx1,by rw[o1.length];exact h1.1,?_⟩
 have o2:=o1.snoc (.fz q)
 obtain⟨R2,S2⟩:=R1.top hi1 hv0 hf1 hx1 o2 (by simp)
 exact E.nx _ σ _ _ R2 (r1.stp.kp.trans S2.kp) h1.2
noncomputable def Z95(i:Nat)(m mi:MEt):MSt:=λD δ=>m δ λr δ1=>match δ1[i]? with
 | some (some (.nd ts))=>mi δ1 λn _=>asI n.data λk=>match ixN ts.length k with
  | some j=>D.nx (δ1.set i (some (.nd (ts.set j (.fz r.data)))))
  | none=>False
 | _=>False
noncomputable def Z3d(i:Nat)(m mi mj:MEt):MSt:=λD δ=>m δ λr δ1=>match δ1[i]? with
 | some (some (.nd ts))=>mi δ1 λn _=>asI n.data λk=>match ixN ts.length k with
  | some j=>match ts[j]? with
   | some (.nd us)=>mj δ1 λn' _=>asI n'.data λk'=>match ixN us.length k' with
    | some j'=>D.nx (δ1.set i (some (.nd (ts.set j (.nd (us.set j' (.fz r.data)))))))
    | none=>False
   | _=>False
  | none=>False
 | _=>False
theorem SE.pureAfter{t:TE}{C:MC G}{H:Hp}{σ:St}{δ:Zg}{fp:Fp}{ex:Addr->Prop}{K':OT->Zg->Prop}{Q:VK}(s:SE G io true c t m)(R:Rel C io H σ δ fp ex)(h:m δ K')(k:∀H' v r,Rel C io H' σ δ fp ex->Same H H'->Da G H' (λa=>c=true->Lf C fp ex a) v r.data->K' r δ->Q v H'):t σ H Q :=
 s C H σ δ fp ex _ _ R h λH1 v r δ1 fp1 new r1 h1=>by
  obtain⟨e1,e2⟩:=r1.stp.env rfl
  have q:=r1.da R
  have R1:=r1.base
  rw[e1]at R1 h1
  rw[e2]at R1 q
  exact k H1 v r R1 (λb o e=>r1.stp.keep b o e (.inl rfl)) q h1
theorem Zyj(i:Nat)(he:ME X io p true e m)(hj:ME X io true c a mi)(hN:X.N[i]? =some x:=by rfl)(hv:Vis X.env.scope x:=by first|exact Qj rfl|exact X8 (Qj rfl)|exact X8 (X8 rfl))(hd:(x==("__debug__" : Str))=false:=by decide)
  (hcd:(x==("__classdict__" : Str))=false:=by decide)
  (hpg:∀{to ti:TE},PE X (.Name x px) to->PE X a ti->PG X (.Subscript (.Name x px) a pp) (Z6u to ti Zzd):=by intro _ _ A B;exact Zxp A B set_list)
  (hs:swapsWithSole [.Subscript (.Name x px) a pp] e pos.line X.env=pure false:=by rfl) (hw:swappedStores [.Subscript (.Name x px) a pp] e X.env=pure none:=by rfl)
  (h1:(QH [.Subscript (.Name x px) a pp] X.env).map (·.2)=[Vy (.Subscript (.Name x px) a pp) X.env]:=by rfl):MS X io (.Assign [.Subscript (.Name x px) a pp] e pos) (Z95 i m mi):=by
 obtain⟨_,A,s⟩:=he
 obtain⟨_,B,sj⟩:=hj
 refine⟨_,Zye A (hpg (pv i hN hv hd hcd) B) hs hw h1,λC H σ δ fp ex D D' R h E=>?_⟩
 refine s C H σ δ fp ex _ _ R h λH1 v r δ1 fp1 new r1 h1=>?_
 have R1:=r1.base
 have q:=(r1.da R).wide (L':=Lf C fp1 ex) λa l _=>l rfl
 split at h1
 case h_2=>exact h1.elim
 rename_i ts hi
 obtain⟨a',_,_,hv0,_⟩:=R1.ownNd hi
 refine⟨_,hv0,?_⟩
 refine sj.pureAfter R1 h1 λH2 w n R2 s2 q2 h2=>?_
 obtain⟨k,rfl,h2⟩:=q2.intInv h2
 split at h2
 case h_2=>exact h2.elim
 rename_i j hj
 obtain⟨a2,xs,bs,hv2,hx,o,hf⟩:=R2.ownNd hi
 rw[hv0]at hv2
 cases hv2
 obtain⟨bs',o',hs'⟩:=Owns.set (.fz (q.same s2)) j o
 refine⟨a',xs,k,j,rfl,rfl,hx,by rw[o.length];exact hj,?_⟩
 obtain⟨R3,S3⟩:=R2.top hi hv0 hf hx o' hs'
 exact E.nx _ σ _ _ R3 (r1.stp.kp.trans (Kp.trans ⟨λb o e _=>s2 _ _ e,λz=>(nomatch z),λa z=>.inl z,s2.al⟩ S3.kp)) h2
theorem Owns.deep{H:Hp}{L:Addr->Prop}{b':Addr}{ws ws':List V}{us us':List OT}(hb:H b'=Qh (HO.lst ws))(hL:¬L b')(hc:∀cs,Owns G H L ws us cs->∃cs',Owns G H L ws' us' cs'∧cs'.Sublist cs) :
  ∀{xs:List V} {ts:List OT} {as:List Addr} {j:Nat},Owns G H L xs ts as->as.Nodup->xs[j]? =Qh (.ref b')->ts[j]? =Qh (.nd us)->∃as',Owns G (upd H b' (.lst ws')) L xs (ts.set j (.nd us')) as'∧as'.Sublist as∧b'∈as
 | _,_,_,_,.nil,_,e,_=>by simp at e
 | _,_,_,0,.cons (as:=as) (bs:=bs) k t,nd,e,e'=>by
  simp at e e'
  subst e e'
  have nd':=JQ.mp nd
  have kp:∀a o,a≠b'->H a=Qh o->upd H b' (.lst ws') a=Qh o:=λa o n q=>by rw[Zr n];exact q
  have f1:∀a (zs:MuO),L a->Rd H a zs.ho->L a∧Rd (upd H b' (.lst ws')) a zs.ho:=λa zs l q=>⟨l,by
   have na:a≠b':=λz=>hL (z▸l)
   rcases q with q|⟨u,q⟩
   ·exact .inl (kp a _ na q)
   ·exact .inr ⟨u,kp a _ na q⟩⟩
  have f2:∀a (zs:ImO),H a=Qh zs.ho->upd H b' (.lst ws') a=Qh zs.ho:=λa zs q=>kp a _ (λz=>ImO.nl q (z▸hb)) q
  cases k with
  | nd h r=>
   rename_i xs0 as0
   rw[hb]at h
   cases h
   have nd2:=Qd.mp nd'.1
   obtain⟨cs',o',s'⟩:=hc _ r
   refine⟨b' :: cs' ++ bs,.cons (.nd Zv (o'.frame f1 f2 λa m zs q=>kp a _ (λz=>nd2.1 (s'.subset (z▸m))) q)) (t.frame f1 f2 λa m zs q=>kp a _ (λz=>nd'.2.2 b' (.head _) a m z.symm) q),VM (List.Sublist.cons₂ _ s') bs,Bg _ (.head _)⟩
 | _,_,_,j+1,.cons (as:=as) (bs:=bs) k t,nd,e,e'=>by
  have nd':=JQ.mp nd
  obtain⟨as',o,s,m⟩:=Owns.deep hb hL hc (j:=j) t nd'.2.1 (by simpa using e) (by simpa using e')
  have nb:b'∉as:=λz=>nd'.2.2 b' z b' m rfl
  refine⟨as ++ as',.cons ?_ o,Vf s as,XQ _ m⟩
  have kp:∀a o,a≠b'->H a=Qh o->upd H b' (.lst ws') a=Qh o:=λa o n q=>by rw[Zr n];exact q
  refine k.frame (λa zs l q=>⟨l,?_⟩) (λa zs q=>kp a _ (λz=>ImO.nl q (z▸hb)) q) λa m' zs q=>kp a _ (λz=>nb (z▸m')) q
  have na:a≠b':=λz=>hL (z▸l)
  rcases q with q|⟨u,q⟩
  ·exact .inl (kp a _ na q)
  ·exact .inr ⟨u,kp a _ na q⟩
theorem Znr(i:Nat)(he:ME X io p true e m)(hj:ME X io true c a mi)(hk:ME X io true c' b mj)(hPa:Zjp a)(hN:X.N[i]? =some x:=by rfl)(hv:Vis X.env.scope x:=by first|exact Qj rfl|exact X8 (Qj rfl)|exact X8 (X8 rfl))(hd:(x==("__debug__" : Str))=false:=by decide)
  (hcd:(x==("__classdict__" : Str))=false:=by decide)
  (hpg:∀{to ti:TE},PE X (.Subscript (.Name x px) a pp) to->PE X b ti->PG X (.Subscript (.Subscript (.Name x px) a pp) b p2) (Z6u to ti Zzd):=by intro _ _ A B;exact Zxp A B set_list)
  (hs:swapsWithSole [.Subscript (.Subscript (.Name x px) a pp) b p2] e pos.line X.env=pure false:=by rfl) (hw:swappedStores [.Subscript (.Subscript (.Name x px) a pp) b p2] e X.env=pure none:=by rfl)
  (h1:(QH [.Subscript (.Subscript (.Name x px) a pp) b p2] X.env).map (·.2)=[Vy (.Subscript (.Subscript (.Name x px) a pp) b p2) X.env]:=by rfl) :
  MS X io (.Assign [.Subscript (.Subscript (.Name x px) a pp) b p2] e pos) (Z3d i m mi mj):=by
 obtain⟨_,A,s⟩:=he
 obtain⟨_,B,sj⟩:=hj
 obtain⟨_,B2,sk⟩:=hk
 refine⟨_,Zye A (hpg (Zv4 (Zvu rfl) (pv i hN hv hd hcd) B hPa) B2) hs hw h1,λC H σ δ fp ex D D' R h E=>?_⟩
 refine s C H σ δ fp ex _ _ R h λH1 v r δ1 fp1 new r1 h1=>?_
 have R1:=r1.base
 have q:=(r1.da R).wide (L':=Lf C fp1 ex) λa l _=>l rfl
 split at h1
 case h_2=>exact h1.elim
 rename_i ts hi
 obtain⟨a',_,_,hv0,_⟩:=R1.ownNd hi
 refine⟨_,hv0,?_⟩
 refine sj.pureAfter R1 h1 λH2 w n R2 s2 q2 h2=>?_
 obtain⟨k,rfl,h2⟩:=q2.intInv h2
 split at h2
 case h_2=>exact h2.elim
 rename_i j hj
 split at h2
 case h_2=>exact h2.elim
 rename_i us hus
 -- the row
 obtain⟨a2,xs2,bs2,hv2,hx2,o2,hf2⟩:=R2.ownNd hi
 rw[hv0]at hv2
 cases hv2
 obtain⟨xr,cr,hxr,orow,_⟩:=o2.get hus
 obtain⟨b',rfl⟩:∃b',xr=V.ref b':=by
  cases orow with
  | nd h r=>exact⟨_,rfl⟩
 refine⟨a',xs2,k,V.ref b',rfl,rfl,.inl (.inl hx2),?_,?_⟩
 ·unfold atI
  rw[o2.length,hj]
  exact hxr
 refine sk.pureAfter R2 h2 λH3 w' n' R3 s3 q3 h3=>?_
 obtain⟨k',rfl,h3⟩:=q3.intInv h3
 split at h3
 case h_2=>exact h3.elim
 rename_i j' hj'
 obtain⟨a3,xs3,bs3,hv3,hx3,o3,hf3⟩:=R3.ownNd hi
 rw[hv0]at hv3
 cases hv3
 have exs:xs3=xs2:=by
  have:=s3 _ _ hx2
  rw[hx3]at this
  cases this;rfl
 subst exs
 obtain⟨xr3,cr3,hxr3,orow3,hsub3⟩:=o3.get hus
 rw[hxr]at hxr3
 cases hxr3
 have nd3:=R3.nd i
 rw[hf3]at nd3
 have hn3:=Qd.mp nd3
 cases orow3 with
 | nd hb r3=>
  rename_i ws3 bs4
  have hbm:b'∈bs3:=hsub3.subset (.head _)
  have hbf:b'∈fp1 i:=by rw[hf3];exact .tail _ hbm
  have hLb:¬Lf C fp1 ex b':=λl=>l.1 ⟨i,hbf⟩
  obtain⟨as',oo,ss,_⟩:=Owns.deep (ws':=ws3.set j' v) (us':=us.set j' (.fz r.data)) hb hLb (λcs hcs=>Owns.set (.fz ((q.same s2).same s3)) j' hcs) o3 hn3.2 hxr hus
  refine⟨b',ws3,k',j',rfl,rfl,hb,by rw[r3.length];exact hj',?_⟩
  have hba:a'≠b':=λz=>hn3.1 (z▸hbm)
  -- the change
  have sub:∀a,a∈a' :: as'->a∈fp1 i:=λa m=>by
   rw[hf3]
   rcases Xl.mp m with rfl|m
   ·exact .head _
   ·exact .tail _ (ss.subset m)
  have kp:∀b o,H3 b=some o->b≠b'->upd H3 b' (.lst (ws3.set j' v)) b=some o:=λb o e n=>by rw[Zr n];exact e
  have lw:∀a,Lf C fp1 ex a->upd H3 b' (.lst (ws3.set j' v)) a≠none->Lf C (fpu fp1 i (a' :: as')) (exu ex []) a:=λa l _=>⟨λz=>by
   rcases z.of_u with z|⟨j,_,z⟩
   ·exact l.1 ⟨i,sub a z⟩
   ·exact l.1 ⟨j,z⟩,λz=>l.2.1 (Zbd.mp z),l.2.2⟩
  obtain⟨R4,S4⟩:=R3.change (new:=[]) (as':=a' :: as') (t':=.nd (ts.set j (.nd (us.set j' (.fz r.data))))) (H':=upd H3 b' (.lst (ws3.set j' v))) hi hv0 (λb o e nb=>kp b o e λz=>nb (by rw[z];exact hbf)) (λb e=>by
    by_cases q:b=b'
    ·subst q;rw[Zv]at e;cases e
    ·rwa[Zr q]at e) (.nd (by rw[Zr hba];exact hx3) (oo.wide lw)) (Qd.mpr ⟨λm=>hn3.1 (ss.subset m),hn3.2.sublist ss⟩) (λa m=>.inl (sub a m)) (λa m=>nomatch m)
  have k23:Kp H1 fp1 H3 fp1:=⟨λb o e _=>s3 _ _ (s2 _ _ e),λz=>(nomatch z),λa z=>.inl z,λb e=>s2.al b (s3.al b e)⟩
  exact E.nx _ σ _ _ (R4.drop λa z=>.inl z) (r1.stp.kp.trans (k23.trans S4.kp)) h3
end
variable {G:Xb}
mutual
noncomputable def Z0k:OT->Bool
 | .fz d=>Zbl d
 | .nd ts=>Zsx ts
 | .tp ts=>Zsx ts
 | .dc _ _ _=>false
noncomputable def Zsx:List OT->Bool
 | []=>true
 | t :: ts=>Z0k t&&Zsx ts
end
section
variable {X:Cx}{io:List Nat}{p c:Bool}{e:Expr}{m:MEt}
theorem Rel.freeze{C:MC G}{H:Hp}{σ:St}{δ:Zg}{fp:Fp}{ex:Addr->Prop}{i:Nat}{t:OT}(R:Rel C io H σ δ fp ex)(hio:i∉io)(hi:δ[i]? =some (some t)):Rel C io H σ (δ.set i (some (.fz t.data))) (fpu fp i []) ex:=by
 have hil:i<δ.length:=(Xn.mp hi).1
 have sub:∀j a,a∈fpu fp i [] j->j≠i∧a∈fp j:=λj a m=>by
  by_cases ej:j=i
  ·subst ej;rw[Z1]at m;exact nomatch m
  ·rw[Yh ej]at m;exact⟨ej,m⟩
 have lw:∀a,Lf C fp ex a->Lf C (fpu fp i []) ex a:=λa l=>⟨λ⟨j,z⟩=>l.1 ⟨j,(sub j a z).2⟩,l.2.1,l.2.2⟩
 have ln:∀a∈fp i,Lf C (fpu fp i []) ex a:=λa m=>⟨λ⟨j,z⟩=>(sub j a z).1 (R.dj j i a (sub j a z).2 m),R.dx i a m,.inr (by
  rcases R.new i a m with z|z
  ·exact absurd z.1 hio
  ·exact z)⟩
 refine⟨by rw[Qv];exact R.len,λj t' e=>?_,λj h=>?_,λj=>?_,λj k a h1 h2=>R.dj j k a (sub j a h1).2 (sub k a h2).2,λj a h z=>R.dx j a (sub j a h).2 z,R.xa,R.fr,R.al,λj a h=>R.new j a (sub j a h).2,R.io⟩
 ·by_cases ej:j=i
  ·subst ej
   rw[X7 hil]at e
   cases e
   obtain⟨v,e1,o⟩:=R.own j t hi
   exact⟨v,e1,by rw[Z1];exact .fz (o.da (λa l _=>lw a l) ln)⟩
  ·rw[Xv (Q4 ej)]at e
   obtain⟨w,e1,o⟩:=R.own j t' e
   exact⟨w,e1,by rw[Yh ej];exact o.wide λa l _=>lw a l⟩
 ·by_cases ej:j=i
  ·subst ej;rw[Z1]
  ·rw[Yh ej]
   exact R.emp j λt' z=>h t' (by rw[Xv (Q4 ej)];exact z)
 ·by_cases ej:j=i
  ·subst ej;rw[Z1];exact .nil
  ·rw[Yh ej];exact R.nd j
noncomputable def Zj0(i:Nat)(u:MSt):MSt:=λD δ=>match δ[i]? with|some (some t)=>u D (δ.set i (some (.fz t.data)))|_=>False
theorem Zhm{st:Stmt}{u:MSt}(i:Nat)(h:MS X io st u)(hio:i∉io:=by decide):MS X io st (Zj0 i u):=by
 obtain⟨_,A,s⟩:=h
 exact⟨_,A,λC H σ δ fp ex D D' R h E=>by
  unfold Zj0 at h
  split at h
  case h_2=>exact h.elim
  rename_i t hi
  refine s C H σ _ _ ex D D' (R.freeze hio hi) h (E.shift ⟨λb o e _=>e,λz=>(nomatch z),λa z=>?_,λb e=>e⟩)
  rcases z.of_u with z|⟨j,_,z⟩
  ·exact nomatch z
  ·exact .inl ⟨j,z⟩⟩
end
variable {G:Xb}
noncomputable def Z3j(ds:List Xa)(k:OT->Prop):Prop:=∃ns:List Int,ds=[.list (ns.map Xj)]∧ns.length≤63∧k (.fz (.bool true))
theorem Z46{H:Hp}{a:Addr}{ns:List Int}{E:XK}(hl:ns.length≤63)(h:SqL G H a (ns.map V.int)):spD G Z3j [.ref a] H (λv _=>v= .bl true) E:=by
 refine⟨λ_=>True,[.list (ns.map Xj)],λr=>r= .fz (.bool true),.cons ?_ .nil,⟨ns,rfl,hl,rfl⟩,λr v H' new kr s o _ _=>?_⟩
 ·rcases h with h|h
  ·exact .lst trivial h (.ints ns)
  ·exact .scr h
 ·subst kr
  cases o with
  | fz q=>cases q;rfl
section
variable {P:X6}{w:Qu}{mg:Str->Option Xe}{base:Heap}{CX:CXT}{n:Nat}{f:Addr}{fd:XC}{ps:List Str}
theorem Da.ints_sq{H:Hp}{L:Addr->Prop}{v:V}{ns:List Int}(h:Da G H L v (.list (ns.map Xj))):∃a,v= .ref a∧SqL G H a (ns.map V.int):=by
 generalize e:Qy (ns.map Xj)=d at h
 cases h with
 | lst l e1 r=>
  cases e
  rw[r.int_inv]at e1
  exact⟨_,rfl,.inl e1⟩
 | scr k=>
  rename_i a ms
  have e':=PyData.list.inj e
  have:ns=ms:=(Ub (λ_ _ h=>by cases h;rfl)).mp e'
  subst this
  exact⟨_,rfl,k.sq⟩
 | _=>cases e
end
@[simp] theorem Ze0:OT.datas []=[]:=rfl
@[simp] theorem Zdk(t:OT)(ts:List OT):OT.datas (t :: ts)=t.data :: OT.datas ts:=rfl
theorem Zle{α:Type}{xs:List α}{i:Int}(h0:0≤i):atI xs i=xs[i.toNat]?:=by
 unfold atI ixN
 rw[if_pos h0]
 split
 ·rfl
 ·rename_i h
  symm
  exact QD.mpr (by omega)
theorem Zxw{α:Type}{xs:List α}{i:Nat}:atI xs (i:Int)=xs[i]?:=by
 rw[Zle (by omega),Qs]
@[simp] theorem Ycl{α:Type}(x:α)(xs:List α):atI (x :: xs) 0=some x:=by
 rw[Zle (by decide)];rfl
@[simp] theorem Yb2{α:Type}(x y:α)(xs:List α):atI (x :: y :: xs) 1=some y:=by
 rw[Zle (by decide)];rfl
@[simp] theorem Ybp{α:Type}(x y z:α)(xs:List α):atI (x :: y :: z :: xs) 2=some z:=by
 rw[Zle (by decide)];rfl
@[simp] theorem Z6d(ds:List Xa)(i:Int):ixD (.list ds) (.int i)=atI ds i:=rfl
@[simp] theorem Z7m(ds:List Xa)(i:Int):ixD (.tuple ds) (.int i)=atI ds i:=rfl
@[simp] theorem Z2e(ds:List Xa):Zvl (.list ds)=some ds.length:=rfl
@[simp] theorem Z6l(ds:List Xa):Zvl (.tuple ds)=some ds.length:=rfl
noncomputable def Ze1(r:List Rat):Xa:=.list (r.map frD)
noncomputable def tbD(T:List (List Rat)):Xa:=.list (T.map Ze1)
noncomputable def Z88(r:List Rat):OT:=.nd (r.map λq=>.fz (frD q))
noncomputable def tbT(T:List (List Rat)):OT:=.nd (T.map Z88)
@[simp] theorem Zro(r:List Rat):(Z88 r).data=Ze1 r:=by
 unfold Z88 Ze1
 rw[OT.data_nd,XN]
 rfl
@[simp] theorem Z50(T:List (List Rat)):(tbT T).data=tbD T:=by
 unfold tbT tbD
 rw[OT.data_nd,XN]
 exact congrArg Qy (Xw λr _=>Zro r)
noncomputable def dd(T:List (List Rat))(i j:Nat):Rat:=(T.getD i []).getD j 0
@[simp] theorem Z8t(T:List (List Rat)):Zvl (tbD T)=some T.length:=by unfold tbD Zvl;simp
@[simp] theorem Z6c(r:List Rat):Zvl (Ze1 r)=some r.length:=by unfold Ze1 Zvl;simp
@[simp] theorem Z67(q:Rat):Zbl (frD q)=true:=by unfold frD fr;simp[Zbl,Zkr]
theorem Zrk{n a:Nat}(h:a<n):ixN n (a:Int)=some a:=by
 unfold ixN
 rw[if_pos (by omega),if_pos (by omega)];simp
theorem ix3{d1 d2 d3:Xa}{r:Int}(r0:0≤r)(r1:r<3):∃d,(d=d1∨d=d2∨d=d3)∧ixD (.list [d1,d2,d3]) (.int r)=some d:=by
 have:r=0∨r=1∨r=2:=by omega
 rcases this with rfl|rfl|rfl
 ·exact⟨d1,.inl rfl,rfl⟩
 ·exact⟨d2,.inr (.inl rfl),rfl⟩
 ·exact⟨d3,.inr (.inr rfl),rfl⟩
theorem Zk6:∀(r:List Rat),Jw (r.map frD)=true
 | []=>rfl
 | q :: r=>by
  show Jw (frD q :: r.map frD)=true
  rw[Jw,Zk6 r];rfl
theorem Zkx:∀(T:List (List Rat)),Jw (T.map Ze1)=true
 | []=>rfl
 | r :: T=>by
  show Jw (Ze1 r :: T.map Ze1)=true
  rw[Jw,Zkx T,Va]
  unfold Ze1
  rw[Yr]
  exact Zk6 r
theorem Zvh(T:List (List Rat)):Yr (tbD T)=true:=by
 unfold tbD
 rw[Yr]
 exact Zkx T
theorem Zj3{d:Xa}(h:Yr d=true):Qx d d=true:=Zyf h h rfl
structure Sh(n:Nat)(d:Xa):Prop where
 lay:Bf d=true
 dep:PyData.depth d≤n
theorem Sh.shp{n:Nat}{d:Xa}(h:Sh n d)(hn:n≤64:=by decide):Z2f d:=⟨by
 show(Bf d&&decide (PyData.depth d≤64))=true
 rw[h.lay,decide_eq_true (QK h.dep hn)];rfl⟩
theorem Zk3{n:Nat}:∀{ds:List Xa},(∀d∈ds,Sh n d)->JH ds=true∧PyData.depthAll ds≤n
 | [],_=>⟨by rw[JH],by rw[PyData.depthAll];exact Q9 _⟩
 | d :: ds,h=>by
  obtain⟨h1,h2⟩:=Zk3 λe m=>h e (.tail _ m)
  have h3:=h d (.head _)
  refine⟨by rw[JH,h3.lay,h1];rfl,?_⟩
  rw[PyData.depthAll]
  exact Nat.max_le.mpr ⟨h3.dep,h2⟩
theorem Ze8{n:Nat}{ds:List Xa}(h:∀d∈ds,Sh n d):Sh (n+1) (.list ds) :=
 ⟨by rw[Bf];exact(Zk3 h).1,by rw[PyData.depth];exact U0 (Zk3 h).2⟩
theorem Zpg{n:Nat}{ds:List Xa}(h:∀d∈ds,Sh n d):Sh (n+1) (.tuple ds) :=
 ⟨by rw[Bf];exact(Zk3 h).1,by rw[PyData.depth];exact U0 (Zk3 h).2⟩
theorem Zik(i:Int):Sh 0 (.int i):=⟨rfl,Nat.le_of_eq rfl⟩
theorem Z8x(q:Rat):Sh 1 (frD q):=Zpg λd m=>by
 simp at m
 rcases m with rfl|rfl<;>exact Zik _
theorem Z4t(r:List Rat):Sh 2 (Ze1 r):=Ze8 λd m=>by
 obtain⟨q,_,rfl⟩:=X4.mp m
 exact Z8x q
theorem Z6y(T:List (List Rat)):Sh 3 (tbD T):=Ze8 λd m=>by
 obtain⟨q,_,rfl⟩:=X4.mp m
 exact Z4t q
section
variable {X:Cx}{pins:List (Addr×Obj)}{σ:St}{H:Hp}{s:Xf}
theorem Inv.turnTup{h':Heap}{ch:List Addr}{T:Addr}{xs:List V}{its:List Xe}(I:Inv X pins σ H s)(f:∀b∈ch,Zji X pins H b)(k:∀b o,b∉ch->s.heap.get? b=some o->h'.get? b=some o)
  (th:∀b∈ch,∃o,h'.get? b=some o) (hT:s.heap.objs.size≤T) (hz:xs.length≤Xo) (r:Vals xs its) (ht:IsTup h' T its.toArray):Inv X pins σ (upd H T (.tup xs)) { s with heap:=h' }:=by
 have hn:H T=none:=I.hok.fresh hT
 have nch:∀b u,H b=some u->b∉ch:=λb u e z=>by rw[(f b z).1]at e;cases e
 have new:ObjOk X.prog X.w (upd H T (.tup xs)) h' T (.tup xs):=⟨hz,its,r,ht⟩
 refine I.call (ch:=ch) (g':=s.gens) (d':=s.drawn) (t':=s.toks) ⟨λb o e _ _ hc=>k b o hc e,λb o e _ _ hc=>⟨o.slots,k b o hc e⟩,λb o e n _=>?_,λb o e hc=>?_,λb ys e=>?_,λb o u e=>?_,λb ps e=>?_⟩ (λb u e=>?_) I.bare (λb hb=>?_)
 ·rw[Zr (λz=>by rw[z]at e;exact absurd (XD e) (Nat.not_lt.mpr hT))];exact n
 ·exact⟨o,k b o hc e⟩
 ·rw[Zr (Yx e hn)];exact e
 ·rw[Zr (Yx e hn)];exact e
 ·exact⟨#[],by rw[Zr (Yx e hn),e];simp⟩
 ·by_cases hb:b=T
  ·subst hb;rw[Zv]at e;cases e;exact new
  ·rw[Zr hb]at e
   refine(I.hok b u e).stay (λc v hc q=>k c v ?_ q) (λc q=>by rw[Zr (Yx q hn)];exact q) λc ys q=>by rw[Zr (Yx q hn)];exact q
   rcases hc with rfl|hc
   ·exact nch _ _ e
   ·exact nch _ _ hc
 ·obtain⟨f0,f1,f2,f3,f4,f5⟩:=f b hb
  exact⟨f3,f1,f4,f5⟩
theorem Inv.turnAll{h':Heap}{ch:List Addr}(I:Inv X pins σ H s)(f:∀b∈ch,Zji X pins H b)(k:∀b o,b∉ch->s.heap.get? b=some o->h'.get? b=some o):Inv X pins σ H { s with heap:=h' }:=by
 have nch:∀b u,H b=some u->b∉ch:=λb u e z=>by rw[(f b z).1]at e;cases e
 refine I.call (ch:=ch) (g':=s.gens) (d':=s.drawn) (t':=s.toks) ⟨λb o e _ _ hc=>k b o hc e,λb o e _ _ hc=>⟨o.slots,k b o hc e⟩,λb o e n _=>n,λb o e hc=>⟨o,k b o hc e⟩,λb ys e=>e,λb o u e=>e,λb ps e=>⟨#[],by rw[e];simp⟩⟩ (λb u e=>?_) I.bare (λb hb=>?_)
 ·refine(I.hok b u e).stay (λc v hc q=>k c v ?_ q) (λc q=>q) λc ys q=>q
  rcases hc with rfl|hc
  ·exact nch _ _ e
  ·exact nch _ _ hc
 ·obtain⟨f0,f1,f2,f3,f4,f5⟩:=f b hb
  exact⟨f3,f1,f4,f5⟩
end
variable {G:Xb}
section
variable {X:Cx}{io:List Nat}{p c:Bool}{e a b tg:Expr}{m:MEt}{mr:MAt}
theorem Rel.keptList{C:MC G}{H:Hp}{σ:St}{δ:Zg}{fp:Fp}{ex:Addr->Prop}{v:V}{ds:List Xa}(R:Rel C io H σ δ fp ex)(q:Da G H (λa=>c=true->Lf C fp ex a) v (.list ds)) :
  ∃a xs,v= .ref a∧∀H':Hp,(∀b o,H b=some o->(c=false∨¬Foot fp b)->H' b=some o)->SqL G H' a xs∧Das G H' (λa=>c=true->(Lf C fp ex a∧H a≠none)) xs ds:=by
 generalize hd:Qy ds=d at q
 cases q with
 | lst l e r=>
  cases hd
  rename_i a0 xs0
  refine⟨a0,xs0,rfl,λH' kp=>?_⟩
  obtain⟨f1,f2⟩:=R.kept kp
  exact⟨.inl (f1 _ (.lst _) l e).2,r.frame f1 f2⟩
 | scr k=>
  rename_i a ns
  have:=PyData.list.inj hd
  subst this
  exact⟨a,_,rfl,λH' _=>⟨k.sq,.ints ns⟩⟩
 | _=>cases hd
noncomputable def Zkk(as bs:List Xa):List Xa:=(as.zip bs).map λx=>.tuple [x.1,x.2]
theorem Zos{as bs:List Xa}{i:Nat}{d:Xa}(h:(Zkk as bs)[i]? =some d):∃x y,as[i]? =some x∧bs[i]? =some y∧d= .tuple [x,y]:=by
 unfold Zkk at h
 rw[Xy]at h
 cases e:(as.zip bs)[i]? with
 | none=>rw[e]at h;cases h
 | some z=>
  rw[e]at h
  cases h
  obtain⟨h1,h2⟩:=List.getElem?_zip_eq_some.mp e
  exact⟨z.1,z.2,h1,h2,rfl⟩
theorem Ztj{as bs:List Xa}{i:Nat}(h:(Zkk as bs)[i]? =none):as.length≤i∨bs.length≤i:=by
 unfold Zkk at h
 have:=QD.mp h
 simp at this
 omega
@[simp] theorem Zy3(as bs:List Xa):(Zkk as bs).length=min as.length bs.length:=by simp[Zkk]
end
variable {G:Xb}
section
variable {X:Cx}{io:List Nat}{c1 c2 c3:Bool}{a b e:Expr}{ma mb mc:MEt}{pos:Pos}{f g:Int->Int->Bool}
end
section
variable {X:Cx}{io:List Nat}{p c:Bool}{a b e:Expr}{ma mb m:MEt}{pos pl:Pos}
noncomputable def Yam(m mb:MEt):MEt:=λδ K=>m δ λr δ1=>mb δ1 λn _=>asI n.data λk=>(-(2^63)≤k∧k<2^63∧k.toNat≤Xo)∧K (.nd (Xr k.toNat (.fz r.data))) δ1
theorem Zoz{α:Type}(x:α):∀n:Nat,(Xr n [x]).flatten=Xr n x
 | 0=>rfl
 | n+1=>by rw[BL,Ve,Zoz x n];rfl
theorem Das.rep{H:Hp}{L:Addr->Prop}{v:V}{d:Xa}(h:Da G H L v d):∀n:Nat,Das G H L (Xr n v) (Xr n d)
 | 0=>.nil
 | n+1=>.cons h (Das.rep h n)
theorem Z0p(ha:ME X io p true a m)(hb:ME X io true c b mb)(hs:Xk [a] X.env=(false,eval a X.env) :: Xk [] X.env:=by rfl):ME X io p true (.BinOp (.List [a] pl) .Mult b pos) (Yam m mb):=by
 obtain⟨_,A,sa⟩:=ha
 obtain⟨_,B,sb⟩:=hb
 refine⟨_,Z1u Z14 (Zyr (Ye A J8 hs)) B,λC H σ δ fp ex K Q R h k=>?_⟩
 refine sa C H σ δ fp ex _ _ R h λH1 v r δ1 fp1 new r1 h1=>⟨(by show 1≤Xo;decide),λl hl=>?_⟩
 have R1:=r1.base
 have s1:=Z3 hl (.lst [v])
 refine sb.pureAfter (R1.mk0 s1) h1 λH2 w n R2 s2 q2 h2=>?_
 obtain⟨i,rfl,h2⟩:=q2.intInv h2
 have q:=(((r1.da R).wide (L':=Lf C fp1 ex) λa l _=>l rfl).same s1).same s2
 refine⟨l,i,[v],rfl,rfl,s2 _ _ Zv,h2.1.1,h2.1.2.1,by show 1*i.toNat≤Xo;rw[Nat.one_mul];exact h2.1.2.2,λt ht=>?_⟩
 rw[Zoz]
 have S:Stp p H δ fp H2 δ1 fp1:=by
  have:=r1.stp.trans (p':=true) (Stp.same (p:=true) (δ:=δ1) (fp:=fp1) (s1.trans s2) (s1.trans s2).al)
  rwa[Va]at this
 refine k _ _ _ δ1 fp1 [t] (RE.tree R R2 S (Z3 ht _) (Za5 ht) (Zdw t) ?_) h2.2
 have:=Own.list ht ((Das.rep q i.toNat).wide (L':=λa=>true=true->Lf C fp1 ex a) λa l _ _=>l)
 rwa[Ua]at this
end
variable {G:Xb}
section
variable {X:Cx}
noncomputable def Zz7:List V->Hp->VK->Prop:=λvs H Q=>∃j:Int,vs=[.int j]∧∀r,H r=none->Q (.ref r) (upd H r (.rng 0 j))
theorem Ztu:Zcq X (.type "range") Zz7:=by
 intro pins s σ H vs us Q I r h
 obtain⟨j,rfl,q⟩:=h
 obtain⟨u,rfl,t,rfl⟩:=vals1 r
 refine call_range_1 ?_
 exact⟨.ref s.heap.objs.size,_,I.laid (o:=.rng 0 j) (λb o e=>Xm _ e) (Qp _) ⟨_,_,_,Qc _ rfl⟩,rfl,q _ I.fresh⟩
noncomputable def Zve(lo:Int)(n:Nat):List V:=(Xz n).map λ(i:Nat)=>V.int (lo+(i:Int))
noncomputable def Zu1:List V->Hp->VK->Prop:=λvs H Q=>∃r lo hi,vs=[.ref r]∧H r=some (.rng lo hi)∧(-(2^62)≤lo∧lo<2^62∧-(2^62)≤hi∧hi<2^62)∧(hi-lo).toNat≤Xo∧∀l,H l=none->Q (.ref l) (upd H l (.lst (Zve lo (hi-lo).toNat)))
theorem Zlt(lo:Int)(n:Nat):Zve lo (n+1)= .int lo :: Zve (lo+1) n:=by
 unfold Zve
 rw[U5,XF,XN]
 congr 1
 ·simp
 ·refine Xw λi _=>?_
  show V.int (lo+((i+1:Nat):Int))=V.int (lo+1+(i:Int))
  congr 1
  omega
theorem Zob:∀(acc:List Xe) (lo:Int),(∀(i:Nat) (v:Xe),acc[i]? =some v->∃t,v=UJ (lo+i) t)->Vals (Zve lo acc.length) acc
 | [],_,_=>.nil
 | v :: acc,lo,h=>by
  rw[Bb,Zlt]
  obtain⟨t,e⟩:=h 0 v rfl
  refine .cons ⟨t,by rw[e];simp⟩ (Zob acc (lo+1) λi w hw=>?_)
  obtain⟨t',e'⟩:=h (i+1) w (by simpa using hw)
  refine⟨t',?_⟩
  rw[e']
  congr 1
  omega
theorem Zj7(hc:X.calm=true):Zcq X (.type "list") Zu1:=by
 intro pins s σ H vs us Q I r h
 obtain⟨a,lo,hi,rfl,e,hb,hz,q⟩:=h
 obtain⟨u,rfl,ru⟩:=vals1 r
 cases(show u=QB a from ru)
 obtain⟨t,u',v,e1⟩:=(show ObjOk X.prog X.w H s.heap a (.rng lo hi)from I.hok a _ e)
 refine call_list_range (n:=(hi-lo).toNat) (I.ok.hd hc) e1 ?_ ?_ hz λh' tk acc c' hk hS hacc=>?_
 ·exact small_one hb.1 hb.2.1 hb.2.2.1 hb.2.2.2
 ·rw[rangeSize_one];split<;>omega
 ·refine⟨.ref s.heap.objs.size,_,I.laid (o:=.lst (Zve lo (hi-lo).toNat)) (t':=tk) hk (Qp _) ⟨?_,acc.toList,c',?_,by simpa using hS⟩,rfl,q _ I.fresh⟩
  ·simp[Zve];omega
  ·have:=Zob acc.toList lo λi v hv=>by
    obtain⟨t,e⟩:=hacc.2 i v (by simpa using hv)
    exact⟨t,by rw[e,Int.mul_one]⟩
   rwa[show acc.toList.length=(hi-lo).toNat by simpa using hacc.1]at this
end
end L2
namespace L2
open PySem PySem.Spec PyProof.Rows PySem.SeqAt
variable {G:Xb}
theorem Zst(lo:Int)(n:Nat):Zch lo (n+1)= .int lo :: Zch (lo+1) n:=by
 unfold Zch
 rw[U5,XF,XN]
 congr 1
 ·simp
 ·refine Xw λi _=>?_
  show Xj (lo+((i+1:Nat):Int))=Xj (lo+1+(i:Int))
  congr 1
  omega
theorem Das.rng{H:Hp}{L:Addr->Prop}:∀(n:Nat) (lo:Int),Das G H L (Zve lo n) (Zch lo n)
 | 0,_=>.nil
 | n+1,lo=>by
  rw[Zlt,Zst]
  exact .cons (.int _) (Das.rng n _)
section
variable {X:Cx}{io:List Nat}{p c:Bool}{a b e:Expr}{ma mb m:MEt}{mr:MAt}{pos pos' pl pr:Pos}
noncomputable def Z97(mr:MAt):MEt:=λδ K=>mr δ λrs δ'=>n1 (λd=>asI d λj=>(-(2^62)≤j∧j<2^62∧j.toNat≤Xo)∧K (.nd ((Zch 0 j.toNat).map OT.fz)) δ') (OT.datas rs)
theorem Z5u{C:MC G}{H H1:Hp}{σ:St}{δ δ1:Zg}{fp fp1:Fp}{ex:Addr->Prop}{r l:Addr}{lo hi:Int}{n:Nat}(R:Rel C io H σ δ fp ex)(R1:Rel C io H1 σ δ1 fp1 ex)(S:Stp p H δ fp H1 δ1 fp1)(hr:H1 r=none)
  (hl:upd H1 r (.rng lo hi) l=none):RE C io p true H σ δ fp ex (upd (upd H1 r (.rng lo hi)) l (.lst (Zve lo n))) (.ref l) (.nd ((Zch lo n).map OT.fz)) δ1 fp1 [l]:=by
 have s1:=Z3 hr (.rng lo hi)
 have S':Stp p H δ fp (upd H1 r (.rng lo hi)) δ1 fp1:=by
  have:=S.trans (p':=true) (Stp.same (p:=true) (δ:=δ1) (fp:=fp1) s1 s1.al)
  rwa[Va]at this
 exact RE.tree R (R1.mk0 s1) S' (Z3 hl _) (Za5 hl) (Zdw l) (Own.list hl (Das.rng n lo))
theorem Zk9(hc:X.calm=true)(hgl:Gl X "list")(hml:X.mg "list"=none)(hvl:Qg "list"=some (.type "list"))(hg:Gl X "range")(hm:X.mg "range"=none)(hv:Qg "range"=some (.type "range"))(ha:MA X io p c [a] mr)
  (he:Xk [a] X.env=(false,eval a X.env) :: Xk [] X.env:=by rfl) (hpl:(QW pos' (Xk [] X.env)).any (·.1)=false:=by rfl)
  (he':Xk [.Call (.Name "range" pr) [a] [] pos'] X.env=(false,eval (.Call (.Name "range" pr) [a] [] pos') X.env) :: Xk [] X.env:=by rfl) (hpl':(QW pos (Xk [] X.env)).any (·.1)=false:=by rfl) :
  ME X io p true (.Call (.Name "list" pl) [.Call (.Name "range" pr) [a] [] pos'] [] pos) (Z97 mr):=by
 obtain⟨_,A,s⟩:=ha
 refine⟨_,Zht (Zj7 hc) hgl hml hvl (Ye (Zht Ztu hg hm hv A (he:=he) (hpl:=hpl)) J8 he') (he:=he') (hpl:=hpl'),λC H σ δ fp ex K Q R h kk=>s C H σ δ fp ex _ _ R h λH1 vs rs δ1 fp1 new r1 h1=>?_⟩
 obtain⟨v,d,rfl,e2,q,h2⟩:=(r1.das R).one h1
 obtain⟨j,rfl,h2⟩:=q.intInv h2
 refine⟨j,rfl,λr hr=>⟨r,0,j,rfl,Zv,⟨by decide,by decide,h2.1.1,h2.1.2.1⟩,by rw[Int.sub_zero];exact h2.1.2.2,λl hl=>?_⟩⟩
 rw[Int.sub_zero]
 exact kk _ _ _ δ1 fp1 [l] (Z5u R r1.base r1.stp hr hl) h2.2
end
theorem Zj2:∀{ns:List Int} {its:List Xe},Vals (ns.map V.int) its->Bl its ns
 | [],_,.nil=>.nil
 | n :: ns,_,.cons r rs=>by
  obtain⟨t,e⟩:=(show∃t,_=UJ n t from r)
  rw[e]
  exact .cons n t (Zj2 rs)
section
variable {X:Cx}{io:List Nat}{p c:Bool}{a b e:Expr}{ma mb m:MEt}{mr:MAt}{pos pos' pl pr:Pos}
noncomputable def Z38(K:Xb):V->List V->Hp->VK->Prop:=λx vs H Q=>∃(l:Addr) (ns:List Int) (k:Int),x= .ref l∧vs=[.int k]∧SqL K H l (ns.map V.int)∧ns.length≤2^20∧k∈ns∧Q (.int (ns.idxOf k:Nat)) H
theorem Zvt{K:Xb}(hK:X.K=K):MtR X "list.index" (Z38 K):=by
 subst hK
 intro pins s σ H x vs v us Q I rx rv h
 obtain⟨l,ns,k,rfl,rfl,hs,hb,hk,q⟩:=h
 cases rx
 obtain⟨u,rfl,t,rfl⟩:=vals1 rv
 obtain⟨its,rw',pl,hz⟩:=I.list hs
 have hi:=Zj2 rw'
 obtain⟨⟨cls,dd,data,sl⟩,ho,hc,n,hd⟩:=id pl.isList
 simp only at hc hd
 subst hc hd
 have hlen:=hi.length
 have hj:ns.idxOf k<ns.length:=List.idxOf_lt_length_iff.mpr hk
 refine UG PySem.F.slot_list_index ⟨_,ho,rfl⟩ PySem.F.entry_list_index (PySem.F.args_list_index_2 _ _)
  (list_indexAt l its.toArray n dd sl (.int k t) (isInt k) (ns.idxOf k) (by simpa [hlen]using hj) (by omega) ?_ ?_) ⟨ho,λy hy=>(eq_isInt k t hi y (by simpa using hy)).at _ _,⟨.int (ns.idxOf k:Nat),H,I.kept (h':=s.heap) (λb o e=>e),⟨_,rfl⟩,q⟩⟩
 ·show isInt k its[ns.idxOf k]=true
  rw[isInt_at k hi _ (by omega) hj]
  simpa using List.getElem_idxOf hj
 ·intro j hjs hlt
  show isInt k its[j]=false
  rw[isInt_at k hi j (by simpa using hjs) (by omega)]
  exact ne_of_lt_idxOf hlt _
noncomputable def Zyo(m mb:MEt):MEt:=λδ K=>m δ λr δ1=>∃ns:List Int,r.data= .list (ns.map Xj)∧ns.length≤2^20∧mb δ1 λn δ2=>asI n.data λk=>k∈ns∧K (.fz (.int (ns.idxOf k:Nat))) δ2
theorem Z1f{o:Expr}{apos cpos:Pos}(ho:ME X io true true o m)(he:ME X io true c e mb)
  (hbase:Br o "index" X.env (eval o X.env)=eval o X.env:=by rfl)
  (hfew:((QW cpos (Xk [e] X.env)).all (λx=>!x.1)&&(V7 cpos (Vb [] X.env)).all (λx=>x.1.isSome)
   &&decide ([e].length+([]:List Bp).length+(if([]:List Bp).isEmpty then 0 else 1)<30))=true:=by rfl)
  (hline:(apos.endLine==cpos.line)=true:=by rfl) (hs:Xk [e] X.env=(false,eval e X.env) :: Xk [] X.env:=by rfl) (hplain:(QW cpos (Xk [] X.env)).any (·.1)=false:=by rfl) :
  ME X io true true (.Call (.Attribute o "index" apos) [e] [] cpos) (Zyo m mb):=by
 obtain⟨_,A,sa⟩:=ho
 obtain⟨_,B,sb⟩:=he
 refine⟨_,Zm7 JD PySem.F.slot_list_index PySem.F.type_list_index (Zvt rfl) A (Ye B J8 hs) hbase hfew hline hs hplain,λC H σ δ fp ex K Q R h kk=>?_⟩
 refine sa.pureAfter R h λH1 v r R1 s1 q1 h1=>?_
 obtain⟨ns,e1,hb,h1⟩:=h1
 rw[e1]at q1
 obtain⟨a,rfl,hsq⟩:=q1.ints_sq
 refine⟨.inl ⟨rfl,_,hsq⟩,?_⟩
 refine sb.pureAfter R1 h1 λH2 w n R2 s2 q2 h2=>?_
 obtain⟨k,e2,h2⟩:=q2.intInv h2
 subst e2
 obtain⟨a',ea,hs'⟩:=(q1.same s2).ints_sq
 cases ea
 have s12:Same H H2:=s1.trans s2
 exact⟨a,ns,k,rfl,rfl,hs',hb,h2.1,kk H2 _ _ δ fp [] (.fz R2 (.same s12 s12.al) (.int _)) h2.2⟩
noncomputable def Z6e(i:Nat)(m:MEt):MEt:=λδ K=>match δ[i]? with
 | some (some (.nd _))=>m δ λn δ1=>match δ1[i]? with
  | some (some (.nd ts))=>asI n.data λj=>match ixN ts.length j with
   | some k=>match ts[k]? with
    | some (.fz d)=>ts.length≤Xo∧K (.fz d) (δ1.set i (some (.nd (ts.eraseIdx k))))
    | _=>False
   | none=>False
  | _=>False
 | _=>False
theorem Owns.erase{H:Hp}{L:Addr->Prop}:∀{xs:List V} {ts:List OT} {as:List Addr} {k:Nat} {d:Xa},Owns G H L xs ts as->ts[k]? =Qh (.fz d)->Owns G H L (xs.eraseIdx k) (ts.eraseIdx k) as
 | _,_,_,_,_,.nil,e=>by simp at e
 | _,_,_,0,d,.cons q r,e=>by
  simp at e
  subst e
  cases q
  exact r
 | _,_,_,k+1,d,.cons q r,e=>.cons q (Owns.erase (k:=k) r (by simpa using e))
theorem Z85{x:Str}{px:Pos}{apos cpos:Pos}(i:Nat)(he:ME X io p c e m)(hN:X.N[i]? =some x:=by rfl)(hv:Vis X.env.scope x:=by first|exact Qj rfl|exact X8 (Qj rfl)|exact X8 (X8 rfl))(hd:(x==("__debug__" : Str))=false:=by decide)
  (hcd:(x==("__classdict__" : Str))=false:=by decide)
  (hbase:Br (.Name x px) "pop" X.env (eval (.Name x px) X.env)=eval (.Name x px) X.env:=by rfl)
  (hfew:((QW cpos (Xk [e] X.env)).all (λx=>!x.1)&&(V7 cpos (Vb [] X.env)).all (λx=>x.1.isSome)
   &&decide ([e].length+([]:List Bp).length+(if([]:List Bp).isEmpty then 0 else 1)<30))=true:=by rfl)
  (hline:(apos.endLine==cpos.line)=true:=by rfl) (hs:Xk [e] X.env=(false,eval e X.env) :: Xk [] X.env:=by rfl) (hplain:(QW cpos (Xk [] X.env)).any (·.1)=false:=by rfl) :
  ME X io false true (.Call (.Attribute (.Name x px) "pop" apos) [e] [] cpos) (Z6e i m):=by
 obtain⟨_,A,s⟩:=he
 refine⟨_,Zm7 JD PySem.F.slot_list_pop PySem.F.type_list_pop Zwt (pv i hN hv hd hcd) (Ye A J8 hs) hbase hfew hline hs hplain,λC H σ δ fp ex K Q R h kk=>?_⟩
 unfold Z6e at h
 split at h
 case h_2=>exact h.elim
 rename_i ts0 hi0
 obtain⟨a',xs0,bs0,hv0,hx0,_,_⟩:=R.ownNd hi0
 refine⟨_,hv0,.inl ⟨rfl,xs0,.inl (.inl hx0)⟩,?_⟩
 refine s C H σ δ fp ex _ _ R h λH1 v r δ1 fp1 new r1 h1=>?_
 split at h1
 case h_2=>exact h1.elim
 rename_i ts1 hi1
 obtain⟨j,rfl,h1⟩:=(r1.da R).intInv h1
 split at h1
 case h_2=>exact h1.elim
 rename_i k hk
 split at h1
 case h_2=>exact h1.elim
 rename_i d hd1
 have R1:=r1.base
 obtain⟨a1,xs1,bs1,hv1,hx1,o1,hf1⟩:=R1.ownNd hi1
 rw[hv0]at hv1
 cases hv1
 obtain⟨y,cs,hy,oy,_⟩:=o1.get hd1
 have qy:Da X.K H1 (Lf C fp1 ex) y d:=by cases oy;assumption
 obtain⟨z1,z2,z3,z4⟩:=Znk hk
 have hz:=h1.1
 have hsz:Xo=16777216:=X5
 refine⟨a',xs1,j,k,y,rfl,rfl,hx1,by omega,by omega,by rw[o1.length];exact z1,hy,?_⟩
 obtain⟨R2,S2⟩:=R1.top hi1 hv0 hf1 hx1 (o1.erase hd1) (Vn _)
 have S:=(r1.stp.trans S2).cast (p':=false) λz=>nomatch z
 refine kk _ _ _ _ _ [] (.fz R2 S ?_) h1.2
 have ne':∀a,¬Foot fp1 a->a≠a':=λa h z=>h ⟨i,by rw[z,hf1];exact .head _⟩
 have f0:∀a,¬Foot fp1 a->¬Foot (fpu fp1 i (a' :: bs1)) a:=λa h z=>by
  rcases z.of_u with z|⟨j,_,z⟩
  ·exact h ⟨i,by rw[hf1];exact z⟩
  ·exact h ⟨j,z⟩
 refine qy.frame (λa zs l q=>⟨λ_=>⟨f0 a l.1,l.2.1,l.2.2⟩,?_⟩) λa zs q=>?_
 ·rcases q with q|⟨u,q⟩
  ·exact .inl (by rw[Zr (ne' a l.1)];exact q)
  ·exact .inr ⟨u,by rw[Zr (ne' a l.1)];exact q⟩
 ·rw[Zr]
  ·exact q
  ·intro z
   exact ImO.nl q (z▸hx1)
end
end L2
namespace L2
open PySem PySem.Spec PyProof.Rows
theorem ObjOk.is{P:X6}{w:Qu}{H:Hp}{h:Heap}{a:Addr}{o:HO}(x:ObjOk P w H h a o):∃u,h.get? a=some u:=by
 cases o with
 | lst xs=>obtain⟨_,_,_,_,e⟩:=x;exact⟨_,e⟩
 | tup xs=>obtain⟨_,_,_,ob,e,_⟩:=x;exact⟨_,e⟩
 | dK kvs=>obtain⟨_,_,_,_,o,_,_,e,_⟩:=x;exact⟨_,e⟩
 | dT kvs=>obtain⟨_,_,_,_,o,_,_,e,_⟩:=x;exact⟨_,e⟩
 | set S n=>obtain⟨o,_,_,_,e,_⟩:=x;exact⟨_,e⟩
 | ins C dx fs=>obtain⟨_,_,_,e,_⟩:=x;exact⟨_,e⟩
 | own y=>obtain⟨_,e⟩:=x;exact⟨_,e⟩
 | xd fs=>obtain⟨_,⟨_,_,_,e,_⟩,_⟩:=x;exact⟨_,e⟩
 | rng lo hi=>obtain⟨_,_,_,e⟩:=x;exact⟨_,e⟩
 | frz ob u=>obtain⟨e,_⟩:=x;exact⟨_,e⟩
 | tbl ps=>exact⟨_,(show h.get? a=some _ from x)⟩
 | met f y=>exact⟨_,(show h.get? a=some _ from x)⟩
 | ext φ=>obtain⟨_,⟨_,e⟩,_⟩:=x;exact⟨_,e⟩
structure Uo(X:Cx)(pins:List (Addr×Obj))(H:Hp)(b:Addr):Prop where
 fr:H b=none
 new:X.s₀.heap.get? b=none
 loc:b≠X.env.locals
 cel:∀x c,X.env.cells.lookup x=some c->c≠b
 pin:∀p∈X.pn ++ pins,p.1≠b
section
variable {X:Cx}{pins:List (Addr×Obj)}{σ:St}{H H':Hp}{s:Xf}{h':Heap}{b a C:Addr}
theorem Inv.apart(I:Inv X pins σ H s)(hex:X.ex=[])(hb:s.heap.get? b=none)(hH:H' b=none):Uo X pins H' b:=by
 have ne:∀c o,s.heap.get? c=some o->c≠b:=λc o e z=>by rw[z,hb]at e;cases e
 refine⟨hH,?_,?_,λx c e=>?_,λp hp=>?_⟩
 ·cases q:X.s₀.heap.get? b with
  | none=>rfl
  | some o=>
   obtain⟨o',e⟩:=I.base.there b o q (by rw[hex];simp)
   rw[hb]at e;cases e
 ·obtain⟨m,⟨o,_,_,ho,_⟩,_⟩:=I.loc
  exact(ne _ _ ho).symm
 ·obtain⟨v,o,ho,_⟩:=I.cell x c e
  exact ne _ _ ho
 ·exact ne _ _ (I.pin p hp).1
theorem Inv.unheld(I:Inv X pins σ H s)(hb:s.heap.get? b=none):H b=none:=by
 cases q:H b with
 | none=>rfl
 | some u=>
  obtain⟨o,e⟩:=(I.hok b u q).is
  rw[hb]at e;cases e
theorem Inv.nofrs(I:Inv X pins σ H s)(hb:b≠X.env.locals)(hf:b∉X.fs):b∉frs X.stack:=λz=>(Xl.mp (I.stkSub b z)).elim hb hf
theorem Inv.flown{t':Nat}(I:Inv X pins σ H s){ch:List Addr}(hch:∀b∈ch,Uo X pins H b)(keep:∀b o,b∉frs X.stack->b∉ch->s.heap.get? b=some o->h'.get? b=some o)
  (slot:∀b o,b∈frs X.stack->s.heap.get? b=some o->∃sl,h'.get? b=some { o with slots:=sl }):Inv X pins σ H { s with heap:=h',toks:=t' }:=by
 have any:∀b o,b∉ch->s.heap.get? b=some o->∃sl,h'.get? b=some { o with slots:=sl }:=λb o n e=>by
  by_cases hb:b∈frs X.stack
  ·exact slot b o hb e
  ·exact⟨o.slots,keep b o hb n e⟩
 have neL:∀b o,X.s₀.heap.get? b=some o->b≠X.env.locals:=λb o e=>Xq (X3 (XD e) I.ok.above)
 have neC:∀b o,X.s₀.heap.get? b=some o->b∉ch:=λb o e hb=>by
  have:=(hch b hb).new
  rw[this]at e;cases e
 have cellK:∀x c,X.env.cells.lookup x=some c->∀v,s.heap.IsCell c v->h'.IsCell c v:=λx c e v q91=>by
  obtain⟨o,ho,hd⟩:=q91
  obtain⟨sl,q⟩:=any c o (λz=>(hch c z).cel x c e rfl) ho
  exact⟨_,q,hd⟩
 have nL:X.env.locals∉ch:=λz=>(hch _ z).loc rfl
 refine⟨I.ok,I.os,I.bare,⟨λb o e n hb hx=>?_,λb o e n hb hx=>?_,I.base.free,λb o e hx=>?_,I.base.tups,I.base.frzs,I.base.tbls⟩,?_,λx c e=>?_,I.free,I.freeC,λp hp=>?_,λb u e=>?_,I.len⟩
 ·exact keep b o (I.nofrs (neL b o e) hb) (neC b o e) (I.base.keep b o e n hb hx)
 ·obtain⟨sl,e1⟩:=I.base.slot b o e n hb hx
  obtain⟨sl',e2⟩:=any b _ (neC b o e) e1
  exact⟨sl',e2⟩
 ·obtain⟨o',e1⟩:=I.base.there b o e hx
  obtain⟨sl,e2⟩:=any b o' (neC b o e) e1
  exact⟨_,e2⟩
 ·obtain⟨m,⟨o,es,ep,ho,r⟩,hl⟩:=I.loc
  obtain⟨sl,q⟩:=any _ o nL ho
  refine⟨m,⟨_,es,ep,q,r⟩,λi x v e1 e2 e3=>?_⟩
  obtain⟨u,rv,l⟩:=hl i x v e1 e2 e3
  refine⟨u,rv,?_⟩
  rcases l with l|⟨k,c,e,z⟩
  ·exact .inl l
  ·exact .inr ⟨k,c,e,cellK x c e _ z⟩
 ·obtain⟨v,z⟩:=I.cell x c e
  exact⟨v,cellK x c e v z⟩
 ·obtain⟨e,n,ne,nf,d⟩:=I.pin p hp
  exact⟨keep p.1 p.2 (I.nofrs ne nf) (λz=>(hch _ z).pin p hp rfl) e,n,ne,nf,d⟩
 ·refine(I.hok b u e).stay (λc v hc q=>keep c v (λz=>?_) (λz=>?_) q) (λ_ q=>q) λ_ _ q=>q
  ·have n:=I.stkFree c z
   rcases hc with rfl|hc
   ·rw[n]at e;cases e
   ·rw[n]at hc;cases hc
  ·have n:=(hch c z).fr
   rcases hc with rfl|hc
   ·rw[n]at e;cases e
   ·rw[n]at hc;cases hc
noncomputable def Fl(ap:Addr->Prop)(C a:Addr)(fl:Xe)(h:Heap):Prop:=∃a0 oe vs T oT ts,h.get? a=some oe∧(oe.cls= .ref C∧vs[0]? =some a0)∧oe.data= .fields vs∧vs[1]? =some (.ref T)∧T≠a∧h.get? T=some oT∧oT.data= .fields ts∧ts[3]? =some fl∧ap a∧ap T
noncomputable def Fl0(ap:Addr->Prop)(C a:Addr)(h:Heap):Prop:=∃a0 oe vs,h.get? a=some oe∧(oe.cls= .ref C∧vs[0]? =some a0)∧oe.data= .fields vs∧vs[1]? =some .none∧ap a
noncomputable def FlA(ap:Addr->Prop)(fl:Xe)(C a:Addr)(h:Heap):Prop:=Fl ap C a .none h∨Fl0 ap C a h∨Fl ap C a fl h
theorem Fl.imp{ap ap':Addr->Prop}{fl:Xe}{h:Heap}(f:∀b,ap b->ap' b)(x:Fl ap C a fl h):Fl ap' C a fl h:=by
 obtain⟨a0,oe,vs,T,oT,ts,h1,h2,h3,h4,h5,h6,h7,h8,h9,h10⟩:=x
 exact⟨a0,oe,vs,T,oT,ts,h1,h2,h3,h4,h5,h6,h7,h8,f _ h9,f _ h10⟩
theorem Fl.exO{ap:Addr->Prop}{fl:Xe}{h:Heap}(x:Fl ap C a fl h):ExO C a h:=by
 obtain⟨a0,oe,vs,T,oT,ts,h1,h2,h3,_⟩:=x
 exact⟨oe,vs,h1,h2.1,h3⟩
section
variable {M:Model}{A:Qo}{E:Xe->Xf->Prop}{Q:Unit->Xf->Prop}{ch:List Addr}
theorem Inv.hidFrames(I:Inv X pins σ H s):s.heap.FunFrames (JB s.heap (frs X.stack ++ ch)) X.stack :=
 PySem.W.funFrames_hide I.stack λenv he b hb=>Bg _ (List.mem_filterMap.mpr ⟨env,he,hb⟩)
theorem Inv.flyTo(I:Inv X pins σ H s)(hch:∀b∈ch,Uo X pins H b)(k1:(JB s.heap (frs X.stack ++ ch)).StaysIn h')(k4:∀b o,s.heap.get? b=some o->(∀vs,o.data≠ .fields vs)->∃sl,h'.get? b=some { o with slots:=sl }) :
  Inv X pins σ H { s with heap:=h' } :=
 I.flown (t':=s.toks) hch (λb o hf hc e=>k1 b o (PySem.W.hideAll_get _ e λz=>(Qz.mp z).elim hf hc)) λb o hb e=>by
  obtain⟨_,o',ho',hd⟩:=I.stack.mem hb
  rw[e]at ho';cases ho'
  exact k4 b o e hd
theorem Inv.flyT(I:Inv X pins σ H s)(hex:X.ex=[])(hch:∀b∈ch,Uo X pins H b){T:Addr}{oT:Obj}{ts:Array Xe}(k4:∀b o,s.heap.get? b=some o->(∀vs,o.data≠ .fields vs)->∃sl,h'.get? b=some { o with slots:=sl })
  (hT:(JB s.heap (frs X.stack ++ ch)).get? T=none) (h1:h'.get? T=some oT) (h2:oT.data= .fields ts):Uo X pins H T:=by
 by_cases hc:T∈ch
 ·exact hch T hc
 by_cases hf:T∈frs X.stack
 ·obtain⟨_,o',ho',hd⟩:=I.stack.mem hf
  obtain⟨sl,e⟩:=k4 T o' ho' hd
  rw[h1]at e
  cases e
  exact absurd h2 (hd ts)
 have hn:s.heap.get? T=none:=by
  cases q:s.heap.get? T with
  | none=>rfl
  | some o=>
   have:=PySem.W.hideAll_get (frs X.stack ++ ch) q λz=>(Qz.mp z).elim hf hc
   rw[hT]at this;cases this
 exact I.apart hex hn (I.unheld hn)
theorem Zoq(I:Inv X pins σ H s)(hex:X.ex=[])(hst:X.stack=X.env :: X.outer)(hf:X.env.frame=some X.env.locals)(hA:A.frames=some X.stack)(F:FlA (Uo X pins H) (U9 X.env.locals) C a s.heap)
  (h:∀s',Inv X pins σ H s'->Fl (Uo X pins H) C a (U9 X.env.locals) s'.heap->Q () s'):XR M A (noteFrame (.ref a) X.env) Q E s:=by
 rcases F with F|F|F
 ·obtain⟨a0,oe,vs,T,oT,ts,eA,cA,dA,v1,nT,eT,dT,t3,pA,pT⟩:=F
  have hch:∀b∈[a,T],Uo X pins H b:=λb hb=>by
   rcases Xl.mp hb with rfl|hb
   ·exact pA
   ·rw[XH.mp hb];exact pT
  have hen:(JB s.heap (frs X.stack ++ [a,T])).get? a=none:=Vd _ (XQ _ (.head _))
  have hTn:(JB s.heap (frs X.stack ++ [a,T])).get? T=none:=Vd _ (XQ _ (.tail _ (.head _)))
  have fr:=I.hidFrames (ch:=[a,T])
  refine wpAny_noteFrame_onW (base:=JB s.heap (frs X.stack ++ [a,T])) (outer:=X.outer) (hA.trans (by rw[hst])) (hst▸fr) hf ⟨oe,vs,T,oT,ts,eA,cA,dA,v1,hTn,nT,eT,dT,t3⟩ (λb o e=>V2 _ e) hen λh' hN=>?_
  obtain⟨k1,_,⟨oe',vs',T',oT',ts',e1,e2,e3,e4,e5,e6,e7,e8,e9⟩,k4⟩:=hN
  exact h _ (I.flyTo hch k1 k4) ⟨a0,oe',vs',T',oT',ts',e1,e2,e3,e4,e6,e7,e8,e9,pA,I.flyT hex hch k4 e5 e7 e8⟩
 ·obtain⟨a0,oe,vs,eA,cA,dA,v1,pA⟩:=F
  have hch:∀b∈[a],Uo X pins H b:=λb hb=>by rw[XH.mp hb];exact pA
  have hen:(JB s.heap (frs X.stack ++ [a])).get? a=none:=Vd _ (XQ _ (.head _))
  have fr:=I.hidFrames (ch:=[a])
  unfold noteFrame
  simp only[hf]
  refine Xg (JL eA dA v1 ?_)
  rw[if_neg (by decide)]
  refine wpAny_entryW (base:=JB s.heap (frs X.stack ++ [a])) (outer:=X.outer) (hA.trans (by rw[hst])) (hst▸fr) hf eA (λb o e=>V2 _ e) hen dA (Array.getElem?_eq_some_iff.mp v1).1 cA.2 λh' hN=>?_
  obtain⟨k1,_,⟨oe',vs',T',oT',ts',e1,e2,e3,e4,e5,e6,e7,e8,e9⟩,k4⟩:=hN
  exact h _ (I.flyTo hch k1 k4) ⟨a0,oe',vs',T',oT',ts',e1,⟨e2.1.trans cA.1,e2.2⟩,e3,e4,e6,e7,e8,e9,pA,I.flyT hex hch k4 e5 e7 e8⟩
 ·have F':=F
  obtain⟨a0,oe,vs,T,oT,ts,eA,cA,dA,v1,nT,eT,dT,t3,pA,pT⟩:=F
  unfold noteFrame
  simp only[hf]
  refine Xg (JL eA dA v1 ?_)
  rw[if_pos (by rfl)]
  refine Xg (JL eT dT t3 ?_)
  rw[if_pos (by simp)]
  exact Qe (h s I F')
theorem Zjj(I:Inv X pins σ H s)(hex:X.ex=[]){fl:Xe}(F:Fl (Uo X pins H) C a fl s.heap)
  (h:∀s',Inv X pins σ H s'->Fl (Uo X pins H) C a .none s'.heap->Q () s'):XR M A (setFlight (.ref a) none) Q E s:=by
 obtain⟨a0,oe,vs,T,oT,ts,eA,cA,dA,v1,nT,eT,dT,t3,pA,pT⟩:=F
 have hch:∀b∈[a,T],Uo X pins H b:=λb hb=>by
  rcases Xl.mp hb with rfl|hb
  ·exact pA
  ·rw[XH.mp hb];exact pT
 have hTn:(JB s.heap (frs X.stack ++ [a,T])).get? T=none:=Vd _ (XQ _ (.tail _ (.head _)))
 refine wpAny_setFlight_noneW (base:=JB s.heap (frs X.stack ++ [a,T])) (l:=X.stack) (λb o e=>V2 _ e) I.hidFrames ⟨oe,vs,T,oT,ts,eA,cA,dA,v1,hTn,nT,eT,dT,t3⟩ λh' k1 _ k3 k4'=>?_
 have k4:∀b o,s.heap.get? b=some o->(∀vs,o.data≠ .fields vs)->∃sl,h'.get? b=some { o with slots:=sl }:=λb o e n=>⟨o.slots,k4' b o e n⟩
 obtain⟨oe',vs',T',oT',ts',e1,e2,e3,e4,e5,e6,e7,e8,e9⟩:=k3
 exact h _ (I.flyTo hch k1 k4) ⟨a0,oe',vs',T',oT',ts',e1,e2,e3,e4,e6,e7,e8,e9,pA,I.flyT hex hch k4 e5 e7 e8⟩
theorem Ztw(I:Inv X pins σ H s)(hex:X.ex=[])(hst:X.stack=X.env :: X.outer)(hf:X.env.frame=some X.env.locals)(hA:A.frames=some X.stack)(F:FlA (Uo X pins H) (U9 X.env.locals) C a s.heap)
  (h:∀s',Inv X pins σ H s'->Fl (Uo X pins H) C a .none s'.heap->Q () s'):XR M A (leaving X.env (.ref a)) Q E s:=by
 unfold leaving
 exact Xg (Zoq I hex hst hf hA F λs1 I1 F1=>Zjj I1 hex F1 h)
end
end
noncomputable def Zi6(K:Xb)(C:Addr):Prop:=PySem.W.excIn K C [.type "ValueError",.type "Exception",.type "BaseException",.type "object"] "ValueError.__new__"=true
theorem Zul{K:Xb}{h:Heap}{C:Addr}{bmB:List Xe}{newId:String}(X:K.In h)(q:PySem.W.excIn K C bmB newId=true) :
  ∃bm N nm qn bs hdct sn sub ab col dd k0 k1 k2 k3 k5 mN,h.get? C=some (excClassObj nm qn C N bs bm hdct sn sub ab col dd k0 k1 k2 k3 k5 newId)∧h.Ns N mN∧mN "__init__"=none∧OwnTail h bmB bm:=by
 unfold PySem.W.excIn at q
 split at q
 case h_2=>cases q
 rename_i dd cd sl ho
 split at q
 case h_2=>cases q
 rename_i C' bm k0 k1 k2 k3 n k5 hm hs
 simp only[Xx,beq_iff_eq,Bool.not_eq_true']at q
 obtain⟨⟨⟨⟨⟨rfl,rfl⟩,e1⟩,e2⟩,e3⟩,e4⟩:=q
 obtain⟨nm,bs,mro,ns,qn,hd,sn,sub,ab,col,del⟩:=cd
 dsimp only at hm e1 e3 e4
 subst hm e1
 obtain⟨l⟩:=sl
 have e5:l=[k0,k1,k2,k3,some (.builtin n),k5]:=hs
 subst e5
 exact⟨bm,ns,nm,qn,bs,hd,sn,sub,ab,col,dd,k0,k1,k2,k3,k5,_,X _ _ ho,.of_isNs (PySem.W.isNs_of_in X e3),PySem.W.nsMap_none_of_in X e3 e4,PySem.W.tail_of_in X e2⟩
noncomputable abbrev MXt:=Zg->(Addr->Zg->Prop)->Prop
noncomputable def XW(X:Cx)(C:MC X.K)(io:List Nat)(pins:List (Addr×Obj))(ex:Addr->Prop)(H:Hp)(fp:Fp)(k:Addr->Zg->Prop)(e:Xe)(s':Xf):Prop :=
 ∃a cl σ' H' δ' fp',e= .ref a∧Inv X pins σ' H' s'∧FlA (Uo X pins H') (U9 X.env.locals) cl a s'.heap∧Rel C io H' σ' δ' fp' ex∧Kp H fp H' fp'∧k cl δ'
noncomputable def XE(X:Cx)(io:List Nat)(e:Expr)(m:MXt):Prop:=∀(C:MC X.K) (pins:List (Addr×Obj)) (s:Xf) (σ:St) (H:Hp) (δ:Zg) (fp:Fp) (ex:Addr->Prop) (k:Addr->Zg->Prop),Inv X pins σ H s->Rel C io H σ δ fp ex->m δ k ->
 XR (Qa X.prog X.w) X.A (eval e X.env) (λ_ _=>False) (XW X C io pins ex H fp k) s
noncomputable def XS(X:Cx)(io:List Nat)(st:Stmt)(m:MXt):Prop:=∀(C:MC X.K) (pins:List (Addr×Obj)) (s:Xf) (σ:St) (H:Hp) (δ:Zg) (fp:Fp) (ex:Addr->Prop) (k:Addr->Zg->Prop),Inv X pins σ H s->Rel C io H σ δ fp ex->m δ k ->
 XR (Qa X.prog X.w) X.A (exec st X.env) (λ_ _=>False) (XW X C io pins ex H fp k) s
noncomputable def XSs(X:Cx)(io:List Nat)(sts:List Stmt)(m:MXt):Prop:=∀(C:MC X.K) (pins:List (Addr×Obj)) (s:Xf) (σ:St) (H:Hp) (δ:Zg) (fp:Fp) (ex:Addr->Prop) (k:Addr->Zg->Prop),Inv X pins σ H s->Rel C io H σ δ fp ex->m δ k ->
 XR (Qa X.prog X.w) X.A (execs sts X.env) (λ_ _=>False) (XW X C io pins ex H fp k) s
theorem XW.shift{X:Cx}{C:MC X.K}{io:List Nat}{pins:List (Addr×Obj)}{ex:Addr->Prop}{H H1:Hp}{fp fp1:Fp}{k:Addr->Zg->Prop}{e:Xe}{s:Xf}(q:Kp H fp H1 fp1)(h:XW X C io pins ex H1 fp1 k e s):XW X C io pins ex H fp k e s:=by
 obtain⟨a,cl,σ',H',δ',fp',e,I,F,R,K,hk⟩:=h
 exact⟨a,cl,σ',H',δ',fp',e,I,F,R,q.trans K,hk⟩
noncomputable def Z0j:MXt:=λ_ _=>False
noncomputable def Z79(u:MSt)(w:MXt):MXt:=λδ k=>u { nx:=λδ'=>w δ' k,rt:=λ_ _=>False } δ
noncomputable def Yar(t:MTt)(u w:MXt):MXt:=λδ k=>t δ λb δ'=>if b=true then u δ' k else w δ' k
noncomputable def Ztx(cl:Addr):MXt:=λδ k=>k cl δ
section
variable {X:Cx}{io:List Nat}{p c:Bool}{e:Expr}{es:List Expr}{mr:MAt}{m:MXt}{pos:Pos}{st:Stmt}{sts a b:List Stmt}{u:MSt}{w v:MXt}{mt:MTt}{i:Nat}{x:Str}
theorem Zsv:XSs X io sts Z0j:=λ_ _ _ _ _ _ _ _ _ _ _ h=>h.elim
theorem Zo5(h:XS X io st w):XSs X io (st :: sts) w:=λC pins s σ H δ fp ex k I R hm=>wpAny_execs_cons (thn (h C pins s σ H δ fp ex k I R hm) λ_ _ z=>z.elim)
theorem Zw7(h:MS X io st u)(g:XSs X io sts w)(hx:X.xe= λ_ _=>False:=by rfl):XSs X io (st :: sts) (Z79 u w):=by
 obtain⟨t,A,sS⟩:=h
 intro C pins s σ H δ fp ex k I R hm
 refine wpAny_execs_cons (QT (A pins s σ H { nx:=λσ1 H1=>∃δ1 fp1,Rel C io H1 σ1 δ1 fp1 ex∧Kp H fp H1 fp1∧w δ1 k,rt:=λ_ _=>False } I
  (sS C H σ δ fp ex _ _ R hm ⟨λH' σ' δ' fp' R' k' h'=>⟨δ',fp',R',k',h'⟩,λ_ _ _ _ _ _ z=>z.elim,λ_ _ _ _ _ _ z=>z.elim,λ_ _ _ _ _ _ _ _ _ _ _ z=>z.elim⟩)) (λf s1 q=>?_) λe s1 q=>by rw[hx]at q;exact q.elim)
 cases f with
 | next=>
  obtain⟨σ1,H1,I1,δ1,fp1,R1,k1,h1⟩:=q
  exact QT (g C pins s1 σ1 H1 δ1 fp1 ex k I1 R1 h1) (λ_ _ z=>z) λe s2 z=>z.shift k1
 | ret v=>obtain⟨_,_,_,_,_,z⟩:=q;exact z.elim
 | brk=>obtain⟨_,_,_,z⟩:=q;exact z.elim
 | cont=>obtain⟨_,_,_,z⟩:=q;exact z.elim
theorem Z8d(ht:MT X io p e mt)(ha:XSs X io a w)(hb:XSs X io b v)(hx:X.xe= λ_ _=>False:=by rfl):XS X io (.If e a b pos) (Yar mt w v):=by
 obtain⟨t,A,sT⟩:=ht
 intro C pins s σ H δ fp ex k I R hm
 refine wpAny_If (QT (A pins s σ H (λr H1=>∃δ1 fp1,Rel C io H1 σ δ1 fp1 ex∧Kp H fp H1 fp1∧if r=true then w δ1 k else v δ1 k) I
  (sT C H σ δ fp ex _ _ R hm λH' r δ' fp' R' S' h'=>⟨δ',fp',R',S'.kp,h'⟩)) (λr s1 q=>?_) λe s1 q=>by rw[hx]at q;exact q.elim)
 obtain⟨H1,I1,δ1,fp1,R1,k1,h1⟩:=q
 cases r with
 | true=>exact QT (ha C pins s1 σ H1 δ1 fp1 ex k I1 R1 h1) (λ_ _ z=>z) λe s2 z=>z.shift k1
 | false=>exact QT (hb C pins s1 σ H1 δ1 fp1 ex k I1 R1 h1) (λ_ _ z=>z) λe s2 z=>z.shift k1
theorem Zq7(he:XE X io e m)(hs:Bs e none pos.line X.env=pure false:=by rfl):XS X io (.Expr e pos) m:=λC pins s σ H δ fp ex k I R hm=>
 wpAny_Expr_any (thn (he C pins s σ H δ fp ex k I R hm) λ_ _ z=>z.elim) I.quiet hs
theorem Zol{C:Addr}{x j:Str}{jk:Nat}{np cpos pos kp:Pos}(hex:X.ex=[])(hh:X.A.handled=none)(hg:Gl X x)(hm:X.mg x=some (.ref C))(q:Zi6 X.K C)(hd:(x==("__debug__" : Str))=false:=by decide) :
  XS X io (.Raise (some (.Call (.Name x np) [.Constant (.str j) jk kp] [] cpos)) none pos) (Ztx C):=by
 intro M pins s σ H δ fp ex k I R hk
 obtain⟨tl,N,nm,qn,bs,hdct,sn,sub,ab,col,dd,k0,k1,k2,k3,k5,mN,hC,hN,hni,TL⟩:=Zul I.ok.mod.kin q
 refine wpAny_Raise_call_subT (C:=C) (nm:=nm) (q:=qn) (N:=N) (bs:=bs) (bm:=tl) (hdct:=hdct) (sn:=sn) (sub:=sub) (ab:=ab) (col:=col) (dd:=dd) (k0:=k0) (k1:=k1) (k2:=k2) (k3:=k3) (k5:=k5)
  V3 (mN:=mN) (TL.hasType V3.hasBase) hh rfl hni (Zhj I hg hm ⟨rfl,?_⟩ hd)
 refine Calls.evalArgs_plain ?_
 refine Calls.spliced_cons ?_
 show XR _ _ (eval (.Constant (.str j) jk kp) X.env) _ _ _
 refine Calls.Constant_str ?_
 refine Calls.spliced_nil ?_
 have I1:=I.tok (s.toks+1)
 refine⟨rfl,by show 1≤Xo;decide,I1.bk _ _ hC,hN.keeps I1.bk,TL.keeps I1.bk,λh' e hx=>?_⟩
 obtain⟨t,e1,_,_⟩:=hx.there
 have I2:=I1.kept (t':=s.toks+1) hx.keeps
 exact⟨e,C,σ,H,δ,fp,rfl,I2,.inr (.inl ⟨_,_,_,e1,⟨rfl,rfl⟩,rfl,rfl,I1.apart hex hx.new (I1.unheld hx.new)⟩),R,.refl _ _,hk⟩
end
noncomputable def CX1(P:X6)(w:Qu):CXT:=λouter H s E e s'=>∃a C H',e= .ref a∧s'.os=s.os∧U7 s'.gens∧Un (frs outer) [] H H' s.heap s'.heap∧HOk P w H' s'.heap∧Fl (λb=>H' b=none∧s.heap.get? b=none) C a .none s'.heap∧E (.ref C) none H'
noncomputable def spX(G:Xb)(S:List Xa->Addr->Prop):Sp:=λvs H Q E=>∃L ds cl,Das G H L vs ds∧S ds cl∧∀H',Same H H'->E (.ref cl) none H'
section
variable {P:X6}{w:Qu}{K:Xb}{mg:Str->Option Xe}{base:Heap}
theorem Fun.okX{x qual:Str}{st:Stmt}{f:Addr}{fd:XC}{N ps:List Str}{n:Nat}{S:List Xa->Addr->Prop}(F:Fun K x qual st f fd)(Sc:Zu N ps (Zk st))(len:∀ds cl,S ds cl->ds.length=ps.length)
  (hbody:∀(cdv:Xe) (A:Qo) (outer:List Env) (s:Xf) (H:Hp) (E:XK),Room n (A.deeper (Uj qual (Zk st) s.heap.objs.size f cdv)) ->
   ∃m,XSs (Zqq (CX1 P w) P w K mg base N qual (Zk st) f cdv A outer s H E).nox [] (J7 st) m∧∀ds cl,S ds cl->m (Zia N ds) (λc _=>c=cl)):FnOk P w K mg base (CX1 P w) (n+1) f fd ps (spX K S):=by
 obtain⟨oc,od,kV,doc,pm,an,cdv,ct,osl,rfl,lk,hcd⟩:=F.ex
 refine Z3h lk hcd Sc (λvs H Q E h=>?_) λA outer s H vs Q E hr hsp=>?_
 ·obtain⟨L,ds,cl,h1,h2,_⟩:=h
  rw[h1.length]
  exact len ds cl h2
 obtain⟨L,ds,cl,h1,h2,h3⟩:=hsp
 obtain⟨m,hX,q⟩:=hbody cdv A outer s H E hr
 refine⟨λ_ σ' H'=>σ'=start N vs∧H'=H,λpins s1 σ1 H1 D I e=>?_,rfl,rfl⟩
 obtain⟨rfl,rfl⟩:=e
 refine QT (hX ⟨H1,λ_=>False,L,start N vs⟩ pins s1 _ _ _ _ _ (λc _=>c=cl) (I.wish _) (Rel.entry h1) (q ds cl h2)) (λ_ _ z=>z.elim) λe s' z=>?_
 obtain⟨a,cl',σ',H',δ',fp',rfl,I',F',R',K',rfl⟩:=z
 exact Ztw I' rfl rfl rfl I'.ok.frames F' λs'' J FF=>⟨a,cl',H',rfl,J.os,J.bare,J.base,J.hok,FF.imp λb ap=>⟨ap.fr,ap.new⟩,h3 H' λb o e=>R'.fr b o e id⟩
end
theorem Rel.grown{G:Xb}{C:MC G}{io:List Nat}{H H':Hp}{σ:St}{δ:Zg}{fp:Fp}{ex:Addr->Prop}(R:Rel C io H σ δ fp ex)(s:Same H H'):Rel C io H' σ δ fp ex :=
 (R.made (new:=[]) s (λa m=>nomatch m)).drop λa z=>.inl z
noncomputable def Zt3(S:List Xa->Addr->Prop)(mr:MAt):MXt:=λδ k=>mr δ λrs δ1=>∃cl,S (OT.datas rs) cl∧k cl δ1
section
variable {X:Cx}{io:List Nat}{p c:Bool}{e:Expr}{es:List Expr}{mr:MAt}{pos pp:Pos}{k:Nat}{f:Addr}{fd:XC}{ps:List Str}{x:Str}
theorem Z1p{S}(F:FnOk X.prog X.w X.K X.mg X.base (CX1 X.prog X.w) k f fd ps (spX X.K S))(hr:Room k X.A)(hg:Gl X x)(hm:X.mg x=some (.ref f))(hk:By X.K (.ref f)=true)(hb:Binds X.K fd ps [])
  (ha:MA X io p c (e :: es) mr) (hex:X.ex=[]:=by rfl) (hx:X.xe= λ_ _=>False:=by rfl) (hdb:(x==("__debug__" : Str))=false:=by decide) (he:Xk (e :: es) X.env=(false,eval e X.env) :: Xk es X.env:=by rfl) (hpl:(QW pos (Xk es X.env)).any (·.1)=false:=by rfl) :
  XE X io (.Call (.Name x pp) (e :: es) [] pos) (Zt3 S mr):=by
 obtain⟨t,A,sA⟩:=ha
 intro C pins s σ H δ fp ex kk I R hm'
 refine Vx (Zhj I hg hm ?_ hdb)
 refine PySem.W.callWith_K (h₀:=X.base) I.ok.mod.kin hk (QT (A pos pins s σ H (λvs H1=>∃δ1 fp1 L ds cl,Rel C io H1 σ δ1 fp1 ex∧Kp H fp H1 fp1∧Das X.K H1 L vs ds∧S ds cl∧kk cl δ1) I
  (sA C H σ δ fp ex _ _ R hm' λH1 vs rs δ1 fp1 new r1 h1=>let⟨cl,h2,h3⟩:=h1;⟨δ1,fp1,_,_,cl,r1.base,r1.stp.kp,r1.das R,h2,h3⟩)) (λus s1 ⟨vs,H1,I1,r,q⟩=>⟨I1.kIn,?_⟩) λe s1 z=>by rw[hx]at z;exact z.elim) he hpl
 obtain⟨δ1,fp1,L,ds,cl,R1,k1,hd,hS,hkk⟩:=q
 have hsp:spX X.K S vs H1 (λ_ _=>False) (λc _ H'=>c= .ref cl∧Same H1 H'):=⟨L,ds,cl,hd,hS,λH' s=>⟨rfl,s⟩⟩
 have hl:(us ++ []).length=ps.length:=by rw[Qw,←r.length];exact F.len _ _ _ _ hsp
 have hB:=hb s1 us I1.kIn hl
 rw[Qw]at hB
 refine wpAny_call (codeAny_mono (F.run X.A X.stack s1 H1 ⟨us,[]⟩ us vs _ _ hr I1.env0 hB r hsp) λres s' hq=>?_)
 cases res with
 | error e=>
  obtain⟨a,C',H',rfl,ho,bare,un,hok,FF,eC,same⟩:=hq
  cases eC
  have J:=I1.call' (ch:=[]) ho un hok bare λb z=>nomatch z
  exact⟨a,cl,σ,H',δ1,fp1,rfl,J,.inl (FF.imp λb z=>I1.apart hex z.2 z.1),R1.grown same,k1.trans (Stp.same same same.al),hkk⟩
 | ok fl=>
  cases fl with
  | ret u=>obtain⟨_,_,_,_,_,_,_,z⟩:=hq;exact z.elim
  | next=>exact Bm hq
  | brk=>exact Bm hq
  | cont=>exact Bm hq
end
section
variable {X:Cx}{pins:List (Addr×Obj)}{σ:St}{H:Hp}{s:Xf}{a C:Addr}
theorem Inv.track(I:Inv X pins σ H s)(A:Uo X pins H a){φ:Heap->Prop}(h1:φ s.heap)(h2:∃o,s.heap.get? a=some o)(h3:∀g1 g2:Heap,φ g1->(∀o,g1.get? a=some o->g2.get? a=some o)->φ g2):Inv X pins σ (upd H a (.ext φ)) s:=by
 have ne:∀b u,H b=some u->b≠a:=λb u e=>Yx e A.fr
 refine⟨I.ok,I.os,I.bare,⟨I.base.keep,I.base.slot,λb o e n hx=>?_,I.base.there,λb xs e=>?_,λb o u e=>?_,λb ps e=>?_⟩,I.loc,I.cell,?_,λx c e=>?_,λp hp=>?_,λb u e=>?_,I.len⟩
 ·rw[Zr (λz=>by rw[z,A.new]at e;cases e)];exact I.base.free b o e n hx
 ·have:=I.base.tups b xs e;rw[Zr (ne _ _ this)];exact this
 ·have:=I.base.frzs b o u e;rw[Zr (ne _ _ this)];exact this
 ·obtain⟨m,q⟩:=I.base.tbls b ps e;exact⟨m,by rw[Zr (ne _ _ q)];exact q⟩
 ·rw[Zr (Q4 A.loc)];exact I.free
 ·rw[Zr (A.cel x c e)];exact I.freeC x c e
 ·obtain⟨e,n,r⟩:=I.pin p hp
  exact⟨e,by rw[Zr (A.pin p hp)];exact n,r⟩
 ·by_cases hb:b=a
  ·subst hb;rw[Zv]at e;cases e;exact⟨h1,h2,h3⟩
  ·rw[Zr hb]at e
   exact(I.hok b u e).stay (λc v _ q=>q) (λc q=>by rw[Zr (ne _ _ q)];exact q) λc xs q=>by rw[Zr (ne _ _ q)];exact q
noncomputable abbrev Cx.suite(X:Cx)(a:Addr):Cx:={ X with A:=X.A.mark (some (.ref a)),calm:=false }
theorem Inv.suite(I:Inv X pins σ H s)(a:Addr):Inv (X.suite a) pins σ H s :=
 ⟨⟨I.ok.mod,I.ok.kind,I.ok.glob,I.ok.blt,I.ok.above,I.ok.inj,I.ok.has,I.ok.cab,λz=>(nomatch z),I.ok.frames,I.ok.stk,I.ok.exf,I.ok.bs,I.ok.bsz,I.ok.noex,I.ok.exfs,I.ok.funs,I.ok.frf⟩,I.os,I.bare,I.base,I.loc,I.cell,I.free,I.freeC,I.pin,I.hok,I.len⟩
theorem Inv.unsuite(ok:X.Ok)(I:Inv (X.suite a) pins σ H s):Inv X pins σ H s:=⟨ok,I.os,I.bare,I.base,I.loc,I.cell,I.free,I.freeC,I.pin,I.hok,I.len⟩
theorem name_goes{M:Model}{A:Qo}{E:Xe->Xf->Prop}{i:Nat}{x:Str}{pos:Pos}{Q:Unit->Xf->Prop}(I:Inv X pins σ H s)(hN:X.N.Nodup)(hi:X.N[i]? =some x)(hk:X.env.scope.names.lookup x=some .local)
  (h:∀s',Inv X pins (σ.set i none) H s'->Q () s'):XR M A (do bindName X.env x .none;unbindBehindTheSuite X.env x pos) Q E s:=by
 obtain⟨m,hn,hl⟩:=id I.loc
 have hcls:(X.env.scope.kind== .class||(X.env.scope.kind== .module&&X.env.locals !=X.env.globals))=false:=by rw[I.ok.kind];rfl
 refine wpAny_nameGoes_keeps hk hn hcls λh' u hn' hs=>?_
 obtain⟨oL,_,_,hoL,_⟩:=id hn
 have neL:∀b o,X.s₀.heap.get? b=some o->b≠X.env.locals:=λb o e=>Xq (X3 (XD e) I.ok.above)
 refine h _ ⟨I.ok,I.os,I.bare,⟨λb o e n hb hx=>?_,λb o e n hb hx=>?_,I.base.free,λb o e hx=>?_,I.base.tups,I.base.frzs,I.base.tbls⟩,⟨_,hn',λj y v' e1 e2 e3=>?_⟩,λy c e=>?_,I.free,I.freeC,λp hp=>?_,λb ob e=>?_,by simpa using I.len⟩
 ·exact(hs.2 b (neL b o e)).trans (I.base.keep b o e n hb hx)
 ·obtain⟨sl,e1⟩:=I.base.slot b o e n hb hx
  exact⟨sl,(hs.2 b (neL b o e)).trans e1⟩
 ·obtain⟨o',e1⟩:=I.base.there b o e hx
  exact⟨o',(hs.2 b (neL b o e)).trans e1⟩
 ·by_cases hj:j=i
  ·subst hj
   have:j<σ.length:=by
    have z:=(Xn.mp e2).1
    simpa using z
   rw[X7 this]at e2
   cases e2
  ·rw[Xv (Q4 hj)]at e2
   obtain⟨u',r',q⟩:=hl j y v' e1 e2 e3
   refine⟨u',r',?_⟩
   rcases q with⟨k,e⟩|⟨k,c,e,z⟩
   ·refine .inl ⟨k,?_⟩
    have:y≠x:=λe=>hj (Zju hN e1 (e▸hi))
    simp[this,e]
   ·exact .inr ⟨k,c,e,z.sameBut hs (I.cne y c e)⟩
 ·obtain⟨w',z⟩:=I.cell y c e
  exact⟨w',z.sameBut hs (I.cne y c e)⟩
 ·obtain⟨e,n,ne,nf,d⟩:=I.pin p hp
  exact⟨(hs.2 p.1 ne).trans e,n,ne,nf,d⟩
 ·refine(I.hok b ob e).stay (λc w' hc q=>(hs.2 c ?_).trans q) (λ_ q=>q) λ_ _ q=>q
  rintro rfl
  rcases hc with rfl|hc
  ·rw[I.free]at e;cases e
  ·rw[I.free]at hc;cases hc
end
theorem Rel.forget{G:Xb}{C:MC G}{io:List Nat}{H:Hp}{σ:St}{δ:Zg}{fp:Fp}{ex:Addr->Prop}{i:Nat}(R:Rel C io H σ δ fp ex)(hio:i∉io):∃fp',Rel C io H (σ.set i none) (δ.set i none) fp' ex∧Kp H fp H fp':=by
 have get:∀j (t':OT),(δ.set i none)[j]? =some (some t')->j≠i∧δ[j]? =some (some t'):=λj t' e=>by
  by_cases ej:j=i
  ·subst ej
   have hl:j<δ.length:=by simpa using(Xn.mp e).1
   rw[X7 hl]at e;cases e
  ·rw[Xv (Q4 ej)]at e;exact⟨ej,e⟩
 have sub:∀j a,a∈fpu fp i [] j->j≠i∧a∈fp j:=λj a m=>by
  by_cases ej:j=i
  ·subst ej;rw[Z1]at m;exact nomatch m
  ·rw[Yh ej]at m;exact⟨ej,m⟩
 have lw:∀a,Lf C fp ex a->Lf C (fpu fp i []) ex a:=λa l=>⟨λ⟨j,z⟩=>l.1 ⟨j,(sub j a z).2⟩,l.2⟩
 refine⟨fpu fp i [],⟨by rw[Qv,Qv];exact R.len,λj t' e=>?_,λj h=>?_,λj=>?_,λj k a h1 h2=>R.dj j k a (sub j a h1).2 (sub k a h2).2,λj a h z=>R.dx j a (sub j a h).2 z,R.xa,R.fr,R.al,λj a h=>R.new j a (sub j a h).2,λj h=>?_⟩,λb o e _=>e,λz=>(nomatch z),λa ⟨j,z⟩=>.inl ⟨j,(sub j a z).2⟩,λb e=>e⟩
 ·obtain⟨ej,e⟩:=get j t' e
  obtain⟨w,e1,o⟩:=R.own j t' e
  exact⟨w,by rw[Xv (Q4 ej)];exact e1,by rw[Yh ej];exact o.wide λa l _=>lw a l⟩
 ·by_cases ej:j=i
  ·subst ej;rw[Z1]
  ·rw[Yh ej]
   exact R.emp j λt' z=>h t' (by rw[Xv (Q4 ej)];exact z)
 ·by_cases ej:j=i
  ·subst ej;rw[Z1];exact .nil
  ·rw[Yh ej];exact R.nd j
 ·rw[Xv (λz=>hio (by rw[z];exact h))];exact R.io j h
theorem Zvb{K:Xb}{M:Model}{A:Qo}{E:Xe->Xf->Prop}{h:Heap}{g:Array GenState}{d:Drawn}{t:Nat}{os:OsState}{e C D:Addr}{oe:Obj}{Q:Bool->Xf->Prop}(X:K.In h)(q:Zi6 K D)
  (hs:Bj K (.ref C) (.ref D)=some true) (he:h.get? e=some oe) (hc:oe.cls= .ref C) (hQ:Q true ⟨h,g,d,t,os⟩):XR M A (excMatches (.ref e) (.ref D)) Q E ⟨h,g,d,t,os⟩:=by
 obtain⟨bm,N,nm,qn,bs,hdct,sn,sub,ab,col,dd,k0,k1,k2,k3,k5,mN,hC,hN,hni,TL⟩:=Zul X q
 have L:=PySem.W.looks_subIn (M:=M) X hs
 have f:=tc_notTuple
 have hB:(QB D :: bm).contains (.type "BaseException")=true:=by rw[List.contains_cons,TL.hasType V3.hasBase,Bool.or_true]
 unfold excMatches
 repeat (first|(with_reducible refine BK he ?_;rw[hc])|with_reducible refine BK hC ?_|(with_reducible refine Xg (QX.at L ?_))|(with_reducible refine QX.at L ?_)|(with_reducible refine wpAny_isSubtype_exc hC ?_;rw[hB])|wp_step)
 exact hQ
noncomputable def Z7f(G:Xb)(Dc:Addr)(i:Nat)(u:MSt)(x:MXt)(h:MSt):MSt:=λD δ=>u D δ∨x δ λcl δ'=>∃xn,VR G xn cl∧(Zbz G cl∧Bj G (.ref cl) (.ref Dc)=some true)∧
 h { nx:=λδ2=>D.nx (δ2.set i none),rt:=λ_ _=>False } (δ'.set i (some (.fz (exD xn))))
section
variable {X:Cx}{io:List Nat}{i:Nat}{n y:Str}{Dc:Addr}{b₀:Stmt}{body suite:List Stmt}{pos hpos np:Pos}{u h:MSt}{x:MXt}
theorem Z27(hN:X.N.Nodup)(hi:X.N[i]? =some n)(hk:X.env.scope.names.lookup n=some .local)(hg:Gl X y)(hm:X.mg y=some (.ref Dc))(q:Zi6 X.K Dc)(hb:MSs X io body u)(hbx:XSs X io body x)(hs:∀a,MSs (X.suite a) io (b₀ :: suite) h)
  (hio:i∉io:=by decide) (hex:X.ex=[]:=by rfl) (hst:X.stack=X.env :: X.outer:=by rfl) (hf:X.env.frame=some X.env.locals:=by rfl) (hx:X.xe= λ_ _=>False:=by rfl) (hdb:(y==("__debug__" : Str))=false:=by decide) :
  MS X io (.Try body [.ExceptHandler (some (.Name y np)) (some n) (b₀ :: suite) hpos] [] [] pos) (Z7f X.K Dc i u x h):=by
 refine⟨λD' σ H=>∃(C:MC X.K) (δ:Zg) (fp:Fp) (ex:Addr->Prop) (D:Zhi),Rel C io H σ δ fp ex∧Z7f X.K Dc i u x h D δ∧RelEnds C io ex H fp D D',?_,λC H σ δ fp ex D D' R hm E=>⟨C,δ,fp,ex,D,R,hm,E⟩⟩
 intro pins s σ H D' I hq
 obtain⟨C,δ,fp,ex,D,R,hm',EE⟩:=hq
 rcases hm' with hu|hr
 ·obtain⟨tb,Ab,sb⟩:=hb
  refine wpAny_Try_except (QT (Ab pins s σ H D' I (sb C H σ δ fp ex D D' R hu EE)) (λf s1 z=>?_) λe s1 z=>by rw[hx]at z;exact z.elim)
  cases f with
  | next=>exact Ug z
  | ret v=>exact z
  | brk=>exact z
  | cont=>exact z
 refine wpAny_Try_except (QT (hbx C pins s σ H δ fp ex _ I R hr) (λ_ _ z=>z.elim) λe s1 z=>?_)
 obtain⟨a,cl,σ1,H1,δ1,fp1,rfl,I1,F1,R1,K1,xn,hxn,⟨Z,hsub⟩,hh⟩:=z
 refine Zoq I1 hex hst hf I1.ok.frames F1 λs2 I2 F2=>Zjj I2 hex F2 λs3 I3 F3=>?_
 refine wpAny_handleBy_cons (codeAny_handlers_test (Zhj (X:=X.suite a) (I3.suite a) hg hm ?_ hdb)) (by intro z;cases z)
 obtain⟨oe,vs,e1,e2,e3⟩:=F3.exO
 have KI:=I3.kIn
 obtain⟨g3,gg3,d3,t3,os3⟩:=s3
 refine Zvb KI q hsub e1 e2 (codeAny_handlers_suite_as ?_)
 refine Zjj I3 hex F3 λs4 I4 F4=>?_
 have ap:Uo X pins H1 a:=by obtain⟨_,_,_,_,_,_,_,_,_,_,_,_,_,_,z,_⟩:=F4;exact z
 have x4:=F4.exO
 have I5:Inv X pins σ1 (upd H1 a (.ext (ExO cl a))) s4:=I4.track ap x4 (let⟨o,_,e,_⟩:=x4;⟨o,e⟩) λg1 g2 ⟨o,vs,z1,z2⟩ k=>⟨o,vs,k o z1,z2⟩
 have sm:Same H1 (upd H1 a (.ext (ExO cl a))):=Z3 ap.fr _
 have R5:=R1.grown sm
 obtain⟨fp2,R6,K6⟩:=RE.put (p:=true) (RE.fz (c:=true) R5 (Stp.refl true _ _ _) (.exc Z hxn Zv)) R5 hio
 refine Zjq (X:=X.suite a) (v:=.ref a) (I5.suite a) hN hi (.inl hk) rfl (λs5 I6=>?_) (.inr hk)
 obtain⟨ts,As,ss⟩:=hs a
 refine QT (As pins s5 _ _ { nx:=λσ' H'=>∃δ' fp',Rel C io H' σ' δ' fp' ex∧Kp (upd H1 a (.ext (ExO cl a))) fp2 H' fp'∧D.nx (δ'.set i none),rt:=λ_ _=>False } I6
  (ss C _ _ _ fp2 ex _ _ R6 hh ⟨λH' σ' δ' fp' R' k' h'=>⟨δ',fp',R',k',h'⟩,λ_ _ _ _ _ _ z=>z.elim,λ_ _ _ _ _ _ z=>z.elim,λ_ _ _ _ _ _ _ _ _ _ _ z=>z.elim⟩)) (λf s6 z=>?_) λe s6 z=>by
   have z':X.xe e s6:=z
   rw[hx]at z'
   exact z'.elim
 cases f with
 | next=>
  obtain⟨σ7,H7,I7,δ7,fp7,R7,K7,h7⟩:=z
  obtain⟨fp8,R8,K8⟩:=R7.forget hio
  exact name_goes (I7.unsuite I4.ok) hN hi hk λs8 I8=>⟨_,_,I8,EE.nx H7 _ _ fp8 R8 (K1.trans ((Stp.same sm sm.al:Kp H1 fp1 _ fp1).trans (K6.trans (K7.trans K8)))) h7⟩
 | ret v=>obtain⟨_,_,_,_,_,w⟩:=z;exact w.elim
 | brk=>obtain⟨_,_,_,w⟩:=z;exact w.elim
 | cont=>obtain⟨_,_,_,w⟩:=z;exact w.elim
end
theorem Zxm(b:Bool)(k:Bool->Prop):asB (.bool b) k=k b:=rfl
theorem Da.exInv{G:Xb}{H:Hp}{L:Addr->Prop}{v:V}{x:Str}(q:Da G H L v (exD x)):∃a C,v= .ref a∧Zbz G C∧VR G x C∧H a=some (.ext (ExO C a)):=by
 generalize e:exD x=d at q
 cases q with
 | exc Z n h=>
  have e':=e
  unfold exD at e'
  injection e' with e'
  injection e' with e' _
  injection e' with e' _
  injection e' with e'
  subst e'
  exact⟨_,_,rfl,Z,n,h⟩
 | _=>unfold exD at e;cases e
inductive ClsV:V->Xe->Prop where
 | own (D:Addr):ClsV (.ref D) (.ref D)
 | ty (T:String):ClsV (.ty T) (.type T)
theorem ClsV.val{v:V}{c u:Xe}(h:ClsV v c)(r:RelV v u):u=c:=by
 cases h with
 | own D=>exact r
 | ty T=>exact r
inductive ClsVs:List V->List Xe->Prop where
 | nil:ClsVs [] []
 | cons {v:V} {c:Xe} {vs:List V} {cs:List Xe}:ClsV v c->ClsVs vs cs->ClsVs (v :: vs) (c :: cs)
theorem ClsVs.vals{vs:List V}{cs us:List Xe}(h:ClsVs vs cs)(k:Vals vs us):us=cs:=by
 induction h generalizing us with
 | nil=>cases k;rfl
 | cons h t ih=>
  cases k with
  | cons r q=>rw[h.val r,ih q]
theorem ClsVs.length:∀{vs:List V} {cs:List Xe},ClsVs vs cs->vs.length=cs.length
 | _,_,.nil=>rfl
 | _,_,.cons _ t=>by simp[t.length]
noncomputable def Z69(G:Xb):List V->Hp->VK->Prop:=λxs H Q=>∃a C v c b,xs=[.ref a,v]∧Zbz G C∧H a=some (.ext (ExO C a))∧ClsV v c∧Qm G (.ref C) c=some b∧Q (.bl b) H
noncomputable def Z3m(G:Xb):List V->Hp->VK->Prop:=λxs H Q=>∃a C p vs cs b,xs=[.ref a,.ref p]∧Zbz G C∧H a=some (.ext (ExO C a))∧H p=some (.tup vs)∧ClsVs vs cs∧Bx G (.ref C) cs=some b∧Q (.bl b) H
theorem Zti{X:Cx}:Zcq X (.builtin "isinstance") (Z69 X.K):=by
 intro pins s σ H xs us Q I r h
 obtain⟨a,C,v,c,b,rfl,Z,e,hc,hb,h⟩:=h
 obtain⟨u,w',rfl,r1,r2⟩:=vals2 r
 cases(show u=QB a from r1)
 rw[hc.val r2]
 obtain⟨⟨o,vs,ho,hcl,_⟩,_,_⟩:=(show ObjOk X.prog X.w H s.heap a (.ext (ExO C a))from I.hok a _ e)
 exact QM (Zjy Z) I.kIn ⟨o,ho,hcl⟩ hb (λz=>nomatch z) λtk=>⟨.bl _,H,I.tok tk,rfl,h⟩
theorem Zp0{X:Cx}:Zcq X (.builtin "isinstance") (Z3m X.K):=by
 intro pins s σ H xs us Q I r h
 obtain⟨a,C,p,vs,cs,b,rfl,Z,e,ep,hc,hb,h⟩:=h
 obtain⟨u,w',rfl,r1,r2⟩:=vals2 r
 cases(show u=QB a from r1)
 cases(show w'=QB p from r2)
 obtain⟨⟨o,vs',ho,hcl,_⟩,_,_⟩:=(show ObjOk X.prog X.w H s.heap a (.ext (ExO C a))from I.hok a _ e)
 obtain⟨_,its,q,⟨⟨oc,od,oda,osl⟩,hp,hpc,n,hpd⟩⟩:=(show ObjOk X.prog X.w H s.heap p (.tup vs)from I.hok p _ ep)
 dsimp only at hpc hpd
 subst hpc hpd
 rw[hc.vals q]at hp
 exact PySem.W.kia_tup (Zjy Z) I.kIn ⟨o,ho,hcl⟩ hp hb (λz=>nomatch z) λtk=>⟨.bl _,H,I.tok tk,rfl,h⟩
noncomputable def Z4e(G:Xb)(c:Xe)(m:MEt):MEt:=λδ K=>m δ λr δ'=>∃x C b,r.data=exD x∧VR G x C∧Qm G (.ref C) c=some b∧K (.fz (.bool b)) δ'
noncomputable def Zx6(G:Xb)(cs:List Xe)(m:MEt):MEt:=λδ K=>m δ λr δ'=>∃x C b,r.data=exD x∧VR G x C∧Bx G (.ref C) cs=some b∧K (.fz (.bool b)) δ'
section
variable {X:Cx}{io:List Nat}{p c:Bool}{a b:Expr}{ma:MEt}{pos pp p2:Pos}
theorem Zyq{v:V}{cv:Xe}(hb:PE X b (tC v))(hv:ClsV v cv)(hg:Gl X "isinstance")(hm:X.mg "isinstance"=none)(hbv:Qg "isinstance"=some (.builtin "isinstance"))(ha:ME X io p c a ma)
  (he:Xk [a,b] X.env=(false,eval a X.env) :: Xk [b] X.env:=by rfl) (he2:Xk [b] X.env=(false,eval b X.env) :: Xk [] X.env:=by rfl) (hpl:(QW pos (Xk [b] X.env)).any (·.1)=false:=by rfl) :
  ME X io p true (.Call (.Name "isinstance" pp) [a,b] [] pos) (Z4e X.K cv ma):=by
 obtain⟨_,A,s⟩:=ha
 refine⟨_,Zdj Zti hg hm hbv (Ye A (Ye hb J8 he2) he) (by decide) (by decide) he hpl,?_⟩
 intro C H σ δ fp ex K' Q R h k
 refine s C H σ δ fp ex _ _ R h λH' v r δ' fp' new r1 h1=>?_
 obtain⟨xn,Cx,bb,e,hn,hk,h2⟩:=h1
 have q:=r1.da R
 rw[e]at q
 obtain⟨a,C0,rfl,Z,hn0,eh⟩:=q.exInv
 have eC:C0=Cx:=by
  have:=hn0.symm.trans hn
  injection this with this;injection this with this;injection this
 subst eC
 exact⟨a,C0,_,cv,bb,rfl,Z,eh,hv,hk,k H' _ _ δ' fp' [] (.fz r1.base r1.stp (.bl _)) h2⟩
theorem Zzy{bs:List Expr}{x1}{t:TA}{vs:List V}{cs:List Xe}(hb:PA X bs t)(ht:∀σ H Q,Q vs H->t σ H Q)(hv:ClsVs vs cs)(hl:vs.length≤Xo)(hg:Gl X "isinstance")(hm:X.mg "isinstance"=none)(hbv:Qg "isinstance"=some (.builtin "isinstance"))(ha:ME X io p c a ma)
  (he:Xk [a,.Tuple bs x1 p2] X.env=(false,eval a X.env) :: Xk [.Tuple bs x1 p2] X.env:=by rfl) (he2:Xk [.Tuple bs x1 p2] X.env=(false,eval (.Tuple bs x1 p2) X.env) :: Xk [] X.env:=by rfl) (hpl:(QW pos (Xk [.Tuple bs x1 p2] X.env)).any (·.1)=false:=by rfl) :
  ME X io p true (.Call (.Name "isinstance" pp) [a,.Tuple bs x1 p2] [] pos) (Zx6 X.K cs ma):=by
 obtain⟨_,A,s⟩:=ha
 refine⟨_,Zdj Zp0 hg hm hbv (Ye A (Ye (Zox hb) J8 he2) he) (by decide) (by decide) he hpl,?_⟩
 intro C H σ δ fp ex K' Q R h k
 refine s C H σ δ fp ex _ _ R h λH' v r δ' fp' new r1 h1=>?_
 obtain⟨xn,Cx,bb,e,hn,hk,h2⟩:=h1
 have q:=r1.da R
 rw[e]at q
 obtain⟨a,C0,rfl,Z,hn0,eh⟩:=q.exInv
 have eC:C0=Cx:=by
  have:=hn0.symm.trans hn
  injection this with this;injection this with this;injection this
 subst eC
 refine ht _ _ _ ⟨hl,λtp hp=>?_⟩
 have sm:Same H' (upd H' tp (.tup vs)):=Z3 hp _
 refine⟨a,C0,tp,vs,cs,bb,rfl,Z,sm _ _ eh,Zv,hv,hk,k _ _ _ δ' fp' [] (.fz (r1.base.grown sm) ?_ (.bl _)) h2⟩
 have z:=r1.stp.trans (p':=true) (Stp.same (p:=true) (δ:=δ') (fp:=fp') sm sm.al)
 rwa[Va]at z
end
end L2
namespace L2
open PySem PySem.Spec PyProof.Rows PySem.P
section
variable {prog:X6}{w:Qu}{A:Qo}{E:Xe->Xf->Prop}{s:Xf}{e t0 C:Addr}{o:Obj}{vs:Array Xe}{K:Xb}{m:Str}{tk:Tok}
structure Ybx(s:Xf)(e C t0:Addr)(m:Str)(tk:Tok):Prop where
 ob:∃o vs,s.heap.get? e=some o∧o.cls= .ref C∧o.data= .fields vs∧vs[0]? =some (.ref t0)
 tx:s.heap.TupAt t0 [.str m tk]
end
section
variable {X:Cx}{C:Addr}{x j:Str}{jk:Nat}{np cpos pos kp p1:Pos}
end
end L2
namespace L2
open PySem PySem.Spec PyProof.Rows
variable {G:Xb}
theorem Rel.topN{io:List Nat}{C:MC G}{H:Hp}{σ:St}{δ:Zg}{fp:Fp}{ex:Addr->Prop}{i:Nat}{ts ts':List OT}{a':Addr}{xs ys:List V}{bs bs' new:List Addr}(R:Rel C io H σ δ fp (exu ex new))(hi:δ[i]? =some (some (.nd ts)))(hv:σ[i]? =some (some (.ref a')))
  (hf:fp i=a' :: bs) (hx:H a'=some (.lst xs)) (o:Owns G H (Lf C fp (exu ex new)) ys ts' bs') (hs:∀a∈bs',a∈bs∨a∈new) (ndb:(a' :: bs').Nodup) (hn:∀a∈new,C.H₀ a=none∧¬ex a) :
  Rel C io (upd H a' (.lst ys)) σ (δ.set i (some (.nd ts'))) (fpu fp i (a' :: bs')) ex∧∀a,Foot (fpu fp i (a' :: bs')) a->Foot fp a∨a∈new:=by
 have hil:i<δ.length:=(Xn.mp hi).1
 have hm:a'∈fp i:=by rw[hf];exact .head _
 have kp:∀b o,H b=some o->b≠a'->upd H a' (.lst ys) b=some o:=λb o e n=>by rw[Zr n];exact e
 have mem:∀a,a∈a' :: bs'->a∈fp i∨a∈new:=λa m=>by
  rw[hf]
  rcases Xl.mp m with rfl|m
  ·exact .inl (.head _)
  ·exact(hs a m).imp (λz=>.tail _ z) id
 have sub:∀a,Foot (fpu fp i (a' :: bs')) a->Foot fp a∨a∈new:=λa z=>by
  rcases z.of_u with z|⟨j,_,z⟩
  ·exact(mem a z).imp (λz=>⟨i,z⟩) id
  ·exact .inl ⟨j,z⟩
 have lw:∀a,Lf C fp (exu ex new) a->Lf C (fpu fp i (a' :: bs')) ex a:=λa l=>⟨λz=>(sub a z).elim l.1 λz=>l.2.1 (.inr z),λz=>l.2.1 (.inl z),l.2.2⟩
 have f1:∀a (zs:MuO),Lf C fp (exu ex new) a->Rd H a zs.ho->Lf C (fpu fp i (a' :: bs')) ex a∧Rd (upd H a' (.lst ys)) a zs.ho:=λa zs l q=>by
  have na:a≠a':=λz=>l.1 ⟨i,by rw[z];exact hm⟩
  refine⟨lw a l,?_⟩
  rcases q with q|⟨u,q⟩
  ·exact .inl (kp a _ q na)
  ·exact .inr ⟨u,kp a _ q na⟩
 have f2:∀a (zs:ImO),H a=some zs.ho->upd H a' (.lst ys) a=some zs.ho:=λa zs q=>kp a _ q λz=>ImO.nl q (z▸hx)
 have hn':=Qd.mp ndb
 refine⟨⟨by rw[Qv];exact R.len,λj t' e=>?_,λj h=>?_,λj=>?_,λj k a h1 h2=>?_,λj a h z=>?_,λa z=>?_,λb ob e nb=>?_,λb e=>?_,λj a h=>?_,R.io⟩,sub⟩
 ·by_cases ej:j=i
  ·subst ej
   rw[X7 hil]at e
   cases e
   exact⟨_,hv,by rw[Z1];exact .nd Zv (o.frame f1 f2 λa m zs q=>kp a _ q λz=>hn'.1 (z▸m))⟩
  ·rw[Xv (Q4 ej)]at e
   obtain⟨w,e1,o1⟩:=R.own j t' e
   exact⟨w,e1,by rw[Yh ej];exact o1.frame f1 f2 λa m zs q=>kp a _ q λz=>ej (R.dj j i a m (z▸hm))⟩
 ·by_cases ej:j=i
  ·subst ej;exact absurd (X7 hil) (h _)
  ·rw[Yh ej]
   exact R.emp j λt' z=>h t' (by rw[Xv (Q4 ej)];exact z)
 ·by_cases ej:j=i
  ·subst ej;rw[Z1];exact ndb
  ·rw[Yh ej];exact R.nd j
 ·have one:∀k,k≠i->a∈a' :: bs'->a∈fp k->False:=λk ek m1 m2=>by
   rcases mem a m1 with z|z
   ·exact ek (R.dj k i a m2 z)
   ·exact R.dx k a m2 (.inr z)
  by_cases ej:j=i
  ·by_cases ek:k=i
   ·rw[ej,ek]
   ·rw[ej,Z1]at h1
    rw[Yh ek]at h2
    exact(one k ek h1 h2).elim
  ·rw[Yh ej]at h1
   by_cases ek:k=i
   ·rw[ek,Z1]at h2
    exact(one j ej h2 h1).elim
   ·rw[Yh ek]at h2
    exact R.dj j k a h1 h2
 ·by_cases ej:j=i
  ·rw[ej,Z1]at h
   rcases mem a h with m|m
   ·exact R.dx i a m (.inl z)
   ·exact(hn a m).2 z
  ·rw[Yh ej]at h
   exact R.dx j a h (.inl z)
 ·by_cases e:a=a'
  ·subst e;rw[Zv];intro q;cases q
  ·rw[Zr e];exact R.xa a (.inl z)
 ·refine kp b ob (R.fr b ob e nb) λz=>?_
  rcases R.new i a' hm with y|y
  ·exact nb (z▸y.2)
  ·rw[z,y]at e;cases e
 ·refine R.al b ?_
  by_cases q:b=a'
  ·subst q;rw[Zv]at e;cases e
  ·rwa[Zr q]at e
 ·by_cases ej:j=i
  ·rw[ej,Z1]at h
   rcases mem a h with m|m
   ·rw[ej];exact R.new i a m
   ·exact .inr (hn a m).1
  ·rw[Yh ej]at h
   exact R.new j a h
noncomputable def Zgj(i:Nat)(m:MEt):MSt:=λD δ=>match δ[i]? with
 | some (some (.nd _))=>m δ λr δ1=>match δ1[i]? with
  | some (some (.nd ts))=>ts.length<Xo∧D.nx (δ1.set i (some (.nd (ts ++ [r]))))
  | _=>False
 | _=>False
section
variable {X:Cx}{io:List Nat}{p c:Bool}{e:Expr}{m:MEt}{pos apos cpos px:Pos}{i:Nat}{x:Str}
theorem Zpl(i:Nat)(he:ME X io p true e m)(hN:X.N[i]? =some x:=by rfl)(hv:Vis X.env.scope x:=by first|exact Qj rfl|exact X8 (Qj rfl)|exact X8 (X8 rfl))(hd:(x==("__debug__" : Str))=false:=by decide)
  (hcd:(x==("__classdict__" : Str))=false:=by decide)
  (hbase:Br (.Name x px) "append" X.env (eval (.Name x px) X.env)=eval (.Name x px) X.env:=by rfl)
  (hfew:((QW cpos (Xk [e] X.env)).all (λx=>!x.1)&&(V7 cpos (Vb [] X.env)).all (λx=>x.1.isSome)
   &&decide ([e].length+([]:List Bp).length+(if([]:List Bp).isEmpty then 0 else 1)<30))=true:=by rfl)
  (hline:(apos.endLine==cpos.line)=true:=by rfl) (hs:Xk [e] X.env=(false,eval e X.env) :: Xk [] X.env:=by rfl) (hplain:(QW cpos (Xk [] X.env)).any (·.1)=false:=by rfl)
  (hsw:Bs (.Call (.Attribute (.Name x px) "append" apos) [e] [] cpos) none pos.line X.env=pure false:=by rfl) :
  MS X io (.Expr (.Call (.Attribute (.Name x px) "append" apos) [e] [] cpos) pos) (Zgj i m):=by
 obtain⟨_,A,s⟩:=he
 refine⟨_,Zfn (Zm7 JD Vm Vl Zc1 (pv i hN hv hd hcd) (Ye A J8 hs) hbase hfew hline hs hplain) hsw,λC H σ δ fp ex D D' R h E=>?_⟩
 unfold Zgj at h
 split at h
 case h_2=>exact h.elim
 rename_i ts0 hi0
 obtain⟨a',xs0,bs0,hv0,hx0,_,_⟩:=R.ownNd hi0
 refine⟨_,hv0,.inl ⟨rfl,xs0,.inl (.inl hx0)⟩,?_⟩
 refine s C H σ δ fp ex _ _ R h λH1 v r δ1 fp1 new r1 h1=>?_
 split at h1
 case h_2=>exact h1.elim
 rename_i ts1 hi1
 have R1:=r1.rel
 obtain⟨a1,xs1,bs1,hv1,hx1,o1,hf1⟩:=R1.ownNd hi1
 rw[hv0]at hv1
 cases hv1
 refine⟨a',xs1,v,rfl,rfl,hx1,by rw[o1.length];exact h1.1,?_⟩
 have ow:Own X.K H1 (Lf C fp1 (exu ex new)) v r new:=r1.own.wide λa l _=>l rfl
 have o2:=o1.snoc ow
 have nd1:=R1.nd i
 rw[hf1]at nd1
 have hn1:=Qd.mp nd1
 have hm1:∀a,a∈a' :: bs1->a∈fp1 i:=λa m=>by rw[hf1];exact m
 have apart:∀a,a∈new->a∉a' :: bs1:=λa m z=>R1.dx i a (hm1 a z) (.inr m)
 obtain⟨R2,sub⟩:=R1.topN hi1 hv0 hf1 hx1 o2 (λa m=>Qz.mp m) (Qd.mpr ⟨λm=>by
   rcases Qz.mp m with z|z
   ·exact hn1.1 z
   ·exact apart a' z (.head _),JQ.mpr ⟨hn1.2,r1.nd,λa m b m' z=>apart b m' (by rw[←z];exact .tail _ m)⟩⟩) λa m=>⟨(R.newOk (r1.fresh a m)).2.2,(R.newOk (r1.fresh a m)).2.1⟩
 refine E.nx _ σ _ _ R2 ⟨λb o eb q=>?_,λz=>(nomatch z),λa z=>?_,λb eb=>?_⟩ h1.2
 ·have q':=q.resolve_left (by decide)
  rw[Zr]
  ·exact r1.stp.keep b o eb (.inr q')
  ·rintro rfl
   rcases r1.stp.grow b ⟨i,hm1 b (.head _)⟩with z|z
   ·exact q' z
   ·rw[eb]at z;cases z
 ·rcases sub a z with z|z
  ·exact r1.stp.grow a z
  ·exact .inr (r1.fresh a z)
 ·refine r1.stp.al b ?_
  by_cases q:b=a'
  ·subst q;rw[Zv]at eb;cases eb
  ·rwa[Zr q]at eb
end
variable {G:Xb}
theorem Rel.forget2{io:List Nat}{C:MC G}{H:Hp}{σ σ':St}{δ:Zg}{fp:Fp}{ex:Addr->Prop}{i:Nat}(R:Rel C io H σ δ fp ex)(hio:i∉io)(hl:σ'.length=σ.length)(hσ:∀q,q≠i->σ'[q]? =σ[q]?) :
  ∃fp',Rel C io H σ' (δ.set i none) fp' ex∧Kp H fp H fp':=by
 obtain⟨fp',R',K'⟩:=R.forget hio
 refine⟨fp',⟨by rw[hl,←R'.len,Qv],λj t e=>?_,R'.emp,R'.nd,R'.dj,R'.dx,R'.xa,R'.fr,R'.al,R'.new,λj hj=>?_⟩,K'⟩
 ·obtain⟨v,e1,o⟩:=R'.own j t e
  have ej:j≠i:=λz=>by
   subst z
   by_cases q:j<δ.length
   ·rw[X7 q]at e;cases e
   ·rw[Q0 (by simpa using Nat.le_of_not_lt q)]at e;cases e
  rw[Xv (Q4 ej)]at e1
  exact⟨v,by rw[hσ j ej];exact e1,o⟩
 ·have ej:j≠i:=λz=>hio (z▸hj)
  rw[hσ j ej]
  exact R.io j hj
section
variable {X:Cx}{io:List Nat}{e:Expr}{pos apos cpos px pt pl p2:Pos}{i j:Nat}{x y:Str}
end
section
variable {X:Cx}{io:List Nat}{e:Expr}{i:Nat}{y:Str}
end
noncomputable abbrev FE:=Zg->Option (OT×Zg)
noncomputable abbrev FA:=Zg->Option (List OT×Zg)
noncomputable abbrev FT:=Zg->Option (Bool×Zg)
noncomputable abbrev FI:=Zg->Option (List Xa×Zg)
noncomputable abbrev FO:=Zg->Option (Option Int×Zg)
noncomputable abbrev FG:=Xa->Zg->Option Zg
noncomputable abbrev FGs:=List Xa->Zg->Option Zg
noncomputable def o2{α:Type}(f:Zg->Option (α×Zg)):Zg->(α->Zg->Prop)->Prop:=λδ K=>∃r δ',f δ=some (r,δ')∧K r δ'
noncomputable def oG(g:FG):MGt:=λd δ k=>∃δ',g d δ=some δ'∧k δ'
noncomputable def oGs(g:FGs):Zut:=λd δ k=>∃δ',g d δ=some δ'∧k δ'
section
variable {X:Cx}{io:List Nat}{p c:Bool}{e tg:Expr}{es:List Expr}{m m':MEt}{mr mr':MAt}{mt mt':MTt}{mi mi':MIt}{g g':MGt}{gs gs':Zut}{mo mo':MOt}{st:Stmt}{sts:List Stmt}{u u':MSt}{eo:Option Expr}
theorem ME.weak(h:ME X io p c e m)(w:∀δ K,m' δ K->m δ K):ME X io p c e m':=let⟨t,A,s⟩:=h;⟨t,A,λC H σ δ fp ex K Q R h k=>s C H σ δ fp ex K Q R (w δ K h) k⟩
theorem MA.weak(h:MA X io p c es mr)(w:∀δ K,mr' δ K->mr δ K):MA X io p c es mr':=let⟨t,A,s⟩:=h;⟨t,A,λC H σ δ fp ex K Q R h k=>s C H σ δ fp ex K Q R (w δ K h) k⟩
theorem MT.weak(h:MT X io p e mt)(w:∀δ K,mt' δ K->mt δ K):MT X io p e mt':=let⟨t,A,s⟩:=h;⟨t,A,λC H σ δ fp ex K Q R h k=>s C H σ δ fp ex K Q R (w δ K h) k⟩
theorem MW.weak(h:MW X io p e mt)(w:∀δ K,mt' δ K->mt δ K):MW X io p e mt':=let⟨t,A,s⟩:=h;⟨t,A,λC H σ δ fp ex K Q R h k=>s C H σ δ fp ex K Q R (w δ K h) k⟩
theorem MIfs.weak(h:MIfs X io p es mt)(w:∀δ K,mt' δ K->mt δ K):MIfs X io p es mt':=let⟨t,A,s⟩:=h;⟨t,A,λC H σ δ fp ex K Q R h k=>s C H σ δ fp ex K Q R (w δ K h) k⟩
theorem MI.weak(h:MI X io p c tg e mi)(w:∀δ K,mi' δ K->mi δ K):MI X io p c tg e mi':=let⟨t,A,s⟩:=h;⟨t,A,λC H σ δ fp ex K Q R h k=>s C H σ δ fp ex K Q R (w δ K h) k⟩
theorem MO.weak(h:MO X io p eo mo)(w:∀δ K,mo' δ K->mo δ K):MO X io p eo mo':=let⟨t,A,s⟩:=h;⟨t,A,λC H σ δ fp ex K Q R h k=>s C H σ δ fp ex K Q R (w δ K h) k⟩
theorem MG.weak(h:MG X io c tg g)(w:∀d δ K,g' d δ K->g d δ K):MG X io c tg g':=let⟨t,A,s⟩:=h;⟨t,A,λC H σ δ fp ex v d k Q R q h kk=>s C H σ δ fp ex v d k Q R q (w d δ k h) kk⟩
theorem MGs.weak(h:MGs X io c es gs)(w:∀d δ K,gs' d δ K->gs d δ K):MGs X io c es gs':=let⟨t,A,s⟩:=h;⟨t,A,λC H σ δ fp ex v d k Q R q h kk=>s C H σ δ fp ex v d k Q R q (w d δ k h) kk⟩
theorem MS.weak(h:MS X io st u)(w:∀D δ,u' D δ->u D δ):MS X io st u':=let⟨t,A,s⟩:=h;⟨t,A,λC H σ δ fp ex D D' R h E=>s C H σ δ fp ex D D' R (w D δ h) E⟩
theorem MSs.weak(h:MSs X io sts u)(w:∀D δ,u' D δ->u D δ):MSs X io sts u':=let⟨t,A,s⟩:=h;⟨t,A,λC H σ δ fp ex D D' R h E=>s C H σ δ fp ex D D' R (w D δ h) E⟩
end
noncomputable def Ze(i:Nat):FE:=λδ=>match δ[i]? with|some (some (.fz d))=>some (.fz d,δ)|_=>none
noncomputable def Zf1(i:Nat):FE:=λδ=>match δ[i]? with|some (some t)=>some (.fz t.data,δ)|_=>none
noncomputable def fC(d:Xa):FE:=λδ=>some (.fz d,δ)
noncomputable def Zf(g:Xa->Xa->Option Xa)(a b:FE):FE:=λδ=>(a δ).bind λp=>(b p.2).bind λq=>(g p.1.data q.1.data).bind λd=>some (.fz d,q.2)
noncomputable def Yn(g:Xa->Xa->Option OT)(a b:FE):FE:=λδ=>(a δ).bind λp=>(b p.2).bind λq=>(g p.1.data q.1.data).bind λd=>some (d,q.2)
noncomputable def fUn(g:Xa->Option Xa)(a:FE):FE:=λδ=>(a δ).bind λp=>(g p.1.data).bind λd=>some (.fz d,p.2)
noncomputable def Zqm(a b:FE):FE:=λδ=>(a δ).bind λp=>match p.1.data with| .bool true=>b p.2| .bool false=>some (.fz (.bool false),p.2)|_=>none
noncomputable def fOr(a b:FE):FE:=λδ=>(a δ).bind λp=>match p.1.data with| .bool true=>some (.fz (.bool true),p.2)| .bool false=>b p.2|_=>none
noncomputable def fIf(t:FT)(a b:FE):FE:=λδ=>(t δ).bind λp=>if p.1=true then a p.2 else b p.2
noncomputable def tV(e:FE):FT:=λδ=>(e δ).bind λp=>match p.1 with| .fz (.bool b)=>some (b,p.2)|_=>none
noncomputable def tNo(t:FT):FT:=λδ=>(t δ).bind λp=>some (!p.1,p.2)
noncomputable def tAn(t u:FT):FT:=λδ=>(t δ).bind λp=>if p.1=true then u p.2 else some (false,p.2)
noncomputable def tO(t u:FT):FT:=λδ=>(t δ).bind λp=>if p.1=true then some (true,p.2)else u p.2
noncomputable def tD(e:FE):FT:=λδ=>(e δ).bind λp=>(Zvs p.1.data).bind λb=>some (b,p.2)
noncomputable def Zn:FA:=λδ=>some ([],δ)
noncomputable def Zc(e:FE)(a:FA):FA:=λδ=>(e δ).bind λp=>(a p.2).bind λq=>some (p.1 :: q.1,q.2)
noncomputable def Zjx(a:FA):FE:=λδ=>(a δ).bind λp=>if p.1.length≤Xo then some (.fz (.tuple (OT.datas p.1)),p.2)else none
noncomputable def Zbm(a:FA):FE:=λδ=>(a δ).bind λp=>if p.1.length≤Xo then some (.nd p.1,p.2)else none
noncomputable def Z74(e:FE):FE:=λδ=>(e δ).bind λp=>if Zbl p.1.data=true then some (.fz p.1.data,p.2)else none
noncomputable def Z35(e:FE):FE:=λδ=>(e δ).bind λp=>if Z0k p.1=true then some (p.1,p.2)else none
inductive RF where
 | ok (r:OT)
 | exn (c:Str)
 | bad
noncomputable abbrev FD:=List Xa->RF
noncomputable abbrev FIO:=OT->List Xa->Option (OT×OT)
noncomputable def Zx(F:FD)(a:FA):FE:=λδ=>(a δ).bind λp=>match F (OT.datas p.1)with| .ok r=>some (r,p.2)|_=>none
noncomputable def Zxh(i:Nat)(F:FIO)(a:FA):FE:=λδ=>match δ[i]? with
 | some (some _)=>(a δ).bind λp=>match p.2[i]? with
  | some (some t)=>(F t (OT.datas p.1)).bind λq=>some (q.1,p.2.set i (some q.2))
  | _=>none
 | _=>none
noncomputable def Zbg(g:List Xa->Option Xa)(a:FA):FE:=λδ=>(a δ).bind λp=>(g (OT.datas p.1)).bind λd=>some (.fz d,p.2)
noncomputable def fBl(g:List Xa->Option OT)(a:FA):FE:=λδ=>(a δ).bind λp=>(g (OT.datas p.1)).bind λd=>some (d,p.2)
noncomputable def Zmj(T:String)(e:FE):FE:=λδ=>(e δ).bind λp=>if Zgv p.1.data=true then none else some (.fz (.bool (Zo2 T p.1.data)),p.2)
noncomputable def oN:FO:=λδ=>some (none,δ)
noncomputable def oI(e:FE):FO:=λδ=>(e δ).bind λp=>match p.1.data with| .int i=>some (some i,p.2)|_=>none
noncomputable def fSl(e:FE)(lo hi:FO):FE:=λδ=>(e δ).bind λp=>(lo p.2).bind λq=>(hi q.2).bind λr=>match p.1.data with| .list ds=>some (.nd ((cutD ds q.1 r.1).map OT.fz),r.2)|_=>none
noncomputable def Zhh(e:FE):FI:=λδ=>(e δ).bind λp=>match p.1.data with| .list ds=>some (ds,p.2)|_=>none
noncomputable def iTp(e:FE):FI:=λδ=>(e δ).bind λp=>match p.1.data with| .tuple ds=>some (ds,p.2)|_=>none
noncomputable def rOk(j:Int):Bool:=decide (-(2^62)≤j)&&decide (j<2^62)
theorem Zck{j:Int}(h:rOk j=true):-(2^62)≤j∧j<2^62:=by
 unfold rOk at h
 rw[Xx]at h
 exact⟨of_decide_eq_true h.1,of_decide_eq_true h.2⟩
theorem Zgu{j:Int}(h0:-1000000≤j)(h1:j≤1000000):rOk j=true:=by
 unfold rOk
 rw[decide_eq_true (show -(2^62)≤j by omega),decide_eq_true (show j<2^62 by omega)];rfl
noncomputable def iRa(a:FA):FI:=λδ=>(a δ).bind λp=>match OT.datas p.1 with|[.int j]=>if rOk j=true then some (Zch 0 j.toNat,p.2)else none|_=>none
noncomputable def iRb(a:FA):FI:=λδ=>(a δ).bind λp=>match OT.datas p.1 with|[.int i,.int j]=>if(rOk i&&rOk j)=true then some (Zch i (j-i).toNat,p.2)else none|_=>none
noncomputable def Z5h(a:FA):FI:=λδ=>(a δ).bind λp=>match OT.datas p.1 with|[.list as,.list bs]=>some (Zkk as bs,p.2)|_=>none
noncomputable def gNm(i:Nat):FG:=λd δ=>some (δ.set i (some (.fz d)))
noncomputable def Zx9(i:Nat):FG:=λd δ=>if Zbl d=true then some (δ.set i (some (.fz d)))else none
noncomputable def gNl:FGs:=λds δ=>match ds with|[]=>some δ|_=>none
noncomputable def gCn(g:FG)(gs:FGs):FGs:=λds δ=>match ds with|d :: r=>(g d δ).bind (gs r)|[]=>none
noncomputable def gTp(n:Nat)(gs:FGs):FG:=λd δ=>match d with| .tuple ds=>if ds.length=n then gs ds δ else none|_=>none
noncomputable def gLs(n:Nat)(gs:FGs):FG:=λd δ=>match d with| .list ds=>if ds.length=n then gs ds δ else none|_=>none
noncomputable def compLoop(g:FG)(t:FT)(e:FE):List Xa->Zg->Option (List OT×Zg)
 | [],δ=>some ([],δ)
 | d :: ds,δ=>(g d δ).bind λδ1=>(t δ1).bind λp=>if p.1=true then(e p.2).bind λq=>(compLoop g t e ds q.2).bind λz=>some (q.1 :: z.1,z.2)else compLoop g t e ds p.2
noncomputable def Wb(n:Nat)(caps:List Nat)(it:FI)(g:FG)(t:FT)(e:FE):FE:=λδ=>(it δ).bind λp=>if p.1.length≤Xo then(compLoop g t e p.1 (blk n caps p.2)).bind λz=>some (.nd z.1,p.2)else none
noncomputable def Ze3:FT:=λδ=>some (true,δ)
inductive RS where
 | nx (δ:Zg)
 | rt (r:OT) (δ:Zg)
 | bk (δ:Zg)
 | ct (δ:Zg)
 | ex (c:Str) (δ:Zg)
 | bad
noncomputable abbrev FS:=Zg->RS
noncomputable def RS.fits(D:Zhi):RS->Prop
 | .nx δ=>D.nx δ
 | .rt r δ=>D.rt r δ
 | .bk δ=>D.bk δ
 | .ct δ=>D.ct δ
 | _=>False
noncomputable def oS(f:FS):MSt:=λD δ=>(f δ).fits D
noncomputable def xS(K:Xb)(f:FS):MXt:=λδ k=>∃c C δ',f δ= .ex c δ'∧VR K c C∧k C δ'
noncomputable def Zy(f g:FS):FS:=λδ=>match f δ with| .nx δ'=>g δ'|r=>r
noncomputable def fNx:FS:=λδ=>.nx δ
noncomputable def Yb1:FS:=λδ=>.bk δ
noncomputable def Yb9:FS:=λδ=>.ct δ
noncomputable def wE(e:FE)(k:OT->Zg->RS):FS:=λδ=>match e δ with|some (r,δ')=>k r δ'|none=>.bad
noncomputable def wX(F:FD)(a:FA)(k:OT->Zg->RS):FS:=λδ=>match a δ with
 | some (rs,δ1)=>match F (OT.datas rs)with
  | .ok r=>k r δ1
  | .exn c=>.ex c δ1
  | .bad=>.bad
 | none=>.bad
noncomputable def Zmk:OT->Zg->RS:=λ_ δ=>.nx δ
noncomputable def Zai:OT->Zg->RS:=λr δ=>.rt r δ
noncomputable def Z83:OT->Zg->RS:=λr δ=>if Zbl r.data=true then .rt (.fz r.data) δ else .bad
noncomputable def Yu(i:Nat):OT->Zg->RS:=λr δ=>.nx (δ.set i (some (.fz r.data)))
noncomputable def Z7z(i:Nat):OT->Zg->RS:=λr δ=>if Zbl r.data=true then .nx (δ.set i (some (.fz r.data)))else .bad
noncomputable def Jo(i:Nat):OT->Zg->RS:=λr δ=>.nx (δ.set i (some r))
noncomputable def Ycd(g:FG):OT->Zg->RS:=λr δ=>match g r.data δ with|some δ'=>.nx δ'|none=>.bad
noncomputable def Z7y:FS:=λδ=>.rt (.fz .none) δ
noncomputable def Zeu(i:Nat):FS:=λδ=>match δ[i]? with|some (some t)=>.rt t (δ.set i none)|_=>.bad
noncomputable def Jp(t:FT)(u w:FS):FS:=λδ=>match t δ with|some (b,δ')=>if b=true then u δ' else w δ'|none=>.bad
noncomputable def Zkm(c:Str):FS:=λδ=>.ex c δ
noncomputable def Wq(i:Nat)(e:FE):FS:=λδ=>match δ[i]? with
 | some (some (.nd _))=>wE e (λr δ1=>match δ1[i]? with
  | some (some (.nd ts))=>if ts.length<Xo then .nx (δ1.set i (some (.nd (ts ++ [.fz r.data]))))else .bad
  | _=>.bad) δ
 | _=>.bad
noncomputable def Zag(i:Nat)(e:FE):FS:=λδ=>match δ[i]? with
 | some (some (.nd _))=>wE e (λr δ1=>match δ1[i]? with
  | some (some (.nd ts))=>if ts.length<Xo then .nx (δ1.set i (some (.nd (ts ++ [r]))))else .bad
  | _=>.bad) δ
 | _=>.bad
noncomputable def Zqn(i:Nat)(e j:FE):FS:=wE e λr δ1=>match δ1[i]? with
 | some (some (.nd ts))=>wE j (λn _=>match n.data with
  | .int k=>match ixN ts.length k with
   | some j=>.nx (δ1.set i (some (.nd (ts.set j (.fz r.data)))))
   | none=>.bad
  | _=>.bad) δ1
 | _=>.bad
noncomputable def Zmx(i:Nat)(e j j2:FE):FS:=wE e λr δ1=>match δ1[i]? with
 | some (some (.nd ts))=>wE j (λn _=>match n.data with
  | .int k=>match ixN ts.length k with
   | some j=>match ts[j]? with
    | some (.nd us)=>wE j2 (λn' _=>match n'.data with
     | .int k'=>match ixN us.length k' with
      | some j'=>.nx (δ1.set i (some (.nd (ts.set j (.nd (us.set j' (.fz r.data)))))))
      | none=>.bad
     | _=>.bad) δ1
    | _=>.bad
   | none=>.bad
  | _=>.bad) δ1
 | _=>.bad
noncomputable def Zbx(i:Nat)(u:FS):FS:=λδ=>match δ[i]? with|some (some t)=>u (δ.set i (some (.fz t.data)))|_=>.bad
noncomputable def forLoop(g:FG)(u:FS):List Xa->Zg->RS
 | [],δ=>.nx δ
 | d :: ds,δ=>match g d δ with
  | none=>.bad
  | some δ1=>match u δ1 with
   | .nx δ2=>forLoop g u ds δ2
   | .ct δ2=>forLoop g u ds δ2
   | .bk δ2=>.nx δ2
   | r=>r
noncomputable def Zcc(it:FI)(g:FG)(u:FS):FS:=λδ=>match it δ with|some (ds,δ1)=>forLoop g u ds δ1|none=>.bad
noncomputable def whileLoop(t:FT)(u:FS):Nat->Zg->RS
 | 0,_=>.bad
 | n+1,δ=>match t δ with
  | none=>.bad
  | some (b,δ1)=>if b=true then match u δ1 with
   | .nx δ2=>whileLoop t u n δ2
   | .ct δ2=>whileLoop t u n δ2
   | .bk δ2=>.nx δ2
   | .rt r δ2=>.rt r δ2
   | _=>.bad
   else .nx δ1
open Classical in
noncomputable def Zim(t:FT)(u:FS):FS:=λδ=>if h:∃n,whileLoop t u n δ≠ .bad then whileLoop t u (Classical.choose h) δ else .bad
noncomputable def Zpj(c d:Str):Bool:=c==d||d==("CutError" : Str)||d==("ValueError" : Str)
noncomputable def Z3b(xs:List Str)(u:FS)(D:Str)(i:Nat)(h:FS):FS:=λδ=>match u δ with
 | .ex c δ'=>if(xs.contains c&&Zpj c D)=true then match h (δ'.set i (some (.fz (exD c))))with
   | .nx δ2=>.nx (δ2.set i none)
   | _=>.bad
  else .bad
 | r=>r
noncomputable def Zes(n:Nat)(ds:List Xa):Zg:=ds.map (λd=>some (.fz d)) ++ Xr (n-ds.length) none
noncomputable def Z7u(n:Nat)(t:OT)(ds:List Xa):Zg:=some t :: (ds.map (λd=>some (.fz d)) ++ Xr (n-(ds.length+1)) none)
noncomputable def RS.told:RS->RF
 | .nx _=>.ok (.fz .none)
 | .rt r _=>.ok r
 | .ex c _=>.exn c
 | _=>.bad
noncomputable def Jy(np n:Nat)(S:FS):FD:=λds=>if ds.length=np then(S (Zes n ds)).told else .bad
noncomputable def sD(F:FD):List Xa->(OT->Prop)->Prop:=λds k=>∃r,F ds= .ok r∧k r
noncomputable def sX(K:Xb)(F:FD):List Xa->Addr->Prop:=λds cl=>∃c,F ds= .exn c∧VR K c cl
theorem bs{α β:Type}{x:Option α}{f:α->Option β}{b:β}(h:x.bind f=some b):∃a,x=some a∧f a=some b:=Uw.mp h
section
variable {X:Cx}{io:List Nat}{p c:Bool}{e tg:Expr}{es:List Expr}{st:Stmt}{sts:List Stmt}{eo:Option Expr}{fa fb fc:FE}{ra:FA}{ta tb:FT}{i:Nat}
theorem Z2(h:ME X io p c e (Z6g i)):ME X io p c e (o2 (Ze i)):=h.weak λδ K q91=>by
 obtain⟨r,δ',h,k⟩:=q91
 unfold Ze at h;unfold Z6g
 split at h
 ·rename_i d hd;(try rw[hd]);cases h;exact k
 ·cases h
theorem Z2o(h:ME X io p c e (Z6j i)):ME X io p c e (o2 (Zf1 i)):=h.weak λδ K q92=>by
 obtain⟨r,δ',h,k⟩:=q92
 unfold Zf1 at h;unfold Z6j
 split at h
 ·rename_i d hd;(try rw[hd]);cases h;exact k
 ·cases h
theorem Zf2{d:Xa}(h:ME X io p c e (mC d)):ME X io p c e (o2 (fC d)):=h.weak λδ K ⟨r,δ',h,k⟩=>by cases h;exact k
noncomputable def ByS(g:Xa->Xa->Option Xa)(rp:Xa->Xa->(Xa->Prop)->Prop):Prop:=∀d e r k,g d e=some r->k r->rp d e k
noncomputable def ByO(g:Xa->Xa->Option OT)(rp:Xa->Xa->(OT->Prop)->Prop):Prop:=∀d e r k,g d e=some r->k r->rp d e k
theorem Zyt{g rp}(G:ByS g rp){δ:Zg}{K:OT->Zg->Prop}(h:o2 (Zf g fa fb) δ K):Zmt rp (o2 fa) (o2 fb) δ K:=by
 obtain⟨r,δ',h,k⟩:=h
 obtain⟨⟨x,δ1⟩,h1,h⟩:=bs h
 obtain⟨⟨y,δ2⟩,h2,h⟩:=bs h
 obtain⟨d,h3,h⟩:=bs h
 cases h
 exact⟨x,δ1,h1,y,δ2,h2,G _ _ _ _ h3 k⟩
theorem Wx{g rp}(G:ByS g rp)(h:ME X io p c e (Zmt rp (o2 fa) (o2 fb))):ME X io p c e (o2 (Zf g fa fb)):=h.weak λδ K z=>Zyt G z
theorem Ycb{f:FE}{δ:Zg}{K:Bool->Zg->Prop}(h:o2 (tV f) δ K):o2 f δ (kB K):=by
 obtain⟨b,δ',h,k⟩:=h
 obtain⟨⟨x,δ1⟩,h1,h⟩:=bs h
 refine⟨x,δ1,h1,?_⟩
 unfold kB
 try dsimp only at h⊢
 split at h
 ·cases h;exact k
 ·cases h
theorem Zda{g rp}(G:ByS g rp)(h:MT X io p e (λδ K=>Zmt rp (o2 fa) (o2 fb) δ (kB K))):MT X io p e (o2 (tV (Zf g fa fb))):=h.weak λδ K z=>Zyt G (Ycb z)
theorem Jr{g rp}(G:ByO g rp)(h:ME X io p c e (Z55 rp (o2 fa) (o2 fb))):ME X io p c e (o2 (Yn g fa fb)):=h.weak λδ K h=>by
 obtain⟨r,δ',h,k⟩:=h
 obtain⟨⟨x,δ1⟩,h1,h⟩:=bs h
 obtain⟨⟨y,δ2⟩,h2,h⟩:=bs h
 obtain⟨d,h3,h⟩:=bs h
 cases h
 exact⟨x,δ1,h1,y,δ2,h2,G _ _ _ _ h3 k⟩
noncomputable def Ze2:Xa->Option Xa| .int i=>some (.int (-i))|_=>none
noncomputable def Z6a:Xa->Option Xa| .bool b=>some (.bool (!b))|_=>none
theorem J9(h:ME X io p c e (Yae (o2 fa))):ME X io p c e (o2 (fUn Ze2 fa)):=h.weak λδ K h=>by
 obtain⟨r,δ',h,k⟩:=h
 obtain⟨⟨x,δ1⟩,h1,h⟩:=bs h
 obtain⟨d,h3,h⟩:=bs h
 cases h
 refine⟨x,δ1,h1,?_⟩
 dsimp only at h3⊢
 cases q:x.data<;>rw[q]at h3<;>cases h3
 exact k
theorem Ztt(h:ME X io p c e (Z5v (o2 fa))):ME X io p c e (o2 (fUn Z6a fa)):=h.weak λδ K h=>by
 obtain⟨r,δ',h,k⟩:=h
 obtain⟨⟨x,δ1⟩,h1,h⟩:=bs h
 obtain⟨d,h3,h⟩:=bs h
 cases h
 refine⟨x,δ1,h1,?_⟩
 dsimp only at h3⊢
 cases q:x.data<;>rw[q]at h3<;>cases h3
 exact k
theorem Zdx(h:ME X io p c e (Z2s (o2 fa) (o2 fb))):ME X io p c e (o2 (Zqm fa fb)):=h.weak λδ K h=>by
 obtain⟨r,δ',h,k⟩:=h
 obtain⟨⟨x,δ1⟩,h1,h⟩:=bs h
 refine⟨x,δ1,h1,?_⟩
 try dsimp only at h⊢
 split at h
 ·rename_i q;(try rw[q]);rw[Zxm,if_pos rfl];exact⟨r,δ',h,k⟩
 ·rename_i q;(try rw[q]);cases h;rw[Zxm,if_neg Xp];exact k
 ·cases h
theorem Zk1(h:MT X io p e (Yah (o2 ta))):MT X io p e (o2 (tNo ta)):=h.weak λδ K h=>by
 obtain⟨r,δ',h,k⟩:=h
 obtain⟨⟨x,δ1⟩,h1,h⟩:=bs h
 cases h
 exact⟨x,δ1,h1,k⟩
theorem Zyn(h:MW X io p e (Z9g (o2 ta) (o2 tb))):MW X io p e (o2 (tAn ta tb)):=h.weak λδ K h=>by
 obtain⟨r,δ',h,k⟩:=h
 obtain⟨⟨x,δ1⟩,h1,h⟩:=bs h
 refine⟨x,δ1,h1,?_⟩
 try dsimp only at h⊢
 split at h
 ·rename_i q;rw[if_pos q];exact⟨r,δ',h,k⟩
 ·rename_i q;rw[if_neg q];cases h;exact k
theorem Zr4(h:MW X io p e (mOr (o2 ta) (o2 tb))):MW X io p e (o2 (tO ta tb)):=h.weak λδ K h=>by
 obtain⟨r,δ',h,k⟩:=h
 obtain⟨⟨x,δ1⟩,h1,h⟩:=bs h
 refine⟨x,δ1,h1,?_⟩
 try dsimp only at h⊢
 split at h
 ·rename_i q;rw[if_pos q];cases h;exact k
 ·rename_i q;rw[if_neg q];exact⟨r,δ',h,k⟩
theorem Zco(h:MT X io p e (Yau (o2 fa))):MT X io p e (o2 (tD fa)):=h.weak λδ K h=>by
 obtain⟨r,δ',h,k⟩:=h
 obtain⟨⟨x,δ1⟩,h1,h⟩:=bs h
 obtain⟨d,h3,h⟩:=bs h
 cases h
 refine⟨x,δ1,h1,?_⟩
 dsimp only at h3⊢
 rw[h3]
 exact k
theorem Wu(h:MA X io p c es Z9z):MA X io p c es (o2 Zn):=h.weak λδ K ⟨r,δ',h,k⟩=>by cases h;exact k
theorem Z0x(h:MA X io p c es (Z49 (o2 fa) (o2 ra))):MA X io p c es (o2 (Zc fa ra)):=h.weak λδ K h=>by
 obtain⟨r,δ',h,k⟩:=h
 obtain⟨⟨x,δ1⟩,h1,h⟩:=bs h
 obtain⟨⟨y,δ2⟩,h2,h⟩:=bs h
 cases h
 exact⟨x,δ1,h1,y,δ2,h2,k⟩
theorem Z25(h:ME X io p c e (Yab (o2 ra))):ME X io p c e (o2 (Zjx ra)):=h.weak λδ K h=>by
 obtain⟨r,δ',h,k⟩:=h
 obtain⟨⟨x,δ1⟩,h1,h⟩:=bs h
 refine⟨x,δ1,h1,?_⟩
 dsimp only at h
 split at h
 ·rename_i q;cases h;exact⟨q,k⟩
 ·cases h
theorem Zxx(h:ME X io p c e (Z9n (o2 ra))):ME X io p c e (o2 (Zbm ra)):=h.weak λδ K h=>by
 obtain⟨r,δ',h,k⟩:=h
 obtain⟨⟨x,δ1⟩,h1,h⟩:=bs h
 refine⟨x,δ1,h1,?_⟩
 dsimp only at h
 split at h
 ·rename_i q;cases h;exact⟨q,k⟩
 ·cases h
theorem J4{F:FD}(h:ME X io p c e (Zyw (sD F) (o2 ra))):ME X io p c e (o2 (Zx F ra)):=h.weak λδ K h=>by
 obtain⟨r,δ',h,k⟩:=h
 obtain⟨⟨x,δ1⟩,h1,h⟩:=bs h
 refine⟨x,δ1,h1,?_⟩
 dsimp only at h
 split at h
 ·rename_i q;cases h;exact⟨_,q,k⟩
 ·cases h
theorem Zf0{g rp}(G:∀ds r k,g ds=some r->k r->rp ds k)(h:ME X io p c e (Z6z rp (o2 ra))):ME X io p c e (o2 (Zbg g ra)):=h.weak λδ K h=>by
 obtain⟨r,δ',h,k⟩:=h
 obtain⟨⟨x,δ1⟩,h1,h⟩:=bs h
 obtain⟨d,h3,h⟩:=bs h
 cases h
 exact⟨x,δ1,h1,G _ _ _ h3 k⟩
theorem Zm2{g rp}(G:∀ds r k,g ds=some r->k r->rp ds k)(h:ME X io p c e (mBl rp (o2 ra))):ME X io p c e (o2 (fBl g ra)):=h.weak λδ K h=>by
 obtain⟨r,δ',h,k⟩:=h
 obtain⟨⟨x,δ1⟩,h1,h⟩:=bs h
 obtain⟨d,h3,h⟩:=bs h
 cases h
 exact⟨x,δ1,h1,G _ _ _ h3 k⟩
theorem Zcs{T:String}(h:ME X io p c e (Yay T (o2 fa))):ME X io p c e (o2 (Zmj T fa)):=h.weak λδ K h=>by
 obtain⟨r,δ',h,k⟩:=h
 obtain⟨⟨x,δ1⟩,h1,h⟩:=bs h
 by_cases hf:Zgv x.data=true
 ·have h':(if Zgv x.data=true then none else some (OT.fz (.bool (Zo2 T x.data)),δ1))=some (r,δ'):=h
  rw[if_pos hf]at h'
  cases h'
 ·have h':(if Zgv x.data=true then none else some (OT.fz (.bool (Zo2 T x.data)),δ1))=some (r,δ'):=h
  rw[if_neg hf]at h'
  injection h' with h'
  injection h' with e1 e2
  subst e1 e2
  exact⟨x,_,h1,Uv.mpr hf,k⟩
theorem Wc(h:MO X io p eo Zsh):MO X io p eo (o2 oN):=h.weak λδ K ⟨r,δ',h,k⟩=>by cases h;exact k
theorem Z8(h:MO X io p eo (Z3s (o2 fa))):MO X io p eo (o2 (oI fa)):=h.weak λδ K h=>by
 obtain⟨r,δ',h,k⟩:=h
 obtain⟨⟨x,δ1⟩,h1,h⟩:=bs h
 refine⟨x,δ1,h1,?_⟩
 try dsimp only at h⊢
 split at h
 ·rename_i q;(try rw[q]);cases h;exact k
 ·cases h
theorem Zba{lo hi:FO}(h:ME X io p c e (mSl (o2 fa) (o2 lo) (o2 hi))):ME X io p c e (o2 (fSl fa lo hi)):=h.weak λδ K h=>by
 obtain⟨r,δ',h,k⟩:=h
 obtain⟨⟨x,δ1⟩,h1,h⟩:=bs h
 obtain⟨⟨y,δ2⟩,h2,h⟩:=bs h
 obtain⟨⟨z,δ3⟩,h3,h⟩:=bs h
 refine⟨x,δ1,h1,y,δ2,h2,z,δ3,h3,?_⟩
 try dsimp only at h⊢
 split at h
 ·rename_i q;(try rw[q]);cases h;exact k
 ·cases h
theorem Zrj(h:MI X io p c tg e (iL (o2 fa))):MI X io p c tg e (o2 (Zhh fa)):=h.weak λδ K h=>by
 obtain⟨r,δ',h,k⟩:=h
 obtain⟨⟨x,δ1⟩,h1,h⟩:=bs h
 refine⟨x,δ1,h1,?_⟩
 try dsimp only at h⊢
 split at h
 ·rename_i q;(try rw[q]);cases h;exact k
 ·cases h
theorem Zfb(h:MI X io p c tg e (iR1 (o2 ra))):MI X io p c tg e (o2 (iRa ra)):=h.weak λδ K h=>by
 obtain⟨r,δ',h,k⟩:=h
 obtain⟨⟨x,δ1⟩,h1,h⟩:=bs h
 refine⟨x,δ1,h1,?_⟩
 try dsimp only at h⊢
 split at h
 case h_2=>cases h
 rename_i q
 (try rw[q])
 try dsimp only
 split at h
 ·rename_i b;cases h;exact⟨Zck b,k⟩
 ·cases h
theorem Z1m(h:MI X io p c tg e (iR2 (o2 ra))):MI X io p c tg e (o2 (iRb ra)):=h.weak λδ K h=>by
 obtain⟨r,δ',h,k⟩:=h
 obtain⟨⟨x,δ1⟩,h1,h⟩:=bs h
 refine⟨x,δ1,h1,?_⟩
 try dsimp only at h⊢
 split at h
 case h_2=>cases h
 rename_i q
 (try rw[q])
 try dsimp only
 split at h
 ·rename_i b
  cases h
  rw[Xx]at b
  exact⟨⟨(Zck b.1).1,(Zck b.1).2,(Zck b.2).1,(Zck b.2).2⟩,k⟩
 ·cases h
theorem Zg2(h:MG X io c tg (dName i)):MG X io c tg (oG (gNm i)):=h.weak λd δ K ⟨δ',h,k⟩=>by cases h;exact k
theorem Zv9(h:MG X io c tg (Zyl i)):MG X io c tg (oG (Zx9 i)):=h.weak λd δ K q93=>by
 obtain⟨δ',h,k⟩:=q93
 unfold Zx9 at h
 split at h
 ·rename_i q;cases h;exact⟨q,k⟩
 ·cases h
theorem Znt(h:MGs X io c es Yaz):MGs X io c es (oGs gNl):=h.weak λd δ K q94=>by
 obtain⟨δ',h,k⟩:=q94
 unfold gNl at h
 split at h
 ·cases h;exact⟨rfl,k⟩
 ·cases h
theorem Zdf{g:FG}{gs:FGs}(h:MGs X io c es (Z48 (oG g) (oGs gs))):MGs X io c es (oGs (gCn g gs)):=h.weak λd δ K q95=>by
 obtain⟨δ',h,k⟩:=q95
 unfold gCn at h
 split at h
 ·obtain⟨δ1,h1,h⟩:=bs h
  exact⟨δ1,h1,δ',h,k⟩
 ·cases h
theorem Zra{n:Nat}{gs:FGs}(h:MG X io c tg (dTup n (oGs gs))):MG X io c tg (oG (gTp n gs)):=h.weak λd δ K q96=>by
 obtain⟨δ',h,k⟩:=q96
 unfold gTp at h
 split at h
 case h_2=>cases h
 split at h
 ·rename_i q;exact⟨q,δ',h,k⟩
 ·cases h
theorem Jv(h:MIfs X io p es Z4y):MIfs X io p es (o2 Ze3):=h.weak λδ K ⟨r,δ',h,k⟩=>by cases h;exact k
theorem Z0s{g:FG}{t:FT}{me:FE}{ds:List Xa}{δ0:Zg}{zs:List OT}{δe:Zg}(h:compLoop g t me ds δ0=some (zs,δe)) :
  ∃I:Nat->List OT->Zg->Prop,I 0 [] δ0∧
 (∀ (i:Nat) (d:Xa) (rs:List OT) (δ':Zg),ds[i]? =some d->I i rs δ'->oG g d δ' λδ2=>o2 t δ2 λb δ3=>if b=true then o2 me δ3 λr δ4=>I (i+1) (rs ++ [r]) δ4 else I (i+1) rs δ3)∧
 ∀rs δ',I ds.length rs δ'->rs=zs∧δ'=δe:=by
 refine⟨λi rs δ'=>∃ys,rs ++ ys=zs∧compLoop g t me (ds.drop i) δ'=some (ys,δe),⟨zs,rfl,by rw[Vv];exact h⟩,?_,?_⟩
 ·rintro i d rs δ' hd ⟨ys,e,hl⟩
  obtain⟨hi,hdi⟩:=Xn.mp hd
  rw[Bv hi,hdi]at hl
  unfold compLoop at hl
  obtain⟨δ1,h1,hl⟩:=bs hl
  obtain⟨⟨b,δ2⟩,h2,hl⟩:=bs hl
  refine⟨δ1,h1,b,δ2,h2,?_⟩
  dsimp only at hl
  split at hl
  ·rename_i hb
   rw[if_pos hb]
   obtain⟨⟨r,δ3⟩,h3,hl⟩:=bs hl
   obtain⟨⟨ws,δ4⟩,h4,hl⟩:=bs hl
   cases hl
   exact⟨r,δ3,h3,ws,by rw[Q8];exact e,h4⟩
  ·rename_i hb
   rw[if_neg hb]
   exact⟨ys,e,hl⟩
 ·rintro rs δ' ⟨ys,e,hl⟩
  rw[List.drop_length]at hl
  unfold compLoop at hl
  cases hl
  exact⟨by rw[←e,Qw],rfl⟩
theorem Zsm{n:Nat}{caps:List Nat}{it:FI}{g:FG}{t:FT}{me:FE}{δ:Zg}{K:OT->Zg->Prop}(h:o2 (Wb n caps it g t me) δ K):Zhe n caps (o2 it) (oG g) (o2 t) (o2 me) δ K:=by
 obtain⟨r,δ',h,k⟩:=h
 obtain⟨⟨ds,δ1⟩,h1,h⟩:=bs h
 refine⟨ds,δ1,h1,?_⟩
 dsimp only at h
 split at h
 case isFalse=>cases h
 rename_i hz
 obtain⟨⟨zs,δe⟩,h2,h⟩:=bs h
 cases h
 obtain⟨I,i0,st,en⟩:=Z0s h2
 refine⟨hz,I,i0,st,λrs δ'' q=>?_⟩
 obtain⟨rfl,rfl⟩:=en rs δ'' q
 exact k
theorem Za6{n:Nat}{caps:List Nat}{it:FI}{g:FG}{t:FT}{me:FE}(h:ME X io p c e (Zhe n caps (o2 it) (oG g) (o2 t) (o2 me))):ME X io p c e (o2 (Wb n caps it g t me)):=h.weak λδ K z=>Zsm z
end
section
variable {X:Cx}{io:List Nat}{p c:Bool}{e tg iter:Expr}{es:List Expr}{st:Stmt}{sts:List Stmt}{fa fb fc:FE}{ra:FA}{ta tb:FT}{i:Nat}{f g u w:FS}
theorem Zcb(h:MSs X io sts (Z7e (oS f) (oS g))):MSs X io sts (oS (Zy f g)):=h.weak λD δ h=>by
 unfold oS Zy at h;unfold Z7e oS
 cases q:f δ<;>rw[q]at h<;>exact h
theorem Zbf(h:MSs X io sts Z5z):MSs X io sts (oS fNx):=h.weak λD δ h=>h
theorem Zmn{k:OT->Zg->RS}{D:Zhi}{δ:Zg}(h:oS (wE fa k) D δ):o2 fa δ λr δ'=>(k r δ').fits D:=by
 unfold oS wE at h
 split at h
 ·rename_i q;exact⟨_,_,q,h⟩
 ·exact h.elim
theorem o2.imp{α:Type}{f:Zg->Option (α×Zg)}{δ:Zg}{K K':α->Zg->Prop}(h:o2 f δ K)(k:∀r δ',K r δ'->K' r δ'):o2 f δ K':=let⟨r,δ',e,q⟩:=h;⟨r,δ',e,k r δ' q⟩
theorem Zbq{P:Prop}[Decidable P]{a:RS}{D:Zhi}(h:(if P then a else .bad:RS).fits D):P∧a.fits D:=by
 split at h
 ·exact⟨‹_›,h⟩
 ·exact h.elim
theorem Zmu(h:MS X io st (Z3t (o2 fa))):MS X io st (oS (wE fa Zmk)):=h.weak λD δ h=>Zmn h
theorem Zeo(h:MS X io st (Yap (o2 fa))):MS X io st (oS (wE fa Zai)):=h.weak λD δ h=>Zmn h
theorem Zea(h:MS X io st (Zuw i)):MS X io st (oS (Zeu i)):=h.weak λD δ h=>by
 unfold oS Zeu at h;unfold Zuw
 split at h
 ·rename_i q;(try rw[q]);exact h
 ·exact h.elim
theorem Zkp(h:MS X io st (Z9e (o2 ta) (oS u) (oS w))):MS X io st (oS (Jp ta u w)):=h.weak λD δ h=>by
 unfold oS Jp at h
 split at h
 ·rename_i b δ' q
  refine⟨b,δ',q,?_⟩
  split at h
  ·rename_i hb;rw[if_pos hb];exact h
  ·rename_i hb;rw[if_neg hb];exact h
 ·exact h.elim
theorem Zew(h:MS X io st (Z10 i (o2 fa))):MS X io st (oS (wE fa (Yu i))):=h.weak λD δ h=>Zmn h
theorem Zqr(h:MS X io st (Zqc i (o2 fa))):MS X io st (oS (wE fa (Jo i))):=h.weak λD δ h=>Zmn h
section
variable {n:Nat}{caps:List Nat}{o q:Nat}{it:FI}{gg:FG}{t:FT}{me:FE}
theorem Zi1(h:MS X io st (if true=true then Zqc i (Zhe n caps (o2 it) (oG gg) (o2 t) (o2 me))else Z10 i (Zhe n caps (o2 it) (oG gg) (o2 t) (o2 me)))):MS X io st (oS (wE (Wb n caps it gg t me) (Jo i))) :=
 h.weak λD δ h=>by rw[if_pos rfl];exact Zsm (Zmn h)
theorem Zqy(h:MS X io st (if false=true then Zqc i (Zhe n caps (o2 it) (oG gg) (o2 t) (o2 me))else Z10 i (Zhe n caps (o2 it) (oG gg) (o2 t) (o2 me)))):MS X io st (oS (wE (Wb n caps it gg t me) (Yu i))) :=
 h.weak λD δ h=>by rw[if_neg Xp];exact Zsm (Zmn h)
end
theorem Zbi(h:MS X io st (Zkb i (o2 fa))):MS X io st (oS (Wq i fa)):=h.weak λD δ h=>by
 unfold oS Wq at h;unfold Zkb
 split at h
 case h_2=>exact h.elim
 rename_i q;(try rw[q])
 refine(Zmn h).imp λr δ' z=>?_
 split at z
 ·rename_i q2;(try rw[q2]);exact Zbq z
 ·exact z.elim
theorem Zql(h:MS X io st (Zgj i (o2 fa))):MS X io st (oS (Zag i fa)):=h.weak λD δ h=>by
 unfold oS Zag at h;unfold Zgj
 split at h
 case h_2=>exact h.elim
 rename_i q;(try rw[q])
 refine(Zmn h).imp λr δ' z=>?_
 split at z
 ·rename_i q2;(try rw[q2]);exact Zbq z
 ·exact z.elim
theorem Zxf(h:MS X io st (Z95 i (o2 fa) (o2 fb))):MS X io st (oS (Zqn i fa fb)):=h.weak λD δ h=>by
 refine(Zmn h).imp λr δ' z=>?_
 split at z
 case h_2=>exact z.elim
 rename_i q;(try rw[q])
 refine(Zmn z).imp λn δ2 z=>?_
 split at z
 case h_2=>exact z.elim
 rename_i k q2;(try rw[q2])
 show match ixN _ k with|some j=>_|none=>_
 split at z
 ·rename_i q3;(try rw[q3]);exact z
 ·exact z.elim
theorem Zm0(h:MS X io st (Z3d i (o2 fa) (o2 fb) (o2 fc))):MS X io st (oS (Zmx i fa fb fc)):=h.weak λD δ h=>by
 refine(Zmn h).imp λr δ' z=>?_
 split at z
 case h_2=>exact z.elim
 rename_i q;(try rw[q])
 refine(Zmn z).imp λn δ2 z=>?_
 split at z
 case h_2=>exact z.elim
 rename_i k q2;(try rw[q2])
 show match ixN _ k with|some j=>_|none=>_
 split at z
 case h_2=>exact z.elim
 rename_i q3;(try rw[q3])
 try dsimp only
 split at z
 case h_2=>exact z.elim
 rename_i q4;(try rw[q4])
 refine(Zmn z).imp λn' δ3 z=>?_
 split at z
 case h_2=>exact z.elim
 rename_i k' q5;(try rw[q5])
 show match ixN _ k' with|some j=>_|none=>_
 split at z
 ·rename_i q6;(try rw[q6]);exact z
 ·exact z.elim
theorem Zhf(h:MS X io st (Zj0 i (oS u))):MS X io st (oS (Zbx i u)):=h.weak λD δ h=>by
 unfold oS Zbx at h;unfold Zj0
 split at h
 ·rename_i q;(try rw[q]);exact h
 ·exact h.elim
theorem Zcu{gg:FG}{d:Xa}{ds:List Xa}{δ:Zg}:forLoop gg u (d :: ds) δ=match gg d δ with
  | none=>.bad
  | some δ1=>match u δ1 with
   | .nx δ2=>forLoop gg u ds δ2
   | .ct δ2=>forLoop gg u ds δ2
   | .bk δ2=>.nx δ2
   | r=>r:=rfl
theorem Zs8{it:FI}{gg:FG}(h:MS X io st (Z9r (o2 it) (oG gg) (oS u))):MS X io st (oS (Zcc it gg u)):=h.weak λD δ h=>by
 unfold oS Zcc at h
 split at h
 case h_2=>exact h.elim
 rename_i ds δ1 q
 refine⟨ds,δ1,q,λi δ'=>(forLoop gg u (ds.drop i) δ').fits D,by show RS.fits D (forLoop gg u (ds.drop 0) δ1);rw[Vv];exact h,λi d δ' hd z=>?_,λδ' z=>?_⟩
 ·obtain⟨hi,hdi⟩:=Xn.mp hd
  replace z:RS.fits D (forLoop gg u (ds.drop i) δ'):=z
  rw[Bv hi,hdi,Zcu]at z
  split at z
  case h_1=>exact z.elim
  rename_i δ2 q2
  refine⟨δ2,q2,?_⟩
  unfold oS
  cases q3:u δ2<;>rw[q3]at z<;>(try rw[q3])<;>exact z
 ·replace z:RS.fits D (forLoop gg u (ds.drop ds.length) δ'):=z
  rw[List.drop_length]at z;exact z
theorem Zo9(h:MS X io st (Zx2 (o2 ta) (oS u))):MS X io st (oS (Zim ta u)):=h.weak λD δ h=>by
 unfold oS Zim at h
 split at h
 case isFalse=>exact h.elim
 rename_i hn
 refine⟨λn δ'=>(whileLoop ta u n δ').fits D,⟨_,h⟩,λn δ' z=>?_⟩
 cases n with
 | zero=>exact z.elim
 | succ n=>
  unfold whileLoop at z
  split at z
  case h_1=>exact z.elim
  rename_i b δ1 q
  refine⟨b,δ1,q,?_⟩
  split at z
  ·rename_i hb
   rw[if_pos hb]
   refine⟨λδ''=>(whileLoop ta u n δ'').fits D,λδ'' y=>⟨n,VJ n,y⟩,?_⟩
   unfold oS
   cases q3:u δ1<;>rw[q3]at z<;>exact z
  ·rename_i hb
   rw[if_neg hb]
   exact z
theorem Zdt{n m:Nat}:∀{δ:Zg},whileLoop ta u n δ≠ .bad->whileLoop ta u (n+m) δ=whileLoop ta u n δ:=by
 induction n with
 | zero=>intro δ h;exact absurd rfl h
 | succ n ih=>
  intro δ h
  rw[Nat.succ_add]
  unfold whileLoop at h⊢
  cases q:ta δ with
  | none=>rfl
  | some x=>
   obtain⟨b,δ1⟩:=x
   rw[q]at h
   try dsimp only at h⊢
   split
   ·rename_i hb
    rw[if_pos hb]at h
    cases q3:u δ1<;>rw[q3]at h<;>first|exact ih h|rfl
   ·rfl
theorem Zl0{r:RS}{δ:Zg}(n:Nat)(h:whileLoop ta u n δ=r)(hr:r≠ .bad):Zim ta u δ=r:=by
 have hn:∃n,whileLoop ta u n δ≠ .bad:=⟨n,by rw[h];exact hr⟩
 unfold Zim
 rw[dif_pos hn]
 have h1:=Classical.choose_spec hn
 have e1:=Zdt (m:=n) h1
 have e2:=Zdt (m:=Classical.choose hn) (show whileLoop ta u n δ≠ .bad by rw[h];exact hr)
 rw[Nat.add_comm]at e2
 rw[←e1,e2,h]
theorem Zoa{cn:Str}:MS X io st (oS (Zkm cn)):=Zv0.weak λD δ h=>h
theorem Z6b{F:FD}{k:OT->Zg->RS}(h:MS X io st (oS (wE (Zx F ra) k))):MS X io st (oS (wX F ra k)):=h.weak λD δ h=>by
 unfold oS wX at h;unfold oS wE Zx
 split at h
 case h_2=>exact h.elim
 rename_i rs δ1 q
 (try rw[q])
 dsimp only[Option.bind]
 split at h
 ·rename_i q2;(try rw[q2]);exact h
 ·exact h.elim
 ·exact h.elim
theorem Z2b{xs:List Str}{D:Str}{Dc:Addr}{h0:FS}(hk:∀cn∈xs,Zpj cn D=true->∃C,VR X.K cn C∧Zbz X.K C∧Bj X.K (.ref C) (.ref Dc)=some true)(h:MS X io st (Z7f X.K Dc i (oS u) (xS X.K u) (oS h0))):MS X io st (oS (Z3b xs u D i h0)):=h.weak λDD δ h=>by
 unfold oS Z3b at h
 split at h
 ·rename_i cn δ' q
  refine .inr ?_
  obtain⟨hc,h⟩:=Zbq h
  rw[Xx]at hc
  obtain⟨C,k1,k2,k3⟩:=hk cn (by simpa using hc.1) hc.2
  refine⟨cn,C,δ',q,k1,cn,k1,⟨k2,k3⟩,?_⟩
  unfold oS
  split at h
  ·rename_i q2;(try rw[q2]);exact h
  ·exact h.elim
 ·exact .inl h
theorem XS.weak{m m':MXt}(h:XS X io st m)(w:∀δ k,m' δ k->m δ k):XS X io st m':=λC pins s σ H δ fp ex k I R hm=>h C pins s σ H δ fp ex k I R (w δ k hm)
theorem XSs.weak{m m':MXt}(h:XSs X io sts m)(w:∀δ k,m' δ k->m δ k):XSs X io sts m':=λC pins s σ H δ fp ex k I R hm=>h C pins s σ H δ fp ex k I R (w δ k hm)
theorem XE.weak{m m':MXt}(h:XE X io e m)(w:∀δ k,m' δ k->m δ k):XE X io e m':=λC pins s σ H δ fp ex k I R hm=>h C pins s σ H δ fp ex k I R (w δ k hm)
class NoEx (f:FS):Prop where
 no:∀δ cn δ',f δ≠ .ex cn δ'
class NoExK (k:OT->Zg->RS):Prop where
 no:∀r δ cn δ',k r δ≠ .ex cn δ'
theorem Z42(f:FS)[NoEx f]:XSs X io sts (xS X.K f):=Zsv.weak λδ k ⟨cn,_,δ',h,_⟩=>(NoEx.no δ cn δ' h).elim
instance nx_kDrop_k:NoExK Zmk:=⟨λ_ _ _ _ h=>by cases h⟩
instance nx_kRet_k:NoExK Zai:=⟨λ_ _ _ _ h=>by cases h⟩
instance nx_kSet_k:NoExK (Yu i):=⟨λ_ _ _ _ h=>by cases h⟩
instance nx_kSetO_k:NoExK (Jo i):=⟨λ_ _ _ _ h=>by cases h⟩
instance nx_wE{k:OT->Zg->RS}[NoExK k]:NoEx (wE fa k):=⟨λδ cn δ' h=>by
 unfold wE at h
 split at h
 ·exact NoExK.no _ _ _ _ h
 ·cases h⟩
instance nx_fSeq[NoEx f][NoEx g]:NoEx (Zy f g):=⟨λδ cn δ' h=>by
 unfold Zy at h
 split at h
 ·exact NoEx.no _ _ _ h
 ·exact NoEx.no _ _ _ h⟩
instance nx_fNx:NoEx fNx:=⟨λ_ _ _ h=>by cases h⟩
instance nx_fIfS[NoEx u][NoEx w]:NoEx (Jp ta u w):=⟨λδ cn δ' h=>by
 unfold Jp at h
 split at h
 ·split at h
  ·exact NoEx.no _ _ _ h
  ·exact NoEx.no _ _ _ h
 ·cases h⟩
theorem Zz2{k:OT->Zg->RS}{δ:Zg}(n:∀r δ cn δ',k r δ≠ .ex cn δ'){cn:Str}{δ':Zg}(h:wE fa k δ= .ex cn δ'):False:=by
 unfold wE at h
 split at h
 ·exact n _ _ _ _ h
 ·cases h
instance nx_fAppendO:NoEx (Zag i fa):=⟨λδ cn δ' h=>by
 unfold Zag at h
 split at h
 ·exact Zz2 (λr δ1 _ _ z=>by
   split at z
   ·split at z<;>cases z
   ·cases z) h
 ·cases h⟩
theorem Zcn[NoEx u]{gg:FG}{cn:Str}{δ':Zg}:∀(ds:List Xa) (δ:Zg),forLoop gg u ds δ≠ .ex cn δ'
 | [],δ=>λh=>by cases h
 | d :: ds,δ=>λh=>by
  rw[Zcu]at h
  split at h
  ·cases h
  ·split at h
   ·exact Zcn ds _ h
   ·exact Zcn ds _ h
   ·cases h
   ·exact NoEx.no _ _ _ h
instance nx_fFor[NoEx u]{it:FI}{gg:FG}:NoEx (Zcc it gg u):=⟨λδ cn δ' h=>by
 unfold Zcc at h
 split at h
 ·exact Zcn _ _ h
 ·cases h⟩
theorem Zoy{cn:Str}{C:Addr}(hc:VR X.K cn C)(h:XS X io st (Ztx C)):XS X io st (xS X.K (Zkm cn)):=h.weak λδ k z=>by
 obtain⟨c',C',δ',h,k1,k2⟩:=z
 cases h
 have:=k1.symm.trans hc
 injection this with this;injection this with this;injection this with this
 subst this
 exact k2
theorem Zuk{F:FD}{k:OT->Zg->RS}[NoExK k](h:XE X io e (Zt3 (sX X.K F) (o2 ra))):XE X io e (xS X.K (wX F ra k)):=h.weak λδ kk z=>by
 obtain⟨c',C',δ',h,k1,k2⟩:=z
 unfold wX at h
 split at h
 case h_2=>cases h
 rename_i rs δ1 q
 refine⟨rs,δ1,q,?_⟩
 split at h
 ·exact(NoExK.no _ _ _ _ h).elim
 ·rename_i q2
  cases h
  exact⟨C',⟨_,q2,k1⟩,k2⟩
 ·cases h
theorem Z2p(h1:XS X io st (xS X.K f))(m1:MS X io st (oS f))(h2:XSs X io sts (xS X.K g))(hx:X.xe= λ_ _=>False:=by rfl):XSs X io (st :: sts) (xS X.K (Zy f g)):=by
 intro C pins s σ H δ fp ex k I R hm
 obtain⟨cn,C',δ',h,k1,k2⟩:=hm
 unfold Zy at h
 split at h
 ·rename_i δ1 q
  exact Zw7 m1 h2 hx C pins s σ H δ fp ex k I R (by
   show(f δ).fits _
   (try rw[q])
   exact⟨cn,C',δ',h,k1,k2⟩)
 ·exact Zo5 h1 C pins s σ H δ fp ex k I R ⟨cn,C',δ',h,k1,k2⟩
theorem Zz6(h1:XS X io st (xS X.K f)):XSs X io [st] (xS X.K f):=Zo5 h1
theorem Z8w{a b:List Stmt}{pos:Pos}(h:XS X io (.If e a b pos) (Yar (o2 ta) (xS X.K u) (xS X.K w))):XS X io (.If e a b pos) (xS X.K (Jp ta u w)):=h.weak λδ k z=>by
 obtain⟨cn,C',δ',h,k1,k2⟩:=z
 unfold Jp at h
 split at h
 case h_2=>cases h
 rename_i b δ1 q
 refine⟨b,δ1,q,?_⟩
 split at h
 ·rename_i hb;rw[if_pos hb];exact⟨cn,C',δ',h,k1,k2⟩
 ·rename_i hb;rw[if_neg hb];exact⟨cn,C',δ',h,k1,k2⟩
end
section
variable {P:X6}{w:Qu}{K:Xb}{mg:Str->Option Xe}{base:Heap}{x qual:Str}{st:Stmt}{f:Addr}{fd:XC}{N ps:List Str}{n np nn:Nat}{S:FS}
theorem RS.told_fits{r:RS}{o:OT}{k:OT->Prop}(h:r.told= .ok o)(hk:k o):r.fits (Zzp k):=by
 cases r<;>unfold RS.told at h<;>first|(cases h;exact hk)|cases h
theorem Yq(F:Fun K x qual st f fd)(Sc:Zu N ps (Zk st))(hN:N.length=nn)(hp:np=ps.length)
  (hb:∀(cdv:Xe) (A:Qo) (outer:List Env) (s:Xf) (H:Hp) (E:XK),Room n (A.deeper (Uj qual (Zk st) s.heap.objs.size f cdv))->MSs (Zqq CX0 P w K mg base N qual (Zk st) f cdv A outer s H E).nox [] (J7 st) (oS S)) :
  FnOk P w K mg base CX0 (n+1) f fd ps (spD K (sD (Jy np nn S))):=by
 subst hN hp
 refine F.okD Sc (λds k h=>?_) λcdv A outer s H E hr=>⟨_,hb cdv A outer s H E hr,λds k h=>?_⟩
 ·obtain⟨r,h,_⟩:=h
  unfold Jy at h
  split at h
  ·assumption
  ·cases h
 ·obtain⟨r,h,hk⟩:=h
  unfold Jy at h
  split at h
  ·exact RS.told_fits h hk
  ·cases h
theorem Z4f(F:Fun K x qual st f fd)(Sc:Zu N ps (Zk st))(hN:N.length=nn)(hp:np=ps.length)
  (hb:∀(cdv:Xe) (A:Qo) (outer:List Env) (s:Xf) (H:Hp) (E:XK),Room n (A.deeper (Uj qual (Zk st) s.heap.objs.size f cdv))->XSs (Zqq (CX1 P w) P w K mg base N qual (Zk st) f cdv A outer s H E).nox [] (J7 st) (xS K S)) :
  FnOk P w K mg base (CX1 P w) (n+1) f fd ps (spX K (sX K (Jy np nn S))):=by
 subst hN hp
 refine F.okX Sc (λds cl h=>?_) λcdv A outer s H E hr=>⟨_,hb cdv A outer s H E hr,λds cl h=>?_⟩
 ·obtain⟨r,h,_⟩:=h
  unfold Jy at h
  split at h
  ·assumption
  ·cases h
 ·obtain⟨c,h,hc⟩:=h
  unfold Jy at h
  split at h
  case isFalse=>cases h
  have e:Zes N.length ds=Zia N ds:=rfl
  rw[e]at h
  cases q:S (Zia N ds)<;>rw[q]at h<;>unfold RS.told at h<;>cases h
  exact⟨_,cl,_,q,hc,rfl⟩
end
noncomputable def i2(g:Int->Int->Xa):Xa->Xa->Option Xa:=λd e=>match d,e with| .int i,.int j=>some (g i j)|_,_=>none
noncomputable def i2c(c:Int->Int->Bool)(g:Int->Int->Xa):Xa->Xa->Option Xa:=λd e=>match d,e with| .int i,.int j=>if c i j=true then some (g i j)else none|_,_=>none
theorem Zsj{g:Int->Int->Xa}:ByS (i2 g) (Zyc g):=λd e r k h hk=>by
 unfold i2 at h
 split at h
 ·cases h;exact hk
 ·cases h
theorem Zok{c:Int->Int->Bool}{C:Int->Int->Prop}{g:Int->Int->Xa}(hc:∀i j,c i j=true->C i j):ByS (i2c c g) (d2I C g):=λd e r k h hk=>by
 unfold i2c at h
 split at h
 ·split at h
  ·cases h;exact⟨hc _ _ ‹_›,hk⟩
  ·cases h
 ·cases h
noncomputable def Z1k(a b:Int):Bool:=!(decide (JG a>shortFactorBits)&&decide (JG b>shortFactorBits)&&Uu (JG a+JG b))
noncomputable def Z4m(_ j:Int):Bool:=decide (j≠0)&&decide (j.natAbs.log2<9000)
noncomputable def Z99(_ j:Int):Bool:=decide (j≠0)
noncomputable def Ycj(i j:Int):Bool:=decide (0≤j∧j≤1000000∧i.natAbs<2^64)
theorem Zgi{a b:Int}:Z1k a b=true↔IntMulOk a b:=by
 unfold Z1k IntMulOk
 rw[Bool.not_eq_true',Bool.not_eq_true]
noncomputable def Js:=i2 λi j=>.int (i+j)
noncomputable def gSb:=i2 λi j=>.int (i-j)
noncomputable def Zhv:=i2c Z1k λi j=>.int (i*j)
noncomputable def Y4:=i2c Z4m λi j=>.int (i.fdiv j)
noncomputable def Jl:=i2c Z99 λi j=>.int (i.fmod j)
noncomputable def Zrr:=i2c Ycj λi j=>.int (i^j.toNat)
noncomputable def gLt:=i2 λi j=>.bool (decide (i<j))
noncomputable def gLe:=i2 λi j=>.bool (decide (i≤j))
noncomputable def gGt:=i2 λi j=>.bool (decide (j<i))
noncomputable def gGe:=i2 λi j=>.bool (decide (j≤i))
theorem Zzr:ByS Js (Zyc λi j=>.int (i+j)):=Zsj
theorem Z8h:ByS gSb (Zyc λi j=>.int (i-j)):=Zsj
theorem Z3f:ByS Zhv (d2I MulOk λi j=>.int (i*j)):=Zok λi j h=>⟨Zgi.mp h⟩
theorem Z4b:ByS Y4 (d2I Yad λi j=>.int (i.fdiv j)):=Zok λi j h=>⟨by
 unfold Z4m at h
 rw[Xx]at h
 exact⟨of_decide_eq_true h.1,of_decide_eq_true h.2⟩⟩
theorem Z8v:ByS Jl (d2I (λ_ j=>j≠0) λi j=>.int (i.fmod j)):=Zok λi j h=>of_decide_eq_true h
theorem Z61:ByS Zrr (d2I Ya0 λi j=>.int (i^j.toNat)):=Zok λi j h=>⟨(of_decide_eq_true h:0≤j∧j≤1000000∧i.natAbs<2^64)⟩
theorem Z8p:ByS gLt (Zyc λi j=>.bool (decide (i<j))):=Zsj
theorem Z9p:ByS gGt (Zyc λi j=>.bool (decide (j<i))):=Zsj
theorem Ybi:ByS gGe (Zyc λi j=>.bool (decide (j≤i))):=Zsj
noncomputable def gEq:Xa->Xa->Option Xa:=λd e=>if(Bw d&&Bw e)=true then some (.bool (Qx d e))else none
noncomputable def gNe:Xa->Xa->Option Xa:=λd e=>if(Bw d&&Bw e)=true then some (.bool (!Qx d e))else none
theorem Z11:ByS gEq dEq:=λd e r k h hk=>by
 unfold gEq at h
 split at h
 ·rename_i q
  rw[Xx]at q
  cases h
  exact⟨⟨q.1⟩,⟨q.2⟩,hk⟩
 ·cases h
theorem Z6r:ByS gNe dNe:=λd e r k h hk=>by
 unfold gNe at h
 split at h
 ·rename_i q
  rw[Xx]at q
  cases h
  exact⟨⟨q.1⟩,⟨q.2⟩,hk⟩
 ·cases h
noncomputable def gIs:Xa->Xa->Option Xa:=λd e=>match e with| .none=>some (.bool (Zi9 d))|_=>none
noncomputable def Z2v:Xa->Xa->Option Xa:=λd e=>match e with| .none=>some (.bool (!Zi9 d))|_=>none
noncomputable def Z06(neg:Bool):Xa->Xa->Option Xa:=λd e=>match Zn3 e with
 | some ds=>if(scD d&&ds.all scD)=true then some (.bool (if neg then !memS d ds else memS d ds))else none
 | none=>none
theorem Z5n{neg:Bool}:ByS (Z06 neg) (dIn neg):=λd e r k h hk=>by
 unfold Z06 at h
 split at h
 case h_2=>cases h
 rename_i ds q
 split at h
 case isFalse=>cases h
 rename_i q2
 rw[Xx]at q2
 cases h
 refine⟨q2.1,?_⟩
 cases e<;>cases q
 ·exact⟨q2.2,hk⟩
 ·exact⟨q2.2,hk⟩
noncomputable def gIx:Xa->Xa->Option OT:=λd e=>(ixD d e).bind λx=>some (.fz x)
theorem Yb8:ByO gIx dIx:=λd e r k h hk=>by
 obtain⟨x,h1,h2⟩:=bs h
 cases h2
 unfold dIx
 rw[h1]
 exact hk
noncomputable def Ze5:Xa->Xa->Option OT:=λd e=>match d,e with| .list ds,.list es=>if ds.length+es.length≤Xo then some (.nd ((ds ++ es).map OT.fz))else none|_,_=>none
theorem Zc0:ByO Ze5 dCat:=λd e r k h hk=>by
 unfold Ze5 at h
 split at h
 ·split at h
  ·cases h;exact⟨‹_›,hk⟩
  ·cases h
 ·cases h
noncomputable def Za1:List Xa->Option Xa:=λds=>match ds with|[d]=>(Zvl d).bind λn=>some (.int n)|_=>none
theorem Zr0:∀ds r k,Za1 ds=some r->k r->Yaj ds k:=λds r k h hk=>by
 unfold Za1 at h
 split at h
 ·obtain⟨n,h1,h2⟩:=bs h
  cases h2
  show match Zvl _ with|some n=>_|none=>_
  rw[h1]
  exact hk
 ·cases h
noncomputable def Z1x:List Xa->Option Xa:=λds=>match ds with|[.int i]=>some (.int (if i<0 then -i else i))|_=>none
theorem Z1r:∀ds r k,Z1x ds=some r->k r->Z9a ds k:=λds r k h hk=>by
 unfold Z1x at h
 split at h
 ·cases h;exact hk
 ·cases h
noncomputable def Ybe:List Xa->Option Xa:=λds=>match ds with|[.int i,.int j]=>some (.int (if j>i then j else i))|_=>none
noncomputable def Ybc:List Xa->Option Xa:=λds=>match ds with|[.int i,.int j]=>some (.int (if j<i then j else i))|_=>none
noncomputable def Z9j:List Xa->Option Xa:=λds=>match ds with|[.int i]=>some (.int i)|[.bool b]=>some (.int (if b then 1 else 0))|_=>none
noncomputable def Zk5:List Xa->Option OT:=λds=>match ds with|[d]=>(Zn3 d).bind λes=>some (.nd (es.map OT.fz))|_=>none
theorem Zte:∀ds r k,Zk5 ds=some r->k r->Z4v ds k:=λds r k h hk=>by
 unfold Zk5 at h
 split at h
 ·obtain⟨n,h1,h2⟩:=bs h
  cases h2
  show match Zn3 _ with|some n=>_|none=>_
  rw[h1]
  exact hk
 ·cases h
noncomputable def Zgo:List Xa->Option (List Int)
 | []=>some []
 | .int i :: r=>(Zgo r).bind λl=>some (i :: l)
 | _ :: _=>none
theorem Zer:∀{ds:List Xa} {ns:List Int},Zgo ds=some ns->ds=ns.map Xj
 | [],_,h=>by cases h;rfl
 | .int i :: r,_,h=>by
  obtain⟨l,h1,h2⟩:=bs h
  cases h2
  rw[Zer h1];rfl
 | .none :: _,_,h=>by cases h
 | .bool _ :: _,_,h=>by cases h
 | .str _ :: _,_,h=>by cases h
 | .list _ :: _,_,h=>by cases h
 | .tuple _ :: _,_,h=>by cases h
 | .dict _ :: _,_,h=>by cases h
@[simp] theorem Zex:∀ns:List Int,Zgo (ns.map Xj)=some ns
 | []=>rfl
 | n :: ns=>by rw[XF,Zgo,Zex ns];rfl
section
variable {X:Cx}{io:List Nat}{p c:Bool}{e tg:Expr}{es:List Expr}{st:Stmt}{fa fb fc:FE}{ra:FA}{i:Nat}
noncomputable def Zxs(a:FA):FE:=λδ=>(a δ).bind λp=>match OT.datas p.1 with|[.int j]=>if rOk j=true∧j.toNat≤Xo then some (.nd ((Zch 0 j.toNat).map OT.fz),p.2)else none|_=>none
theorem Zxj(h:ME X io p c e (Z97 (o2 ra))):ME X io p c e (o2 (Zxs ra)):=h.weak λδ K h=>by
 obtain⟨r,δ',h,k⟩:=h
 obtain⟨⟨x,δ1⟩,h1,h⟩:=bs h
 refine⟨x,δ1,h1,?_⟩
 dsimp only at h
 split at h
 case h_2=>cases h
 rename_i q
 split at h
 case isFalse=>cases h
 rename_i b
 cases h
 (try rw[q])
 exact⟨⟨(Zck b.1).1,(Zck b.1).2,b.2⟩,k⟩
noncomputable def Zuu(a b:FE):FE:=λδ=>(a δ).bind λp=>(b p.2).bind λq=>match q.1.data with| .int k=>if rOk k=true∧k.toNat≤Xo then some (.nd (Xr k.toNat (.fz p.1.data)),p.2)else none|_=>none
theorem Zsp(h:ME X io p c e (Yam (o2 fa) (o2 fb))):ME X io p c e (o2 (Zuu fa fb)):=h.weak λδ K h=>by
 obtain⟨r,δ',h,k⟩:=h
 obtain⟨⟨x,δ1⟩,h1,h⟩:=bs h
 obtain⟨⟨y,δ2⟩,h2,h⟩:=bs h
 refine⟨x,δ1,h1,y,δ2,h2,?_⟩
 try dsimp only at h⊢
 split at h
 case h_2=>cases h
 rename_i q
 (try rw[q])
 split at h
 case isFalse=>cases h
 rename_i b
 cases h
 have z:=Zck b.1
 exact⟨⟨by omega,by omega,b.2⟩,k⟩
noncomputable def Zl1(a b:FE):FE:=λδ=>(a δ).bind λp=>match p.1.data with
 | .list es=>(Zgo es).bind λns=>if ns.length≤2^20 then(b p.2).bind λq=>match q.1.data with
  | .int k=>if k∈ns then some (.fz (.int (ns.idxOf k:Nat)),q.2)else none
  | _=>none else none
 | _=>none
theorem Zxa(h:ME X io p c e (Zyo (o2 fa) (o2 fb))):ME X io p c e (o2 (Zl1 fa fb)):=h.weak λδ K h=>by
 obtain⟨r,δ',h,k⟩:=h
 obtain⟨⟨x,δ1⟩,h1,h⟩:=bs h
 refine⟨x,δ1,h1,?_⟩
 try dsimp only at h⊢
 split at h
 case h_2=>cases h
 rename_i q
 obtain⟨ns,h2,h⟩:=bs h
 split at h
 case isFalse=>cases h
 obtain⟨⟨y,δ2⟩,h3,h⟩:=bs h
 refine⟨ns,by rw[q,Zer h2],‹_›,y,δ2,h3,?_⟩
 try dsimp only at h⊢
 split at h
 case h_2=>cases h
 rename_i q2
 (try rw[q2])
 split at h
 case isFalse=>cases h
 cases h
 exact⟨‹_›,k⟩
noncomputable def Z3v(i:Nat)(a:FE):FE:=λδ=>match δ[i]? with
 | some (some (.nd _))=>(a δ).bind λp=>match p.2[i]? with
  | some (some (.nd ts))=>match p.1.data with
   | .int j=>match ixN ts.length j with
    | some k=>match ts[k]? with
     | some (.fz d)=>if ts.length≤Xo then some (.fz d,p.2.set i (some (.nd (ts.eraseIdx k))))else none
     | _=>none
    | none=>none
   | _=>none
  | _=>none
 | _=>none
theorem Z45(h:ME X io p c e (Z6e i (o2 fa))):ME X io p c e (o2 (Z3v i fa)):=h.weak λδ K h=>by
 obtain⟨r,δ',h,k⟩:=h
 unfold Z3v at h;unfold Z6e
 split at h
 case h_2=>cases h
 rename_i q;(try rw[q])
 obtain⟨⟨x,δ1⟩,h1,h⟩:=bs h
 refine⟨x,δ1,h1,?_⟩
 try dsimp only at h⊢
 split at h
 case h_2=>cases h
 rename_i q2;(try rw[q2])
 try dsimp only
 split at h
 case h_2=>cases h
 rename_i j q3;(try rw[q3])
 show match ixN _ j with|some k=>_|none=>_
 split at h
 case h_2=>cases h
 rename_i q4;(try rw[q4]);(try dsimp only)
 split at h
 case h_2=>cases h
 rename_i q5;(try rw[q5])
 split at h
 case isFalse=>cases h
 cases h
 exact⟨‹_›,k⟩
noncomputable def Zh7:Xa->Option Str| .dict [(.str x,.none)]=>some x|_=>none
theorem Zlb{d:Xa}{x:Str}(h:Zh7 d=some x):d=exD x:=by
 unfold Zh7 at h
 split at h
 ·cases h;rfl
 ·cases h
noncomputable def Zue(xs:List Str)(D:Str)(a:FE):FE:=λδ=>(a δ).bind λp=>(Zh7 p.1.data).bind λx=>if xs.contains x=true then some (.fz (.bool (Zpj x D)),p.2)else none
noncomputable def Zpb(xs Ds:List Str)(a:FE):FE:=λδ=>(a δ).bind λp=>(Zh7 p.1.data).bind λx=>if xs.contains x=true then some (.fz (.bool (Ds.any (Zpj x))),p.2)else none
theorem Zrt{xs:List Str}{D:Str}{cv:Xe}(hk:∀x∈xs,∃C,VR X.K x C∧Qm X.K (.ref C) cv=some (Zpj x D))(h:ME X io p c e (Z4e X.K cv (o2 fa))):ME X io p c e (o2 (Zue xs D fa)):=h.weak λδ K h=>by
 obtain⟨r,δ',h,k⟩:=h
 obtain⟨⟨x,δ1⟩,h1,h⟩:=bs h
 obtain⟨n,h2,h⟩:=bs h
 split at h
 case isFalse=>cases h
 rename_i q
 cases h
 obtain⟨C,k1,k2⟩:=hk n (by simpa using q)
 exact⟨x,δ1,h1,n,C,_,Zlb h2,k1,k2,k⟩
theorem Zvf{xs Ds:List Str}{cs:List Xe}(hk:∀x∈xs,∃C,VR X.K x C∧Bx X.K (.ref C) cs=some (Ds.any (Zpj x)))(h:ME X io p c e (Zx6 X.K cs (o2 fa))):ME X io p c e (o2 (Zpb xs Ds fa)):=h.weak λδ K h=>by
 obtain⟨r,δ',h,k⟩:=h
 obtain⟨⟨x,δ1⟩,h1,h⟩:=bs h
 obtain⟨n,h2,h⟩:=bs h
 split at h
 case isFalse=>cases h
 rename_i q
 cases h
 obtain⟨C,k1,k2⟩:=hk n (by simpa using q)
 exact⟨x,δ1,h1,n,C,_,Zlb h2,k1,k2,k⟩
end
variable {G:Xb}
section
variable {X:Cx}{io:List Nat}{p c:Bool}{e a b:Expr}{es:List Expr}{m ma mb:MEt}{mr:MAt}{pos apos cpos px py pt sp kp:Pos}{i j:Nat}{x y:Str}{fa fb:FE}{ra:FA}{st:Stmt}
noncomputable def Z5x(m:MAt):MEt:=λδ K=>m δ λrs δ'=>rs.length≤Xo∧K (.tp rs) δ'
theorem Zph{x1}(h:MA X io p c es mr):ME X io p c (.Tuple es x1 pos) (Z5x mr):=by
 obtain⟨tA,A,sa⟩:=h
 refine⟨_,Zox A,λC H σ δ fp ex K Q R h k=>?_⟩
 refine sa C H σ δ fp ex _ _ R h λH1 vs rs δ1 fp1 new1 r1 h1=>⟨by rw[r1.own.length];exact h1.1,λq hq=>?_⟩
 have s:=Z3 hq (.tup vs)
 have S:=r1.stp.trans (p':=true) (Stp.same (p:=true) (δ:=δ1) (fp:=fp1) s s.al)
 rw[Va]at S
 exact k _ _ _ δ1 fp1 new1 ⟨(r1.rel.made (new:=[]) s λa m=>nomatch m).drop λa z=>.inl z,S,.tp Zv (r1.own.same s),r1.nd,r1.fresh⟩ h1.2
noncomputable def Zfy(a:FA):FE:=λδ=>(a δ).bind λp=>if p.1.length≤Xo then some (.tp p.1,p.2)else none
theorem Zkc(h:ME X io p c e (Z5x (o2 ra))):ME X io p c e (o2 (Zfy ra)):=h.weak λδ K h=>by
 obtain⟨r,δ',h,k⟩:=h
 obtain⟨⟨x,δ1⟩,h1,h⟩:=bs h
 refine⟨x,δ1,h1,?_⟩
 dsimp only at h
 split at h
 ·rename_i q;cases h;exact⟨q,k⟩
 ·cases h
noncomputable def Zo1(i c:Nat)(m:MEt):MSt:=λD δ=>match δ[i]? with
 | some (some (.tp ts))=>match ts[c]? with
  | some (.nd us)=>m δ λr _=>us.length<Xo∧D.nx (δ.set i (some (.tp (ts.set c (.nd (us ++ [.fz r.data]))))))
  | _=>False
 | _=>False
theorem Zvi(i c:Nat){kk:Nat}(he:ME X io true true e m)(hN:X.N[i]? =some x:=by rfl)(hv:Vis X.env.scope x:=by first|exact Qj rfl|exact X8 (Qj rfl)|exact X8 (X8 rfl))(hd:(x==("__debug__" : Str))=false:=by decide)
  (hcd:(x==("__classdict__" : Str))=false:=by decide)
  (hbase:Br (.Subscript (.Name x px) (.Constant (.int c) kk kp) sp) "append" X.env (eval (.Subscript (.Name x px) (.Constant (.int c) kk kp) sp) X.env)=eval (.Subscript (.Name x px) (.Constant (.int c) kk kp) sp) X.env:=by rfl)
  (hfew:((QW cpos (Xk [e] X.env)).all (λx=>!x.1)&&(V7 cpos (Vb [] X.env)).all (λx=>x.1.isSome)
   &&decide ([e].length+([]:List Bp).length+(if([]:List Bp).isEmpty then 0 else 1)<30))=true:=by rfl)
  (hline:(apos.endLine==cpos.line)=true:=by rfl) (hs:Xk [e] X.env=(false,eval e X.env) :: Xk [] X.env:=by rfl) (hplain:(QW cpos (Xk [] X.env)).any (·.1)=false:=by rfl)
  (hsw:Bs (.Call (.Attribute (.Subscript (.Name x px) (.Constant (.int c) kk kp) sp) "append" apos) [e] [] cpos) none pos.line X.env=pure false:=by rfl) :
  MS X io (.Expr (.Call (.Attribute (.Subscript (.Name x px) (.Constant (.int c) kk kp) sp) "append" apos) [e] [] cpos) pos) (Zo1 i c m):=by
 obtain⟨_,A,s⟩:=he
 refine⟨_,Zfn (Zm7 JD Vm Vl Zc1 (Zv4 (Zmz rfl) (pv i hN hv hd hcd) Zoj (λ_ _=>rfl)) (Ye A J8 hs) hbase hfew hline hs hplain) hsw,λC H σ δ fp ex D D' R h E=>?_⟩
 unfold Zo1 at h
 split at h
 case h_2=>exact h.elim
 rename_i ts hi
 split at h
 case h_2=>exact h.elim
 rename_i us hus
 obtain⟨v0,hv0,ow⟩:=R.own i _ hi
 generalize hfi:fp i=as at ow
 cases ow with
 | tp hx o=>
  rename_i a' xs
  obtain⟨xr,cr,hxr,orow,hsub⟩:=o.get hus
  cases orow with
  | nd hb r0=>
   rename_i b' ws bs4
   refine⟨_,hv0,.inr (.inl ⟨a',xs,c,V.ref b',rfl,rfl,.inl (.inl hx),?_,?_⟩)⟩
   ·unfold atI ixN
    have hc:c<xs.length:=(Xn.mp hxr).1
    rw[if_pos (by omega),if_pos (by omega)]
    simpa using hxr
   refine⟨.inl ⟨rfl,ws,.inl (.inl hb)⟩,?_⟩
   refine s.pureAfter R h λH1 v r R1 s1 q h1=>?_
   have hbm:b'∈fp i:=by rw[hfi];exact hsub.subset (.head _)
   have hLb:¬Lf C fp ex b':=λl=>l.1 ⟨i,hbm⟩
   have q':=q.wide (L':=Lf C fp ex) λa l _=>l rfl
   have o1:Owns X.K H1 (Lf C fp ex) xs ts as:=o.same s1
   have nd1:as.Nodup:=hfi▸R.nd i
   obtain⟨as',oo,ss,_⟩:=Owns.deep (ws':=ws ++ [v]) (us':=us ++ [.fz r.data]) (s1 _ _ hb) hLb (λcs hcs=>⟨cs,by have:=hcs.snoc (.fz q');simpa using this,Vn _⟩) o1 nd1 hxr hus
   refine⟨b',ws,v,rfl,rfl,s1 _ _ hb,by rw[r0.length];exact h1.1,?_⟩
   have sub:∀a,a∈as'->a∈fp i:=λa m=>by rw[hfi];exact ss.subset m
   have kpp:∀b o,H1 b=some o->b≠b'->upd H1 b' (.lst (ws ++ [v])) b=some o:=λb o e n=>by rw[Zr n];exact e
   have lw:∀a,Lf C fp ex a->upd H1 b' (.lst (ws ++ [v])) a≠none->Lf C (fpu fp i as') (exu ex []) a:=λa l _=>⟨λz=>by
    rcases z.of_u with z|⟨j,_,z⟩
    ·exact l.1 ⟨i,sub a z⟩
    ·exact l.1 ⟨j,z⟩,λz=>l.2.1 (Zbd.mp z),l.2.2⟩
   have hab:a'≠b':=λz=>by rw[z,hb]at hx;cases hx
   obtain⟨R4,S4⟩:=R1.change (new:=[]) (as':=as') (t':=.tp (ts.set c (.nd (us ++ [.fz r.data])))) (H':=upd H1 b' (.lst (ws ++ [v]))) hi hv0 (λb o e nb=>kpp b o e λz=>nb (by rw[z];exact hbm)) (λb e=>by
    by_cases q:b=b'
    ·subst q;rw[Zv]at e;cases e
    ·rwa[Zr q]at e) (.tp (by rw[Zr hab];exact s1 _ _ hx) (oo.wide lw)) (nd1.sublist ss) (λa m=>.inl (sub a m)) (λa m=>nomatch m)
   have k1:Kp H fp H1 fp:=⟨λb o e _=>s1 _ _ e,λz=>(nomatch z),λa z=>.inl z,s1.al⟩
   exact E.nx _ σ _ _ (R4.drop λa z=>.inl z) (k1.trans S4.kp) h1.2
noncomputable def Zis(i c:Nat)(e:FE):FS:=λδ=>match δ[i]? with
 | some (some (.tp ts))=>match ts[c]? with
  | some (.nd us)=>wE e (λr _=>if us.length<Xo then .nx (δ.set i (some (.tp (ts.set c (.nd (us ++ [.fz r.data]))))))else .bad) δ
  | _=>.bad
 | _=>.bad
theorem Zv8{c:Nat}(h:MS X io st (Zo1 i c (o2 fa))):MS X io st (oS (Zis i c fa)):=h.weak λD δ h=>by
 unfold oS Zis at h;unfold Zo1
 split at h
 case h_2=>exact h.elim
 rename_i q;(try rw[q]);(try dsimp only)
 split at h
 case h_2=>exact h.elim
 rename_i q2;(try rw[q2]);(try dsimp only)
 exact(Zmn h).imp λr δ' z=>Zbq z
noncomputable def Z91(i j:Nat)(a:FA):FS:=λδ=>match a δ with
 | some (rs,δ1)=>match OT.datas rs with
  | [d,e]=>.nx ((δ1.set i (some (.fz d))).set j (some (.fz e)))
  | _=>.bad
 | none=>.bad
end
class NoStar (e:Expr):Prop where
 h:∀es env,Xk (e :: es) env=(false,eval e env) :: Xk es env
instance nx_Name{x:Str}{p:Pos}:NoStar (.Name x p):=⟨λ_ _=>rfl⟩
instance nx_Constant{x k}{p:Pos}:NoStar (.Constant x k p):=⟨λ_ _=>rfl⟩
instance nx_BinOp{a o b}{p:Pos}:NoStar (.BinOp a o b p):=⟨λ_ _=>rfl⟩
instance nx_UnaryOp{o a}{p:Pos}:NoStar (.UnaryOp o a p):=⟨λ_ _=>rfl⟩
instance nx_Call{f a k}{p:Pos}:NoStar (.Call f a k p):=⟨λ_ _=>rfl⟩
instance nx_List{a}{p:Pos}:NoStar (.List a p):=⟨λ_ _=>rfl⟩
instance nx_Tuple{a k}{p:Pos}:NoStar (.Tuple a k p):=⟨λ_ _=>rfl⟩
instance nx_Subscript{a b}{p:Pos}:NoStar (.Subscript a b p):=⟨λ_ _=>rfl⟩
instance nx_ListComp{a b s}{p:Pos}:NoStar (.ListComp a b s p):=⟨λ_ _=>rfl⟩
theorem Zd{X:Cx}{io:List Nat}{p p' c c' p2 c2:Bool}{e:Expr}{es:List Expr}{fa:FE}{ra:FA}[NoStar e](ha:ME X io p c e (o2 fa))(hr:MA X io p' c' es (o2 ra))(hc:p'=true∨c=true:=by first|exact Qj rfl|exact X8 rfl)(h2:(p&&p')=p2:=by rfl)(h3:(c&&c')=c2:=by rfl):MA X io p2 c2 (e :: es) (o2 (Zc fa ra)) :=
 h2▸h3▸Z0x (Z1q ha hr hc (NoStar.h es X.env))
theorem Zci{X:Cx}{io:List Nat}{p p' c c':Bool}{e:Expr}{m:MEt}(h:ME X io p c e m)(h2:p=p':=by rfl)(h3:c=c':=by rfl):ME X io p' c' e m:=h2▸h3▸h
theorem Zyy{P:X6}{w:Qu}{K:Xb}{mg:Str->Option Xe}{base:Heap}{CX:CXT}{k:Nat}{f:Addr}{fd:XC}{ps:List Str}{S:List Xa->(OT->Prop)->Prop}(h:∀ds k,¬S ds k):FnOk P w K mg base CX k f fd ps (spD K S):=by
 have h':∀{vs H Q E},spD K S vs H Q E->False:=λq=>by
  obtain⟨_,ds,k,_,z,_⟩:=q
  exact h ds k z
 exact⟨λvs H Q E q=>(h' q).elim,λA outer s H args us vs Q E _ _ _ _ q=>(h' q).elim⟩
variable {G:Xb}
section
variable {X:Cx}{io:List Nat}{p c:Bool}{e a b:Expr}{es:List Expr}{m ma mb:MEt}{mr:MAt}{pos apos cpos px py pt sp kp:Pos}{i j:Nat}{x y:Str}{fa fb:FE}{ra:FA}{st:Stmt}{u:FS}
noncomputable def insI(x:Int):List Int->List Int
 | []=>[x]
 | y :: ys=>if x≤y then x :: y :: ys else y :: insI x ys
noncomputable def Jx:List Int->List Int
 | []=>[]
 | x :: xs=>insI x (Jx xs)
theorem insI_perm(x:Int):∀l,(insI x l).Perm (x :: l)
 | []=>.refl _
 | y :: ys=>by
  unfold insI
  split
  ·exact .refl _
  ·exact((insI_perm x ys).cons y).trans (.swap x y ys)
theorem W9:∀l,(Jx l).Perm l
 | []=>.refl _
 | x :: xs=>(insI_perm x _).trans ((W9 xs).cons x)
theorem Zg0(x:Int):∀{l},l.Pairwise (·≤·)->(insI x l).Pairwise (·≤·)
 | [],_=>.cons (λ_ m=>nomatch m) .nil
 | y :: ys,h=>by
  unfold insI
  cases h with
  | cons h1 h2=>
   split
   ·rename_i c
    refine .cons (λz m=>?_) (.cons h1 h2)
    rcases Xl.mp m with rfl|m
    ·exact c
    ·exact Int.le_trans c (h1 z m)
   ·rename_i c
    refine .cons (λz m=>?_) (Zg0 x h2)
    rcases Xl.mp ((insI_perm x ys).mem_iff.mp m)with rfl|m
    ·omega
    ·exact h1 z m
theorem Zcy:∀l,(Jx l).Pairwise (·≤·)
 | []=>.nil
 | x :: xs=>Zg0 x (Zcy xs)
theorem Zbt:∀{l₁ l₂:List Int},l₁.Perm l₂->l₁.Pairwise (·≤·)->l₂.Pairwise (·≤·)->l₁=l₂
 | [],l₂,h,_,_=>h.nil_eq
 | a :: l₁,[],h,_,_=>h.eq_nil
 | a :: l₁,b :: l₂,h,h1,h2=>by
  cases h1 with
  | cons p1 q1=>
   cases h2 with
   | cons p2 q2=>
    have e:a=b:=by
     have m1:a∈b :: l₂:=h.mem_iff.mp (.head _)
     have m2:b∈a :: l₁:=h.mem_iff.mpr (.head _)
     rcases Xl.mp m1 with e|m1
     ·exact e
     ·rcases Xl.mp m2 with e|m2
      ·exact e.symm
      ·have:=p2 a m1
       have:=p1 b m2
       omega
    subst e
    rw[Zbt h.cons_inv q1 q2]
noncomputable def Zyg(K:Xb):List V->Hp->VK->Prop:=λxs H Q=>∃(a:Addr) (ns:List Int),xs=[.ref a]∧SqL K H a (ns.map V.int)∧ns.length<64∧∀l,H l=none->Q (.ref l) (upd H l (.lst ((Jx ns).map V.int)))
theorem Z4j:∀{its:List Xe} {ns:List Int},Bl its ns->Vals (ns.map V.int) its
 | [],_,h=>by cases h;exact .nil
 | v :: its,_,h=>by
  cases h with
  | cons n t h=>exact .cons ⟨_,rfl⟩ (Z4j h)
theorem Zfe{K:Xb}(hK:X.K=K):Zcq X (.builtin "sorted") (Zyg K):=by
 subst hK
 intro pins s σ H xs us Q I r h
 obtain⟨l,ns,rfl,hs,h64,q⟩:=h
 obtain⟨u,rfl,ru⟩:=vals1 r
 cases(show u=QB l from ru)
 obtain⟨its,rv,pl,hz⟩:=I.list hs
 have hl:=rv.length
 rw[Xi]at hl
 refine sorted_ints pl.isList (Zj2 rv) (by omega) λout ns' a1 a2 a3=>?_
 obtain⟨e,he⟩:=sortedAll_at s.heap its out
 have en:ns'=Jx ns:=Zbt (a2.trans (W9 ns).symm) a3 (Zcy ns)
 subst en
 refine⟨.ref (s.heap.objs.size+1),_,I.laid (t':=s.toks) (o:=.lst ((Jx ns).map V.int)) (λb ob q=>sortedAll_old q) (by omega) ⟨?_,out.toList,e,Z4j a1,he⟩,rfl,q _ (I.hok.fresh (by omega))⟩
 rw[Xi,(W9 ns).length_eq,X5];omega
noncomputable def Zxc:List Xa->(OT->Prop)->Prop:=λds k=>n1 (λd=>∃ns:List Int,d= .list (ns.map Xj)∧ns.length<64∧k (.nd (((Jx ns).map Xj).map OT.fz))) ds
theorem Zkg:PN G (Zyg G) Zxc:=λH L xs ds k Q hx h kk=>by
 obtain⟨v,d,rfl,rfl,q,ns,e,h64,h⟩:=hx.one h
 have fin:∀(p:Addr),H p=none->Q (.ref p) (upd H p (.lst ((Jx ns).map V.int))):=λp hp=>kk _ _ _ [p] (Z3 hp _) (Own.list hp (Das.ints _)) (Zdw p) (Za5 hp) h
 subst e
 generalize ed:Qy (ns.map Xj)=d at q
 cases q with
 | lst l e r=>
  cases ed
  exact⟨_,ns,rfl,by rw[r.int_inv]at e;exact .inl e,h64,fin⟩
 | scr ks=>
  injection ed with ed
  have:ns=_:=Ub (λx y z=>by injection z)|>.mp ed
  subst this
  exact⟨_,_,rfl,ks.sq,h64,fin⟩
 | _=>cases ed
noncomputable def Zez:List Xa->Option OT:=λds=>match ds with|[.list es]=>(Zgo es).bind λns=>if ns.length<64 then some (.nd (((Jx ns).map Xj).map OT.fz))else none|_=>none
theorem Znb:∀ds r k,Zez ds=some r->k r->Zxc ds k:=λds r k h hk=>by
 unfold Zez at h
 split at h
 case h_2=>cases h
 obtain⟨ns,h1,h⟩:=bs h
 split at h
 case isFalse=>cases h
 rename_i h2
 cases h
 exact⟨ns,by rw[Zer h1],h2,hk⟩
end
structure Gives(P:X6)(w:Qu)(it:Addr)(f:List Addr)(St:Heap->Prop)(x:Xe)(St':Heap->Prop):Prop where
 mem:it∈f
 run:∀{A:Qo} {E:Xe->Xf->Prop} {s:Xf} {Q:Xe->Xf->Prop},St s.heap->(∀h',St' h'->Vk it s.heap h'->Q x { s with heap:=h' })->XR (Qa P w) A (QL (.ref it)) Q E s
 keep:∀h h',(∀c∈f,∀o,h.get? c=some o->h'.get? c=some o)->St h->St h'
 keep':∀h h',(∀c∈f,∀o,h.get? c=some o->h'.get? c=some o)->St' h->St' h'
structure Zid(P:X6)(w:Qu)(it:Addr)(f:List Addr)(St:Heap->Prop):Prop where
 mem:it∈f
 run:∀{A:Qo} {E:Xe->Xf->Prop} {s:Xf} {Q:Xe->Xf->Prop},A.handled=none->St s.heap->(∀h' e,Heap.ExtBut it s.heap h'->(∃o,h'.get? e=some o∧o.cls= .type "StopIteration")->E (.ref e) { s with heap:=h' })->XR (Qa P w) A (QL (.ref it)) Q E s
 keep:∀h h',(∀c∈f,∀o,h.get? c=some o->h'.get? c=some o)->St h->St h'
structure ZA(z TI TO i1 i2:Addr)(f1 f2:List Addr):Prop where
 TIz:TI≠z
 TOz:TO≠z
 a1:∀c∈f1,c≠z∧c≠TO∧c≠i2
 a2:∀c∈f2,c≠z∧c≠TO∧c≠i1
section
variable {P:X6}{w:Qu}{A:Qo}{E:Xe->Xf->Prop}{s:Xf}
theorem Zjs{T:Addr}{a b x:Xe}{k:Nat}{Q:Unit->Xf->Prop}(hT:Bq s.heap T a b)(h:∀h',h'.get? T=some { cls:=.type "tuple",data:=.seq ((#[a,b]:Array Xe).setIfInBounds k x) }->Vk T s.heap h'->Q () { s with heap:=h' }) :
  XR (Qa P w) A (updateSeq T (·.setIfInBounds k x)) Q E s:=wpAny_updateSeq_pair hT h
theorem Zsb{z TI TO i1 i2:Addr}{f1 f2:List Addr}{S1 T1 S2 T2:Heap->Prop}{x y a b:Xe}{Q:Xe->Xf->Prop}(D:ZA z TI TO i1 i2 f1 f2)(G1:Gives P w i1 f1 S1 x T1)(G2:Gives P w i2 f2 S2 y T2)
  (hz:UT s.heap z TI TO .none) (hTI:Bq s.heap TI (.ref i1) (.ref i2)) (hTO:Bq s.heap TO a b) (h1:S1 s.heap) (h2:S2 s.heap)
  (hQ:∀h',UT h' z TI TO (U9 s.heap.objs.size)->Bq h' TO x y->T1 h'->T2 h'->Bq h' s.heap.objs.size x y ->
   (∀ c o,c∉[z,TO,i1,i2]->s.heap.get? c=some o->h'.get? c=some o)->Q (.ref s.heap.objs.size) { s with heap:=h' }) :
  XR (Qa P w) A (U6.«zip.__next__» ⟨[.ref z],[]⟩) (λfin s'=>∃v,fin= .done (.ret v)∧Q v s') E s:=by
 obtain⟨i1z,i1O,i12⟩:=D.a1 i1 G1.mem
 obtain⟨i2z,i2O,i21⟩:=D.a2 i2 G2.mem
 have r1:z∉f1∧TO∉f1∧i2∉f1:=⟨λm=>(D.a1 z m).1 rfl,λm=>(D.a1 TO m).2.1 rfl,λm=>(D.a1 i2 m).2.2 rfl⟩
 have r2:z∉f2∧TO∉f2∧i1∉f2:=⟨λm=>(D.a2 z m).1 rfl,λm=>(D.a2 TO m).2.1 rfl,λm=>(D.a2 i1 m).2.2 rfl⟩
 have st:∀{b:Addr} {h h':Heap} {f:List Addr},Vk b h h'->b∉f->∀c∈f,∀o,h.get? c=some o->h'.get? c=some o:=λsb hb c hc o e=>sb.extBut _ _ (λq=>hb (q▸hc)) e
 show XR _ _ (field (.ref z) 2>>=_) _ _ _
 refine Xg (JL hz rfl (x:=.bool false) rfl ?_)
 show XR _ _ (field (.ref z) 3>>=_) _ _ _
 refine Xg (JL hz rfl (x:=.ref TI) rfl (Xg (BX hTI rfl ?_)))
 show XR _ _ (Ba (.ref z)>>=_) _ _ _
 refine Xg ?_
 unfold Ba
 refine Xg (JL hz rfl (x:=.none) rfl (Qe ?_))
 simp only[if_true]
 refine Xg (wpAny_rule (Xg (JL hz rfl (x:=.ref TO) rfl (Xg (Vc hz (by simp) λh3 z3 b3=>?_)))))
 replace z3:UT h3 z TI TO .ellipsis:=z3
 refine Xg ?_
 simp only[List.zipIdx_cons,List.zipIdx_nil,List.forIn_cons,Uc]
 refine Xg (Xg (wpAny_onRaise ?_))
 show XR _ _ (QL (.ref i1)>>=_) _ _ _
 refine Xg (G1.run (s:={ s with heap:=h3 }) (G1.keep _ _ (st b3 r1.1) h1) λh4 k4 b4=>Qe ?_)
 have o4:Bq h4 TO a b:=b4.extBut _ _ i1O.symm (b3.extBut _ _ D.TOz hTO)
 refine Xg (BX o4 rfl (Xg (Zjs (s:={ s with heap:=h4 }) o4 λh5 o5 b5=>Xg (wpAny_letGo (Qe ?_)))))
 replace o5:Bq h5 TO x b:=o5
 refine Xg (Xg (wpAny_onRaise ?_))
 show XR _ _ (QL (.ref i2)>>=_) _ _ _
 refine Xg (G2.run (s:={ s with heap:=h5 }) (G2.keep _ _ (st b5 r2.2.1) (G2.keep _ _ (st b4 r2.2.2) (G2.keep _ _ (st b3 r2.1) h2))) λh6 k6 b6=>Qe ?_)
 have o6:Bq h6 TO x b:=b6.extBut _ _ i2O.symm o5
 refine Xg (BX o6 rfl (Xg (Zjs (s:={ s with heap:=h6 }) o6 λh7 o7 b7=>Xg (wpAny_letGo (Qe (Qe ?_))))))
 replace o7:Bq h7 TO x y:=o7
 refine Xg (BX o7 rfl (Xg (wpAny_newTuple ?_)))
 have sz:h7.objs.size=s.heap.objs.size:=by rw[b7.1,b6.1,b5.1,b4.1,b3.1]
 have z7:UT h7 z TI TO .ellipsis:=b7.extBut _ _ D.TOz.symm (b6.extBut _ _ i2z.symm (b5.extBut _ _ D.TOz.symm (b4.extBut _ _ i1z.symm z3)))
 have t1:T1 h7:=G1.keep' _ _ (st b7 r1.2.1) (G1.keep' _ _ (st b6 r1.2.2) (G1.keep' _ _ (st b5 r1.2.1) k4))
 have t2:T2 h7:=G2.keep' _ _ (st b7 r2.2.1) k6
 have old:∀c o,c∉[z,TO,i1,i2]->s.heap.get? c=some o->h7.get? c=some o:=λc o n e=>by
  simp only[Xl,JF,or_false,not_or]at n
  exact b7.extBut _ _ n.2.1 (b6.extBut _ _ n.2.2.2 (b5.extBut _ _ n.2.1 (b4.extBut _ _ n.2.2.1 (b3.extBut _ _ n.1 e))))
 show XR _ _ (Ue (.ref z) (.ref h7.objs.size)>>=_) _ _ _
 refine Xg ?_
 unfold Ue
 have zp:UT (h7.push { cls:=.type "tuple",data:=.seq #[x,y] }) z TI TO .ellipsis:=Xm _ z7
 refine Xg (Vc zp (by simp) λh8 z8 b8=>?_)
 replace z8:UT h8 z TI TO (U9 h7.objs.size):=z8
 refine Vc z8 (by simp) λh9 z9 b9=>?_
 replace z9:UT h9 z TI TO (U9 h7.objs.size):=z9
 have up:∀c o,c≠z->h7.get? c=some o->h9.get? c=some o:=λc o n e=>b9.extBut _ _ n (b8.extBut _ _ n (Xm _ e))
 have nz:h7.objs.size≠z:=XM (XD z7)
 have p9:Bq h9 h7.objs.size x y:=b9.extBut _ _ nz (b8.extBut _ _ nz (Qc _ rfl))
 refine Qe ⟨_,rfl,?_⟩
 show Q (.ref h7.objs.size) _
 rw[sz]at z9 p9⊢
 exact hQ h9 z9 (up _ _ D.TOz o7) (G1.keep' _ _ (λc hc o e=>up c o (λq=>r1.1 (q▸hc)) e) t1) (G2.keep' _ _ (λc hc o e=>up c o (λq=>r2.1 (q▸hc)) e) t2) p9 λc o n e=>up c o (λq=>n (by simp[q])) (old c o n e)
theorem Zvj{z TI TO i1 i2:Addr}{f1 f2:List Addr}{S1 T1 S2:Heap->Prop}{a b:Xe}{Q:Fin->Xf->Prop}(hh:A.handled=none)(D:ZA z TI TO i1 i2 f1 f2)(g1:Zid P w i1 f1 S1∨(∃x,Gives P w i1 f1 S1 x T1)∧Zid P w i2 f2 S2)
  (hz:UT s.heap z TI TO .none) (hTI:Bq s.heap TI (.ref i1) (.ref i2)) (hTO:Bq s.heap TO a b) (h1:S1 s.heap) (h2:S2 s.heap)
  (hE:∀h' e,(∀c o,c∉[z,TO,i1,i2]->s.heap.get? c=some o->h'.get? c=some o)->(∃o,h'.get? e=some o∧o.cls= .type "StopIteration")->E (.ref e) { s with heap:=h' }) :
  XR (Qa P w) A (U6.«zip.__next__» ⟨[.ref z],[]⟩) Q E s:=by
 have r1:z∉f1∧TO∉f1∧i2∉f1:=⟨λm=>(D.a1 z m).1 rfl,λm=>(D.a1 TO m).2.1 rfl,λm=>(D.a1 i2 m).2.2 rfl⟩
 have r2:z∉f2∧TO∉f2∧i1∉f2:=⟨λm=>(D.a2 z m).1 rfl,λm=>(D.a2 TO m).2.1 rfl,λm=>(D.a2 i1 m).2.2 rfl⟩
 have st:∀{b:Addr} {h h':Heap} {f:List Addr},Vk b h h'->b∉f->∀c∈f,∀o,h.get? c=some o->h'.get? c=some o:=λsb hb c hc o e=>sb.extBut _ _ (λq=>hb (q▸hc)) e
 show XR _ _ (field (.ref z) 2>>=_) _ _ _
 refine Xg (JL hz rfl (x:=.bool false) rfl ?_)
 show XR _ _ (field (.ref z) 3>>=_) _ _ _
 refine Xg (JL hz rfl (x:=.ref TI) rfl (Xg (BX hTI rfl ?_)))
 show XR _ _ (Ba (.ref z)>>=_) _ _ _
 refine Xg ?_
 unfold Ba
 refine Xg (JL hz rfl (x:=.none) rfl (Qe ?_))
 simp only[if_true]
 refine Xg (wpAny_rule (Xg (JL hz rfl (x:=.ref TO) rfl (Xg (Vc hz (by simp) λh3 z3 b3=>?_)))))
 replace z3:UT h3 z TI TO .ellipsis:=z3
 refine Xg ?_
 simp only[List.zipIdx_cons,List.zipIdx_nil,List.forIn_cons,Uc]
 refine Xg (Xg (wpAny_onRaise ?_))
 show XR _ _ (QL (.ref i1)>>=_) _ _ _
 rcases g1 with G1|⟨⟨x,G1⟩,G2⟩
 ·obtain⟨i1z,i1O,i12⟩:=D.a1 i1 G1.mem
  refine Xg (G1.run (s:={ s with heap:=h3 }) hh (G1.keep _ _ (st b3 r1.1) h1) λh4 e b4 he=>?_)
  obtain⟨oe,hoe,hce⟩:=he
  have z4:UT h4 z TI TO .ellipsis:=b4 _ _ i1z.symm z3
  have ez:e≠z:=λq=>by subst q;rw[z4]at hoe;cases hoe;simp at hce
  refine Vc z4 (by simp) λh5 _ b5=>hE h5 e (λc o n q=>?_) ⟨oe,b5.extBut _ _ ez hoe,hce⟩
  simp only[Xl,JF,or_false,not_or]at n
  exact b5.extBut _ _ n.1 (b4 _ _ n.2.2.1 (b3.extBut _ _ n.1 q))
 ·obtain⟨i1z,i1O,i12⟩:=D.a1 i1 G1.mem
  obtain⟨i2z,i2O,i21⟩:=D.a2 i2 G2.mem
  refine Xg (G1.run (s:={ s with heap:=h3 }) (G1.keep _ _ (st b3 r1.1) h1) λh4 k4 b4=>Qe ?_)
  have o4:Bq h4 TO a b:=b4.extBut _ _ i1O.symm (b3.extBut _ _ D.TOz hTO)
  refine Xg (BX o4 rfl (Xg (Zjs (s:={ s with heap:=h4 }) o4 λh5 o5 b5=>Xg (wpAny_letGo (Qe ?_)))))
  refine Xg (Xg (wpAny_onRaise ?_))
  show XR _ _ (QL (.ref i2)>>=_) _ _ _
  refine Xg (G2.run (s:={ s with heap:=h5 }) hh (G2.keep _ _ (st b5 r2.2.1) (G2.keep _ _ (st b4 r2.2.2) (G2.keep _ _ (st b3 r2.1) h2))) λh6 e b6 he=>?_)
  obtain⟨oe,hoe,hce⟩:=he
  have z6:UT h6 z TI TO .ellipsis:=b6 _ _ i2z.symm (b5.extBut _ _ D.TOz.symm (b4.extBut _ _ i1z.symm z3))
  have ez:e≠z:=λq=>by subst q;rw[z6]at hoe;cases hoe;simp at hce
  refine Vc z6 (by simp) λh7 _ b7=>hE h7 e (λc o n q=>?_) ⟨oe,b7.extBut _ _ ez hoe,hce⟩
  simp only[Xl,JF,or_false,not_or]at n
  exact b7.extBut _ _ n.1 (b6 _ _ n.2.2.2 (b5.extBut _ _ n.2.1 (b4.extBut _ _ n.2.2.1 (b3.extBut _ _ n.1 q))))
theorem Zpu{z TI TO i1 i2:Addr}{f1 f2:List Addr}{S1 T1 S2 T2:Heap->Prop}{x y a b:Xe}{Q:Option Xe->Xf->Prop}(D:ZA z TI TO i1 i2 f1 f2)(G1:Gives P w i1 f1 S1 x T1)(G2:Gives P w i2 f2 S2 y T2)
  (hz:UT s.heap z TI TO .none) (hTI:Bq s.heap TI (.ref i1) (.ref i2)) (hTO:Bq s.heap TO a b) (h1:S1 s.heap) (h2:S2 s.heap)
  (hQ:∀h',UT h' z TI TO (U9 s.heap.objs.size)->Bq h' TO x y->T1 h'->T2 h'->Bq h' s.heap.objs.size x y ->
   (∀ c o,c∉[z,TO,i1,i2]->s.heap.get? c=some o->h'.get? c=some o)->Q (some (.ref s.heap.objs.size)) { s with heap:=h' }):XR (Qa P w) A (pyNext (.ref z)) Q E s:=by
 have hT:s.TypeIs (.ref z) "zip" :=⟨_,hz,rfl⟩
 unfold pyNext
 exact Xg (wpAny_attempt (VB (name:=Str.ofString "__next__") hT F.slot_zip_next (V1 F.slot_zip_next hT F.entry_zip_next (Zsb D G1 G2 hz hTI hTO h1 h2 λh' a1 a2 a3 a4 a5 a6=>Qe (hQ h' a1 a2 a3 a4 a5 a6)) (F.args_zip_next_1 _))))
theorem Zs5{z TI TO i1 i2:Addr}{f1 f2:List Addr}{S1 T1 S2:Heap->Prop}{a b:Xe}{Q:Option Xe->Xf->Prop}(hh:A.handled=none)(D:ZA z TI TO i1 i2 f1 f2)(g1:Zid P w i1 f1 S1∨(∃x,Gives P w i1 f1 S1 x T1)∧Zid P w i2 f2 S2)
  (hz:UT s.heap z TI TO .none) (hTI:Bq s.heap TI (.ref i1) (.ref i2)) (hTO:Bq s.heap TO a b) (h1:S1 s.heap) (h2:S2 s.heap)
  (hQ:∀h',(∀c o,c∉[z,TO,i1,i2]->s.heap.get? c=some o->h'.get? c=some o)->Q none { s with heap:=h' }):XR (Qa P w) A (pyNext (.ref z)) Q E s:=by
 have hT:s.TypeIs (.ref z) "zip" :=⟨_,hz,rfl⟩
 unfold pyNext
 refine Xg (wpAny_attempt (VB (name:=Str.ofString "__next__") hT F.slot_zip_next (V1 F.slot_zip_next hT F.entry_zip_next (Zvj hh D g1 hz hTI hTO h1 h2 λh' e hk he=>?_) (F.args_zip_next_1 _))))
 obtain⟨o,ho,hc⟩:=he
 exact Xg (wpAny_isInstance (T :="StopIteration") (b:=true) ⟨o,ho,hc⟩ isSubtype_stop (Qe (hQ _ hk)))
theorem Zrz{it t:Addr}{i:Nat}{items:Array Xe}{x:Xe}(hx:items[i]? =some x):Gives P w it [it,t] (λh=>IsTupIter h it t i∧IsTup h t items) x (λh=>IsTupIter h it t (i+1)) where
 mem:=by simp
 run:=fun{A E s Q} ⟨hit,ht⟩ hQ=>by
  obtain⟨o,ho,hc,hd⟩:=id hit
  obtain⟨ol,hol,_,nl,hdl⟩:=ht
  unfold QL
  refine Xg (VB (name:=Str.ofString "__next__") hit.typeIs Uk (V1 Uk hit.typeIs entry_tupleiter_next ?_ (args_tupleiter_next _)))
  show XR _ _ (field (.ref it) 0>>=_) _ _ s
  refine Xg (JL ho hd (x:=.ref t) rfl ?_)
  show XR _ _ (if(QB t==Q5)=true then _ else _) _ _ s
  rw[if_neg (show¬((QB t==Q5)=true)from Xp)]
  show XR _ _ (field (.ref it) 1>>=_) _ _ s
  refine Xg (JL ho hd (x:=.int i 0) rfl ?_)
  show XR _ _ (seqItems? (.ref t)>>=_) _ _ s
  refine Xg (BX hol hdl ?_)
  simp only[Qs,hx]
  refine Xg (wpAny_setField ho hd (by simp) (Qe ⟨x,rfl,Qe (hQ _ ?_ (Heap.SameBut.update ..))⟩))
  exact⟨_,Heap.get?_update_self _ ho (Obj.isFreed_of_fields (Obj.data_mapFields hd _)),(Obj.cls_mapFields ..).trans hc,by rw[Obj.data_mapFields hd];simp[U9]⟩
 keep:=λh h' k ⟨⟨o,a1,a2⟩,⟨o',b1,b2⟩⟩=>⟨⟨o,k it (by simp) o a1,a2⟩,⟨o',k t (by simp) o' b1,b2⟩⟩
 keep':=λh h' k ⟨o,a1,a2⟩=>⟨o,k it (by simp) o a1,a2⟩
theorem Zva{it t:Addr}{i:Nat}{items:Array Xe}(hx:items[i]? =none):Zid P w it [it,t] (λh=>IsTupIter h it t i∧IsTup h t items) where
 mem:=by simp
 run:=fun{A E s Q} hh ⟨hit,ht⟩ hE=>by
  obtain⟨o,ho,hc,hd⟩:=id hit
  obtain⟨ol,hol,_,nl,hdl⟩:=ht
  unfold QL
  refine Xg (VB (name:=Str.ofString "__next__") hit.typeIs Uk (V1 Uk hit.typeIs entry_tupleiter_next ?_ (args_tupleiter_next _)))
  show XR _ _ (field (.ref it) 0>>=_) _ _ s
  refine Xg (JL ho hd (x:=.ref t) rfl ?_)
  show XR _ _ (if(QB t==Q5)=true then _ else _) _ _ s
  rw[if_neg (show¬((QB t==Q5)=true)from Xp)]
  show XR _ _ (field (.ref it) 1>>=_) _ _ s
  refine Xg (JL ho hd (x:=.int i 0) rfl ?_)
  show XR _ _ (seqItems? (.ref t)>>=_) _ _ s
  refine Xg (BX hol hdl ?_)
  simp only[Qs,hx]
  refine Xg (wpAny_rule (Xg (wpAny_setField ho hd (by simp) ?_)))
  show XR _ _ (newExc (.type "StopIteration") []>>=_) _ _ _
  refine Xg ?_
  simp only[newExc,newTuple]
  refine Xg (U4 ?_ (by size_fits))
  refine Xg (m:=firstArgMember _ _) (wpAny_of_eq (a:=Q5) (by first|rfl|(simp only[firstArgMember];rfl)) ?_)
  refine U4 ?_ (by size_fits)
  simp only[raiseNew]
  refine Xg (wpAny_handled ?_)
  first|rw[show A.in1.handled=none from hh]|rw[hh]
  exact Xg (Qe (wpAny_throw (hE _ _ (((Heap.SameBut.update ..).extBut.push _).push _) ⟨_,Qc _ rfl,rfl⟩)))
 keep:=λh h' k ⟨⟨o,a1,a2⟩,⟨o',b1,b2⟩⟩=>⟨⟨o,k it (by simp) o a1,a2⟩,⟨o',k t (by simp) o' b1,b2⟩⟩
end
noncomputable abbrev zT1(h:Heap)(a:Addr):Heap:=h.push { cls:=.type "tuple_iterator",data:=.fields #[.ref a,.int 0 0] }
noncomputable abbrev zT2(h:Heap)(a b:Addr):Heap:=(zT1 h a).push { cls:=.type "tuple_iterator",data:=.fields #[.ref b,.int 0 0] }
noncomputable abbrev zT3(h:Heap)(a b:Addr):Heap:=(zT2 h a b).push { cls:=.type "tuple",data:=.seq #[.ref h.objs.size,.ref (zT1 h a).objs.size] }
noncomputable abbrev zT4(h:Heap)(a b:Addr):Heap:=(zT3 h a b).push { cls:=.type "tuple",data:=.seq #[.none,.none] }
noncomputable abbrev zT5(h:Heap)(a b:Addr):Heap:=(zT4 h a b).push { cls:=.type "zip",data:=.fields #[.none,.bool false,.bool false,.ref (zT2 h a b).objs.size,.ref (zT3 h a b).objs.size] }
theorem Zu2(a b:Addr)(xs ys:Array Xe) :
  Meets (U6.«zip.__new__» ⟨[.type "zip",.ref a,.ref b],[]⟩) (λ_ R s=>IsTup s.heap a xs∧IsTup s.heap b ys∧R (.ok (.ret (.ref (zT4 s.heap a b).objs.size))) { s with heap:=zT5 s.heap a b }) :=
 .of_wp λprog w A R s h=>by
  obtain⟨hp,g,d,tk,os⟩:=s
  obtain⟨h1,h2,h⟩:=h
  have hsub:=sub_zip
  have hL1:IsTup (Xf.heap ⟨hp,g,d,tk,os⟩) a xs:=h1
  have hL2:IsTup (Xf.heap ⟨hp.push { cls:=.type "tuple_iterator",data:=.fields #[.ref a,.int 0 0] },g,d,tk,os⟩) b ys:=h2.push _
  wp_walk using iter_tuple hL1,iter_tuple hL2
  exact⟨_,rfl,h⟩
section
variable {P:X6}{w:Qu}{A:Qo}{E:Xe->Xf->Prop}{s:Xf}
theorem Zt4{a b:Addr}{xs ys:Array Xe}{Q:Xe->Xf->Prop}(h1:IsTup s.heap a xs)(h2:IsTup s.heap b ys)
  (h:∀h' n,n=s.heap.objs.size->UT h' (n+4) (n+2) (n+3) .none->Bq h' (n+2) (.ref n) (.ref (n+1))->Bq h' (n+3) .none .none->IsTupIter h' n a 0->IsTupIter h' (n+1) b 0 ->
   (∀ c o,s.heap.get? c=some o->h'.get? c=some o)->Q (.ref (n+4)) { s with heap:=h' }):XR (Qa P w) A (call (.type "zip") [.ref a,.ref b]) Q E s:=by
 refine callType_new F.called_zip (by decide) (F.typeCall_zip_2 _ _) (F.newCall_zip_2 _ _) (λobj=>F.args_object_init_3 obj _ _) F.entry_zip_new (Zu2 a b xs ys) ⟨h1,h2,?_⟩
 have e1:(zT1 s.heap a).objs.size=s.heap.objs.size+1:=JC ..
 have e2:(zT2 s.heap a b).objs.size=s.heap.objs.size+2:=by rw[JC,e1]
 have e3:(zT3 s.heap a b).objs.size=s.heap.objs.size+3:=by rw[JC,e2]
 have e4:(zT4 s.heap a b).objs.size=s.heap.objs.size+4:=by rw[JC,e3]
 have up:∀{c o},(zT1 s.heap a).get? c=some o->(zT5 s.heap a b).get? c=some o:=λx=>Xm _ (Xm _ (Xm _ (Xm _ x)))
 have p5:(zT5 s.heap a b).get? (zT4 s.heap a b).objs.size=some _:=Qc _ rfl
 have p4:(zT5 s.heap a b).get? (zT3 s.heap a b).objs.size=some _:=Xm _ (Qc _ rfl)
 have p3:(zT5 s.heap a b).get? (zT2 s.heap a b).objs.size=some _:=Xm _ (Xm _ (Qc _ rfl))
 have p2:(zT5 s.heap a b).get? (zT1 s.heap a).objs.size=some _:=Xm _ (Xm _ (Xm _ (Qc _ rfl)))
 have p1:(zT5 s.heap a b).get? s.heap.objs.size=some _:=up (Qc _ rfl)
 show _∧_
 rw[e2,e3,e4]at p5
 rw[e1,e2]at p3
 rw[e3]at p4
 rw[e1]at p2
 rw[e4]
 exact⟨⟨_,p5,rfl⟩,h _ _ rfl p5 p3 p4 ⟨_,p1,rfl,rfl⟩ ⟨_,p2,rfl,rfl⟩ λc o x=>up (Xm _ x)⟩
end
theorem nn{n a b:Nat}(h:a≠b):n+a≠n+b:=λe=>h (Nat.add_left_cancel e)
theorem n0{n b:Nat}(h:0≠b):n≠n+b:=λe=>h (Nat.add_left_cancel (n:=n) e)
theorem nlt{n a c:Nat}(h:a<n):a≠n+c:=Xq (X3 h (U3 ..))
theorem ZA.new{n a b:Nat}(h1:a<n)(h2:b<n):ZA (n+4) (n+2) (n+3) n (n+1) [n,a] [n+1,b] where
 TIz:=(by first|exact nn (by decide)|exact n0 (by decide)|exact(n0 (by decide)).symm|exact nlt h1|exact nlt h2|exact(nlt h1).symm|exact(nlt h2).symm|exact Xq h1|exact Xq h2|exact XM h1|exact XM h2|omega)
 TOz:=(by first|exact nn (by decide)|exact n0 (by decide)|exact(n0 (by decide)).symm|exact nlt h1|exact nlt h2|exact(nlt h1).symm|exact(nlt h2).symm|exact Xq h1|exact Xq h2|exact XM h1|exact XM h2|omega)
 a1:=λc hc=>by
  simp only[Xl,JF,or_false]at hc
  rcases hc with rfl|rfl
  ·exact⟨(by first|exact nn (by decide)|exact n0 (by decide)|exact(n0 (by decide)).symm|exact nlt h1|exact nlt h2|exact(nlt h1).symm|exact(nlt h2).symm|exact Xq h1|exact Xq h2|exact XM h1|exact XM h2|omega),(by first|exact nn (by decide)|exact n0 (by decide)|exact(n0 (by decide)).symm|exact nlt h1|exact nlt h2|exact(nlt h1).symm|exact(nlt h2).symm|exact Xq h1|exact Xq h2|exact XM h1|exact XM h2|omega),(by first|exact nn (by decide)|exact n0 (by decide)|exact(n0 (by decide)).symm|exact nlt h1|exact nlt h2|exact(nlt h1).symm|exact(nlt h2).symm|exact Xq h1|exact Xq h2|exact XM h1|exact XM h2|omega)⟩
  ·exact⟨(by first|exact nn (by decide)|exact n0 (by decide)|exact(n0 (by decide)).symm|exact nlt h1|exact nlt h2|exact(nlt h1).symm|exact(nlt h2).symm|exact Xq h1|exact Xq h2|exact XM h1|exact XM h2|omega),(by first|exact nn (by decide)|exact n0 (by decide)|exact(n0 (by decide)).symm|exact nlt h1|exact nlt h2|exact(nlt h1).symm|exact(nlt h2).symm|exact Xq h1|exact Xq h2|exact XM h1|exact XM h2|omega),(by first|exact nn (by decide)|exact n0 (by decide)|exact(n0 (by decide)).symm|exact nlt h1|exact nlt h2|exact(nlt h1).symm|exact(nlt h2).symm|exact Xq h1|exact Xq h2|exact XM h1|exact XM h2|omega)⟩
 a2:=λc hc=>by
  simp only[Xl,JF,or_false]at hc
  rcases hc with rfl|rfl
  ·exact⟨(by first|exact nn (by decide)|exact n0 (by decide)|exact(n0 (by decide)).symm|exact nlt h1|exact nlt h2|exact(nlt h1).symm|exact(nlt h2).symm|exact Xq h1|exact Xq h2|exact XM h1|exact XM h2|omega),(by first|exact nn (by decide)|exact n0 (by decide)|exact(n0 (by decide)).symm|exact nlt h1|exact nlt h2|exact(nlt h1).symm|exact(nlt h2).symm|exact Xq h1|exact Xq h2|exact XM h1|exact XM h2|omega),(by first|exact nn (by decide)|exact n0 (by decide)|exact(n0 (by decide)).symm|exact nlt h1|exact nlt h2|exact(nlt h1).symm|exact(nlt h2).symm|exact Xq h1|exact Xq h2|exact XM h1|exact XM h2|omega)⟩
  ·exact⟨(by first|exact nn (by decide)|exact n0 (by decide)|exact(n0 (by decide)).symm|exact nlt h1|exact nlt h2|exact(nlt h1).symm|exact(nlt h2).symm|exact Xq h1|exact Xq h2|exact XM h1|exact XM h2|omega),(by first|exact nn (by decide)|exact n0 (by decide)|exact(n0 (by decide)).symm|exact nlt h1|exact nlt h2|exact(nlt h1).symm|exact(nlt h2).symm|exact Xq h1|exact Xq h2|exact XM h1|exact XM h2|omega),(by first|exact nn (by decide)|exact n0 (by decide)|exact(n0 (by decide)).symm|exact nlt h1|exact nlt h2|exact(nlt h1).symm|exact(nlt h2).symm|exact Xq h1|exact Xq h2|exact XM h1|exact XM h2|omega)⟩
theorem ZA.new2(n:Nat):(n+2:Nat)≠n+3∧(n+2:Nat)≠n∧(n+2:Nat)≠n+1:=⟨nn (by decide),(n0 (by decide)).symm,nn (by decide)⟩
section
variable {X:Cx}{io:List Nat}{p c:Bool}{a b:Expr}{mr:MAt}
noncomputable def Z1y(ds:List Xa):Option (List Xa):=match ds with|[.list as,.list bs]=>some (Zkk as bs)|[.tuple as,.tuple bs]=>some (Zkk as bs)|_=>none
noncomputable def Zlv(a:FA):FI:=λδ=>(a δ).bind λp=>(Z1y (OT.datas p.1)).bind λds=>some (ds,p.2)
end
noncomputable def Zfr{α:Type}(xs:List α)(lo hi st:Option Int):List α :=
 (sliceRange (JM lo hi st xs.length).1 (JM lo hi st xs.length).2.1 (JM lo hi st xs.length).2.2).filterMap (xs[·]?)
theorem Vals.places:∀{xs:List V} {its:List Xe},Vals xs its->∀js:List Nat,Vals (js.filterMap (xs[·]?)) (js.filterMap (its[·]?))
 | _,_,_,[]=>.nil
 | xs,its,h,j :: js=>by
  have ih:=Vals.places h js
  cases hn:xs[j]? with
  | some x=>
   obtain⟨u,hu,ru⟩:=h.get hn
   simp only[QZ,hn,hu]
   exact .cons ru ih
  | none=>
   have hv:its[j]? =none:=by
    rw[QD]at hn⊢
    rw[←h.length];exact hn
   simp only[QZ,hn,hv]
   exact ih
theorem Das.places{G:Xb}{H:Hp}{L:Addr->Prop}{xs:List V}{ds:List Xa}(h:Das G H L xs ds):∀js:List Nat,Das G H L (js.filterMap (xs[·]?)) (js.filterMap (ds[·]?))
 | []=>.nil
 | j :: js=>by
  have ih:=Das.places h js
  cases hn:ds[j]? with
  | some x=>
   obtain⟨u,hu,ru⟩:=h.get hn
   simp only[QZ,hn,hu]
   exact .cons ru ih
  | none=>
   have hv:xs[j]? =none:=by
    rw[QD]at hn⊢
    rw[h.length];exact hn
   simp only[QZ,hn,hv]
   exact ih
theorem Das.pick{G:Xb}{H:Hp}{L:Addr->Prop}{xs:List V}{ds:List Xa}(h:Das G H L xs ds)(lo hi st:Option Int):Das G H L (Zfr xs lo hi st) (Zfr ds lo hi st):=by
 unfold Zfr
 rw[h.length]
 exact h.places _
theorem Vals.pick{xs:List V}{its:List Xe}(h:Vals xs its)(lo hi st:Option Int):Vals (Zfr xs lo hi st) (slicePick its.toArray lo hi st).toList:=by
 have e:(slicePick its.toArray lo hi st).toList=(sliceRange (JM lo hi st xs.length).1 (JM lo hi st xs.length).2.1 (JM lo hi st xs.length).2.2).filterMap (its[·]?):=by
  simp[slicePick,h.length]
 rw[e]
 exact h.places _
theorem Zhr{xs:List V}{its:List Xe}(h:Vals xs its)(lo hi st:Option Int):(Zfr xs lo hi st).length≤xs.length:=by
 have e:=(h.pick lo hi st).length
 have s:=slicePick_size_le its.toArray lo hi st
 have l:=h.length
 simp only[V0,Xu]at e s
 omega
section
variable {X:Cx}{e:Expr}{te:TE}{lo hi:Option Expr}{se:Expr}{tl th ts:TO}{pos p2:Pos}
noncomputable def tSt(K:Xb)(te:TE)(tl th ts:TO):TE:=λσ H Q=>te σ H λx H1=>tl σ H1 λl H2=>th σ H2 λu H3=>ts σ H3 λk H4=>∃a xs,x= .ref a∧SqL K H4 a xs∧k≠some 0∧∀p,H4 p=none->Q (.ref p) (upd H4 p (.lst (Zfr xs l u k)))
theorem Zzv(he:PE X e te)(hl:PO X lo tl)(hu:PO X hi th)(hst:PO X (some se) ts):PE X (.Subscript e (.Slice lo hi (some se) p2) pos) (tSt X.K te tl th ts):=by
 intro pins s σ H Q I h
 refine Subscript_ (thn (he pins s σ H _ I h) λv s1 qz9=>?_)
 obtain⟨x,H1,I1,r1,q1⟩:=qz9
 refine wpAny_Slice (thn (hl pins s1 σ H1 _ I1 q1) λvl s2 qz9=>?_)
 obtain⟨l,H2,I2,pl,q2⟩:=qz9
 refine thn (hu pins s2 σ H2 _ I2 q2) λvu s3 qz9=>?_
 obtain⟨u,H3,I3,pu,q3⟩:=qz9
 refine thn (hst pins s3 σ H3 _ I3 q3) λvs s4 qz9=>?_
 obtain⟨k,H4,I4,ps,q4⟩:=qz9
 obtain⟨a,xs,rfl,hx,hk,q⟩:=q4
 cases r1
 have I5:Inv X pins σ H4 { s4 with heap:=s4.heap.push { cls:=.type "slice",data:=.fields #[vl,vu,vs] } }:=I4.kept (t':=s4.toks) λb ob q=>Xm _ q
 obtain⟨its,r,ht,hz⟩:=I5.list hx
 have hlen:=r.length
 show XR (Qa X.prog X.w) X.A (subscriptTail e (.Slice lo hi (some se) p2) (.ref a) (.ref s4.heap.objs.size)) (EP X pins σ Q) X.xe { s4 with heap:=s4.heap.push { cls:=.type "slice",data:=.fields #[vl,vu,vs] } }
 refine tail_any (ops:=[.ref a,.ref s4.heap.objs.size]) ht.isList.typeIs slot_list_getitem.lookup ?_ (by with_unfolding_all rfl)
 refine wpAny_getItem_list_slice ht.isList (Heap.IsSliceOf.new ..) pl pu ps hk ?_ (by rw[Xu]<;>omega)
 refine⟨.ref _,_,I5.laid (t':=s4.toks) (o:=.lst (Zfr xs l u k)) (λb ob q=>Xm _ q) (Qp _) ?_,rfl,q _ (I5.hok.fresh (Qp _))⟩
 exact⟨QK (Zhr r l u k) hz,_,0,r.pick l u k,Qc _ rfl⟩
end
section
variable {X:Cx}{io:List Nat}{p c:Bool}{a e:Expr}{ma:MEt}{lo hi:Option Expr}{se:Expr}{ml mh ms:MOt}{pos p2:Pos}{fa:FE}
noncomputable def Z23(m:MEt)(ml mh ms:MOt):MEt:=λδ K=>m δ λr δ1=>ml δ1 λlo δ2=>mh δ2 λhi δ3=>ms δ3 λst δ4=>st≠some 0∧asL r.data λds=>K (.nd ((Zfr ds lo hi st).map OT.fz)) δ4
theorem Zx4(ha:ME X io true c a ma)(hl:MO X io true lo ml)(hh:MO X io true hi mh)(hs:MO X io true (some se) ms):ME X io true c (.Subscript a (.Slice lo hi (some se) p2) pos) (Z23 ma ml mh ms):=by
 obtain⟨_,A,s⟩:=ha
 obtain⟨_,B,sl⟩:=hl
 obtain⟨_,D,sh⟩:=hh
 obtain⟨_,F,ss⟩:=hs
 refine⟨_,Zzv A B D F,?_⟩
 intro C H σ δ fp ex K' Q R h k
 refine s C H σ δ fp ex _ _ R h λH1 v r δ1 fp1 new r1 h1=>?_
 refine sl C H1 σ δ1 fp1 ex _ _ r1.base h1 λH2 l δ2 fp2 R2 S2 h2=>?_
 refine sh C H2 σ δ2 fp2 ex _ _ R2 h2 λH3 u δ3 fp3 R3 S3 h3=>?_
 refine ss C H3 σ δ3 fp3 ex _ _ R3 h3 λH4 w δ4 fp4 R4 S4 h4=>?_
 obtain⟨hw,h4⟩:=h4
 have s2:Same H1 H2:=λb o e=>S2.keep b o e (.inl rfl)
 have s3:Same H2 H3:=λb o e=>S3.keep b o e (.inl rfl)
 have s4:Same H3 H4:=λb o e=>S4.keep b o e (.inl rfl)
 obtain⟨e3,e4⟩:=S2.env rfl
 obtain⟨e5,e6⟩:=S3.env rfl
 obtain⟨e7,e8⟩:=S4.env rfl
 have q:=(((r1.da R).same s2).same s3).same s4
 obtain⟨a',xs,ds,rfl,e,qs,h4⟩:=q.lstInv h4
 refine⟨a',xs,rfl,e,hw,λp hp=>?_⟩
 have S:=((r1.stp.trans S2).trans S3).trans S4
 refine k _ _ _ δ4 fp4 [p] (RE.tree R R4 S (Z3 hp _) (Za5 hp) (Zdw p) (Own.list hp ((qs.pick l u w).wide λa l _=>?_))) h4
 rw[e8,e6,e4]
 exact l
noncomputable def stepOf(d:Xa)(lo hi st:Option Int):Option OT:=match d with| .list ds=>if st=some 0 then none else some (.nd ((Zfr ds lo hi st).map OT.fz))|_=>none
noncomputable def Zq6(e:FE)(lo hi st:FO):FE:=λδ=>(e δ).bind λp=>(lo p.2).bind λq=>(hi q.2).bind λr=>(st r.2).bind λt=>(stepOf p.1.data q.1 r.1 t.1).bind λo=>some (o,t.2)
theorem Zsn{lo hi st:FO}(h:ME X io p c e (Z23 (o2 fa) (o2 lo) (o2 hi) (o2 st))):ME X io p c e (o2 (Zq6 fa lo hi st)):=h.weak λδ K h=>by
 obtain⟨r,δ',h,k⟩:=h
 obtain⟨⟨x,δ1⟩,h1,h⟩:=bs h
 obtain⟨⟨y,δ2⟩,h2,h⟩:=bs h
 obtain⟨⟨z,δ3⟩,h3,h⟩:=bs h
 obtain⟨⟨t,δ4⟩,h4,h⟩:=bs h
 obtain⟨o,h5,h⟩:=bs h
 cases h
 refine⟨x,δ1,h1,y,δ2,h2,z,δ3,h3,t,δ4,h4,?_⟩
 unfold stepOf at h5
 dsimp only at h5⊢
 split at h5
 ·rename_i q
  split at h5
  ·cases h5
  ·rename_i n
   cases h5
   refine⟨n,?_⟩
   rw[show x.data=_ from q]
   exact k
 ·cases h5
end
theorem Zjz{α β:Type}{f g:α->Option β}:∀{l:List α},(∀k∈l,f k=g k)->l.filterMap f=l.filterMap g
 | [],_=>rfl
 | a :: l,h=>by
  rw[QZ,QZ,h a (by simp),Zjz λk hk=>h k (by simp[hk])]
theorem Zub{α:Type}(xs:List α):Zfr xs none none (some (-1))=xs.reverse:=by
 unfold Zfr sliceRange JM
 simp only[VD]
 have d0:¬((-1:Int)>0):=by decide
 simp only[if_neg d0]
 have hc:(if(xs.length:Int)-1> -1 then((xs.length:Int)-1- -1- -1-1)/(- -1)else 0)=(xs.length:Int):=by
  split
  ·simp
  ·omega
 rw[hc,Ud,Qs]
 apply Us
 intro i
 have hf:List.filterMap ((λx=>xs[x]?)∘ λk:Nat=>((xs.length:Int)-1+ -1*(k:Int)).toNat) (Xz xs.length)=xs.reverse:=by
  have:∀k∈Xz xs.length,((λx=>xs[x]?)∘ λk:Nat=>((xs.length:Int)-1+ -1*(k:Int)).toNat) k=xs.reverse[k]?:=λk hk=>by
   have hk:=Qt.mp hk
   show xs[((xs.length:Int)-1+ -1*(k:Int)).toNat]? =_
   rw[List.getElem?_reverse hk]
   congr 1
   omega
  rw[Zjz this]
  have gen:∀(ys:List α) (m:Nat),m=ys.length->List.filterMap (λk=>ys[k]?) (Xz m)=ys:=by
   intro ys
   induction ys with
   | nil=>intro m hm;subst hm;rfl
   | cons y ys ih=>
    intro m hm
    subst hm
    rw[Bb,U5,QZ]
    simp only[List.getElem?_cons_zero,Ud]
    exact congrArg _ (ih _ rfl)
  exact gen _ _ (by simp)
 rw[hf]
theorem Zqd{α:Type}(xs:List α):Zfr xs none (some 0) (some (-1))=(xs.drop 1).reverse:=by
 cases xs with
 | nil=>rfl
 | cons y ys=>
  rw[List.drop_succ_cons,Vv,←Zub ys]
  unfold Zfr sliceRange JM
  simp only[VD,Bb]
  have d0:¬((-1:Int)>0):=by decide
  have d1:¬((0:Int)<0):=by decide
  simp only[if_neg d0,if_neg d1]
  have e0:max (-1:Int) (min 0 (((ys.length+1:Nat):Int)-1))=0:=by omega
  rw[e0]
  have c1:(if((ys.length+1:Nat):Int)-1>0 then(((ys.length+1:Nat):Int)-1-0- -1-1)/(- -1)else 0)=(ys.length:Int):=by
   split
   ·simp
   ·omega
  have c2:(if(ys.length:Int)-1> -1 then((ys.length:Int)-1- -1- -1-1)/(- -1)else 0)=(ys.length:Int):=by
   split
   ·simp
   ·omega
  rw[c1,c2,Ud,Ud]
  refine Zjz λk hk=>?_
  have hk:k<ys.length:=by simpa using hk
  show(y :: ys)[(((ys.length+1:Nat):Int)-1+ -1*(k:Int)).toNat]? =ys[((ys.length:Int)-1+ -1*(k:Int)).toNat]?
  rw[show(((ys.length+1:Nat):Int)-1+ -1*(k:Int)).toNat=((ys.length:Int)-1+ -1*(k:Int)).toNat+1 by omega,Vq]
theorem Zm3(ds:List Xa):stepOf (.list ds) none (some 0) (some (-1))=some (.nd (((ds.drop 1).reverse).map OT.fz)):=by
 show(if some (-1:Int)=some 0 then none else _)=_
 rw[Zqd];exact if_neg (by decide)
variable {G:Xb}
section
variable {X:Cx}{io:List Nat}{p c:Bool}{a b e:Expr}{mr:MAt}{ra:FA}{i:Nat}
noncomputable def isFn(y:Str)(d:Xa):Bool:=match d with| .dict [(.str x,.bool true)]=>decide (x=y)|_=>false
end
section
variable {X:Cx}{io:List Nat}{p c:Bool}{a:Expr}{mr:MAt}{ra:FA}
end
variable {G:Xb}
theorem Z2n{α:Type}{p:α->Prop}{a b c d:α}(h1:p a)(h2:p b)(h3:p c)(h4:p d):∀x∈[a,b,c,d],p x:=by
 intro x hx
 rcases Xl.mp hx with rfl|hx
 ·exact h1
 rcases Xl.mp hx with rfl|hx
 ·exact h2
 rcases Xl.mp hx with rfl|hx
 ·exact h3
 rcases XH.mp hx with rfl
 exact h4
theorem Z7a{α:Type}{p:α->Prop}{a b c d e:α}(h1:p a)(h2:p b)(h3:p c)(h4:p d)(h5:p e):∀x∈[a,b,c,d,e],p x:=λx hx=>(Xl.mp hx).elim (λq=>q▸h1) (Z2n h2 h3 h4 h5 x)
theorem no4{α:Type}{a b c d x:α}(h1:x≠a)(h2:x≠b)(h3:x≠c)(h4:x≠d):x∉[a,b,c,d]:=λhx=>Z2n (p:=λy=>x≠y) h1 h2 h3 h4 x hx rfl
noncomputable def SqB(K:Xb)(t:Bool)(H:Hp)(a:Addr)(xs:List V):Prop:=match t with|true=>H a=some (.tup xs)|false=>SqL K H a xs
noncomputable def IsB(t:Bool)(h:Heap)(a:Addr)(its:Array Xe):Prop:=match t with|true=>IsTup h a its|false=>h.IsList a its
noncomputable def ItB(t:Bool)(h:Heap)(it a:Addr)(i:Nat):Prop:=match t with|true=>IsTupIter h it a i|false=>h.IsListIter it a i
theorem ItB.at{t:Bool}{h h':Heap}{it a:Addr}{i:Nat}(x:ItB t h it a i)(k:∀o,h.get? it=some o->h'.get? it=some o):ItB t h' it a i:=by
 cases t with
 | false=>exact Heap.IsListIter.at x k
 | true=>
  obtain⟨o,ho,r⟩:=x
  exact⟨o,k o ho,r⟩
theorem ItB.obj{t:Bool}{h:Heap}{it a:Addr}{i:Nat}(x:ItB t h it a i):∃o,h.get? it=some o∧∀v,o.data≠ .cell v:=by
 cases t with
 | false=>
  obtain⟨o,ho,_,d⟩:=x
  exact⟨o,ho,λv q=>by rw[d]at q;cases q⟩
 | true=>
  obtain⟨o,ho,_,d⟩:=x
  exact⟨o,ho,λv q=>by rw[d]at q;cases q⟩
theorem IsB.lt{t:Bool}{h:Heap}{a:Addr}{its:Array Xe}(x:IsB t h a its):a<h.objs.size:=by
 cases t with
 | false=>
  obtain⟨o,ho,_⟩:=x
  exact XD ho
 | true=>
  obtain⟨o,ho,_⟩:=x
  exact XD ho
theorem SqB.its{X:Cx}{pins:List (Addr×Obj)}{σ:St}{H:Hp}{s:Xf}{t:Bool}{a:Addr}{xs:List V}(I:Inv X pins σ H s)(h:SqB X.K t H a xs):∃its:List Xe,Vals xs its∧IsB t s.heap a its.toArray:=by
 cases t with
 | false=>
  obtain⟨its,r,p,_⟩:=I.list h
  exact⟨its,r,p.isList⟩
 | true=>
  obtain⟨_,its,r,p⟩:=(show ObjOk X.prog X.w H s.heap a (.tup xs)from I.hok a _ h)
  exact⟨its,r,p⟩
theorem SqB.inj{X:Cx}{pins:List (Addr×Obj)}{σ:St}{H:Hp}{s:Xf}{t:Bool}{a:Addr}{xs ys:List V}(I:Inv X pins σ H s)(h:SqB X.K t H a xs)(k:SqB X.K t H a ys):xs=ys:=by
 cases t with
 | false=>exact I.list_inj h k
 | true=>
  have:=(show H a=some (.tup xs)from h).symm.trans k
  cases this
  rfl
section
variable {P:X6}{w:Qu}
theorem Zsk{t:Bool}{it a:Addr}{i:Nat}{items:Array Xe}{x:Xe}(hx:items[i]? =some x):Gives P w it [it,a] (λh=>ItB t h it a i∧IsB t h a items) x (λh=>ItB t h it a (i+1)):=by
 cases t with
 | true=>exact Zrz hx
 | false=>
  exact⟨.head _,λst hQ=>wpAny_nextOf_list_item st.1 st.2 hx hQ,λh h' k st=>⟨Heap.IsListIter.at st.1 λo e=>k it (.head _) o e,by
   obtain⟨o,ho,r⟩:=st.2
   exact⟨o,k a (.tail _ (.head _)) o ho,r⟩⟩,λh h' k st=>Heap.IsListIter.at st λo e=>k it (.head _) o e⟩
theorem Z4k{t:Bool}{it a:Addr}{i:Nat}{items:Array Xe}(hx:items[i]? =none):Zid P w it [it,a] (λh=>ItB t h it a i∧IsB t h a items):=by
 cases t with
 | true=>exact Zva hx
 | false=>
  exact⟨.head _,λhh st hE=>wpAny_nextOf_list_end hh st.1 st.2 hx hE,λh h' k st=>⟨Heap.IsListIter.at st.1 λo e=>k it (.head _) o e,by
   obtain⟨o,ho,r⟩:=st.2
   exact⟨o,k a (.tail _ (.head _)) o ho,r⟩⟩⟩
end
noncomputable def Z89(K:Xb)(t:Bool)(a b:Addr):It :=
 ⟨λi H=>∃xs ys x y,SqB K t H a xs∧SqB K t H b ys∧xs[i]? =some x∧ys[i]? =some y,
   λi H v H'=>∃p x y,H p=none∧v= .ref p∧H'=upd H p (.tup [x,y])∧(∀xs,SqB K t H a xs->xs[i]? =some x)∧∀ys,SqB K t H b ys->ys[i]? =some y,
   λi H=>∃xs ys,SqB K t H a xs∧SqB K t H b ys∧(xs.length≤i∨ys.length≤i)⟩
noncomputable def Yav(t:Bool)(z TI TO i1 i2 a b:Addr)(i:Nat)(h:Heap):Prop:=UT h z TI TO .none∧Bq h TI (.ref i1) (.ref i2)∧(∃x y,Bq h TO x y)∧ItB t h i1 a i∧ItB t h i2 b i
theorem Zq0{P:X6}{w:Qu}{K:Xb}{es:List Expr}{kk:Nat}{pos:Pos}{t:Bool}{z TI TO i1 i2 a b:Addr}(D:ZA z TI TO i1 i2 [i1,a] [i2,b])(D2:TI≠TO∧TI≠i1∧TI≠i2):Turn P w K (.Tuple es kk pos) (Z89 K t a b) [z,TI,TO,i1,i2] z (Yav t z TI TO i1 i2 a b) where
 mem:=.head _
 obj:=λi h st=>by
  obtain⟨s1,s2,⟨x,y,s3⟩,s4,s5⟩:=st
  exact Z7a ⟨_,s1,λv q=>by cases q⟩ ⟨_,s2,λv q=>by cases q⟩ ⟨_,s3,λv q=>by cases q⟩ s4.obj s5.obj
 keep:=λi h h' st k=>by
  obtain⟨s1,s2,⟨x,y,s3⟩,s4,s5⟩:=st
  have m2:TI∈[z,TI,TO,i1,i2]:=.tail _ (.head _)
  have m3:TO∈[z,TI,TO,i1,i2]:=.tail _ (.tail _ (.head _))
  have m4:i1∈[z,TI,TO,i1,i2]:=.tail _ (.tail _ (.tail _ (.head _)))
  have m5:i2∈[z,TI,TO,i1,i2]:=.tail _ (.tail _ (.tail _ (.tail _ (.head _))))
  exact⟨k z (.head _) _ s1,k TI m2 _ s2,⟨x,y,k TO m3 _ s3⟩,s4.at (k i1 m4),s5.at (k i2 m5)⟩
 item:=by
  intro X hP hw hK hc i pins s σ H E I hf st hg
  subst hP hw hK
  obtain⟨s1,s2,⟨x0,y0,s3⟩,s4,s5⟩:=st
  obtain⟨xs,ys,x,y,hx,hy,ex,ey⟩:=hg
  obtain⟨its,rx,px⟩:=hx.its I
  obtain⟨its',ry,py⟩:=hy.its I
  obtain⟨u,hu,ru⟩:=rx.get ex
  obtain⟨u',hu',ru'⟩:=ry.get ey
  rw[←List.getElem?_toArray]at hu hu'
  refine Zpu D (Zsk hu) (Zsk hu') s1 s2 s3 ⟨s4,px⟩ ⟨s5,py⟩ λh' g1 g2 g3 g4 g5 g6=>?_
  refine⟨_,rfl,wpAny_letOwnedTupleGo_zip (s:={ s with heap:=h' }) g1 λh2 z2 sb=>?_⟩
  have up:∀c o,c≠z->h'.get? c=some o->h2.get? c=some o:=λc o n e=>(sb.2 c n).trans e
  have kp:∀c o,c∉[z,TO,i1,i2]->s.heap.get? c=some o->h2.get? c=some o:=λc o n e=>up c o (λq=>n (q▸ .head _)) (g6 c o n e)
  have t5:Bq h2 s.heap.objs.size u u':=up _ _ (XM (XD s1)) g5
  have i1z:=(D.a1 i1 (.head _)).1
  have i2z:=(D.a2 i2 (.head _)).1
  have n3:=g3.at (up i1 · i1z)
  have n4:=g4.at (up i2 · i2z)
  obtain⟨f1,f2,f3,f4,f5⟩:(Zji X pins H z∧Zji X pins H TI∧Zji X pins H TO∧Zji X pins H i1∧Zji X pins H i2):=⟨hf _ (.head _),hf _ (.tail _ (.head _)),hf _ (.tail _ (.tail _ (.head _))),hf _ (.tail _ (.tail _ (.tail _ (.head _)))),hf _ (.tail _ (.tail _ (.tail _ (.tail _ (.head _)))))⟩
  have I2:Inv X pins σ (upd H s.heap.objs.size (.tup [x,y])) { s with heap:=h2 } :=
   I.turnTup (ch:=[z,TO,i1,i2]) (its:=[u,u']) (Z2n f1 f3 f4 f5) kp (Z2n ⟨_,z2⟩ ⟨_,up _ _ D.TOz g2⟩ (n3.obj.imp λ_ q=>q.1) (n4.obj.imp λ_ q=>q.1)) (Qp _) Z28 (.cons ru (.cons ru' .nil)) ⟨_,t5,rfl,0,rfl⟩
  have lt:∀{c:Addr} {o:Obj},s.heap.get? c=some o->Zji X pins H c->upd H s.heap.objs.size (.tup [x,y]) c=none:=λe f=>by rw[Zr (Xq (XD e))];exact f.1
  refine⟨.ref s.heap.objs.size,_,I2,rfl,⟨_,x,y,I.fresh,rfl,rfl,λzs hz=>by rw[hz.inj I hx];exact ex,λzs hz=>by rw[hz.inj I hy];exact ey⟩,⟨z2,kp TI _ (no4 D.TIz D2.1 D2.2.1 D2.2.2) s2,⟨_,_,up _ _ D.TOz g2⟩,n3,n4⟩,?_⟩
  obtain⟨o4,e4,_⟩:=s4.obj
  obtain⟨o5,e5,_⟩:=s5.obj
  exact Z7a (lt s1 f1) (lt s2 f2) (lt s3 f3) (lt e4 f4) (lt e5 f5)
 done:=by
  intro X hP hw hK hc i pins s σ H E I hf st hg
  subst hP hw hK
  obtain⟨s1,s2,⟨x0,y0,s3⟩,s4,s5⟩:=st
  obtain⟨xs,ys,hx,hy,he⟩:=hg
  obtain⟨its,rx,px⟩:=hx.its I
  obtain⟨its',ry,py⟩:=hy.its I
  have l1:=rx.length
  have l2:=ry.length
  refine Zs5 (I.ok.hd hc) D (S1:=λh=>ItB t h i1 a i∧IsB t h a its.toArray) (T1:=λh=>ItB t h i1 a (i+1)) (S2:=λh=>ItB t h i2 b i∧IsB t h b its'.toArray) ?_ s1 s2 s3 ⟨s4,px⟩ ⟨s5,py⟩ λh' k=>⟨rfl,I.turnAll (ch:=[z,TO,i1,i2]) (Z2n (hf _ (.head _)) (hf _ (.tail _ (.tail _ (.head _)))) (hf _ (.tail _ (.tail _ (.tail _ (.head _))))) (hf _ (.tail _ (.tail _ (.tail _ (.tail _ (.head _))))))) k⟩
  cases q:its.toArray[i]? with
  | none=>exact .inl (Z4k q)
  | some v=>
   refine .inr ⟨⟨v,Zsk q⟩,Z4k ?_⟩
   have:=(Array.getElem?_eq_some_iff.mp q).1
   rw[Xu]at this
   rw[Array.getElem?_eq_none_iff,Xu]
   omega
 self:=λ_ _ _ _ _ st h=>wpAny_pyIter_zip st.1 h
theorem Zrf{P:X6}{w:Qu}{A:Qo}{E:Xe->Xf->Prop}{s:Xf}{t:Bool}{a b:Addr}{xs ys:Array Xe}{Q:Xe->Xf->Prop}(h1:IsB t s.heap a xs)(h2:IsB t s.heap b ys)
  (h:∀h' n,n=s.heap.objs.size->UT h' (n+4) (n+2) (n+3) .none->Bq h' (n+2) (.ref n) (.ref (n+1))->Bq h' (n+3) .none .none->ItB t h' n a 0->ItB t h' (n+1) b 0 ->
   (∀ c o,s.heap.get? c=some o->h'.get? c=some o)->Q (.ref (n+4)) { s with heap:=h' }):XR (Qa P w) A (call (.type "zip") [.ref a,.ref b]) Q E s:=by
 cases t with
 | true=>exact Zt4 h1 h2 h
 | false=>exact call_zip_2 h1 h2 λh' g1 g2 g3 g4 g5 _ g7=>h h' _ rfl g1 g2 g3 g4 g5 g7
noncomputable def Z8u(K:Xb)(ta:TA):TI:=λσ H R=>ta σ H λvs H1=>∃t a b,vs=[.ref a,.ref b]∧(∃xs,SqB K t H1 a xs)∧(∃ys,SqB K t H1 b ys)∧R (Z89 K t a b) H1
theorem Zzt{X:Cx}{K:Xb}{a b:Expr}{ta:TA}{p pos pt:Pos}{es:List Expr}{kk:Nat}(hK:X.K=K)(hg:Gl X "zip")(hm:X.mg "zip"=none)(hv:Qg "zip"=some (.type "zip"))(ha:PA X [a,b] ta)
  (he:Xk [a,b] X.env=(false,eval a X.env) :: Xk [b] X.env:=by rfl) (hpl:(QW pos (Xk [b] X.env)).any (·.1)=false:=by rfl) :
  PI X (.Tuple es kk pt) (.Call (.Name "zip" p) [a,b] [] pos) (Z8u K ta):=by
 subst hK
 intro pins s σ H R I h
 refine Vx (Zit I hg hm hv ?_ (by decide) (by decide))
 refine BV (thn (ha pos pins s σ H _ I h) λus s1 q=>?_) he hpl
 obtain⟨vs,H1,I1,r1,t,l1,l2,e1,⟨xs,hx⟩,⟨ys,hy⟩,q⟩:=q
 subst e1
 obtain⟨u,u',rfl,ru,ru'⟩:=vals2 r1
 cases(show u=QB l1 from ru)
 cases(show u'=QB l2 from ru')
 obtain⟨its,rx,px⟩:=hx.its I1
 obtain⟨its',ry,py⟩:=hy.its I1
 refine Zrf px py λh' n en g1 g2 g3 g4 g5 g7=>?_
 have I2:Inv X pins σ H1 { s1 with heap:=h' }:=I1.kept (t':=s1.toks) g7
 refine wpAny_pyIter_zip (s:={ s1 with heap:=h' }) g1 ?_
 refine⟨_,[_,_,_,_,_],Yav _ _ _ _ _ _ _ _,_,H1,rfl,I2,Zq0 (ZA.new (en▸px.lt) (en▸py.lt)) (ZA.new2 n),⟨g1,g2,⟨_,_,g3⟩,g4,g5⟩,?_,q⟩
 subst en
 have ok:∀k:Nat,Zji X pins H1 (s1.heap.objs.size+k):=λk=>I1.fpOk (U3 _ _) (I1.hok.fresh (U3 _ _))
 exact Z7a (ok 4) (ok 2) (ok 3) (ok 0) (ok 1)
section
variable {X:Cx}{io:List Nat}{p c:Bool}{a b:Expr}{mr:MAt}{ra:FA}
noncomputable def Z58(t:Bool)(as:List Xa):Xa:=match t with|true=>.tuple as|false=>.list as
theorem Rel.keptSq{C:MC G}{H:Hp}{σ:St}{δ:Zg}{fp:Fp}{ex:Addr->Prop}{v:V}{t:Bool}{ds:List Xa}(R:Rel C io H σ δ fp ex)(q:Da G H (λa=>c=true->Lf C fp ex a) v (Z58 t ds)) :
  ∃a xs,v= .ref a∧∀H':Hp,(∀b o,H b=some o->(c=false∨¬Foot fp b)->H' b=some o)->SqB G t H' a xs∧Das G H' (λa=>c=true->(Lf C fp ex a∧H a≠none)) xs ds:=by
 cases t with
 | false=>exact R.keptList q
 | true=>
  generalize hd:Z58 true ds=d at q
  cases q with
  | tup e r=>
   cases hd
   rename_i a0 xs0
   refine⟨a0,xs0,rfl,λH' kp=>?_⟩
   obtain⟨f1,f2⟩:=R.kept kp
   exact⟨f2 _ (.tup _) e,r.frame f1 f2⟩
  | _=>cases hd
theorem Zvg{ds es:List Xa}(h:Z1y ds=some es):∃t as bs,ds=[Z58 t as,Z58 t bs]∧es=Zkk as bs:=by
 unfold Z1y at h
 split at h
 ·cases h;exact⟨false,_,_,rfl,rfl⟩
 ·cases h;exact⟨true,_,_,rfl,rfl⟩
 ·cases h
noncomputable def iZB(mr:MAt):MIt:=λδ K=>mr δ λrs δ'=>∃es,Z1y (OT.datas rs)=some es∧K es δ'
theorem Zng{p' pos pt:Pos}{es:List Expr}{kk:Nat}(hg:Gl X "zip")(hm:X.mg "zip"=none)(hv:Qg "zip"=some (.type "zip"))(ha:MA X io p c [a,b] mr)
  (he:Xk [a,b] X.env=(false,eval a X.env) :: Xk [b] X.env:=by rfl) (hpl:(QW pos (Xk [b] X.env)).any (·.1)=false:=by rfl):MI X io p c (.Tuple es kk pt) (.Call (.Name "zip" p') [a,b] [] pos) (iZB mr):=by
 obtain⟨_,A,s⟩:=ha
 refine⟨_,Zzt rfl hg hm hv A he hpl,λC H σ δ fp ex K' Q R h kk=>s C H σ δ fp ex _ _ R h λH1 vs rs δ1 fp1 new r1 h1=>?_⟩
 have q:=r1.das R
 obtain⟨es,hz,h1⟩:=h1
 obtain⟨t,as,bs,e,rfl⟩:=Zvg hz
 rw[e]at q
 cases q with
 | cons q1 q2=>
  cases q2 with
  | cons q2 q3=>
   cases q3
   have R1:=r1.base
   obtain⟨l1,xs,rfl,k1⟩:=R1.keptSq q1
   obtain⟨l2,ys,rfl,k2⟩:=R1.keptSq q2
   refine⟨t,l1,l2,rfl,⟨_,(k1 H1 λ_ _ e _=>e).1⟩,⟨_,(k2 H1 λ_ _ e _=>e).1⟩,kk _ H1 _ δ1 fp1 R1 r1.stp (λH' kp i=>?_) h1⟩
   obtain⟨s1,d1⟩:=k1 H' kp
   obtain⟨s2,d2⟩:=k2 H' kp
   refine⟨λd hd=>?_,λhd=>⟨_,_,s1,s2,by rw[d1.length,d2.length];exact Ztj hd⟩⟩
   obtain⟨x,y,hx,hy,rfl⟩:=Zos hd
   obtain⟨u,hu,qu⟩:=d1.get hx
   obtain⟨w,hw,qw⟩:=d2.get hy
   refine⟨⟨_,_,u,w,s1,s2,hu,hw⟩,λv H'' hyl=>?_⟩
   obtain⟨t',u',w',ht,rfl,rfl,hu',hw'⟩:=hyl
   cases hu.symm.trans (hu' _ s1)
   cases hw.symm.trans (hw' _ s2)
   exact⟨Z3 ht _,.tup Zv (.cons (qu.same (Z3 ht _)) (.cons (qw.same (Z3 ht _)) .nil))⟩
theorem Znl{tg e:Expr}(g:MI X io p c tg e (iZB (o2 ra))):MI X io p c tg e (o2 (Zlv ra)):=g.weak λδ K h=>by
 obtain⟨r,δ',h,k⟩:=h
 obtain⟨⟨x,δ1⟩,h1,h⟩:=bs h
 obtain⟨ds,h2,h⟩:=bs h
 cases h
 exact⟨x,_,h1,_,h2,k⟩
end
end L2
namespace L2
open PySem PySem.Spec PyProof.Rows PySem.W
noncomputable def kEv{α:Type}(lt:Nat->Nat->Bool):KasT α->α
 | .ret a=>a
 | .ask i j k=>kEv lt (k (lt i j))
noncomputable def kGood{α:Type}(n:Nat)(P:α->Prop):KasT α->Prop
 | .ret a=>P a
 | .ask i j k=>i<n∧j<n∧∀b,kGood n P (k b)
theorem kGood.bind{α β:Type}{n:Nat}{P:α->Prop}{R:β->Prop}{f:α->KasT β}(hf:∀a,P a->kGood n R (f a)){t:KasT α}(h:kGood n P t):kGood n R (t.bind f):=by
 induction t with
 | ret a=>exact hf a h
 | ask i j k ih=>exact⟨h.1,h.2.1,λb=>ih b (h.2.2 b)⟩
theorem kGood.ev{α:Type}{n:Nat}{P:α->Prop}{lt:Nat->Nat->Bool}{t:KasT α}(h:kGood n P t):P (kEv lt t):=by
 induction t with
 | ret a=>exact h
 | ask i j k ih=>exact ih _ (h.2.2 _)
theorem kGood.wp{α:Type}{n:Nat}{P:α->Prop}{lt:Nat->Nat->Bool}{cmp:Nat->Nat->(Bool->Xf->Prop)->Xf->Prop}{s:Xf}{Q:α->Xf->Prop}(hc:∀i j C,i<n->j<n->C (lt i j) s->cmp i j C s){t:KasT α}(h:kGood n P t)(q:Q (kEv lt t) s):t.kasWp cmp Q s:=by
 induction t with
 | ret a=>exact q
 | ask i j k ih=>exact hc i j _ h.1 h.2.1 (ih _ (h.2.2 _) q)
noncomputable def kP(n:Nat)(p:Array Nat):Prop:=p.toList.Perm (Xz n)
theorem kP.at{n:Nat}{p:Array Nat}(h:kP n p)(h0:0<n)(i:Nat):p.getD i 0<n:=by
 by_cases c:i<p.size
 ·have e:p.getD i 0=p[i]:=by simp[Array.getD,c]
  rw[e]
  exact Qt.mp (h.mem_iff.mp (Array.getElem_mem_toList c))
 ·have e:p.getD i 0=0:=by simp[Array.getD,c]
  rw[e];exact h0
theorem kP.rev{n:Nat}{p:Array Nat}(h:kP n p)(i j:Nat):kP n (kas_rev p i j):=(Array.perm_iff_toList_perm.mp (mirror_perm p i j _)).trans h
theorem kP.bub{n:Nat}{p:Array Nat}(h:kP n p)(i j:Nat):kP n (bubble p i j):=(Array.perm_iff_toList_perm.mp (bubble_perm p i j)).trans h
theorem Zoo{n:Nat}{p:Array Nat}(h:kP n p)(h0:0<n)(f m:Nat):kGood n (λ_=>True) (kas_asc p f m):=by
 induction f generalizing m with
 | zero=>exact trivial
 | succ f ih=>
  refine⟨h.at h0 _,h.at h0 _,λb=>?_⟩
  cases b
  ·exact ih _
  ·exact trivial
theorem Zrq{n:Nat}(h0:0<n)(f:Nat){p:Array Nat}(h:kP n p)(m q:Nat):kGood n (λr:Array Nat×Nat×Nat=>kP n r.1) (kas_desc f p m q):=by
 induction f generalizing p m q with
 | zero=>exact h
 | succ f ih=>
  refine⟨h.at h0 _,h.at h0 _,λb=>?_⟩
  cases b
  ·refine⟨h.at h0 _,h.at h0 _,λb=>?_⟩
   cases b
   ·exact ih h _ _
   ·exact h
  ·show kGood n _ (if q>0 then _ else _)
   split
   ·exact ih (h.rev _ _) _ _
   ·exact ih h _ _
theorem Zlk{n:Nat}{p:Array Nat}(h:kP n p)(h0:0<n)(m r:Nat):kGood n (λr:Nat×Array Nat=>kP n r.2) (kas_tail3 m r p):=by
 refine kGood.bind (P:=λ_=>True) (λa _=>?_) (Zoo (h.rev _ _) h0 _ _)
 exact h.rev _ _
theorem Zek{n:Nat}{p:Array Nat}(h:kP n p)(h0:0<n)(m r:Nat):kGood n (λr:Nat×Array Nat=>kP n r.2) (kas_descPart m r p) :=
 (Zrq h0 _ h _ _).bind λx hx=>by
  show kGood n _ (if x.2.2>0 then _ else _)
  split
  ·exact Zlk (hx.rev _ _) h0 _ _
  ·exact Zlk hx h0 _ _
theorem Zps{n:Nat}{p:Array Nat}(h:kP n p)(h0:0<n)(r:Nat):kGood n (λr:Nat×Array Nat=>kP n r.2) (kas_count r p) :=
 (Zoo h h0 _ _).bind λm _=>by
  show kGood n _ (if(m==r)=true then _ else if m>1 then _ else _)
  split
  ·exact h
  ·split
   ·refine⟨h.at h0 _,h.at h0 _,λb=>?_⟩
    cases b
    ·exact Zek (h.rev _ _) h0 _ _
    ·exact h
   ·exact Zek h h0 _ _
theorem Zpp{n:Nat}{p:Array Nat}(h:kP n p)(h0:0<n)(k f l r:Nat):kGood n (λ_=>True) (kas_place p k f l r):=by
 induction f generalizing l r with
 | zero=>exact trivial
 | succ f ih=>
  show kGood n _ (if l≥r then _ else _)
  split
  ·exact trivial
  ·refine⟨h.at h0 _,h.at h0 _,λb=>?_⟩
   cases b
   ·exact ih _ _
   ·exact ih _ _
theorem Zwr{n:Nat}(h0:0<n)(f:Nat){p:Array Nat}(h:kP n p)(k:Nat):kGood n (kP n) (kas_bin f p k):=by
 induction f generalizing p k with
 | zero=>exact h
 | succ f ih=>exact(Zpp h h0 _ _ _ _).bind λl _=>ih (h.bub _ _) _
theorem Zlp{n:Nat}(h0:0<n):kGood n (kP n) (kas_sort n) :=
 (Zps (p:=Vu (Xz n)) (.refl _) h0 n).bind λr hr=>by
  show kGood n _ (if r.1<n then _ else _)
  split
  ·exact Zwr h0 _ hr _
  ·exact hr
noncomputable def Z0h(lt:Nat->Nat->Bool)(n:Nat):List Nat:=(kEv lt (kas_sort n)).toList
theorem Zey{lt:Nat->Nat->Bool}{n:Nat}(h0:0<n):(Z0h lt n).Perm (Xz n):=(Zlp h0).ev (P:=kP n)
end L2
namespace L2
open PySem PySem.Spec PyProof.Rows PySem.W PySem.SeqAt
open AutoSeq1 (wpAny_loadPart')
open MeetsSeq MeetsSeq2 MeetsSeq3 SeqRoads2
noncomputable def ltI:List Int->List Int->Bool
 | [],[]=>false
 | [],_ :: _=>true
 | _ :: _,[]=>false
 | x :: xs,y :: ys=>if x=y then ltI xs ys else decide (x<y)
theorem Zom{vs:List Xe}{ns:List Int}(h:Bl vs ns)(i:Nat)(hi:i<vs.length):∃x t,vs[i]? =some (.int x t)∧ns.drop i=x :: ns.drop (i+1):=by
 induction h generalizing i with
 | nil=>exact absurd hi (V4 i)
 | cons n t h ih=>
  cases i with
  | zero=>exact⟨n,t,rfl,rfl⟩
  | succ i=>exact ih i (Nat.lt_of_succ_lt_succ hi)
theorem Zgg{vs:List Xe}{ns:List Int}(h:Bl vs ns):vs.length=ns.length:=by
 induction h with
 | nil=>rfl
 | cons n t h ih=>exact congrArg Nat.succ ih
theorem Zkl{xs ys:List Int}(h:xs=[]∨ys=[]):ltI xs ys=decide (xs.length<ys.length):=by
 cases xs<;>cases ys<;>first|rfl|(rcases h with h|h<;>cases h)|exact(decide_eq_true (Nat.succ_pos _)).symm
theorem Zqs(l b:Addr)(items items2:Array Xe)(n n2:Nat)(dd dd2:Option Addr)(sl sl2:Array (Option Xe)){xs ys:List Int}(h1:Bl items.toList xs)(h2:Bl items2.toList ys)(k:Nat) :
  ∀i:Nat,items.size-i=k->i≤items.size->i≤items2.size->Meets (U6.«list.__eq__.loop» ⟨[.ref l,.ref b,U9 i,U9 0],[]⟩)
   (λA R s=>s.heap.get? l=some { cls:=.type "list",dict:=dd,data:=.seq items n,slots:=sl }∧s.heap.get? b=some { cls:=.type "list",dict:=dd2,data:=.seq items2 n2,slots:=sl2 }∧
    R (.ok (.ret (.bool (ltI (xs.drop i) (ys.drop i))))) s):=by
 have e1:items.size=xs.length:=Zgg h1
 have e2:items2.size=ys.length:=Zgg h2
 have fin:∀i,i≤items.size->i≤items2.size->(i=items.size∨i=items2.size)->ltI (xs.drop i) (ys.drop i)=decide (items.size<items2.size):=λi u1 u2 c=>by
  rw[Zkl (c.imp (λc=>Vw (by omega)) λc=>Vw (by omega)),Qq,Qq]
  exact decide_eq_decide.mpr (by omega)
 induction k with
 | zero=>
  intro i hk u1 u2 prog w A R s h
  obtain⟨hp,g,d,tk,os⟩:=s;obtain⟨hl,hb,h⟩:=h
  wp_walk using QS hl,QS hb
  have hi1:items[((i:Nat):Int).toNat]? =none:=by simp;omega
  rw[fin i u1 u2 (.inl (by omega))]at h
  rw[hi1]
  wp_walk using QS hl,QS hb
  exact h
 | succ k ih=>
  intro i hk u1 u2 prog w A R s h
  obtain⟨hp,g,d,tk,os⟩:=s;obtain⟨hl,hb,h⟩:=h
  have hlt:i<items.size:=by omega
  obtain⟨x,t,q1,q2⟩:=Zom h1 i hlt
  have hi1:items[((i:Nat):Int).toNat]? =some (.int x t):=by rw[Qs,←q1,Array.getElem?_toList]
  wp_walk using QS hl,QS hb
  by_cases c:i<items2.size
  ·obtain⟨y,u,q3,q4⟩:=Zom h2 i c
   have hi2:items2[((i:Nat):Int).toNat]? =some (.int y u):=by rw[Qs,←q3,Array.getElem?_toList]
   have hc:((i:Int)+1)=((i+1:Nat):Int):=by push_cast;rfl
   rw[q2,q4]at h
   unfold ltI at h
   rw[hi1,hi2]
   refine Xg (EqAt.int_int x t y u prog w _ _ ?_)
   by_cases cx:x=y
   ·rw[if_pos cx]at h
    rw[beq_iff_eq.mpr cx]
    wp_walk
    rw[hc]
    exact⟨plainId_quiet plain_eq_loop _,codeAny_builtin entry_eq_loop (by
     rw[Around.under_plainId plain_eq_loop _]
     exact ih (i+1) (by omega) (by omega) (by omega) prog w A R _ ⟨hl,hb,h⟩)⟩
   ·rw[if_neg cx]at h
    rw[beq_eq_false_iff_ne.mpr cx]
    wp_walk using QS hl,QS hb
    rw[hi1,hi2]
    refine Xg (lt_int ?_)
    wp_walk
    exact h
  ·have hi2:items2[((i:Nat):Int).toNat]? =none:=by simp;omega
   rw[fin i u1 u2 (.inr (by omega))]at h
   rw[hi1,hi2]
   wp_walk using QS hl,QS hb
   exact h
theorem Zq4(l b:Addr)(items items2:Array Xe)(n n2:Nat)(dd dd2:Option Addr)(sl sl2:Array (Option Xe)){xs ys:List Int}(h1:Bl items.toList xs)(h2:Bl items2.toList ys) :
  Meets (U6.«list.__lt__» ⟨[.ref l,.ref b],[]⟩)
   (λA R s=>s.heap.get? l=some { cls:=.type "list",dict:=dd,data:=.seq items n,slots:=sl }∧s.heap.get? b=some { cls:=.type "list",dict:=dd2,data:=.seq items2 n2,slots:=sl2 }∧
    R (.ok (.ret (.bool (ltI xs ys)))) s):=by
 intro prog w A R s h
 obtain⟨hp,g,d,tk,os⟩:=s;obtain⟨hl,hb,h⟩:=h
 have f3:=AutoSeq1.sub_list_list
 wp_walk using QS hl,QS hb
 exact⟨plainId_quiet plain_eq_loop _,codeAny_builtin entry_eq_loop (by
  rw[Around.under_plainId plain_eq_loop _]
  exact Zqs l b items items2 n n2 dd dd2 sl sl2 h1 h2 _ 0 rfl (Q9 _) (Q9 _) prog w A R _ ⟨hl,hb,h⟩)⟩
section
variable {prog:X6}{w:Qu}{A:Qo}{E:Xe->Xf->Prop}{s:Xf}
theorem Zp3{l b:Addr}{items items2:Array Xe}{xs ys:List Int}{Q:Bool->Xf->Prop}(hu:A.units<cLine)(hl:s.heap.IsList l items)(hb:s.heap.IsList b items2)(h1:Bl items.toList xs)(h2:Bl items2.toList ys)(h:Q (ltI xs ys) s) :
  XR (Qa prog w) A (oneLt' true (.ref l) (.ref b)) Q E s:=by
 obtain⟨⟨cls,dd,data,sl⟩,hl,hc,n,hd⟩:=hl
 obtain⟨⟨cls2,dd2,data2,sl2⟩,hb,hc2,n2,hd2⟩:=hb
 simp only at hc hd hc2 hd2
 subst hc hd hc2 hd2
 rw[oneLt'_eq]
 simp only[if_true]
 refine Xg (wpAny_cRoomFor hu ?_)
 refine Xg (wpAny_callSpecialIfBound?_slot ⟨_,hl,rfl⟩ F.slot_list_lt (UG F.slot_list_lt ⟨_,hl,rfl⟩ F.entry_list_lt (F.args_list_lt_2 _ _) (Zq4 l b items items2 n n2 dd dd2 sl sl2 h1 h2) ⟨hl,hb,?_⟩))
 exact VH h
end
theorem Z5t{prog:X6}{w:Qu}{A:Qo}{E:Xe->Xf->Prop}{s:Xf}{a b:Int}{t u:Tok}{Q:Xe->Xf->Prop}(h:Q (.bool (decide (a<b))) s):XR (Qa prog w) A (richCompare .Lt (.int a t) (.int b u)) Q E s:=lt_int h
theorem Zpw(l b:Addr)(items items2:Array Xe)(n n2:Nat)(dd dd2:Option Addr)(sl sl2:Array (Option Xe)){xs ys:List Int}(h1:Bl items.toList xs)(h2:Bl items2.toList ys) :
  Meets (U6.«tuple.__lt__» ⟨[.ref l,.ref b],[]⟩)
   (λA R s=>s.heap.get? l=some { cls:=.type "tuple",dict:=dd,data:=.seq items n,slots:=sl }∧s.heap.get? b=some { cls:=.type "tuple",dict:=dd2,data:=.seq items2 n2,slots:=sl2 }∧
    R (.ok (.ret (.bool (ltI xs ys)))) s) :=
 .of_wp λprog w A R s h=>by
  obtain⟨hp,g,d,tk,os⟩:=s;obtain⟨hl,hb,h⟩:=h
  have f2:=AutoSeq1.sub_tuple_tuple
  have e1:items.toList.length=xs.length:=Zgg h1
  have e2:items2.toList.length=ys.length:=Zgg h2
  wp_walk using QS hl,QS hb,wpAny_forIn_list _ (λrest b s'=>b.1=none∧s'=⟨hp,g,d,tk,os⟩∧∃i,rest=(items.toList.zip items2.toList).drop i∧i≤items.toList.length∧i≤items2.toList.length∧
   R (.ok (.ret (.bool (ltI (xs.drop i) (ys.drop i))))) ⟨hp,g,d,tk,os⟩) _
  case turn=>
   rintro⟨v,u⟩ rest b s' ⟨hb',rfl,i,hz,u1,u2,hR⟩
   have hlt:i<(items.toList.zip items2.toList).length:=by
    rcases Nat.lt_or_ge i (items.toList.zip items2.toList).length with h'|h'
    ·exact h'
    ·rw[List.drop_of_length_le h']at hz;cases hz
   have hm:=hlt
   rw[List.length_zip]at hm
   obtain⟨x,t,q1,q2⟩:=Zom h1 i (by omega)
   obtain⟨y,r,q3,q4⟩:=Zom h2 i (by omega)
   rw[Bv hlt]at hz
   injection hz with hyx hrest
   have hz0:(items.toList.zip items2.toList)[i]? =some (.int x t,.int y r):=by rw[List.getElem?_zip_eq_some];exact⟨q1,q3⟩
   rw[Xh hlt]at hz0
   injection hz0 with hz0
   rw[hz0]at hyx
   cases hyx
   rw[q2,q4]at hR
   unfold ltI at hR
   refine Xg (EqAt.int_int x t y r prog w _ _ ?_)
   by_cases cx:x=y
   ·rw[if_pos cx]at hR
    rw[beq_iff_eq.mpr cx]
    wp_walk
    exact⟨rfl,rfl,i+1,hrest,by omega,by omega,hR⟩
   ·rw[if_neg cx]at hR
    rw[beq_eq_false_iff_ne.mpr cx]
    wp_walk using Z5t
    exact⟨_,rfl,hR⟩
  case fin=>
   rintro⟨b1,b2⟩ s' ⟨hb',rfl,i,hz,u1,u2,hR⟩
   simp only at hb'
   subst hb'
   have hge:min items.toList.length items2.toList.length≤i:=by
    rcases Nat.lt_or_ge i (items.toList.zip items2.toList).length with h'|h'
    ·rw[Bv h']at hz;cases hz
    ·rw[List.length_zip]at h';exact h'
   have hv:ltI (xs.drop i) (ys.drop i)=decide (items.size<items2.size):=by
    rw[Zkl ((show i=items.toList.length∨i=items2.toList.length by omega).imp (λc=>Vw (by omega)) λc=>Vw (by omega)),Qq,Qq]
    rw[V0]at e1 e2 u1 u2
    exact decide_eq_decide.mpr (by omega)
   rw[hv]at hR
   wp_walk
   exact⟨_,rfl,hR⟩
  case h=>
   exact⟨rfl,rfl,0,rfl,Q9 _,Q9 _,h⟩
section
variable {prog:X6}{w:Qu}{A:Qo}{E:Xe->Xf->Prop}{s:Xf}
theorem Zrm{l b:Addr}{items items2:Array Xe}{xs ys:List Int}{Q:Bool->Xf->Prop}(hu:A.units<cLine)(hl:s.heap.IsTuple l items)(hb:s.heap.IsTuple b items2)(h1:Bl items.toList xs)(h2:Bl items2.toList ys)(h:Q (ltI xs ys) s) :
  XR (Qa prog w) A (oneLt' false (.ref l) (.ref b)) Q E s:=by
 obtain⟨⟨cls,dd,data,sl⟩,hl,hc,n,hd⟩:=hl
 obtain⟨⟨cls2,dd2,data2,sl2⟩,hb,hc2,n2,hd2⟩:=hb
 simp only at hc hd hc2 hd2
 subst hc hd hc2 hd2
 exact kat_one _ _ (richCompare_meets_room (op:=.Lt) ⟨_,hl,rfl⟩ ⟨_,hb,rfl⟩ F.slot_tuple_lt F.entry_tuple_lt (F.args_tuple_lt_2 _ _) (Zpw l b items items2 n n2 dd dd2 sl sl2 h1 h2)
  ⟨hl,hb,show Value.bool (ltI xs ys)≠Xe.notImplemented∧_ from⟨(λx=>nomatch x),h⟩⟩ hu)
end
end L2
namespace L2
open PySem PySem.Spec PyProof.Rows PySem.W
noncomputable def sLay{α:Type}(d:α)(lt:Nat->Nat->Bool)(vs:List α):List α:=if vs.length<2 then vs else(Z0h lt vs.length).map λi=>vs.getD i d
theorem Zp9{α:Type}(d:α)(vs:List α):((Xz vs.length).map λi=>vs.getD i d)=vs:=by
 refine Us λi=>?_
 rw[Xy]
 by_cases c:i<vs.length
 ·rw[Bk c,Xh c]
  show some (vs.getD i d)=_
  rw[Xd,Xh c];rfl
 ·rw[Q0 (by rw[Qk];omega),Q0 (by omega)];rfl
theorem Zln{α:Type}(d:α)(lt:Nat->Nat->Bool)(vs:List α):(sLay d lt vs).Perm vs:=by
 unfold sLay
 split
 ·exact .refl _
 ·have:=(Zey (lt:=lt) (n:=vs.length) (by omega)).map λi=>vs.getD i d
  rwa[Zp9]at this
theorem Zjb{α β:Type}(f:α->β)(d:α)(lt:Nat->Nat->Bool)(vs:List α):sLay (f d) lt (vs.map f)=(sLay d lt vs).map f:=by
 unfold sLay
 rw[Xi]
 split
 ·rfl
 ·rw[XN]
  refine Xw λi _=>?_
  show(vs.map f).getD i (f d)=f (vs.getD i d)
  rw[Xd,Xd,Xy]
  cases vs[i]? <;>rfl
theorem Zqx{lt:Nat->Nat->Bool}{xs:List V}{us:List Xe}(h:Vals xs us):Vals (sLay .non lt xs) (sLay .none lt us):=by
 unfold sLay
 rw[h.length]
 split
 ·exact h
 ·generalize Z0h lt _=l
  induction l with
  | nil=>exact .nil
  | cons i l ih=>
   refine .cons ?_ ih
   show RelV (xs.getD i V.non) (us.getD i Q5)
   rw[Xd,Xd]
   cases e:xs[i]? with
   | some x=>
    obtain⟨u,e',r⟩:=h.get e
    rw[e'];exact r
   | none=>
    have:us[i]? =none:=Q0 (by rw[←h.length];exact QD.mp e)
    rw[this];exact rfl
section
variable {prog:X6}{w:Qu}{A:Qo}{E:Xe->Xf->Prop}{s:Xf}
theorem Zpv{κ:SortKind}{lt:Nat->Nat->Bool}{h0:Heap}{a:Addr}{vs:List Xe}{n:Nat}{P:PySem.Fin->Xf->Prop}(ho:s.heap.get? a=some (BR "list" vs.toArray n))
  (k0:∀b o,h0.get? b=some o->s.heap.get? b=some o) (ha0:h0.get? a=none) (h64:vs.length<64)
  (hk:2≤vs.length->∀s':Xf,(∀b o,h0.get? b=some o->s'.heap.get? b=some o)->∀Q:SortKind->Xf->Prop,Q κ s'->XR (Qa prog w) A (keyKind' vs.toArray) Q E s')
  (hc:2≤vs.length->∀s':Xf,(∀b o,h0.get? b=some o->s'.heap.get? b=some o)->∀i j C,i<vs.length->j<vs.length->C (lt i j) s'->kas_ask prog w A κ vs i j C s')
  (h:P (.done (.ret .none)) { s with heap:=sortedHeap s.heap a vs (Vu (sLay Q5 lt vs)) }):XR (Qa prog w) A (U6.«list.sort» ⟨[.ref a],[]⟩) P E s:=by
 have ha:a<s.heap.objs.size:=XD ho
 obtain⟨e1,ho1⟩:∃e1,(s.heap.update a (JR λ_=>(#[]:Array Xe))).get? a=some (BR "list" #[] e1):=⟨_,get?_update_seq ho λ_=>#[]⟩
 have ho6:(((s.heap.update a (JR λ_=>(#[]:Array Xe))).push (BR "tuple" vs.toArray 0)).push (BR "list" #[] 0)).get? a=some (BR "list" #[] e1):=Xm _ (Xm _ ho1)
 have k6:∀b o,h0.get? b=some o->(((s.heap.update a (JR λ_=>(#[]:Array Xe))).push (BR "tuple" vs.toArray 0)).push (BR "list" #[] 0)).get? b=some o:=λb o e=>by
  refine Xm _ (Xm _ ?_)
  rw[Heap.get?_update_ne _ _ _ _ (λq=>by rw[q,ha0]at e;cases e)]
  exact k0 b o e
 rw[list_sort_plain]
 refine Xg (listItems_at ho rfl ?_)
 refine Xg (listUpdate_at ho rfl ?_ (by rw[Xu,X5];omega) (Q9 _))
 refine Xg (seqEpoch_at ho1 rfl ?_)
 refine Xg (wpAny_newTuple ?_ (by show vs.length≤_;rw[X5];omega))
 refine Xg (wpAny_newList ?_ (Q9 _))
 refine U8 ?_
 show XR (Qa prog w) A _ P E { s with heap:=((s.heap.update a (JR λ_=>(#[]:Array Xe))).push (BR "tuple" vs.toArray 0)).push (BR "list" #[] 0) }
 dsimp only
 have hs:vs.toArray.size=vs.length:=Xu ..
 by_cases h2:vs.toArray.size<2
 ·have el:sLay Q5 lt vs=vs:=if_pos (hs▸h2)
  rw[el]at h
  rw[if_pos h2,if_pos h2]
  refine Xg (Qe ?_)
  rw[StateT.run_pure]
  refine Xg (Qe ?_)
  dsimp only
  refine Xg (seqEpoch_at ho6 rfl ?_)
  have ez:((vs.toArray.zip vs.toArray).map (·.2))=vs.toArray:=by
   apply Array.toList_inj.mp
   rw[Array.toList_map,Array.toList_zip,List.map_snd_zip (Qp _)]
  show XR _ _ (Builtin.List.listUpdate _ (λ_=>(vs.toArray.zip vs.toArray).map (·.2))>>=_) _ _ _
  rw[ez]
  refine Xg (listUpdate_at ho6 rfl ?_ (Q9 _) (by rw[hs,X5];omega))
  simp only[bne_self_eq_false,BW,if_false]
  exact Qe h
 ·rw[if_neg h2,if_neg h2]
  have h2':2≤vs.length:=by omega
  have el:sLay Q5 lt vs=(Z0h lt vs.length).map λi=>vs.getD i Q5:=if_neg (by omega)
  rw[el]at h
  refine Xg (hk h2' _ k6 _ ?_)
  have est:SortSt.mk' κ (vs.toArray.zip vs.toArray) #[] 7 none=kas_st κ (pairsOf vs) (Vu (Xz vs.length)):=by
   have e:=kas_range (pairsOf vs)
   rw[pairsOf_size]at e
   show SortSt.mk' κ (pairsOf vs) #[] 7 none=SortSt.mk' κ ((Vu (Xz vs.length)).map (kas_item (pairsOf vs))) #[] 7 none
   rw[e]
  have run:=kas_runs (prog:=prog) (w:=w) (A:=A) (κ:=κ) (it:=pairsOf vs) (E:=E) (s:={ s with heap:=((s.heap.update a (JR λ_=>(#[]:Array Xe))).push (BR "tuple" vs.toArray 0)).push (BR "list" #[] 0) })
   (Q:=λ_ st' s'=>arrOf st'=(kEv lt (kas_sort vs.length)).map (kas_item (pairsOf vs))∧failedOf st'=none∧s'={ s with heap:=((s.heap.update a (JR λ_=>(#[]:Array Xe))).push (BR "tuple" vs.toArray 0)).push (BR "list" #[] 0) })
   (G:=λp s'=>p=kEv lt (kas_sort vs.length)∧s'={ s with heap:=((s.heap.update a (JR λ_=>(#[]:Array Xe))).push (BR "tuple" vs.toArray 0)).push (BR "list" #[] 0) })
   h2' h64 (λp' st' s' _ a2 a3 a4=>⟨a4.1▸a2,a3,a4.2⟩) (by
    rw[←kas_ask_eq]
    exact(Zlp (n:=vs.length) (by omega)).wp (hc h2' _ k6) ⟨rfl,rfl⟩)
  rw[←est]at run
  refine Xg (QT run ?_ λ_ _ e=>e)
  intro r s' z
  obtain⟨har,hf,rfl⟩:=z
  have hout:(arrOf r.2).map (·.2)=Vu ((Z0h lt vs.length).map λi=>vs.getD i Q5):=by
   apply Array.toList_inj.mp
   rw[har,Array.map_map,Array.toList_map]
   exact Xw λi _=>by show(kas_item (pairsOf vs) i).2=_;rw[kas_item_eq]
  rw[hout]
  refine Xg (seqEpoch_at ho6 rfl ?_)
  refine Xg (listUpdate_at ho6 rfl ?_ (Q9 _) (by rw[Xu,Xi,(Zey (by omega)).length_eq,Qk,X5];omega))
  rw[hf]
  simp only[bne_self_eq_false,BW,if_false]
  exact Qe h
theorem Z00{κ:SortKind}{lt:Nat->Nat->Bool}{l:Addr}{vs:List Xe}{Q:Xe->Xf->Prop}(hl:s.heap.IsList l vs.toArray)(h64:vs.length<64)
  (hk:2≤vs.length->∀s':Xf,(∀b o,s.heap.get? b=some o->s'.heap.get? b=some o)->∀Q:SortKind->Xf->Prop,Q κ s'->XR (Qa prog w) A.in1.in1 (keyKind' vs.toArray) Q E s')
  (hc:2≤vs.length->∀s':Xf,(∀b o,s.heap.get? b=some o->s'.heap.get? b=some o)->∀i j C,i<vs.length->j<vs.length->C (lt i j) s'->kas_ask prog w A.in1.in1 κ vs i j C s')
  (h:Q (.ref (s.heap.objs.size+1)) { s with heap:=sortedAll s.heap vs (Vu (sLay Q5 lt vs)) }):XR (Qa prog w) A (call (.builtin "sorted") [.ref l]) Q E s:=by
 refine Calls.call_function_entry kind_sorted plain_sorted entry_sorted (args_sorted1 _) ?_
 unfold U6.«sorted»
 refine Xg (m:=checkCount "sorted" 1 1 _) (Qe ?_)
 refine Xg (collect_list hl ?_ (by rw[X5];omega))
 refine Xg (wpAny_newList ?_ (by rw[X5];omega))
 have hsz:((s.heap.push (BR "list" #[] 0)).update s.heap.objs.size (JR (· ++ vs.toArray))).objs.size=s.heap.objs.size+1:=by
  rw[Heap.size_update,size_push']
 have hoL:(((s.heap.push (BR "list" #[] 0)).update s.heap.objs.size (JR (· ++ vs.toArray))).push (BR "list" vs.toArray 0)).get? (s.heap.objs.size+1)=some (BR "list" vs.toArray 0):=by
  rw[←hsz];exact Qc _ rfl
 have keep:∀b o,s.heap.get? b=some o->(((s.heap.push (BR "list" #[] 0)).update s.heap.objs.size (JR (· ++ vs.toArray))).push (BR "list" vs.toArray 0)).get? b=some o:=λb o q=>by
  have hlt:b<s.heap.objs.size:=XD q
  rw[Heap.get?_push_ne _ _ _ (by rw[hsz];exact Xq (Nat.lt_succ_of_lt hlt)),Heap.get?_update_ne _ _ _ _ (Xq hlt),Heap.get?_push_ne _ _ _ (Xq hlt)]
  exact q
 show XR _ _ _ _ _ { s with heap:=((s.heap.push (BR "list" #[] 0)).update s.heap.objs.size (JR (· ++ vs.toArray))).push (BR "list" vs.toArray 0) }
 rw[hsz]
 refine Xg (U8 (V1 slot_list_sort ⟨_,hoL,rfl⟩ entry_list_sort (Zpv (h0:=s.heap) hoL keep (Heap.get?_none_of_le (Nat.le_succ _)) h64 hk hc ⟨_,rfl,?_⟩) (args_list_sort _)))
 exact Qe ⟨_,rfl,h⟩
end
end L2
namespace L2
open PySem PySem.Spec PyProof.Rows PySem.W
variable {G:Xb}
structure Z68{α:Type}(kd:Xa->Option α)(lt:α->α->Bool):Prop where
 lay:∀d k,kd d=some k->d.canLay0=true
 run:∃κ:SortKind,(∀(prog:X6) (w:Qu) (A:Qo) (E:Xe->Xf->Prop) (s:Xf) (vs:List Xe) (ds:List Xa) (as:List Addr) (Q:SortKind->Xf->Prop),2≤vs.length->ReadsAll s.heap vs ds as->(∀d∈ds,∃k,kd d=some k)->Q κ s->XR (Qa prog w) A (keyKind' vs.toArray) Q E s)∧
  ∀(prog:X6) (w:Qu) (A:Qo) (E:Xe->Xf->Prop) (s:Xf) (u v:Xe) (d e:Xa) (as bs:List Addr) (k m:α) (C:Bool->Xf->Prop),A.units+32<cLine->Reads s.heap u d as->Reads s.heap v e bs->kd d=some k->kd e=some m->C (lt k m) s->XR (Qa prog w) A (keyLt' κ u v) C E s
theorem readsAll_ints{h:Heap}(ns:List Int){vs:List Xe}{as:List Addr}(r:ReadsAll h vs (ns.map Xj) as):Bl vs ns:=by
 induction ns generalizing vs as with
 | nil=>cases r;exact .nil
 | cons n ns ih=>
  cases r with
  | cons r q=>
   cases r
   exact .cons _ _ (ih q)
theorem Zde{h:Heap}{ns:List Int}{u:Xe}{as:List Addr}(r:Reads h u (.list (ns.map Xj)) as):∃a items,u= .ref a∧h.IsList a items∧Bl items.toList ns:=by
 cases r with
 | list e c d q=>exact⟨_,_,rfl,⟨_,e,c,_,d⟩,readsAll_ints ns q⟩
theorem Zfi{h:Heap}{ns:List Int}{u:Xe}{as:List Addr}(r:Reads h u (.tuple (ns.map Xj)) as):∃a items,u= .ref a∧h.IsTuple a items∧Bl items.toList ns:=by
 cases r with
 | tuple e c d q=>exact⟨_,_,rfl,⟨_,e,c,_,d⟩,readsAll_ints ns q⟩
theorem readsAll_get{h:Heap}{vs:List Xe}{ds:List Xa}{as:List Addr}(r:ReadsAll h vs ds as):vs.length=ds.length∧∀(i:Nat) d,ds[i]? =some d->∃v bs,vs[i]? =some v∧Reads h v d bs:=by
 induction ds generalizing vs as with
 | nil=>cases r;exact⟨rfl,λi d e=>by rw[Ur]at e;cases e⟩
 | cons d ds ih=>
  cases r with
  | cons r q=>
   obtain⟨z1,z2⟩:=ih q
   refine⟨congrArg Nat.succ z1,λi e he=>?_⟩
   cases i with
   | zero=>cases he;exact⟨_,_,rfl,r⟩
   | succ i=>exact z2 i e he
theorem lay_ints(ns:List Int):Sh 1 (.list (ns.map Xj)):=Ze8 λd m=>by
 obtain⟨x,_,rfl⟩:=X4.mp m
 exact Zik x
theorem Zep(ns:List Int):Sh 1 (.tuple (ns.map Xj)):=Zpg λd m=>by
 obtain⟨x,_,rfl⟩:=X4.mp m
 exact Zik x
theorem Zpn{M:Model}{h:Heap}{a:Addr}{items:Array Xe}(e:h.IsList a items):Looks M h (typeOf (.ref a)) (.type "list"):=by
 obtain⟨o,e,c,_⟩:=e
 have:Looks M h (typeOf (.ref a)) o.cls:=(Looks.ld e).andThen .now
 rwa[c]at this
noncomputable def kdT:Xa->Option (List Int×List Int):=λd=>match d with| .tuple [.list es,.tuple fs]=>(Zgo es).bind λns=>(Zgo fs).bind λms=>some (ns,ms)|_=>none
noncomputable def ltT:List Int×List Int->List Int×List Int->Bool:=λa b=>if a.1=b.1 then(if a.2=b.2 then false else ltI a.2 b.2)else ltI a.1 b.1
theorem Zgk{d:Xa}{k:List Int×List Int}(h:kdT d=some k):d= .tuple [.list (k.1.map Xj),.tuple (k.2.map Xj)]:=by
 unfold kdT at h
 split at h
 case h_2=>cases h
 obtain⟨ns,h1,h⟩:=bs h
 obtain⟨ms,h2,h⟩:=bs h
 cases h
 rw[Zer h1,Zer h2]
theorem Zns{h:Heap}{k:List Int×List Int}{u:Xe}{as:List Addr}(r:Reads h u (.tuple [.list (k.1.map Xj),.tuple (k.2.map Xj)]) as):∃t o n a b,u= .ref t∧h.get? t=some o∧o.cls= .type "tuple"∧o.data= .seq #[.ref a,.ref b] n∧(∃bs,Reads h (.ref a) (.list (k.1.map Xj)) bs)∧∃bs,Reads h (.ref b) (.tuple (k.2.map Xj)) bs:=by
 cases r with
 | @tuple t o vs n xs as e c d q=>
  obtain⟨l,hl⟩:∃l,l=vs.toList:=⟨_,rfl⟩
  rw[←hl]at q
  cases q with
  | cons r1 q=>
   cases q with
   | cons r2 q=>
    cases q
    obtain⟨a,_,rfl,_⟩:=Zde r1
    obtain⟨b,_,rfl,_⟩:=Zfi r2
    have:vs=#[.ref a,.ref b]:=Array.toList_inj.mp hl.symm
    subst this
    exact⟨t,o,n,a,b,rfl,e,c,d,⟨_,r1⟩,_,r2⟩
theorem Zlf(a b:List Int):Qx (.list (a.map Xj)) (.list (b.map Xj))=decide (a=b):=by
 have p:∀l:List Int,Yr (.list (l.map Xj))=true:=λl=>by rw[Yr];induction l with|nil=>rfl|cons x l ih=>exact ih
 have inj:∀{l m:List Int},Qy (l.map Xj)= .list (m.map Xj)->l=m:=λh=>by
  injection h with h
  exact(Ub λx y z=>by injection z).mp h
 by_cases c:a=b
 ·rw[Zyf (p a) (p b) (by rw[c]),decide_eq_true c]
 ·rw[Zxd (p a) (p b) λz=>c (inj z),decide_eq_false c]
theorem Zt1(a b:List Int):Qx (.tuple (a.map Xj)) (.tuple (b.map Xj))=decide (a=b):=by
 have e:∀xs ys:List Xa,Qx (.tuple xs) (.tuple ys)=Qx (.list xs) (.list ys):=λxs ys=>by
  rw[Qx,Qx]
 rw[e,Zlf]
theorem Zxn:Z68 kdT ltT:=by
 refine⟨λd k h=>?_,tuples' true,λprog w A E s vs ds as Q h2 r hk q=>?_,λprog w A E s u v d e as bs k m C hu r1 r2 h1 h2 h=>?_⟩
 ·rw[Zgk h]
  exact(Zpg (n:=1) λd m=>by
   rcases Xl.mp m with rfl|m
   ·exact lay_ints _
   ·rw[XH.mp m];exact Zep _).1
 ·have key:∃fs:List Xe,KatTups s.heap vs fs∧fs.length=vs.length∧∀v∈fs,∃a items,v= .ref a∧s.heap.IsList a items:=by
   clear h2 q
   induction ds generalizing vs as with
   | nil=>cases r;exact⟨[],trivial,rfl,λ_ m=>nomatch m⟩
   | cons d ds ih=>
    cases r with
    | cons r q=>
     obtain⟨fs,t,l,z⟩:=ih _ _ q λd m=>hk d (.tail _ m)
     obtain⟨k,hk⟩:=hk d (.head _)
     rw[Zgk hk]at r
     obtain⟨t',o,n,a,b,rfl,e,c,hd,⟨_,x1⟩,_⟩:=Zns r
     obtain⟨a',items,ea,ex,_⟩:=Zde x1
     cases ea
     refine⟨.ref a :: fs,KatTups.cons e c hd rfl t,congrArg Nat.succ l,λv hv=>?_⟩
     rcases Xl.mp hv with rfl|hv
     ·exact⟨a,items,rfl,ex⟩
     ·exact z v hv
  obtain⟨fs,t,l,z⟩:=key
  exact kat_kind (T:=.type "list") t (by omega) (λv hv=>by obtain⟨a,items,rfl,e⟩:=z v hv;exact Zpn e) rfl q
 ·rw[Zgk h1]at r1
  rw[Zgk h2]at r2
  obtain⟨t1,o1,n1,a1,b1,rfl,g1,c1,d1,⟨_,x1⟩,_,y1⟩:=Zns r1
  obtain⟨t2,o2,n2,a2,b2,rfl,g2,c2,d2,⟨_,x2⟩,_,y2⟩:=Zns r2
  refine kat_lt g1 d1 g2 d2 (kat_cons ?_)
  refine SeqAt.eqAt_reads _ _ A s _ _ _ _ x1 x2 (lay_ints _).1 (lay_ints _).1 (by have:=(lay_ints k.1).2;omega) prog w _ _ ?_
  rw[Zlf]
  unfold ltT at h
  obtain⟨p1,i1,e1,l1,z1⟩:=Zde x1
  obtain⟨p2,i2,e2,l2,z2⟩:=Zde x2
  cases e1;cases e2
  by_cases c:k.1=m.1
  ·rw[if_pos c]at h
   rw[decide_eq_true c]
   refine kat_yes (kat_cons ?_)
   refine SeqAt.eqAt_reads _ _ A s _ _ _ _ y1 y2 (Zep _).1 (Zep _).1 (by have:=(Zep k.2).2;omega) prog w _ _ ?_
   rw[Zt1]
   obtain⟨p1,i1,e1,l1,z1⟩:=Zfi y1
   obtain⟨p2,i2,e2,l2,z2⟩:=Zfi y2
   cases e1;cases e2
   by_cases c':k.2=m.2
   ·rw[if_pos c']at h
    rw[decide_eq_true c']
    exact kat_yes (kat_nil h)
   ·rw[if_neg c']at h
    rw[decide_eq_false c']
    exact kat_no (Zrm (by omega) l1 l2 z1 z2 h)
  ·rw[if_neg c]at h
   rw[decide_eq_false c]
   exact kat_no (Zp3 (by omega) l1 l2 z1 z2 h)
end L2
namespace L2
open PySem PySem.Spec PyProof.Rows PySem.W
variable {G:Xb}
noncomputable def lk{α:Type}(kd:Xa->Option α)(lt:α->α->Bool)(es:List Xa):Nat->Nat->Bool:=λi j=>((kd (es.getD i .none)).bind λa=>(kd (es.getD j .none)).map λb=>lt a b).getD false
noncomputable def keyed{α:Type}(kd:Xa->Option α)(es:List Xa):Prop:=∀d∈es,∃k,kd d=some k
theorem Zp1{es:List Xa}(h:∀d∈es,d.canLay0=true):JH es=true:=by
 induction es with
 | nil=>rw[JH]
 | cons d es ih=>rw[JH,h d (.head _),ih λd m=>h d (.tail _ m)];rfl
theorem Das.sLay{H:Hp}{L:Addr->Prop}{lt:Nat->Nat->Bool}{xs:List V}{ds:List Xa}(h:Das G H L xs ds):Das G H L (L2.sLay .non lt xs) (L2.sLay .none lt ds):=by
 unfold L2.sLay
 rw[h.length]
 split
 ·exact h
 ·generalize Z0h lt _=l
  induction l with
  | nil=>exact .nil
  | cons i l ih=>
   refine .cons ?_ ih
   show Da G H L (xs.getD i .non) (ds.getD i .none)
   rw[Xd,Xd]
   cases e:xs[i]? with
   | some x=>
    obtain⟨u,e',r⟩:=h.get' e
    rw[e'];exact r
   | none=>
    have:ds[i]? =none:=Q0 (by rw[←h.length];exact QD.mp e)
    rw[this];exact .non
noncomputable def Zxv{α:Type}(kd:Xa->Option α)(lt:α->α->Bool)(K:Xb):List V->Hp->VK->Prop:=λxs H Q=>∃(a:Addr) (vs:List V) (L:Addr->Prop) (es:List Xa),xs=[.ref a]∧SqL K H a vs∧Das K H L vs es∧vs.length<64∧keyed kd es∧∀l,H l=none->Q (.ref l) (upd H l (.lst (sLay .non (lk kd lt es) vs)))
section
variable {X:Cx}{α:Type}{kd:Xa->Option α}{lt:α->α->Bool}
theorem Ziy{K:Xb}(S:Z68 kd lt)(hK:X.K=K)(hu:X.A.units+64<cLine):Zcq X (.builtin "sorted") (Zxv kd lt K):=by
 subst hK
 intro pins s σ H xs us Q I r h
 obtain⟨l,vs,L,es,rfl,hs,hd,h64,hk,q⟩:=h
 obtain⟨u,rfl,ru⟩:=vals1 r
 cases(show u=QB l from ru)
 obtain⟨its,rv,pl,hz⟩:=I.list hs
 have hl:=rv.length
 obtain⟨as,ra⟩:=hd.reads rfl I rv (Zp1 λd m=>by obtain⟨k,e⟩:=hk d m;exact S.lay d k e)
 obtain⟨κ,S1,S2⟩:=S.run
 obtain⟨z1,z2⟩:=readsAll_get ra
 refine Z00 (κ:=κ) (lt:=lk kd lt es) pl.isList (by omega) (λh2 s' k Q q=>S1 _ _ _ _ s' _ es as Q h2 (ReadsAll.keeps k ra) hk q) (λh2 s' k i j C hi hj hc=>?_) ?_
 ·rw[z1]at hi hj
  obtain⟨v,b1,e1,r1⟩:=z2 i _ (Xh hi)
  obtain⟨w,b2,e2,r2⟩:=z2 j _ (Xh hj)
  obtain⟨k1,q1⟩:=hk _ (Bc hi)
  obtain⟨k2,q2⟩:=hk _ (Bc hj)
  have ek:lk kd lt es i j=lt k1 k2:=by
   unfold lk
   rw[Xd,Xd,Xh hi,Xh hj]
   show((kd es[i]).bind λa=>(kd es[j]).map λb=>lt a b).getD false=_
   rw[q1,q2];rfl
  rw[ek]at hc
  unfold kas_ask
  rw[Xd,Xd,e1,e2]
  exact S2 _ _ _ _ s' v w _ _ _ _ k1 k2 C (show X.A.units+1+1+32<cLine by omega) (Reads.keeps k r1) (Reads.keeps k r2) q1 q2 hc
 ·obtain⟨e,he⟩:=sortedAll_at s.heap its (Vu (sLay Q5 (lk kd lt es) its))
  refine⟨.ref (s.heap.objs.size+1),_,I.laid (t':=s.toks) (o:=.lst (sLay .non (lk kd lt es) vs)) (λb ob q=>sortedAll_old q) (by omega) ⟨?_,sLay Q5 (lk kd lt es) its,e,Zqx rv,he⟩,rfl,q _ (I.hok.fresh (by omega))⟩
  rw[(Zln _ _ _).length_eq,X5];omega
noncomputable def Zxb(kd:Xa->Option α)(lt:α->α->Bool):List Xa->(OT->Prop)->Prop:=λds k=>n1 (λd=>∃es:List Xa,d= .list es∧es.length<64∧keyed kd es∧k (.nd ((sLay .none (lk kd lt es) es).map OT.fz))) ds
theorem Zu0:PN G (Zxv kd lt G) (Zxb kd lt):=λH L xs ds k Q hx h kk=>by
 obtain⟨v,d,rfl,rfl,q,es,e,h64,hk,h⟩:=hx.one h
 have fin:∀(vs:List V) (p:Addr),Das G H L vs es->H p=none->Q (.ref p) (upd H p (.lst (sLay .non (lk kd lt es) vs))):=λvs p hv hp=>kk _ _ _ [p] (Z3 hp _) (Own.list hp hv.sLay) (Zdw p) (Za5 hp) h
 subst e
 generalize ed:Qy es=d at q
 cases q with
 | lst l e r=>
  cases ed
  exact⟨_,_,L,es,rfl,.inl e,r,by rw[r.length];exact h64,hk,λp hp=>fin _ p r hp⟩
 | scr ks=>
  cases ed
  exact⟨_,_,L,_,rfl,ks.sq,Das.ints _,by rw[(Das.ints (G:=G) (H:=H) (L:=L) _).length];exact h64,hk,λp hp=>fin _ p (Das.ints _) hp⟩
 | _=>cases ed
noncomputable def Zn6(kd:Xa->Option α)(lt:α->α->Bool):List Xa->Option OT:=λds=>match ds with|[.list es]=>if(decide (es.length<64)&&es.all λd=>(kd d).isSome)=true then some (.nd ((sLay .none (lk kd lt es) es).map OT.fz))else none|_=>none
theorem Z09:∀ds r k,Zn6 kd lt ds=some r->k r->Zxb kd lt ds k:=λds r k h hk=>by
 unfold Zn6 at h
 split at h
 case h_2=>cases h
 split at h
 case isFalse=>cases h
 rename_i h2
 rw[Xx]at h2
 cases h
 exact⟨_,rfl,of_decide_eq_true h2.1,λd m=>Ul.mp (Be.mp h2.2 d m),hk⟩
end
end L2
namespace L2
open PySem PySem.Spec PyProof.Rows
section
variable {X:Cx}{io:List Nat}{p p' c c' q r:Bool}{a b e:Expr}{fa fb:FE}{es:List Expr}{ra:FA}{st:Stmt}{sts ss ss':List Stmt}{f g:FS}{ta:FT}
theorem xv(i:Nat){x:Str}{pos:Pos}(hN:X.N[i]? =some x:=by rfl)(hv:Vis X.env.scope x:=by first|exact Qj rfl|exact X8 (Qj rfl)|exact X8 (X8 rfl))(hd:(x==("__debug__" : Str))=false:=by decide)(he:(x==("__classdict__" : Str))=false:=by decide):ME X io true true (.Name x pos) (o2 (Ze i)):=Z2 (mv i hN hv hd he)
theorem xo(i:Nat){x:Str}{pos:Pos}(hN:X.N[i]? =some x:=by rfl)(hv:Vis X.env.scope x:=by first|exact Qj rfl|exact X8 (Qj rfl)|exact X8 (X8 rfl))(hd:(x==("__debug__" : Str))=false:=by decide)(he:(x==("__classdict__" : Str))=false:=by decide):ME X io true false (.Name x pos) (o2 (Zf1 i)):=Z2o (mo i hN hv hd he)
theorem xci{i:Int}{j:Nat}{pos:Pos}:ME X io true true (.Constant (.int i) j pos) (o2 (fC (.int i))):=Zf2 Zg1
theorem xix{pos:Pos}(ha:ME X io p c a (o2 fa))(hb:ME X io p' c' b (o2 fb))(hc:p'=true∨c=true:=by first|exact Qj rfl|exact X8 rfl)(hs:Zjp b:=by exact λ_ _=>rfl)(h2:(p&&p')=q:=by rfl)(h3:(c&&c')=r:=by rfl):ME X io q r (.Subscript a b pos) (o2 (Yn gIx fa fb)):=h2▸h3▸Jr Yb8 (Ybf (Zmz rfl) Z81 ha hb hc (hs:=hs))
theorem xa0:MA X io true true [] (o2 Zn):=Wu Wv
theorem xa1[NoStar e](ha:ME X io p c e (o2 fa))(h2:(p&&true)=q:=by rfl)(h3:(c&&true)=r:=by rfl):MA X io q r [e] (o2 (Zc fa Zn)):=Zd ha xa0 (.inl rfl) h2 h3
theorem xsq(h:MS X io st (oS f))(k:MSs X io sts (oS g)):MSs X io (st :: sts) (oS (Zy f g)):=Zcb (W0 h k)
theorem xst{pos px:Pos}(i:Nat){x:Str}(hN:X.N.Nodup)(he:ME X io p true e (o2 fa))(hi:X.N[i]? =some x:=by rfl)(hx:Loc X.env.scope x:=by first|exact Qj rfl|exact X8 rfl)(hio:i∉io:=by decide)(hs:Bs e (some (.Name x px)) pos.line X.env=pure false:=by rfl)(hf:X.fn x=true∨X.env.scope.names.lookup x=some .local:=by first|exact .inl rfl|exact .inr rfl|assumption):MS X io (.Assign [.Name x px] e pos) (oS (wE fa (Yu i))):=Zew (Zev hN hi hx he hio hs hf)
theorem xrt{pos:Pos}(h:ME X io p true e (o2 fa)):MS X io (.Return (some e) pos) (oS (wE fa Zai)):=Zeo (Zef h)
theorem xg{pos:Pos}(i:Nat){x:Str}(hN:X.N.Nodup)(hi:X.N[i]? =some x:=by rfl)(hx:Loc X.env.scope x:=by first|exact Qj rfl|exact X8 rfl)(hio:i∉io:=by decide)(hf:X.fn x=true∨X.env.scope.names.lookup x=some .local:=by first|exact .inl rfl|exact .inr rfl|assumption):MG X io true (.Name x pos) (oG (gNm i)):=Zg2 (Zg5 hN hi hx hio hf)
theorem xif{pos:Pos}(h:MT X io p e (o2 ta))(k:MSs X io ss (oS f))(l:MSs X io ss' (oS g)):MS X io (.If e ss ss' pos) (oS (Jp ta f g)):=Zkp (Zl3 h k l)
theorem xnl:MSs X io [] (oS fNx):=Zbf Zbc
theorem xtp{pos:Pos}{n:Nat}(h:MA X io p c es (o2 ra)):ME X io p c (.Tuple es n pos) (o2 (Zjx ra)):=Z25 (Z76 h)
theorem xls{pos:Pos}(h:MA X io p c es (o2 ra)):ME X io p c (.List es pos) (o2 (Zbm ra)):=Zxx (Z3e h)
theorem xil{tg:Expr}(h:ME X io p c e (o2 fa)):MI X io p c tg e (o2 (Zhh fa)):=Zrj (Zrg h)
theorem xno{pos:Pos}(h:MT X io p e (o2 ta)):MT X io p (.UnaryOp .Not e pos) (o2 (tNo ta)):=Zk1 (Zld h)
theorem Zds{pos:Pos}(ha:ME X io p c a (o2 fa))(hb:ME X io p' c' b (o2 fb))(hc:p'=true∨c=true:=by first|exact Qj rfl|exact X8 rfl)(h2:(p&&p')=q:=by rfl):ME X io q true (.BinOp a .Add b pos) (o2 (Zf Js fa fb)):=h2▸Wx Zzr (Zkf Zr2 Zjn ha hb hc)
theorem Zpq{pos:Pos}(ha:ME X io p c a (o2 fa))(hb:ME X io p' c' b (o2 fb))(hc:p'=true∨c=true:=by first|exact Qj rfl|exact X8 rfl)(h2:(p&&p')=q:=by rfl):ME X io q true (.BinOp a .Sub b pos) (o2 (Zf gSb fa fb)):=h2▸Wx Z8h (Zkf Z5g Zjn ha hb hc)
theorem Zus{pos:Pos}(ha:ME X io p c a (o2 fa))(hb:ME X io p' c' b (o2 fb))(hc:p'=true∨c=true:=by first|exact Qj rfl|exact X8 rfl)(h2:(p&&p')=q:=by rfl):ME X io q true (.BinOp a .Mult b pos) (o2 (Zf Zhv fa fb)):=h2▸Wx Z3f (Zkf Zts Zx7 ha hb hc)
theorem Zfx{pos:Pos}(ha:ME X io p c a (o2 fa))(hb:ME X io p' c' b (o2 fb))(hc:p'=true∨c=true:=by first|exact Qj rfl|exact X8 rfl)(h2:(p&&p')=q:=by rfl):ME X io q true (.BinOp a .Mod b pos) (o2 (Zf Jl fa fb)):=h2▸Wx Z8v (Zkf Zz9 Z5p ha hb hc)
theorem Zkj{pos:Pos}(ha:ME X io p c a (o2 fa))(hb:ME X io p' c' b (o2 fb))(hc:p'=true∨c=true:=by first|exact Qj rfl|exact X8 rfl)(h2:(p&&p')=q:=by rfl):ME X io q true (.BinOp a .FloorDiv b pos) (o2 (Zf Y4 fa fb)):=h2▸Wx Z4b (Zkf Zwx Z5s ha hb hc)
theorem Z6h{pos:Pos}(ha:ME X io p c a (o2 fa))(hb:ME X io p' c' b (o2 fb))(hc:p'=true∨c=true:=by first|exact Qj rfl|exact X8 rfl)(h2:(p&&p')=q:=by rfl):ME X io q true (.BinOp a .Pow b pos) (o2 (Zf Zrr fa fb)):=h2▸Wx Z61 (Zkf Z1s Z2x ha hb hc)
theorem xeq{pos:Pos}(hu:X.A.units+64<cLine)(ha:ME X io p c a (o2 fa))(hb:ME X io p' c' b (o2 fb))(hc:p'=true∨c=true:=by first|exact Qj rfl|exact X8 rfl)(h2:(p&&p')=q:=by rfl):MT X io q (.Compare a [.Eq] [b] pos) (o2 (tV (Zf gEq fa fb))):=h2▸Zda Z11 (Zcp (Zig hu) Zp2 ha hb hc (hm:=Zaf _))
theorem xne{pos:Pos}(hu:X.A.units+64<cLine)(ha:ME X io p c a (o2 fa))(hb:ME X io p' c' b (o2 fb))(hc:p'=true∨c=true:=by first|exact Qj rfl|exact X8 rfl)(h2:(p&&p')=q:=by rfl):MT X io q (.Compare a [.NotEq] [b] pos) (o2 (tV (Zf gNe fa fb))):=h2▸Zda Z6r (Zcp (Zpf hu) Zwp ha hb hc (hm:=Zaf _))
theorem xlt{pos:Pos}(ha:ME X io p c a (o2 fa))(hb:ME X io p' c' b (o2 fb))(hc:p'=true∨c=true:=by first|exact Qj rfl|exact X8 rfl)(h2:(p&&p')=q:=by rfl):MT X io q (.Compare a [.Lt] [b] pos) (o2 (tV (Zf gLt fa fb))):=h2▸Zda Z8p (Zcp Zzh Zib ha hb hc (hm:=Zaf _))
theorem xgt{pos:Pos}(ha:ME X io p c a (o2 fa))(hb:ME X io p' c' b (o2 fb))(hc:p'=true∨c=true:=by first|exact Qj rfl|exact X8 rfl)(h2:(p&&p')=q:=by rfl):MT X io q (.Compare a [.Gt] [b] pos) (o2 (tV (Zf gGt fa fb))):=h2▸Zda Z9p (Zcp Z2k Zib ha hb hc (hm:=Zaf _))
theorem xge{pos:Pos}(ha:ME X io p c a (o2 fa))(hb:ME X io p' c' b (o2 fb))(hc:p'=true∨c=true:=by first|exact Qj rfl|exact X8 rfl)(h2:(p&&p')=q:=by rfl):MT X io q (.Compare a [.GtE] [b] pos) (o2 (tV (Zf gGe fa fb))):=h2▸Zda Ybi (Zcp Z8n Zib ha hb hc (hm:=Zaf _))
theorem xfr{pos:Pos}{tg:Expr}{it:FI}{gg:FG}(hp:PassesOwn (Qa X.prog X.w) X.A X.env X.xe)(hc:X.calm=true)(hi:MI X io p true tg e (o2 it))(hg:MG X io true tg (oG gg))(hb:MSs X io ss (oS f))(hs:∀x,JV e X.env x=pure x:=by intro _;rfl):MS X io (.For tg e ss [] pos) (oS (Zcc it gg f)):=Zs8 (Ztr hp hc hi hg hb hs)
theorem xg2{pos:Pos}{n:Nat}{g1 g2:FG}(hc:X.calm=true)(ha:MG X io true a (oG g1))(hb:MG X io true b (oG g2))(h1:List.map (λx=>x.snd) (QH [a,b] X.env)=Vy a X.env :: List.map (λx=>x.snd) (QH [b] X.env):=by rfl)(h2:List.map (λx=>x.snd) (QH [b] X.env)=Vy b X.env :: List.map (λx=>x.snd) (QH [] X.env):=by rfl)(h3:(QH [a,b] X.env).length=2:=by rfl)(h4:List.findIdx? (λx=>x.fst) (QH [a,b] X.env)=none:=by rfl):MG X io true (.Tuple [a,b] n pos) (oG (gTp 2 (gCn g1 (gCn g2 gNl)))):=Zra (Zrl (n:=2) hc (Zdf (Zdl ha (Zdf (Zdl hb (Znt Zmp) h2)) h1)) h3 h4)
theorem xso{pos px:Pos}(i:Nat){x:Str}(hN:X.N.Nodup)(he:ME X io p true e (o2 fa))(hi:X.N[i]? =some x:=by rfl)(hx:Loc X.env.scope x:=by first|exact Qj rfl|exact X8 rfl)(hio:i∉io:=by decide)(hs:Bs e (some (.Name x px)) pos.line X.env=pure false:=by rfl)(hf:X.fn x=true∨X.env.scope.names.lookup x=some .local:=by first|exact .inl rfl|exact .inr rfl|assumption):MS X io (.Assign [.Name x px] e pos) (oS (wE fa (Jo i))):=Zqr (Zsf hN hi hx he hio hs hf)
theorem xcl{pos pp:Pos}{k:Nat}{f:Addr}{fd:XC}{ps:List Str}{x:Str}{F:FD}(G:FnOk X.prog X.w X.K X.mg X.base CX0 k f fd ps (spD X.K (sD F)))(hr:Room k X.A)(hm:X.mg x=some (.ref f))(hk:By X.K (.ref f)=true)(hb:Binds X.K fd ps [])(ha:MA X io p c (e :: es) (o2 ra))(hg:Gl X x:=by rfl)(h1:(x==("__debug__" : Str))=false:=by decide)(h2:Xk (e :: es) X.env=(false,eval e X.env) :: Xk es X.env:=by rfl)(h3:((QW pos (Xk es X.env)).any λx=>x.fst)=false:=by rfl):ME X io p c (.Call (.Name x pp) (e :: es) [] pos) (o2 (Zx F ra)):=J4 (Zb5 G hr hg hm hk hb Zge ha h1 h2 h3)
theorem xln{pos pp:Pos}(hm:X.mg "len"=none)(ha:MA X io p c [e] (o2 ra))(hg:Gl X "len" :=by rfl)(h2:Xk [e] X.env=(false,eval e X.env) :: Xk [] X.env:=by rfl):ME X io p true (.Call (.Name "len" pp) [e] [] pos) (o2 (Zbg Za1 ra)):=Zf0 Zr0 (Zl5 Zlj (Zcz rfl) hg hm L2.B.boot_len ha (by decide) (by decide) h2 (by rfl))
end
noncomputable def tbl(P:List Nat)(led:Bool):SetTable:={ mask:=7,place:=P.toArray,dummies:=#[],finger:=0,led,moves:=0,plain:=true }
noncomputable def hT(k:List Int):Int:=reduceHash (Builtin.Tuple.tupleHashOf (k.map hashInt))
noncomputable def hAt(ks:List (List Int))(i:Nat):Int:=(ks[i]?.map hT).getD 0
noncomputable def Z7d(P:List Nat)(j:Nat):List Nat:=((tbl P false).put j).1.place.toList
noncomputable def Z51(P:List Nat)(j:Nat):Nat:=((tbl P false).put j).2
noncomputable def Yba(ks:List (List Int))(p:Nat)(k:List Int):List (List Int):=ks.take p ++ k :: ks.drop p
noncomputable def Ya6(P:List Nat)(ks:List (List Int))(k:List Int):Option (List Nat×List (List Int)) :=
 match(tbl P false).probe (hAt ks) (hT k) ((tbl P false).probeStart (hT k))with
 | some (.empty j none)=>if(tbl (Z7d P j) false).tooFull=false∧(Z7d P j).length=ks.length+1∧ks.length≤6∧Z51 P j≤ks.length then some (Z7d P j,Yba ks (Z51 P j) k)else none
 | some (.candidate _ i _)=>if ks[i]? =some k then some (P,ks)else none
 | _=>none
noncomputable def grow(K:List (List Int)):Nat->List (List Nat×List (List Int))->List (List Nat×List (List Int))
 | 0,S=>S
 | n+1,S=>grow K n (S ++ (S.flatMap λs=>K.filterMap λk=>Ya6 s.1 s.2 k).filter λs=>!S.contains s)
noncomputable def K2:List (List Int):=[[0,0],[0,1],[1,0],[1,1]]
noncomputable def S2:List (List Nat×List (List Int)):=(grow K2 4 [([],[])]).eraseDups
section
variable {prog:X6}{w:Qu}{A:Qo}{E:Xe->Xf->Prop}{s:Xf}
inductive KeysIn(U:Addr->List Int->Prop):List (List Int)->List (Int×Xe)->Prop
 | nil:KeysIn U [] []
 | cons {k:List Int} {a:Addr} {ks:List (List Int)} {l:List (Int×Xe)} (h:U a k) (t:KeysIn U ks l):KeysIn U (k :: ks) ((hT k,.ref a) :: l)
noncomputable abbrev IK(prog:X6)(w:Qu)(h:Heap)(k:List Int)(a:Addr):Prop:=IsTupleKey (intKind prog w) h k a
theorem items_int{ks:List Int}{vs:List Xe}(h:ItemsAre (intKind prog w) ks vs):∀v∈vs,∃i t,v= .int i t:=by
 induction h with
 | nil=>exact λ_ m=>nomatch m
 | cons h _ ih=>
  intro v hv
  rcases Xl.mp hv with rfl|hv
  ·obtain⟨t,e⟩:=Value.isInt_shape h
   exact⟨_,t,e⟩
  ·exact ih v hv
end
section
variable {prog:X6}{w:Qu}{A:Qo}{R:Result->Xf->Prop}{I:Addr}{fp wr:List Addr}{n:Nat}{Pv:Nat->Xe->Prop}{St:Nat->Heap->Prop}
end
inductive Z7k(H:Hp):List V->List (List Int)->Prop
 | nil:Z7k H [] []
 | cons {a:Addr} {k:List Int} {xs:List V} {ks:List (List Int)} (h:H a=some (.tup (k.map V.int))) (t:Z7k H xs ks):Z7k H (.ref a :: xs) (k :: ks)
section
variable {X:Cx}{p c:Bool}{io:List Nat}{a e:Expr}{pos pos' pl pr:Pos}{t:TA}{mr:MAt}{ra:FA}
end
noncomputable abbrev Yci(h:Heap)(T:Addr)(a b c:Xe):Prop:=h.get? T=some { cls:=.type "tuple",data:=.seq #[a,b,c] }
structure Z3A(z TI TO i1 i2 i3:Addr)(f1 f2 f3:List Addr):Prop where
 TIz:TI≠z
 TOz:TO≠z
 a1:∀c∈f1,c≠z∧c≠TO∧c≠i2∧c≠i3
 a2:∀c∈f2,c≠z∧c≠TO∧c≠i1∧c≠i3
 a3:∀c∈f3,c≠z∧c≠TO∧c≠i1∧c≠i2
section
variable {P:X6}{w:Qu}{A:Qo}{E:Xe->Xf->Prop}{s:Xf}
end
noncomputable abbrev z3A(h:Heap)(a:Addr):Heap:=h.push { cls:=.type "list_iterator",data:=.fields #[.ref a,.int 0 0] }
noncomputable abbrev z3B(h:Heap)(a b:Addr):Heap:=z3A (z3A h a) b
noncomputable abbrev z3C(h:Heap)(a b c:Addr):Heap:=z3A (z3B h a b) c
noncomputable abbrev z3D(h:Heap)(a b c:Addr):Heap:=(z3C h a b c).push { cls:=.type "tuple",data:=.seq #[.ref h.objs.size,.ref (z3A h a).objs.size,.ref (z3B h a b).objs.size] }
noncomputable abbrev z3E(h:Heap)(a b c:Addr):Heap:=(z3D h a b c).push { cls:=.type "tuple",data:=.seq #[.none,.none,.none] }
noncomputable abbrev z3F(h:Heap)(a b c:Addr):Heap:=(z3E h a b c).push { cls:=.type "zip",data:=.fields #[.none,.bool false,.bool false,.ref (z3C h a b c).objs.size,.ref (z3D h a b c).objs.size] }
section
variable {P:X6}{w:Qu}{A:Qo}{E:Xe->Xf->Prop}{s:Xf}
end
section
variable {X:Cx}{io:List Nat}{p c:Bool}{a b e:Expr}{mr:MAt}{ra:FA}
end
variable {G:Xb}
section
variable {X:Cx}{io:List Nat}{p c:Bool}{e:Expr}{m:MEt}{pos apos cpos px:Pos}{i:Nat}{x:Str}{st:Stmt}{fa:FE}
noncomputable def Zj4(i:Nat)(m:MEt):MSt:=λD δ=>match δ[i]? with
 | some (some (.nd _))=>m δ λr δ1=>match r,δ1[i]? with
  | .nd rs,some (some (.nd ts))=>ts.length+rs.length≤Xo∧D.nx (δ1.set i (some (.nd (ts ++ (OT.datas rs).map OT.fz))))
  | _,_=>False
 | _=>False
theorem Owns.app{H:Hp}{L:Addr->Prop}{ds:List Xa}:∀{zs xs:List V} {ts:List OT} {bs:List Addr},Owns G H L xs ts bs->Das G H L zs ds->Owns G H L (xs ++ zs) (ts ++ ds.map OT.fz) bs:=by
 induction ds with
 | nil=>
  intro zs xs ts bs h g
  cases g
  rw[Qw,Vj,Qw];exact h
 | cons d ds ih=>
  intro zs xs ts bs h g
  cases g with
  | cons q g=>
   have:=ih (h.snoc (.fz q)) g
   rw[Qw,Q8,Q8]at this
   exact this
theorem Zq5(i:Nat)(he:ME X io p true e m)(hN:X.N[i]? =some x:=by rfl)(hv:Vis X.env.scope x:=by first|exact Qj rfl|exact X8 (Qj rfl)|exact X8 (X8 rfl))(hd:(x==("__debug__" : Str))=false:=by decide)
  (hcd:(x==("__classdict__" : Str))=false:=by decide)
  (hbase:Br (.Name x px) "extend" X.env (eval (.Name x px) X.env)=eval (.Name x px) X.env:=by rfl)
  (hfew:((QW cpos (Xk [e] X.env)).all (λx=>!x.1)&&(V7 cpos (Vb [] X.env)).all (λx=>x.1.isSome)
   &&decide ([e].length+([]:List Bp).length+(if([]:List Bp).isEmpty then 0 else 1)<30))=true:=by rfl)
  (hline:(apos.endLine==cpos.line)=true:=by rfl) (hs:Xk [e] X.env=(false,eval e X.env) :: Xk [] X.env:=by rfl) (hplain:(QW cpos (Xk [] X.env)).any (·.1)=false:=by rfl)
  (hsw:Bs (.Call (.Attribute (.Name x px) "extend" apos) [e] [] cpos) none pos.line X.env=pure false:=by rfl) :
  MS X io (.Expr (.Call (.Attribute (.Name x px) "extend" apos) [e] [] cpos) pos) (Zj4 i m):=by
 obtain⟨_,A,s⟩:=he
 refine⟨_,Zfn (Zm7 JD PySem.F.slot_list_extend PySem.F.type_list_extend Ztc (pv i hN hv hd hcd) (Ye A J8 hs) hbase hfew hline hs hplain) hsw,λC H σ δ fp ex D D' R h E=>?_⟩
 unfold Zj4 at h
 split at h
 case h_2=>exact h.elim
 rename_i ts0 hi0
 obtain⟨a',xs0,bs0,hv0,hx0,_,_⟩:=R.ownNd hi0
 refine⟨_,hv0,.inl ⟨rfl,xs0,.inl (.inl hx0)⟩,?_⟩
 refine s C H σ δ fp ex _ _ R h λH1 v r δ1 fp1 new r1 h1=>?_
 split at h1
 case h_2=>exact h1.elim
 rename_i rs ts1 hi1
 have R1:=r1.base
 obtain⟨a1,xs1,bs1,hv1,hx1,o1,hf1⟩:=R1.ownNd hi1
 rw[hv0]at hv1
 cases hv1
 obtain⟨b,zs,rfl,hb,lz,qs⟩:∃b zs,v= .ref b∧H1 b=some (.lst zs)∧zs.length=rs.length∧Das X.K H1 (Lf C fp1 ex) zs (OT.datas rs):=by
  have ow:=r1.own
  have nw:∀a∈new,Lf C fp1 ex a:=λa m=>by
   refine⟨λqz=>?_,(R.newOk (r1.fresh a m)).2.1,.inr (R.newOk (r1.fresh a m)).2.2⟩
   obtain⟨i,z⟩:=qz
   exact r1.rel.dx i a z (.inr m)
  cases ow with
  | nd hb r=>exact⟨_,_,rfl,hb,r.length,r.das (λa l _=>⟨(l rfl).1,λz=>(l rfl).2.1 (.inl z),(l rfl).2.2⟩) λa m=>nw a (.tail _ m)⟩
 refine⟨a',b,xs1,zs,rfl,rfl,hx1,hb,by rw[o1.length,lz];exact h1.1,?_⟩
 obtain⟨R2,S2⟩:=R1.top hi1 hv0 hf1 hx1 (o1.app qs) (Vn _)
 exact E.nx _ σ _ _ R2 (r1.stp.kp.trans S2.kp) h1.2
noncomputable def Zhd(i:Nat)(e:FE):FS:=λδ=>match δ[i]? with
 | some (some (.nd _))=>wE e (λr δ1=>match r,δ1[i]? with
  | .nd rs,some (some (.nd ts))=>if ts.length+rs.length≤Xo then .nx (δ1.set i (some (.nd (ts ++ (OT.datas rs).map OT.fz))))else .bad
  | _,_=>.bad) δ
 | _=>.bad
theorem Zrx(h:MS X io st (Zj4 i (o2 fa))):MS X io st (oS (Zhd i fa)):=h.weak λD δ h=>by
 unfold oS Zhd at h;unfold Zj4
 split at h
 case h_2=>exact h.elim
 rename_i q;(try rw[q])
 refine(Zmn h).imp λr δ' z=>?_
 split at z
 ·rename_i q2;(try rw[q2]);exact Zbq z
 ·exact z.elim
end
noncomputable def Up(xs:List Nat):Prop:=xs.Pairwise (·<·)
structure Tb(b:Bool)(t:SetTable):Prop where
 led:t.led=b
 up:t.plain=true->Up t.place.toList
noncomputable def OfL{α:Type}(ks ns:List α):Prop:=ks.Nodup∧∀x,x∈ks↔x∈ns
noncomputable abbrev Of(ks ns:List Int):Prop:=OfL ks ns
structure Ycr{τ:Type}(prog:X6)(w:Qu)(A:Qo)(S:Addr)(T:Heap->List τ->Prop)(h0:Heap)(n:Nat)(Ok:Xe->τ->Prop):Prop where
 stay:∀h h' ks,T h ks->(∀o,h.get? S=some o->h'.get? S=some o)->T h' ks
 add:∀(s:Xf) (E:Xe->Xf->Prop) (v:Xe) (k:τ) (ks:List τ) (Q:Bool->Xf->Prop),Ok v k->(∀b o,b<S->h0.get? b=some o->s.heap.get? b=some o)->T s.heap ks->ks.length<n->(∀c h' tk ks',Vk S s.heap h'->T h' ks'->(k∈ks->ks'=ks)->(k∉ks->ks'.Perm (ks ++ [k]))->Q c { s with heap:=h',toks:=tk })->XR (Qa prog w) A (setAdd S v) Q E s
section
variable {prog:X6}{w:Qu}{A:Qo}{R:Result->Xf->Prop}{I S:Addr}{fp wr:List Addr}{n:Nat}{Pv:Nat->Xe->Prop}{St:Nat->Heap->Prop}{τ:Type}{T:Heap->List τ->Prop}{h0:Heap}{Ok:Xe->τ->Prop}
end
section
variable {prog:X6}{w:Qu}{A:Qo}{E:Xe->Xf->Prop}{s:Xf}
end
section
variable {κ:Type}[DecidableEq κ]
noncomputable def Zup(kvs:List (κ×V))(k:κ):Option V:=(kvs.find? λkv=>decide (kv.1=k)).map (·.2)
noncomputable def putK(kvs:List (κ×V))(k:κ)(v:V):List (κ×V) :=
 if(kvs.any λkv=>decide (kv.1=k))=true then kvs.map (λkv=>if kv.1=k then(kv.1,v)else kv)else kvs ++ [(k,v)]
theorem Zwz{p:κ×V}{r:List (κ×V)}{k:κ}(e:p.1=k):Zup (p :: r) k=some p.2:=by simp[Zup,List.find?_cons,e]
theorem Zwn{p:κ×V}{r:List (κ×V)}{k:κ}(e:¬p.1=k):Zup (p :: r) k=Zup r k:=by simp[Zup,List.find?_cons,e]
theorem KV.length{kvs:List (κ×V)}{vs:List (κ×Xe)}(r:KV kvs vs):kvs.length=vs.length:=Paired.length r
end
noncomputable abbrev KT(H:Hp):List (List Key×V)->List (List Key×Addr×Xe)->Prop:=Paired λp q=>p.1=q.1∧H q.2.1=some (.tup (p.1.map kV))∧RelV p.2 q.2.2
section
variable {P:X6}{w:Qu}{H:Hp}{h:Heap}{a:Addr}
end
noncomputable def DGet(H:Hp)(a:Addr)(y:V)(r:Option V):Prop :=
 (∃ kvs k,Rd H a (.dK kvs)∧y=kV k∧r=Zup kvs k)∨∃kvs k b,Rd H a (.dT kvs)∧y= .ref b∧H b=some (.tup (k.map kV))∧r=Zup kvs k
noncomputable def DPut(H:Hp)(a:Addr)(y v:V)(H':Hp):Prop :=
 (∃ kvs k,H a=some (.dK kvs)∧y=kV k∧kvs.length<Xo∧H'=upd H a (.dK (putK kvs k v)))∨
 ∃kvs k b,H a=some (.dT kvs)∧y= .ref b∧H b=some (.tup (k.map kV))∧kvs.length<Xo∧H'=upd H a (.dT (putK kvs k v))
theorem DGet.k{H:Hp}{a:Addr}{kvs:List (Key×V)}{k:Key}(e:H a=some (.dK kvs)):DGet H a (kV k) (Zup kvs k):=.inl ⟨kvs,k,.inl e,rfl,rfl⟩
theorem DGet.t{H:Hp}{a b:Addr}{kvs:List (List Key×V)}{k:List Key}(e:H a=some (.dT kvs))(eb:H b=some (.tup (k.map kV))):DGet H a (.ref b) (Zup kvs k):=.inr ⟨kvs,k,b,.inl e,rfl,eb,rfl⟩
theorem DPut.k{H:Hp}{a:Addr}{kvs:List (Key×V)}{k:Key}{v:V}(e:H a=some (.dK kvs))(hl:kvs.length<Xo):DPut H a (kV k) v (upd H a (.dK (putK kvs k v))):=.inl ⟨kvs,k,e,rfl,hl,rfl⟩
theorem DPut.t{H:Hp}{a b:Addr}{kvs:List (List Key×V)}{k:List Key}{v:V}(e:H a=some (.dT kvs))(eb:H b=some (.tup (k.map kV)))(hl:kvs.length<Xo) :
  DPut H a (.ref b) v (upd H a (.dT (putK kvs k v))):=.inr ⟨kvs,k,b,e,rfl,eb,hl,rfl⟩
section
variable {X:Cx}{pins:List (Addr×Obj)}{σ:St}{H:Hp}{s:Xf}{a:Addr}{y v:V}{u r:Xe}{o:Option V}{A:Qo}{E:Xe->Xf->Prop}
end
section
variable {X:Cx}{pins:List (Addr×Obj)}{σ:St}{H:Hp}{s:Xf}{a:Addr}{kvs:List (Key×V)}{k:Key}{u:Xe}{A:Qo}{E:Xe->Xf->Prop}
end
section
variable {X:Cx}{o i e value:Expr}{pos pos' tpos:Pos}{td ty tv:TE}
end
section
variable {X:Cx}{pos:Pos}
end
noncomputable abbrev VV:List (V×V)->List (Xe×Xe)->Prop:=Paired λp q=>RelV p.1 q.1∧RelV p.2 q.2
structure M1(X:Cx)(o:Expr)(m:Str)(apos:Pos)(e:Expr)(cpos:Pos):Prop where
 base:Br o m X.env (eval o X.env)=eval o X.env
 few:((QW cpos (Xk [e] X.env)).all (λx=>!x.1)&&(V7 cpos (Vb [] X.env)).all (λx=>x.1.isSome)
  &&decide (([e]:List Expr).length+([]:List Bp).length+(if([]:List Bp).isEmpty then 0 else 1)<30))=true
 line:(apos.endLine==cpos.line)=true
 trees:QW cpos (Xk [e] X.env)=[(false,eval e X.env)]
structure M2(X:Cx)(o:Expr)(m:Str)(apos:Pos)(e f:Expr)(cpos:Pos):Prop where
 base:Br o m X.env (eval o X.env)=eval o X.env
 few:((QW cpos (Xk [e,f] X.env)).all (λx=>!x.1)&&(V7 cpos (Vb [] X.env)).all (λx=>x.1.isSome)
  &&decide (([e,f]:List Expr).length+([]:List Bp).length+(if([]:List Bp).isEmpty then 0 else 1)<30))=true
 line:(apos.endLine==cpos.line)=true
 trees:QW cpos (Xk [e,f] X.env)=[(false,eval e X.env),(false,eval f X.env)]
section
variable {X:Cx}{pins:List (Addr×Obj)}{σ:St}{H:Hp}{s:Xf}{a:Addr}{y d:V}{u r:Xe}{o:Option V}{A:Qo}{E:Xe->Xf->Prop}
end
section
variable {X:Cx}{o e f:Expr}{apos cpos:Pos}{td ty tx:TE}
end
variable {G:Xb}
noncomputable def Z73(k:KY):List KY->List Xa->Option Xa
 | [],_=>none
 | _ :: _,[]=>none
 | j :: ks,d :: ds=>if j=k then some d else Z73 k ks ds
section
variable {H:Hp}{L:Addr->Prop}{κ:Type}[DecidableEq κ]{f:κ->KY}
noncomputable def Yas(G:Xb)(H:Hp)(L:Addr->Prop)(a:Option V)(b:Option Xa):Prop:=(∃v d,a=some v∧b=some d∧Da G H L v d)∨(a=none∧b=none)
theorem look(hf:∀a b,f a=f b->a=b)(k:κ)(kvs:List (κ×V)):∀ds,Das G H L (kvs.map (·.2)) ds->Yas G H L (Zup kvs k) (Z73 (f k) (kvs.map λp=>f p.1) ds):=by
 induction kvs with
 | nil=>exact λds _=>.inr ⟨rfl,rfl⟩
 | cons p kvs ih=>
  intro ds h
  cases h with
  | cons h r=>
   rename_i d ds
   show Yas G H L _ (if f p.1=f k then some d else Z73 (f k) (kvs.map λp=>f p.1) ds)
   by_cases e:p.1=k
   ·rw[Zwz e,if_pos (congrArg f e)]
    exact .inl ⟨_,_,rfl,rfl,h⟩
   ·rw[Zwn e,if_neg λz=>e (hf _ _ z)]
    exact ih _ r
end
section
variable {H:Hp}{L:Addr->Prop}{y:V}{e:Xa}
end
noncomputable def Z9c(o:Option (Option OT))(δ:Zg):Option (OT×Zg):=match o with|some (some (.fz d))=>some (.fz d,δ)|_=>none
theorem Zg6(d:Xa)(δ:Zg):Z9c (some (some (.fz d))) δ=some (.fz d,δ):=rfl
noncomputable def Z2a(o:Option (Option OT))(δ:Zg):Option (OT×Zg):=match o with|some (some t)=>some (.fz t.data,δ)|_=>none
theorem Zy5(t:OT)(δ:Zg):Z2a (some (some t)) δ=some (.fz t.data,δ):=rfl
theorem Zg8(i:Nat)(δ:Zg):Ze i δ=Z9c δ[i]? δ:=rfl
theorem Zzm(i:Nat)(δ:Zg):Zf1 i δ=Z2a δ[i]? δ:=rfl
theorem Z2i(d:Xa)(δ:Zg):fC d δ=some (.fz d,δ):=rfl
theorem Zu4(g:Xa->Xa->Option Xa)(a b:FE)(δ:Zg):Zf g a b δ=(a δ).bind λp=>(b p.2).bind λq=>(g p.1.data q.1.data).bind λd=>some (.fz d,q.2):=rfl
theorem Znp(g:Xa->Xa->Option OT)(a b:FE)(δ:Zg):Yn g a b δ=(a δ).bind λp=>(b p.2).bind λq=>(g p.1.data q.1.data).bind λd=>some (d,q.2):=rfl
theorem Z3w(g:Xa->Option Xa)(a:FE)(δ:Zg):fUn g a δ=(a δ).bind λp=>(g p.1.data).bind λd=>some (.fz d,p.2):=rfl
noncomputable def onB{α:Type}(d:Xa)(x y:Option α):Option α:=match d with| .bool true=>x| .bool false=>y|_=>none
theorem Z8f{α:Type}(x y:Option α):onB (.bool true) x y=x:=rfl
theorem Z7h{α:Type}(x y:Option α):onB (.bool false) x y=y:=rfl
theorem Zre(a b:FE)(δ:Zg):Zqm a b δ=(a δ).bind λp=>onB p.1.data (b p.2) (some (.fz (.bool false),p.2)):=by
 unfold Zqm onB
 cases a δ with
 | none=>rfl
 | some p=>first|rfl|(simp only[Xc];done)|(simp only[Xc];generalize p.1.data=d;cases d<;>first|rfl|(rename_i b;cases b<;>rfl))
theorem Z9y(a b:FE)(δ:Zg):fOr a b δ=(a δ).bind λp=>onB p.1.data (some (.fz (.bool true),p.2)) (b p.2):=by
 unfold fOr onB
 cases a δ with
 | none=>rfl
 | some p=>first|rfl|(simp only[Xc];done)|(simp only[Xc];generalize p.1.data=d;cases d<;>first|rfl|(rename_i b;cases b<;>rfl))
theorem Ya1(t:FT)(a b:FE)(δ:Zg):fIf t a b δ=(t δ).bind λp=>if p.1=true then a p.2 else b p.2:=rfl
noncomputable def Z8l(t:OT)(δ:Zg):Option (Bool×Zg):=match t with| .fz (.bool b)=>some (b,δ)|_=>none
theorem Z18(b:Bool)(δ:Zg):Z8l (.fz (.bool b)) δ=some (b,δ):=rfl
theorem Z70(e:FE)(δ:Zg):tV e δ=(e δ).bind λp=>Z8l p.1 p.2:=by
 unfold tV Z8l
 cases e δ with
 | none=>rfl
 | some p=>rfl
theorem Z24(t:FT)(δ:Zg):tNo t δ=(t δ).bind λp=>some (!p.1,p.2):=rfl
theorem Zxr(t u:FT)(δ:Zg):tAn t u δ=(t δ).bind λp=>if p.1=true then u p.2 else some (false,p.2):=rfl
theorem Z4n(t u:FT)(δ:Zg):tO t u δ=(t δ).bind λp=>if p.1=true then some (true,p.2)else u p.2:=rfl
theorem Z87(e:FE)(δ:Zg):tD e δ=(e δ).bind λp=>(Zvs p.1.data).bind λb=>some (b,p.2):=rfl
theorem Z6w(δ:Zg):Ze3 δ=some (true,δ):=rfl
theorem Zuo(δ:Zg):Zn δ=some ([],δ):=rfl
theorem Zgf(e:FE)(a:FA)(δ:Zg):Zc e a δ=(e δ).bind λp=>(a p.2).bind λq=>some (p.1 :: q.1,q.2):=rfl
theorem Zy8(a:FA)(δ:Zg):Zjx a δ=(a δ).bind λp=>if p.1.length≤Xo then some (.fz (.tuple (OT.datas p.1)),p.2)else none:=rfl
theorem Zs1(a:FA)(δ:Zg):Zbm a δ=(a δ).bind λp=>if p.1.length≤Xo then some (.nd p.1,p.2)else none:=rfl
theorem Zv6(a:FA)(δ:Zg):Zfy a δ=(a δ).bind λp=>if p.1.length≤Xo then some (.tp p.1,p.2)else none:=rfl
theorem Z6o(e:FE)(δ:Zg):Z74 e δ=(e δ).bind λp=>if Zbl p.1.data=true then some (.fz p.1.data,p.2)else none:=rfl
theorem Z15(e:FE)(δ:Zg):Z35 e δ=(e δ).bind λp=>if Z0k p.1=true then some (p.1,p.2)else none:=rfl
noncomputable def okO(x:RF)(δ:Zg):Option (OT×Zg):=match x with| .ok r=>some (r,δ)|_=>none
theorem Z4x(r:OT)(δ:Zg):okO (.ok r) δ=some (r,δ):=rfl
theorem Zoc(F:FD)(a:FA)(δ:Zg):Zx F a δ=(a δ).bind λp=>okO (F (OT.datas p.1)) p.2:=by
 unfold Zx okO
 cases a δ with
 | none=>rfl
 | some p=>rfl
noncomputable def atO{α:Type}(o:Option (Option OT))(k:OT->Option α):Option α:=match o with|some (some t)=>k t|_=>none
theorem Yce{α:Type}(t:OT)(k:OT->Option α):atO (some (some t)) k=k t:=rfl
theorem Z2h(i:Nat)(F:FIO)(a:FA)(δ:Zg):Zxh i F a δ=atO δ[i]? λ_=>(a δ).bind λp=>atO p.2[i]? λt=>(F t (OT.datas p.1)).bind λq=>some (q.1,p.2.set i (some q.2)):=by
 unfold Zxh
 generalize δ[i]? =o
 rcases o with _|_|t
 ·rfl
 ·rfl
 ·show(a δ).bind _=(a δ).bind _
  cases a δ with
  | none=>rfl
  | some p=>
   show(λo:Option (Option OT)=>(match o with|some (some t)=>(F t (OT.datas p.1)).bind λq=>some (q.1,p.2.set i (some q.2))|_=>none)) p.2[i]? =atO p.2[i]? _
   generalize p.2[i]? =o
   rcases o with _|_|t<;>rfl
theorem Zzf(g:List Xa->Option Xa)(a:FA)(δ:Zg):Zbg g a δ=(a δ).bind λp=>(g (OT.datas p.1)).bind λd=>some (.fz d,p.2):=rfl
theorem Zsw(g:List Xa->Option OT)(a:FA)(δ:Zg):fBl g a δ=(a δ).bind λp=>(g (OT.datas p.1)).bind λd=>some (d,p.2):=rfl
theorem Z1o(T:String)(e:FE)(δ:Zg):Zmj T e δ=(e δ).bind λp=>if Zgv p.1.data=true then none else some (.fz (.bool (Zo2 T p.1.data)),p.2):=rfl
theorem Z77(δ:Zg):oN δ=some (none,δ):=rfl
noncomputable def asInt{α:Type}(d:Xa)(k:Int->Option α):Option α:=match d with| .int i=>k i|_=>none
theorem Zml{α:Type}(i:Int)(k:Int->Option α):asInt (.int i) k=k i:=rfl
noncomputable def Ztl{α:Type}(d:Xa)(k:List Xa->Option α):Option α:=match d with| .list i=>k i|_=>none
theorem Zud{α:Type}(i:List Xa)(k:List Xa->Option α):Ztl (.list i) k=k i:=rfl
noncomputable def Z0c{α:Type}(d:Xa)(k:List Xa->Option α):Option α:=match d with| .tuple i=>k i|_=>none
theorem Z8z{α:Type}(i:List Xa)(k:List Xa->Option α):Z0c (.tuple i) k=k i:=rfl
theorem Z7x(e:FE)(δ:Zg):oI e δ=(e δ).bind λp=>asInt p.1.data λi=>some (some i,p.2):=by
 unfold oI asInt
 cases e δ with
 | none=>rfl
 | some p=>rfl
theorem Z5o(e:FE)(lo hi:FO)(δ:Zg):fSl e lo hi δ=(e δ).bind λp=>(lo p.2).bind λq=>(hi q.2).bind λr=>Ztl p.1.data λds=>some (.nd ((cutD ds q.1 r.1).map OT.fz),r.2):=by
 unfold fSl Ztl;rfl
theorem Zzw(e:FE)(δ:Zg):Zhh e δ=(e δ).bind λp=>Ztl p.1.data λds=>some (ds,p.2):=by
 unfold Zhh Ztl;rfl
theorem Z9m(e:FE)(δ:Zg):iTp e δ=(e δ).bind λp=>Z0c p.1.data λds=>some (ds,p.2):=by
 unfold iTp Z0c;rfl
noncomputable def as1{α:Type}(ds:List Xa)(k:Int->Option α):Option α:=match ds with|[.int i]=>k i|_=>none
theorem Zyz{α:Type}(i:Int)(k:Int->Option α):as1 [.int i] k=k i:=rfl
noncomputable def as2{α:Type}(ds:List Xa)(k:Int->Int->Option α):Option α:=match ds with|[.int i,.int j]=>k i j|_=>none
theorem Z63{α:Type}(i j:Int)(k:Int->Int->Option α):as2 [.int i,.int j] k=k i j:=rfl
theorem Z4z(a:FA)(δ:Zg):iRa a δ=(a δ).bind λp=>as1 (OT.datas p.1) λj=>if rOk j=true then some (Zch 0 j.toNat,p.2)else none:=by
 unfold iRa as1;rfl
theorem Z5c(a:FA)(δ:Zg):iRb a δ=(a δ).bind λp=>as2 (OT.datas p.1) λi j=>if(rOk i&&rOk j)=true then some (Zch i (j-i).toNat,p.2)else none:=by
 unfold iRb as2;rfl
theorem Zr7(a:FA)(δ:Zg):Zxs a δ=(a δ).bind λp=>as1 (OT.datas p.1) λj=>if rOk j=true∧j.toNat≤Xo then some (.nd ((Zch 0 j.toNat).map OT.fz),p.2)else none:=by
 unfold Zxs as1;rfl
theorem Zsr(a b:FE)(δ:Zg):Zuu a b δ=(a δ).bind λp=>(b p.2).bind λq=>asInt q.1.data λk=>if rOk k=true∧k.toNat≤Xo then some (.nd (Xr k.toNat (.fz p.1.data)),p.2)else none:=by
 unfold Zuu asInt;rfl
noncomputable def Z7g{α:Type}(ds:List Xa)(k:List Xa->List Xa->Option α):Option α:=match ds with|[.list i,.list j]=>k i j|_=>none
theorem Yag{α:Type}(i j:List Xa)(k:List Xa->List Xa->Option α):Z7g [.list i,.list j] k=k i j:=rfl
theorem Z54(a:FA)(δ:Zg):Z5h a δ=(a δ).bind λp=>Z7g (OT.datas p.1) λas bs=>some (Zkk as bs,p.2):=by
 unfold Z5h Z7g;rfl
theorem Z9h(i:Nat)(d:Xa)(δ:Zg):gNm i d δ=some (δ.set i (some (.fz d))):=rfl
theorem Z8m(i:Nat)(d:Xa)(δ:Zg):Zx9 i d δ=if Zbl d=true then some (δ.set i (some (.fz d)))else none:=rfl
theorem Z96(δ:Zg):gNl [] δ=some δ:=rfl
theorem Z92(g:FG)(gs:FGs)(d:Xa)(r:List Xa)(δ:Zg):gCn g gs (d :: r) δ=(g d δ).bind (gs r):=rfl
theorem Z9k(n:Nat)(gs:FGs)(ds:List Xa)(δ:Zg):gTp n gs (.tuple ds) δ=if ds.length=n then gs ds δ else none:=rfl
theorem Z9f(n:Nat)(gs:FGs)(ds:List Xa)(δ:Zg):gLs n gs (.list ds) δ=if ds.length=n then gs ds δ else none:=rfl
noncomputable def RS.thn(r:RS)(g:FS):RS:=match r with| .nx δ=>g δ|r=>r
theorem Z2d(δ:Zg)(g:FS):(RS.nx δ).thn g=g δ:=rfl
theorem Z5l(r:OT)(δ:Zg)(g:FS):(RS.rt r δ).thn g= .rt r δ:=rfl
theorem Z9o(δ:Zg)(g:FS):(RS.bk δ).thn g= .bk δ:=rfl
theorem Ya2(δ:Zg)(g:FS):(RS.ct δ).thn g= .ct δ:=rfl
theorem Z16(c:Str)(δ:Zg)(g:FS):(RS.ex c δ).thn g= .ex c δ:=rfl
theorem Znc(f g:FS)(δ:Zg):Zy f g δ=(f δ).thn g:=rfl
theorem Yaa(δ:Zg):fNx δ= .nx δ:=rfl
theorem Z7c(δ:Zg):Yb1 δ= .bk δ:=rfl
theorem Z71(δ:Zg):Yb9 δ= .ct δ:=rfl
theorem Z19(c:Str)(δ:Zg):Zkm c δ= .ex c δ:=rfl
theorem Z6m(δ:Zg):Z7y δ= .rt (.fz .none) δ:=rfl
noncomputable def onO{α:Type}(o:Option (α×Zg))(k:α->Zg->RS):RS:=match o with|some (r,δ')=>k r δ'|none=>.bad
theorem Yo{α:Type}(r:α)(δ:Zg)(k:α->Zg->RS):onO (some (r,δ)) k=k r δ:=rfl
theorem Ze9(e:FE)(k:OT->Zg->RS)(δ:Zg):wE e k δ=onO (e δ) k:=by
 unfold wE onO
 cases e δ<;>rfl
noncomputable def onF(x:RF)(δ:Zg)(k:OT->Zg->RS):RS:=match x with| .ok r=>k r δ| .exn c=>.ex c δ| .bad=>.bad
theorem Zyd(r:OT)(δ:Zg)(k:OT->Zg->RS):onF (.ok r) δ k=k r δ:=rfl
theorem Z5f(c:Str)(δ:Zg)(k:OT->Zg->RS):onF (.exn c) δ k= .ex c δ:=rfl
theorem Z0n(F:FD)(a:FA)(k:OT->Zg->RS)(δ:Zg):wX F a k δ=onO (a δ) λrs δ1=>onF (F (OT.datas rs)) δ1 k:=by
 unfold wX onO onF
 cases a δ with
 | none=>rfl
 | some p=>rfl
theorem Zt6(t:FT)(u w:FS)(δ:Zg):Jp t u w δ=onO (t δ) λb δ'=>if b=true then u δ' else w δ':=by
 unfold Jp onO
 cases t δ<;>rfl
theorem Zy9(it:FI)(g:FG)(u:FS)(δ:Zg):Zcc it g u δ=onO (it δ) λds δ1=>forLoop g u ds δ1:=by
 unfold Zcc onO
 cases it δ<;>rfl
theorem Z52(r:OT)(δ:Zg):Zmk r δ= .nx δ:=rfl
theorem Zs9(r:OT)(δ:Zg):Zai r δ= .rt r δ:=rfl
theorem Z56(r:OT)(δ:Zg):Z83 r δ=if Zbl r.data=true then .rt (.fz r.data) δ else .bad:=rfl
theorem Zzx(i:Nat)(r:OT)(δ:Zg):Yu i r δ= .nx (δ.set i (some (.fz r.data))):=rfl
theorem Z59(i:Nat)(r:OT)(δ:Zg):Z7z i r δ=if Zbl r.data=true then .nx (δ.set i (some (.fz r.data)))else .bad:=rfl
theorem Zwf(i:Nat)(r:OT)(δ:Zg):Jo i r δ= .nx (δ.set i (some r)):=rfl
noncomputable def onD(o:Option Zg):RS:=match o with|some δ=>.nx δ|none=>.bad
theorem Z6i(δ:Zg):onD (some δ)= .nx δ:=rfl
theorem Z7o(g:FG)(r:OT)(δ:Zg):Ycd g r δ=onD (g r.data δ):=rfl
noncomputable def onT(o:Option (Option OT))(k:OT->RS):RS:=match o with|some (some t)=>k t|_=>.bad
theorem Zz5(t:OT)(k:OT->RS):onT (some (some t)) k=k t:=rfl
theorem Zo0(i:Nat)(δ:Zg):Zeu i δ=onT δ[i]? λt=>.rt t (δ.set i none):=rfl
theorem Zqa(i:Nat)(u:FS)(δ:Zg):Zbx i u δ=onT δ[i]? λt=>u (δ.set i (some (.fz t.data))):=rfl
noncomputable def onN(o:Option (Option OT))(k:List OT->RS):RS:=match o with|some (some (.nd ts))=>k ts|_=>.bad
theorem Zp7(t:List OT)(k:List OT->RS):onN (some (some (.nd t))) k=k t:=rfl
theorem Zix(i:Nat)(e:FE)(δ:Zg):Wq i e δ=onN δ[i]? λ_=>onO (e δ) λr δ1=>onN δ1[i]? λts=>if ts.length<Xo then .nx (δ1.set i (some (.nd (ts ++ [.fz r.data]))))else .bad:=by
 unfold Wq
 generalize δ[i]? =o
 rcases o with _|_|(_|_|_|_)
 ·rfl
 ·rfl
 ·rfl
 ·show wE e _ δ=onO (e δ) _
  rw[Ze9]
  congr 1
 ·rfl
 ·rfl
theorem Zmf(i:Nat)(e:FE)(δ:Zg):Zag i e δ=onN δ[i]? λ_=>onO (e δ) λr δ1=>onN δ1[i]? λts=>if ts.length<Xo then .nx (δ1.set i (some (.nd (ts ++ [r]))))else .bad:=by
 unfold Zag
 generalize δ[i]? =o
 rcases o with _|_|(_|_|_|_)
 ·rfl
 ·rfl
 ·rfl
 ·show wE e _ δ=onO (e δ) _
  rw[Ze9]
  congr 1
 ·rfl
 ·rfl
noncomputable def onI(d:Xa)(k:Int->RS):RS:=match d with| .int i=>k i|_=>.bad
theorem Yb7(i:Int)(k:Int->RS):onI (.int i) k=k i:=rfl
noncomputable def onX(o:Option Nat)(k:Nat->RS):RS:=match o with|some i=>k i|_=>.bad
theorem Yby(i:Nat)(k:Nat->RS):onX (some i) k=k i:=rfl
theorem Zze(i:Nat)(e j:FE)(δ:Zg):Zqn i e j δ=onO (e δ) λr δ1=>onN δ1[i]? λts=>onO (j δ1) λn _=>onI n.data λk=>onX (ixN ts.length k) λj=>.nx (δ1.set i (some (.nd (ts.set j (.fz r.data))))):=by
 unfold Zqn
 rw[Ze9]
 congr 1
 funext r δ1
 generalize δ1[i]? =o
 rcases o with _|_|(_|_|_|_)
 ·rfl
 ·rfl
 ·rfl
 ·show wE j _ δ1=onO (j δ1) _
  rw[Ze9]
  congr 1
  funext n δ2
  generalize n.data=d
  cases d<;>try rfl
  show(match ixN _ _ with|some j=>_|none=>_)=onX (ixN _ _) _
  generalize ixN _ _=x
  cases x<;>rfl
 ·rfl
 ·rfl
noncomputable def onU(o:Option OT)(k:List OT->RS):RS:=match o with|some (.nd ts)=>k ts|_=>.bad
theorem Ybu(t:List OT)(k:List OT->RS):onU (some (.nd t)) k=k t:=rfl
noncomputable def onP(o:Option (Option OT))(k:List OT->RS):RS:=match o with|some (some (.tp ts))=>k ts|_=>.bad
theorem Ybr(t:List OT)(k:List OT->RS):onP (some (some (.tp t))) k=k t:=rfl
theorem Z40(i c:Nat)(e:FE)(δ:Zg):Zis i c e δ=onP δ[i]? λts=>onU ts[c]? λus=>onO (e δ) λr _=>if us.length<Xo then .nx (δ.set i (some (.tp (ts.set c (.nd (us ++ [.fz r.data]))))))else .bad:=by
 unfold Zis
 generalize δ[i]? =o
 rcases o with _|_|(_|_|ts|_)
 ·rfl
 ·rfl
 ·rfl
 ·rfl
 ·show(match ts[c]? with|some (.nd us)=>wE e _ δ|_=>_)=onU ts[c]? _
  generalize ts[c]? =o
  rcases o with _|(_|_|_|_)
  ·rfl
  ·rfl
  ·show wE e _ δ=onO (e δ) _
   rw[Ze9]
  ·rfl
  ·rfl
 ·rfl
noncomputable def on2(ds:List Xa)(k:Xa->Xa->RS):RS:=match ds with|[d,e]=>k d e|_=>.bad
theorem Ycp(d e:Xa)(k:Xa->Xa->RS):on2 [d,e] k=k d e:=rfl
theorem Z8e(i j:Nat)(a:FA)(δ:Zg):Z91 i j a δ=onO (a δ) λrs δ1=>on2 (OT.datas rs) λd e=>.nx ((δ1.set i (some (.fz d))).set j (some (.fz e))):=by
 unfold Z91 onO on2
 cases a δ<;>rfl
theorem Zjd{np n:Nat}{S:FS}{ds:List Xa}(h:ds.length=np):Jy np n S ds=(S (Zes n ds)).told:=by
 unfold Jy;rw[if_pos h]
theorem Z1i(δ:Zg):(RS.nx δ).told= .ok (.fz .none):=rfl
theorem Zth(r:OT)(δ:Zg):(RS.rt r δ).told= .ok r:=rfl
theorem Zyv(c:Str)(δ:Zg):(RS.ex c δ).told= .exn c:=rfl
theorem Yaq(i j:Int):Js (.int i) (.int j)=some (.int (i+j)):=rfl
theorem Ybk(i j:Int):gSb (.int i) (.int j)=some (.int (i-j)):=rfl
theorem Ybo(i j:Int):gLt (.int i) (.int j)=some (.bool (decide (i<j))):=rfl
theorem Yb6(i j:Int):gLe (.int i) (.int j)=some (.bool (decide (i≤j))):=rfl
theorem Z7p(i j:Int):gGt (.int i) (.int j)=some (.bool (decide (j<i))):=rfl
theorem Z8o(i j:Int):gGe (.int i) (.int j)=some (.bool (decide (j≤i))):=rfl
theorem Zmc{i j:Int}(h:Z1k i j=true):Zhv (.int i) (.int j)=some (.int (i*j)):=by
 unfold Zhv i2c;dsimp only;rw[if_pos h]
theorem Zgl{i j:Int}(h:Z4m i j=true):Y4 (.int i) (.int j)=some (.int (i.fdiv j)):=by
 unfold Y4 i2c;dsimp only;rw[if_pos h]
theorem Zx8{i j:Int}(h:j≠0):Jl (.int i) (.int j)=some (.int (i.fmod j)):=by
 unfold Jl i2c Z99;dsimp only;rw[if_pos (decide_eq_true h)]
theorem Zt0{m n:Nat}{x y:Int}(h:Bt m x)(k:Bt n y)(hmn:m+n≤100000000:=by decide):Z1k x y=true:=Zgi.mpr (h.mulOk k hmn)
theorem Zxo{x y:Int}(h:x.natAbs<2^64):Z1k x y=true:=Zgi.mpr (.of_left (intBits_le_64 (by omega) (by omega)))
theorem Z5q{x y:Int}(h:y.natAbs<2^64):Z1k x y=true:=Zgi.mpr (.of_right (intBits_le_64 (by omega) (by omega)))
theorem Zhk{n:Nat}{i j:Int}(h0:j≠0)(h:Bt n j)(hn:n≤9000:=by decide):Z4m i j=true:=by
 obtain⟨h1,h2⟩:=DivOk.of (i:=i) h0 h hn
 unfold Z4m
 rw[decide_eq_true h1,decide_eq_true h2];rfl
theorem Z7i(i j:Int):gEq (.int i) (.int j)=some (.bool (decide (i=j))):=by
 show some (PyData.bool (i==j))=_
 rw[show(i==j)=decide (i=j)from rfl]
theorem Z7l(i j:Int):gNe (.int i) (.int j)=some (.bool (!decide (i=j))):=by
 show some (PyData.bool (!(i==j)))=_
 rw[show(i==j)=decide (i=j)from rfl]
theorem Ybj(d:Xa):gIs d .none=some (.bool (Zi9 d)):=rfl
theorem Z6q(d:Xa):Z2v d .none=some (.bool (!Zi9 d)):=rfl
theorem Zqb(ds:List Xa)(i:Int):gIx (.list ds) (.int i)=(atI ds i).bind λx=>some (.fz x):=rfl
theorem Ybt(ds:List Xa)(i:Int):gIx (.tuple ds) (.int i)=(atI ds i).bind λx=>some (.fz x):=rfl
theorem Zo3(ds:List Xa):Za1 [.list ds]=some (.int ds.length):=rfl
theorem Z33(ds:List Xa):Za1 [.tuple ds]=some (.int ds.length):=rfl
theorem Zsg(i:Int):Z1x [.int i]=some (.int (i.natAbs:Int)):=by
 show some (Xj (if i<0 then -i else i))=_
 congr 2;split<;>omega
theorem Z9s(i j:Int):Ybe [.int i,.int j]=some (.int (if j>i then j else i)):=rfl
theorem Z9l(i j:Int):Ybc [.int i,.int j]=some (.int (if j<i then j else i)):=rfl
theorem Yan(i:Int):Z9j [.int i]=some (.int i):=rfl
theorem Z9q(b:Bool):Z9j [.bool b]=some (.int (if b then 1 else 0)):=rfl
theorem Znn(ds:List Xa):Zk5 [.list ds]=some (.nd (ds.map OT.fz)):=rfl
theorem Z6t(ds:List Xa):Zk5 [.tuple ds]=some (.nd (ds.map OT.fz)):=rfl
theorem Zxe{ds es:List Xa}(h:ds.length+es.length≤Xo):Ze5 (.list ds) (.list es)=some (.nd ((ds ++ es).map OT.fz)):=by
 unfold Ze5;dsimp only;rw[if_pos h]
theorem Z3a(i:Int):Ze2 (.int i)=some (.int (-i)):=rfl
theorem Yaf(b:Bool):Z6a (.bool b)=some (.bool (!b)):=rfl
theorem Yat(b:Bool):Zvs (.bool b)=some b:=rfl
theorem Z94(i:Int):Zvs (.int i)=some (i !=0):=rfl
theorem Yaw:Zvs .none=some false:=rfl
theorem Z9b(ds:List Xa):Zvs (.list ds)=some (!ds.isEmpty):=rfl
theorem Zvp{n:Nat}{d:Xa}(h:Sh n d)(hp:Yr d=true)(hn:n≤60):gNe d d=some (.bool false):=by
 have s:Bw d=true:=(h.shp (by omega)).ok
 unfold gNe
 rw[if_pos (by rw[s];rfl),Zj3 hp];rfl
theorem Zog{gg:FG}{u:FS}{ds:List Xa}{δ:Zg}(I:Nat->Zg->Prop)(h0:I 0 δ)
  (turn:∀(i:Nat) (d:Xa) (δ:Zg),ds[i]? =some d->I i δ->∃δ1 δ2,gg d δ=some δ1∧(u δ1= .nx δ2∨u δ1= .ct δ2)∧I (i+1) δ2):∃δ',forLoop gg u ds δ= .nx δ'∧I ds.length δ':=by
 induction ds generalizing δ I with
 | nil=>exact⟨δ,rfl,h0⟩
 | cons d ds ih=>
  obtain⟨δ1,δ2,e1,e2,h1⟩:=turn 0 d δ rfl h0
  obtain⟨δ',e3,h3⟩:=ih (δ:=δ2) (λi δ=>I (i+1) δ) h1 λi d' δ hd hi=>turn (i+1) d' δ (by simpa using hd) hi
  refine⟨δ',?_,h3⟩
  rw[Zcu,e1]
  dsimp only
  rcases e2 with e2|e2<;>rw[e2]<;>exact e3
noncomputable def Goes(r:RS)(Q:Zg->Prop):Prop:=∃δ,(r= .nx δ∨r= .ct δ)∧Q δ
theorem Goes.nx{δ:Zg}{Q:Zg->Prop}(h:Q δ):Goes (.nx δ) Q:=⟨δ,.inl rfl,h⟩
theorem Goes.ct{δ:Zg}{Q:Zg->Prop}(h:Q δ):Goes (.ct δ) Q:=⟨δ,.inr rfl,h⟩
theorem Zt2{α:Type}{me:FE}{cs:Zg}(mk:α->Xa)(f:α->OT):∀(xs:List α) (z:Option OT),(∀x∈xs,me (some (.fz (mk x)) :: cs)=some (f x,some (.fz (mk x)) :: cs)) ->
  ∃z',compLoop (gNm 0) Ze3 me (xs.map mk) (z :: cs)=some (xs.map f,z' :: cs)
 | [],z,_=>⟨z,rfl⟩
 | x :: xs,z,h=>by
  obtain⟨z',e⟩:=Zt2 mk f xs (some (.fz (mk x))) λy hy=>h y (.tail _ hy)
  refine⟨z',?_⟩
  rw[XF,compLoop]
  show(some (some (OT.fz (mk x)) :: cs)).bind _=_
  rw[Xc]
  show(some (true,some (OT.fz (mk x)) :: cs)).bind _=_
  rw[Xc,if_pos rfl,h x (.head _),Xc,e];rfl
theorem Zn9{α:Type}{t:FT}{me:FE}{cs:Zg}(mk:α->Xa)(p:α->Bool)(f:α->OT):∀(xs:List α) (z:Option OT),(∀x∈xs,t (some (.fz (mk x)) :: cs)=some (p x,some (.fz (mk x)) :: cs))->(∀x∈xs,p x=true->me (some (.fz (mk x)) :: cs)=some (f x,some (.fz (mk x)) :: cs)) ->
  ∃z',compLoop (gNm 0) t me (xs.map mk) (z :: cs)=some ((xs.filter p).map f,z' :: cs)
 | [],z,_,_=>⟨z,rfl⟩
 | x :: xs,z,ht,h=>by
  obtain⟨z',e⟩:=Zn9 mk p f xs (some (.fz (mk x))) (λy hy=>ht y (.tail _ hy)) λy hy=>h y (.tail _ hy)
  refine⟨z',?_⟩
  rw[XF,compLoop]
  show(some (some (OT.fz (mk x)) :: cs)).bind _=_
  rw[Xc,ht x (.head _),Xc]
  dsimp only
  by_cases hp:p x=true
  ·rw[if_pos hp,h x (.head _) hp,Xc,e,UV hp];rfl
  ·rw[if_neg hp,e,UW hp]
theorem Zi2{α:Type}{caps:List Nat}{it:FI}{me:FE}{cs δ δ1:Zg}(xs:List α)(mk:α->Xa)(f:α->OT)(hi:it δ=some (xs.map mk,δ1))(hz:xs.length≤Xo)(hb:blk 1 caps δ1=none :: cs)
  (h:∀x∈xs,me (some (.fz (mk x)) :: cs)=some (f x,some (.fz (mk x)) :: cs)):Wb 1 caps it (gNm 0) Ze3 me δ=some (.nd (xs.map f),δ1):=by
 unfold Wb
 rw[hi,Xc]
 dsimp only
 rw[if_pos (by rw[Xi];exact hz),hb]
 obtain⟨z',e⟩:=Zt2 (me:=me) (cs:=cs) mk f xs none h
 rw[e];rfl
theorem Zty{α:Type}{caps:List Nat}{it:FI}{t:FT}{me:FE}{cs δ δ1:Zg}(xs:List α)(mk:α->Xa)(p:α->Bool)(f:α->OT)(hi:it δ=some (xs.map mk,δ1))(hz:xs.length≤Xo)(hb:blk 1 caps δ1=none :: cs)
  (ht:∀x∈xs,t (some (.fz (mk x)) :: cs)=some (p x,some (.fz (mk x)) :: cs)) (h:∀x∈xs,p x=true->me (some (.fz (mk x)) :: cs)=some (f x,some (.fz (mk x)) :: cs)):Wb 1 caps it (gNm 0) t me δ=some (.nd ((xs.filter p).map f),δ1):=by
 unfold Wb
 rw[hi,Xc]
 dsimp only
 rw[if_pos (by rw[Xi];exact hz),hb]
 obtain⟨z',e⟩:=Zn9 (t:=t) (me:=me) (cs:=cs) mk p f xs none ht h
 rw[e];rfl
theorem Ybl:(2≤Xo)=True:=by simp[X5]
theorem Ya4:(1≤Xo)=True:=by simp[X5]
theorem Ycc:(0≤Xo)=True:=by simp
theorem Z64:(3≤Xo)=True:=by simp[X5]
theorem Zpm{α:Type}(f:α->Xa)(xs:List α):(xs.map λx=>OT.fz (f x)).map OT.data=xs.map f:=by
 rw[XN];exact Xw λx _=>OT.data_fz _
theorem Z1d{α:Type}{j:Int}{x:α}(h0:0≤j)(h1:j≤1000000):(if rOk j=true then some x else none)=some x:=if_pos (Zgu (by omega) h1)
theorem Z0g{α:Type}{i j:Int}{x:α}(h0:0≤i)(h1:i≤1000000)(h2:0≤j)(h3:j≤1000000):(if(rOk i&&rOk j)=true then some x else none)=some x:=if_pos (by rw[Zgu (by omega) h1,Zgu (by omega) h3];rfl)
theorem Zx3{r:RS}{k:Nat}(h:k≤1000000):(if k<Xo then r else .bad)=r:=if_pos (by rw[X5];omega)
noncomputable def EvV(e:FE)(δ:Zg)(d:Xa):Prop:=∃t,e δ=some (t,δ)∧t.data=d
noncomputable def EvA(a:FA)(δ:Zg)(ds:List Xa):Prop:=∃ts,a δ=some (ts,δ)∧OT.datas ts=ds
noncomputable def EvT(t:FT)(δ:Zg)(b:Bool):Prop:=t δ=some (b,δ)
noncomputable def Told(F:FD)(ds:List Xa)(d:Xa):Prop:=∃t,F ds= .ok t∧t.data=d
section
variable {e a b:FE}{as:FA}{δ δ':Zg}{x y d:Xa}{xs ds:List Xa}{i j:Nat}{p q:Bool}{t u:FT}{S S':FS}{r:RS}
theorem EvV.cast{e:FE}{δ:Zg}{x y:Xa}(h:EvV e δ x)(k:x=y):EvV e δ y:=k▸h
theorem Za(h:δ[i]? =some (some (.fz d)):=by rfl):EvV (Ze i) δ d:=⟨_,by rw[Zg8,h,Zg6],OT.data_fz _⟩
theorem Zil{t:OT}(h:δ[i]? =some (some t))(hd:t.data=d):EvV (Zf1 i) δ d:=⟨_,by rw[Zzm,h,Zy5],by rw[OT.data_fz,hd]⟩
theorem Zw:EvV (fC d) δ d:=⟨_,rfl,OT.data_fz _⟩
theorem Z0{g:Xa->Xa->Option Xa}(ha:EvV a δ x)(hb:EvV b δ y)(h:g x y=some d):EvV (Zf g a b) δ d:=by
 obtain⟨_,e1,d1⟩:=ha
 obtain⟨_,e2,d2⟩:=hb
 exact⟨_,by rw[Zu4,e1,Xc,e2,Xc,d1,d2,h,Xc],OT.data_fz _⟩
theorem Zxq{g:Xa->Xa->Option OT}{o:OT}(ha:EvV a δ x)(hb:EvV b δ y)(h:g x y=some o)(hd:o.data=d):EvV (Yn g a b) δ d:=by
 obtain⟨_,e1,d1⟩:=ha
 obtain⟨_,e2,d2⟩:=hb
 exact⟨_,by rw[Znp,e1,Xc,e2,Xc,d1,d2,h,Xc],hd⟩
theorem Zah(ha:EvV a δ x)(hb:EvV b δ y)(h:gIx x y=some (.fz d)):EvV (Yn gIx a b) δ d:=Zxq ha hb h (OT.data_fz _)
theorem Z7{i j:Int}(ha:EvV a δ (.int i))(hb:EvV b δ (.int j)):EvV (Zf Js a b) δ (.int (i+j)):=Z0 ha hb rfl
theorem Zb6{i j:Int}(ha:EvV a δ (.int i))(hb:EvV b δ (.int j)):EvV (Zf gSb a b) δ (.int (i-j)):=Z0 ha hb rfl
theorem Z2w{g:Xa->Option Xa}(ha:EvV a δ x)(h:g x=some d):EvV (fUn g a) δ d:=by
 obtain⟨_,e1,d1⟩:=ha
 exact⟨_,by rw[Z3w,e1,Xc,d1,h,Xc],OT.data_fz _⟩
theorem Zdi(ha:EvV a δ (.bool true))(hb:EvV b δ d):EvV (Zqm a b) δ d:=by
 obtain⟨_,e1,d1⟩:=ha
 obtain⟨_,e2,d2⟩:=hb
 exact⟨_,by rw[Zre,e1,Xc,d1,Z8f,e2],d2⟩
theorem Zu5(ha:EvV a δ (.bool false)):EvV (Zqm a b) δ (.bool false):=by
 obtain⟨_,e1,d1⟩:=ha
 exact⟨_,by rw[Zre,e1,Xc,d1,Z7h],OT.data_fz _⟩
theorem Zeh{T:String}(ha:EvV a δ x)(hf:Zgv x=false:=by rfl):EvV (Zmj T a) δ (.bool (Zo2 T x)):=by
 obtain⟨_,e1,d1⟩:=ha
 exact⟨_,by rw[Z1o,e1,Xc,d1,if_neg (by rw[hf];decide)],OT.data_fz _⟩
theorem Zh:EvA Zn δ []:=⟨_,rfl,Ze0⟩
theorem Zb(h:EvV e δ d)(k:EvA as δ ds):EvA (Zc e as) δ (d :: ds):=by
 obtain⟨_,e1,d1⟩:=h
 obtain⟨_,e2,d2⟩:=k
 exact⟨_,by rw[Zgf,e1,Xc,e2,Xc],by rw[Zdk,d1,d2]⟩
theorem Zo{F:FD}(h:EvA as δ ds)(k:Told F ds d):EvV (Zx F as) δ d:=by
 obtain⟨_,e1,d1⟩:=h
 obtain⟨_,e2,d2⟩:=k
 exact⟨_,by rw[Zoc,e1,Xc,d1,e2,Z4x],d2⟩
theorem Zeq{g:List Xa->Option Xa}(h:EvA as δ ds)(k:g ds=some d):EvV (Zbg g as) δ d:=by
 obtain⟨_,e1,d1⟩:=h
 exact⟨_,by rw[Zzf,e1,Xc,d1,k,Xc],OT.data_fz _⟩
theorem Zpx{g:List Xa->Option OT}{o:OT}(h:EvA as δ ds)(k:g ds=some o)(hd:o.data=d):EvV (fBl g as) δ d:=by
 obtain⟨_,e1,d1⟩:=h
 exact⟨_,by rw[Zsw,e1,Xc,d1,k,Xc],hd⟩
theorem Zdb:∀ts:List OT,(OT.datas ts).length=ts.length
 | []=>by rw[Ze0];rfl
 | t :: ts=>by rw[Zdk,Bb,Bb,Zdb ts]
theorem datas_map:∀ts:List OT,OT.datas ts=ts.map OT.data
 | []=>Ze0
 | t :: ts=>by rw[Zdk,XF,datas_map ts]
theorem Zcd(h:EvA as δ ds)(hl:ds.length≤1000):EvV (Zjx as) δ (.tuple ds):=by
 obtain⟨ts,e1,d1⟩:=h
 have:=Zdb ts
 rw[d1]at this
 exact⟨_,by rw[Zy8,e1,Xc,if_pos (by rw[X5];show ts.length≤_;omega)],by rw[OT.data_fz];exact congrArg _ d1⟩
theorem Zae(h:EvA as δ ds)(hl:ds.length≤1000):EvV (Zbm as) δ (.list ds):=by
 obtain⟨ts,e1,d1⟩:=h
 have:=Zdb ts
 rw[d1]at this
 exact⟨_,by rw[Zs1,e1,Xc,if_pos (by rw[X5];show ts.length≤_;omega)],by rw[OT.data_nd,←datas_map,d1]⟩
theorem Zli{o:OT}{b:Bool}(h:o.data= .bool b):o= .fz (.bool b):=by
 cases o with
 | fz d=>rw[OT.data_fz]at h;rw[h]
 | nd ts=>rw[OT.data_nd]at h;cases h
 | tp ts=>rw[OT.data_tp]at h;cases h
 | dc _ _ _=>rw[OT.data_dc]at h;cases h
theorem Zbu(h:EvV e δ (.bool p)):EvT (tV e) δ p:=by
 obtain⟨_,e1,d1⟩:=h
 unfold EvT
 rw[Z70,e1,Xc,Zli d1,Z18]
theorem Z6p(h:EvV e δ d)(k:Zvs d=some p):EvT (tD e) δ p:=by
 obtain⟨_,e1,d1⟩:=h
 unfold EvT
 rw[Z87,e1,Xc,d1,k,Xc]
theorem Zf9(h:EvV e δ (.bool p)):EvT (tD e) δ p:=Z6p h rfl
theorem Zh4(h:EvT t δ p):EvT (tNo t) δ (!p):=by
 unfold EvT at h⊢
 rw[Z24,h,Xc]
theorem Z3u(h:EvT t δ true)(k:EvT u δ p):EvT (tAn t u) δ p:=by
 unfold EvT at h k⊢
 rw[Zxr,h,Xc,if_pos rfl,k]
theorem Z1n(h:EvT t δ false):EvT (tAn t u) δ false:=by
 unfold EvT at h⊢
 rw[Zxr,h,Xc,if_neg Xp]
theorem Z39(h:EvT t δ false)(k:EvT u δ p):EvT (tO t u) δ p:=by
 unfold EvT at h k⊢
 rw[Z4n,h,Xc,if_neg Xp,k]
theorem Z2y(h:EvT t δ true):EvT (tO t u) δ true:=by
 unfold EvT at h⊢
 rw[Z4n,h,Xc,if_pos rfl]
theorem Yg(h:S δ= .nx δ')(k:S' δ'=r):Zy S S' δ=r:=by rw[Znc,h,Z2d,k]
theorem Zgq{o:OT}(h:S δ= .rt o δ'):Zy S S' δ= .rt o δ':=by rw[Znc,h,Z5l]
theorem Zq(h:EvV e δ d):wE e (Yu i) δ= .nx (δ.set i (some (.fz d))):=by
 obtain⟨_,e1,d1⟩:=h
 rw[Ze9,e1,Yo,Zzx,d1]
theorem Z4d(h:EvV e δ d):∃o,wE e Zai δ= .rt o δ∧o.data=d:=by
 obtain⟨_,e1,d1⟩:=h
 exact⟨_,by rw[Ze9,e1,Yo,Zs9],d1⟩
theorem W8(h:EvT t δ true)(k:S δ=r):Jp t S S' δ=r:=by
 unfold EvT at h
 rw[Zt6,h,Yo,if_pos rfl,k]
theorem Z5(h:EvT t δ false)(k:S' δ=r):Jp t S S' δ=r:=by
 unfold EvT at h
 rw[Zt6,h,Yo,if_neg (by decide),k]
theorem Ybg{F:FD}{k:OT->Zg->RS}(h:EvA as δ ds)(hF:Told F ds d)(hk:∀o,o.data=d->k o δ=r):wX F as k δ=r:=by
 obtain⟨_,e1,d1⟩:=h
 obtain⟨o,e2,d2⟩:=hF
 rw[Z0n,e1,Yo,d1,e2,Zyd,hk o d2]
theorem Zr3{F:FD}{k:OT->Zg->RS}{c:Str}(h:EvA as δ ds)(hF:F ds= .exn c):wX F as k δ= .ex c δ:=by
 obtain⟨_,e1,d1⟩:=h
 rw[Z0n,e1,Yo,d1,hF,Z5f]
noncomputable def Zmd(S:FS)(δ:Zg)(d:Xa):Prop:=∃o δ',S δ= .rt o δ'∧o.data=d
theorem Zt(h:S δ= .nx δ')(k:Zmd S' δ' d):Zmd (Zy S S') δ d:=by
 obtain⟨o,δ2,e,hd⟩:=k
 exact⟨o,δ2,Yg h e,hd⟩
theorem Zb0(k:Zmd S δ d):Zmd (Zy S S') δ d:=by
 obtain⟨o,δ2,e,hd⟩:=k
 exact⟨o,δ2,Zgq e,hd⟩
theorem Yv(h:EvV e δ d):Zmd (wE e Zai) δ d:=by
 obtain⟨o,e1,hd⟩:=Z4d h
 exact⟨o,δ,e1,hd⟩
theorem Zec(h:EvT t δ true)(k:Zmd S δ d):Zmd (Jp t S S') δ d:=by
 obtain⟨o,δ2,e,hd⟩:=k
 exact⟨o,δ2,W8 h e,hd⟩
theorem Z6{np n:Nat}(hl:xs.length=np)(k:Zmd S (Zes n xs) d):Told (Jy np n S) xs d:=by
 obtain⟨o,δ2,e,hd⟩:=k
 exact⟨o,by rw[Zjd hl,e,Zth],hd⟩
noncomputable def EvO(o:FO)(δ:Zg)(l:Option Int):Prop:=o δ=some (l,δ)
theorem Zmw:EvO oN δ none:=rfl
theorem Zqi{i:Int}(h:EvV e δ (.int i)):EvO (oI e) δ (some i):=by
 obtain⟨_,e1,d1⟩:=h
 unfold EvO
 rw[Z7x,e1,Xc,d1,Zml]
theorem Zzq{lo hi:FO}{l h:Option Int}(he:EvV e δ (.list ds))(hl:EvO lo δ l)(hh:EvO hi δ h):EvV (fSl e lo hi) δ (.list (cutD ds l h)):=by
 obtain⟨_,e1,d1⟩:=he
 unfold EvO at hl hh
 exact⟨_,by rw[Z5o,e1,Xc,hl,Xc,hh,Xc,d1,Zud],by rw[OT.data_nd,OT.map_fz]⟩
theorem Zq8{es:List Xa}(ha:EvV a δ (.list ds))(hb:EvV b δ (.list es))(h:ds.length+es.length≤1000000):EvV (Yn Ze5 a b) δ (.list (ds ++ es)) :=
 Zxq ha hb (Zxe (by rw[X5];omega)) (by rw[OT.data_nd,OT.map_fz])
noncomputable def EvI(it:FI)(δ:Zg)(ds:List Xa):Prop:=it δ=some (ds,δ)
theorem Zaz(h:EvV e δ (.list ds)):EvI (Zhh e) δ ds:=by
 obtain⟨_,e1,d1⟩:=h
 unfold EvI
 rw[Zzw,e1,Xc,d1,Zud]
theorem Zff{n:Nat}(h:EvA as δ [.int n])(hn:n≤1000000):EvI (iRa as) δ (Zch 0 n):=by
 obtain⟨_,e1,d1⟩:=h
 unfold EvI
 rw[Z4z,e1,Xc,d1,Zyz,Z1d (by omega) (by omega),Qs]
theorem Zh9{it:FI}{g:FG}(h:EvI it δ ds)(k:forLoop g S ds δ=r):Zcc it g S δ=r:=by
 unfold EvI at h
 rw[Zy9,h,Yo,k]
theorem Zbv{α:Type}{caps:List Nat}{it:FI}{me:FE}{cs:Zg}(xs:List α)(mk f:α->Xa)(hi:EvI it δ (xs.map mk))(hz:xs.length≤1000000)(hb:blk 1 caps δ=none :: cs)(h:∀x∈xs,EvV me (some (.fz (mk x)) :: cs) (f x)):EvV (Wb 1 caps it (gNm 0) Ze3 me) δ (.list (xs.map f)):=by
 have g:∀x,∃o:OT,x∈xs->me (some (.fz (mk x)) :: cs)=some (o,some (.fz (mk x)) :: cs)∧o.data=f x:=λx=>by
  by_cases c:x∈xs
  ·obtain⟨o,h1,h2⟩:=h x c
   exact⟨o,λ_=>⟨h1,h2⟩⟩
  ·exact⟨.fz .none,λz=>absurd z c⟩
 obtain⟨o,ho⟩:=Classical.axiomOfChoice g
 unfold EvI at hi
 refine⟨_,Zi2 (cs:=cs) xs mk o hi (by rw[X5];omega) hb (λx hx=>(ho x hx).1),?_⟩
 rw[OT.data_nd,XN]
 exact congrArg _ (Xw λx hx=>(ho x hx).2)
theorem Ztm{ts:List OT}(h:EvV e δ d)(hi:δ[i]? =some (some (.nd ts)))(hl:ts.length≤1000000):Wq i e δ= .nx (δ.set i (some (.nd (ts ++ [.fz d])))):=by
 obtain⟨_,e1,d1⟩:=h
 rw[Zix,hi,Zp7,e1,Yo,hi,Zp7,Zx3 hl,d1]
theorem Zct{o:OT}(h:e δ=some (o,δ)):wE e (Jo i) δ= .nx (δ.set i (some o)):=by rw[Ze9,h,Yo,Zwf]
theorem Z8c{o:OT}(h:δ[i]? =some (some o))(hd:o.data=d):Zmd (Zeu i) δ d:=⟨o,_,by rw[Zo0,h,Zz5],hd⟩
theorem Zhg{o:OT}(h:δ[i]? =some (some o))(k:S (δ.set i (some (.fz o.data)))=r):Zbx i S δ=r:=by rw[Zqa,h,Zz5,k]
theorem Zrv{np n:Nat}(hl:xs.length=np)(k:S (Zes n xs)= .nx δ'):Told (Jy np n S) xs .none:=⟨_,by rw[Zjd hl,k,Z1i],OT.data_fz _⟩
theorem Zop{np n:Nat}{c:Str}(hl:xs.length=np)(k:S (Zes n xs)= .ex c δ'):Jy np n S xs= .exn c:=by rw[Zjd hl,k,Zyv]
theorem Zq1{c:Str}(h:S δ= .ex c δ'):Zy S S' δ= .ex c δ':=by rw[Znc,h,Z16]
theorem Told.ok{F:FD}{b:Bool}(h:Told F ds (.bool b)):F ds= .ok (.fz (.bool b)):=by
 obtain⟨o,e1,d1⟩:=h
 rw[e1,Zli d1]
theorem Zoi{o:OT}{i:Int}(h:o.data= .int i):o= .fz (.int i):=by
 cases o with
 | fz d=>rw[OT.data_fz]at h;rw[h]
 | nd ts=>rw[OT.data_nd]at h;cases h
 | tp ts=>rw[OT.data_tp]at h;cases h
 | dc _ _ _=>rw[OT.data_dc]at h;cases h
theorem Told.int{F:FD}{i:Int}(h:Told F ds (.int i)):F ds= .ok (.fz (.int i)):=by
 obtain⟨o,e1,d1⟩:=h
 rw[e1,Zoi d1]
theorem Zta{o:OT}(h:o.data= .none):o= .fz .none:=by
 cases o with
 | fz d=>rw[OT.data_fz]at h;rw[h]
 | nd ts=>rw[OT.data_nd]at h;cases h
 | tp ts=>rw[OT.data_tp]at h;cases h
 | dc _ _ _=>rw[OT.data_dc]at h;cases h
theorem Told.of{F:FD}{o:OT}(h:F ds= .ok o)(hd:o.data=d):Told F ds d:=⟨o,h,hd⟩
end
section
variable {e a b:FE}{as:FA}{δ δ':Zg}{x y d:Xa}{xs ds:List Xa}{i j:Int}{k:Nat}{p q:Bool}{t u:FT}{S S':FS}{r:RS}{Q:Xa->Prop}
theorem Yz(ha:EvV a δ (.int i))(hb:EvV b δ (.int j))(h:j≠0):EvV (Zf Jl a b) δ (.int (i.fmod j)):=Z0 ha hb (Zx8 h)
theorem Z4s{i j:Int}(h:(decide (0<j)&&decide (j<18446744073709551616))=true):Y4 (.int i) (.int j)=some (.int (i.fdiv j)):=by
 rw[Xx,decide_eq_true_eq,decide_eq_true_eq]at h
 exact Zgl (Zhk (n:=64) (by omega) (Bt.of_lt (by omega) (by omega)))
theorem Jz(ha:EvV a δ (.int i))(hb:EvV b δ (.int j))(h:(decide (0<j)&&decide (j<18446744073709551616))=true:=by decide):EvV (Zf Y4 a b) δ (.int (i.fdiv j)):=Z0 ha hb (Z4s h)
theorem Zbr(ha:EvV a δ (.int i))(hb:EvV b δ (.int j))(h:i.natAbs<2^64:=by decide):EvV (Zf Zhv a b) δ (.int (i*j)):=Z0 ha hb (Zmc (Zxo h))
theorem Zjt(ha:EvV a δ (.int i))(hb:EvV b δ (.int j))(h:j.natAbs<2^64:=by decide):EvV (Zf Zhv a b) δ (.int (i*j)):=Z0 ha hb (Zmc (Z5q h))
theorem Zee(ha:EvV a δ (.int i))(hb:EvV b δ (.int j))(h:decide (i<j)=p):EvV (Zf gLt a b) δ (.bool p):=h▸Z0 ha hb rfl
theorem Zm4(ha:EvV a δ (.int i))(hb:EvV b δ (.int j))(h:decide (j<i)=p):EvV (Zf gGt a b) δ (.bool p):=h▸Z0 ha hb (Z7p _ _)
theorem Z4o(ha:EvV a δ (.int i))(hb:EvV b δ (.int j))(h:decide (j≤i)=p):EvV (Zf gGe a b) δ (.bool p):=h▸Z0 ha hb (Z8o _ _)
theorem Zhy(ha:EvV a δ (.int i))(hb:EvV b δ (.int j))(h:decide (i=j)=p):EvV (Zf gEq a b) δ (.bool p):=h▸Z0 ha hb (Z7i _ _)
theorem Z1l(ha:EvV a δ (.int i))(hb:EvV b δ (.int j))(h:(!decide (i=j))=p):EvV (Zf gNe a b) δ (.bool p):=h▸Z0 ha hb (Z7l _ _)
theorem Zly(ha:EvV a δ (.int i)):EvV (fUn Ze2 a) δ (.int (-i)):=Z2w ha (Z3a _)
theorem Zr5{ds:List Xa}(h:EvV e δ (.list ds)):EvV (Zbg Za1 (Zc e Zn)) δ (.int ds.length):=Zeq (Zb h Zh) (Zo3 ds)
theorem Zsz(ha:EvV a δ (.list ds))(hb:EvV b δ (.int i))(h:atI ds i=some d):EvV (Yn gIx a b) δ d:=Zah ha hb (by rw[Zqb,h];rfl)
noncomputable def Zrw(S:FS)(δ:Zg)(Q:Xa->Prop):Prop:=∃d,Zmd S δ d∧Q d
theorem Zay(h:S δ= .nx δ')(k:Zrw S' δ' Q):Zrw (Zy S S') δ Q:=k.imp λ_ k=>⟨Zt h k.1,k.2⟩
theorem Ztv(h:EvV e δ d)(k:Q d):Zrw (wE e Zai) δ Q:=⟨d,Yv h,k⟩
theorem Z6k{o:OT}(h:δ[k]? =some (some o))(hd:Q o.data):Zrw (Zeu k) δ Q:=⟨_,Z8c h rfl,hd⟩
theorem Znv{np n:Nat}(hl:xs.length=np)(h:Zrw S (Zes n xs) Q):∃d,Told (Jy np n S) xs d∧Q d:=h.imp λ_ k=>⟨Z6 hl k.1,k.2⟩
theorem Zgy{it:FI}{g:FG}(I:Nat->Zg->Prop)(hi:EvI it δ ds)(h0:I 0 δ)(turn:∀(i:Nat) (d:Xa) (δ:Zg),ds[i]? =some d->I i δ->∃δ1 δ2,g d δ=some δ1∧(S δ1= .nx δ2∨S δ1= .ct δ2)∧I (i+1) δ2)(k:∀δ',I ds.length δ'->Zrw S' δ' Q):Zrw (Zy (Zcc it g S) S') δ Q:=by
 obtain⟨δ',e,h⟩:=Zog I h0 turn
 exact Zay (Zh9 hi e) (k δ' h)
theorem Zll{it:FI}{g:FG}(I:Nat->Zg->Prop)(hi:EvI it δ ds)(h0:I 0 δ)(turn:∀(i:Nat) (d:Xa) (δ:Zg),ds[i]? =some d->I i δ->∃δ1 δ2,g d δ=some δ1∧(S δ1= .nx δ2∨S δ1= .ct δ2)∧I (i+1) δ2)(k:∀δ',I ds.length δ'->Zmd S' δ' d):Zmd (Zy (Zcc it g S) S') δ d:=by
 obtain⟨δ',e,h⟩:=Zog I h0 turn
 exact Zt (Zh9 hi e) (k δ' h)
theorem Zms{it:FI}{g:FG}(I:Nat->Zg->Prop)(hi:EvI it δ ds)(h0:I 0 δ)(turn:∀(i:Nat) (d:Xa) (δ:Zg),ds[i]? =some d->I i δ->∃δ1 δ2,g d δ=some δ1∧(S δ1= .nx δ2∨S δ1= .ct δ2)∧I (i+1) δ2):∃δ',Zcc it g S δ= .nx δ'∧I ds.length δ':=by
 obtain⟨δ',e,h⟩:=Zog I h0 turn
 exact⟨δ',Zh9 hi e,h⟩
theorem Z04{m n:Nat}(h:EvA as δ [.int m,.int n])(hm:m≤1000000)(hn:n≤1000000):EvI (iRb as) δ (Zch m (n-m)):=by
 obtain⟨_,e1,d1⟩:=h
 unfold EvI
 rw[Z5c,e1,Xc,d1,Z63,Z0g (by omega) (by omega) (by omega) (by omega),show((n:Int)-(m:Int)).toNat=n-m by omega]
theorem Z0t(h:EvV e δ d):∃o,wE e (Jo k) δ= .nx (δ.set k (some o))∧o.data=d:=by
 obtain⟨o,e1,d1⟩:=h
 exact⟨o,Zct e1,d1⟩
theorem Zs2{es:List Xa}(ha:EvV a δ (.list ds))(hb:EvV b δ (.list es))(h:ds.length+es.length≤1000000):wE (Yn Ze5 a b) (Jo k) δ= .nx (δ.set k (some (.nd ((ds ++ es).map OT.fz)))):=by
 obtain⟨_,e1,d1⟩:=ha
 obtain⟨_,e2,d2⟩:=hb
 exact Zct (by rw[Znp,e1,Xc,e2,Xc,d1,d2,Zxe (by rw[X5];omega),Xc])
theorem Ziz:wE (Zbm Zn) (Jo k) δ= .nx (δ.set k (some (.nd []))):=Zct (by rw[Zs1];rfl)
theorem J3{i:Int}(h:0<j):0≤i.fmod j:=by rw[Zem h];exact Int.emod_nonneg _ (by omega)
theorem Zas{i:Int}(h:0<j):i.fmod j<j:=by rw[Zem h];exact Int.emod_lt_of_pos _ h
theorem Zet(i:Int){n:Nat}(h:0<n):∃m:Nat,i.fmod (n:Int)=m∧m<n:=by
 have h0:=J3 (i:=i) (j:=n) (by omega)
 have h1:=Zas (i:=i) (j:=n) (by omega)
 exact⟨(i.fmod n).toNat,by omega,by omega⟩
theorem Z8r{n:Int}(h:EvA as δ [.int n])(h0:0≤n)(h1:n≤1000000):EvV (Zxs as) δ (.list (Zch 0 n.toNat)):=by
 obtain⟨_,e1,d1⟩:=h
 exact⟨_,by rw[Zr7,e1,Xc,d1,Zyz,if_pos ⟨Zgu (by omega) (by omega),by rw[X5];omega⟩],by rw[OT.data_nd,OT.map_fz]⟩
theorem Zsc{o:OT}(h:δ[k]? =some (some o))(g:Zrw S (δ.set k (some (.fz o.data))) Q):Zrw (Zbx k S) δ Q:=by
 obtain⟨d,⟨o',δ2,e,hd⟩,hq⟩:=g
 exact⟨d,⟨o',δ2,Zhg h e,hd⟩,hq⟩
theorem Zzo{o:OT}{ts ts0:List OT}(h:e δ=some (o,δ'))(h0:δ[k]? =some (some (.nd ts0)))(h1:δ'[k]? =some (some (.nd ts)))(hl:ts.length≤1000000):Wq k e δ= .nx (δ'.set k (some (.nd (ts ++ [.fz o.data])))):=by
 rw[Zix,h0,Zp7,h,Yo,h1,Zp7,Zx3 hl]
theorem Zrh{es:List Xa}(h:EvA as δ ds)(hz:Z1y ds=some es):EvI (Zlv as) δ es:=by
 obtain⟨_,e1,d1⟩:=h
 unfold EvI Zlv
 rw[e1,Xc,d1,hz,Xc]
theorem Z3n{xs:List Str}{D c:Str}{h:FS}{δ2:Zg}(e:S δ= .ex c δ')(hc:(xs.contains c&&Zpj c D)=true)(hh:h (δ'.set k (some (.fz (exD c))))= .nx δ2):Z3b xs S D k h δ= .nx (δ2.set k none):=by
 unfold Z3b
 rw[e]
 dsimp only
 rw[if_pos hc,hh]
theorem Zyp{xs:List Str}{D x:Str}(ha:EvV a δ (exD x))(h:xs.contains x=true)(hd:Zpj x D=p):EvV (Zue xs D a) δ (.bool p):=by
 obtain⟨_,e1,d1⟩:=ha
 exact⟨_,by unfold Zue;rw[e1,Xc,d1,show Zh7 (exD x)=some x from rfl,Xc,if_pos h],by rw[OT.data_fz,hd]⟩
theorem Zzn{xs Ds:List Str}{x:Str}(ha:EvV a δ (exD x))(h:xs.contains x=true)(hd:Ds.any (Zpj x)=p):EvV (Zpb xs Ds a) δ (.bool p):=by
 obtain⟨_,e1,d1⟩:=ha
 exact⟨_,by unfold Zpb;rw[e1,Xc,d1,show Zh7 (exD x)=some x from rfl,Xc,if_pos h],by rw[OT.data_fz,hd]⟩
theorem Zxz{n:Nat}(hn:n≤1000000){v:Option OT}:(Zuu (fC d) (Ze 1)) [v,some (.fz (.int n))]=some (.nd (Xr n (.fz d)),[v,some (.fz (.int n))]):=by
 obtain⟨_,e1,d1⟩:=Za (δ:=[v,some (.fz (.int n))]) (i:=1) (d:=.int n)
 rw[Zsr,Z2i,Xc,e1,Xc,d1,Zml,if_pos ⟨Zgu (by omega) (by omega),by rw[X5];omega⟩,Qs,OT.data_fz]
theorem Zw3{δ:Zg}{v:Option OT}(h:δ[k]? =some v):δ.set k v=δ:=by
 obtain⟨hk,e⟩:=Xn.mp h
 rw[←e,List.set_getElem_self]
theorem Zpc{it:FI}{g gg:FG}{δ1:Zg}(I:Nat->Zg->Prop){J:Zg->Prop}(hg:gg d δ=some δ1)(hi:EvI it δ1 ds)(h0:I 0 δ1)(turn:∀(i:Nat) (d:Xa) (δ:Zg),ds[i]? =some d->I i δ->∃δ1 δ2,g d δ=some δ1∧(S δ1= .nx δ2∨S δ1= .ct δ2)∧I (i+1) δ2)(hJ:∀δ',I ds.length δ'->J δ'):∃δ1 δ2,gg d δ=some δ1∧(Zcc it g S δ1= .nx δ2∨Zcc it g S δ1= .ct δ2)∧J δ2:=by
 obtain⟨δ',e,h⟩:=Zog I h0 turn
 exact⟨δ1,δ',hg,.inl (Zh9 hi e),hJ δ' h⟩
theorem Zot{T:String}(ha:EvV a δ x)(h:Zo2 T x=p)(hf:Zgv x=false:=by rfl):EvV (Zmj T a) δ (.bool p):=(Zeh ha hf).cast (by rw[h])
theorem Zy6(h:EvV e δ d)(g:∀o:OT,o.data=d->Zrw S (δ.set k (some o)) Q):Zrw (Zy (wE e (Jo k)) S) δ Q:=by
 obtain⟨o,e1,d1⟩:=Z0t (k:=k) h
 exact Zay e1 (g o d1)
theorem Zq9{a b:FE}{bs es:List Xa}{as:List Xa}(ha:EvV a δ (.list as))(hb:EvV b δ (.list bs))(hz:Zkk as bs=es):EvI (Zlv (Zc a (Zc b Zn))) δ es:=Zrh (Zb ha (Zb hb Zh)) (congrArg some hz)
theorem Told.none{F:FD}(h:Told F ds .none):F ds= .ok (.fz .none):=by
 obtain⟨o,e1,d1⟩:=h
 rw[e1,Zta d1]
end
end L2
namespace My
open PySem L2 PySem.Spec
noncomputable def Jk:FS :=
 (Zy (wE (Zbg Z1x (Zc (Ze 0) Zn)) (Yu 0))
  (Zy (wE (Zbg Z1x (Zc (Ze 1) Zn)) (Yu 1))
  (Zy (Zim (tV (Zf gNe (Ze 1) (fC (.int 0)))) (Zy (wE (Zf Jl (Ze 0) (Ze 1)) (Yu 2))
  (Zy (wE (Ze 1) (Yu 0))
  (wE (Ze 2) (Yu 1)))))
  (wE (Ze 0) Zai))))
noncomputable def Z9:FD:=Jy 2 3 Jk
theorem Zjg{f1 f2:Int->Int->Option OT->Zg}{t:FT}{u:FS}(ht:∀x y z,t (f1 x y z)=some (!decide (y=0),f1 x y z))(hu:∀x y z,y≠0->∃z',u (f1 x y z)= .nx (f1 y (x.fmod y) z')) :
  ∀(n:Nat) (x y:Int) (z:Option OT),0≤x->0≤y->y.toNat<n->∃z',whileLoop t u n (f1 x y z)= .nx (f1 (JT x y:Int) 0 z')
 | 0,_,_,_,_,_,h=>absurd h (V4 _)
 | n+1,x,y,z,hx,hy,h=>by
  unfold whileLoop
  rw[ht]
  dsimp only
  by_cases c:y=0
  ·subst c
   refine⟨z,?_⟩
   simp only[decide_true,Bool.not_true,BW,if_false]
   rw[Int.gcd_zero_right]
   congr 2
   omega
  ·simp only[c,decide_false,Bool.not_false,if_true]
   obtain⟨z1,e1⟩:=hu x y z c
   rw[e1]
   dsimp only
   have hm:x.fmod y=x%y:=Zem (by omega)
   have h1:0≤x%y:=Int.emod_nonneg x c
   have h2:x%y<y:=Int.emod_lt_of_pos x (by omega)
   obtain⟨z2,e2⟩:=Zjg (f1:=f1) (f2:=f2) ht hu n y (x.fmod y) z1 hy (by omega) (by omega)
   exact⟨z2,by rw[e2,Zww hx (by omega)]⟩
theorem Zaw(a b:Int):Z9 [.int a,.int b]= .ok (.fz (.int (JT a b:Int))):=by
 obtain⟨z',e⟩:=Zjg (f1:=λx y z=>[some (.fz (.int x)),some (.fz (.int y)),z]) (f2:=λx y z=>[]) (t:=tV (Zf gNe (Ze 1) (fC (.int 0)))) (u:=Zy (wE (Zf Jl (Ze 0) (Ze 1)) (Yu 2)) (Zy (wE (Ze 1) (Yu 0)) (wE (Ze 2) (Yu 1)))) (λx y z=>Zbu (Z1l Za Zw rfl)) (λx y z hy=>⟨_,Yg (Zq (Yz Za Za hy)) (Yg (Zq Za) (Zq Za))⟩) ((b.natAbs:Int).toNat+1) (a.natAbs:Int) (b.natAbs:Int) none (by omega) (by omega) (by omega)
 rw[BZ,Int.natAbs_natCast,Int.natAbs_natCast]at e
 exact Told.int<|Z6 rfl<|Zt (Zq (Zeq (Zb Za Zh) (Zsg a)))<|Zt (Zq (Zeq (Zb Za Zh) (Zsg b)))<|Zt (Zl0 _ e (by intro z;cases z)) (Yv Za)
noncomputable def Zc3:FS :=
 (Zy (wE (Zx Z9 (Zc (Ze 0) (Zc (Ze 1) Zn))) (Yu 2))
  (Zy (Jp (tV (Zf gLt (Ze 1) (fC (.int 0))))
  (wE (fUn Ze2 (Ze 2)) (Yu 2))
  fNx)
  (wE (Zjx (Zc (Zf Y4 (Ze 0) (Ze 2)) (Zc (Zf Y4 (Ze 1) (Ze 2)) Zn))) Zai)))
noncomputable def Zat:FD:=Jy 2 3 Zc3
theorem Z2g{n:Nat}{t b:Int}(hb:b≠0)(hB:Bt n b)(hn:n≤9000)(s:Int)(e:s=shr t b):Y4 (.int t) (.int s)=some (.int (Qn t b).num)∧Y4 (.int b) (.int s)=some (.int ((Qn t b).den:Int)):=by
 subst e
 rw[Zgl (Zhk (Zyk hb) (Zxk hb hB) hn),Zgl (Zhk (Zyk hb) (Zxk hb hB) hn),Z01 hb,Zzj hb]
 exact⟨rfl,rfl⟩
theorem Znx{n:Nat}{t b:Int}(hb:b≠0)(hB:Bt n b)(hn:n≤9000:=by decide):Told Zat [.int t,.int b] (frD (Qn t b)):=by
 have fin:∀{δ:Zg} {s:Int},s=shr t b->δ[0]? =some (some (.fz (.int t)))->δ[1]? =some (some (.fz (.int b)))->δ[2]? =some (some (.fz (.int s)))->Zmd (wE (Zjx (Zc (Zf Y4 (Ze 0) (Ze 2)) (Zc (Zf Y4 (Ze 1) (Ze 2)) Zn))) Zai) δ (frD (Qn t b)):=λe h0 h1 h2=>by
  obtain⟨e1,e2⟩:=Z2g hb hB hn _ e
  exact Yv (Zcd (Zb (Z0 (Za h0) (Za h2) e1) (Zb (Z0 (Za h1) (Za h2) e2) Zh)) (show 2≤1000 by decide))
 have g:Told Z9 [.int t,.int b] _:=.of (Zaw t b) (OT.data_fz _)
 by_cases c:b<0
 ·exact Z6 rfl<|Zt (Zq (Zo (Zb Za (Zb Za Zh)) g))<|Zt (W8 (Zbu (Zee Za Zw (decide_eq_true c))) (Zq (Zly Za))) (fin (by unfold shr;rw[if_pos c]) rfl rfl rfl)
 ·exact Z6 rfl<|Zt (Zq (Zo (Zb Za (Zb Za Zh)) g))<|Zt (Z5 (Zbu (Zee Za Zw (decide_eq_false c))) rfl) (fin (by unfold shr;rw[if_neg c]) rfl rfl rfl)
noncomputable def Zcv:FS :=
 (wE (Zqm (Zmj "int" (Ze 0)) (fUn Z6a (Zmj "bool" (Ze 0)))) Zai)
noncomputable def Y7:FD:=Jy 1 1 Zcv
theorem Zf6(i:Int):Y7 [.int i]= .ok (.fz (.bool true)):=rfl
noncomputable def Zc4:FS :=
 (Zy (Jp (tO (tNo (tD (Zx Y7 (Zc (Ze 0) Zn)))) (tO (tNo (tD (Zx Y7 (Zc (Ze 1) Zn)))) (tV (Zf gEq (Ze 1) (fC (.int 0))))))
  (Zkm "NoNumber")
  fNx)
  (wE (Zx Zat (Zc (Ze 0) (Zc (Ze 1) Zn))) Zai))
noncomputable def Y8:FD:=Jy 2 2 Zc4
theorem Zmg{n:Nat}{t b:Int}(hb:b≠0)(hB:Bt n b)(hn:n≤9000:=by decide):Told Y8 [.int t,.int b] (frD (Qn t b)):=by
 have w:∀{i:Int},Told Y7 [.int i] (.bool true):=fun{i}=>.of (Zf6 i) (OT.data_fz _)
 exact Z6 rfl<|Zt (Z5 (Z39 (Zh4 (p:=true) (Zf9 (Zo (Zb Za Zh) w))) (Z39 (Zh4 (p:=true) (Zf9 (Zo (Zb Za Zh) w))) (Zbu (Zhy Za Zw (decide_eq_false hb))))) rfl) (Yv (Zo (Zb Za (Zb Za Zh)) (Znx hb hB hn)))
noncomputable def Zab:FS :=
 (Zy (wE (fC (.int 1)) (Yu 1))
  (Zy (Zcc (Zhh (Ze 0)) (gNm 2)
  (wE (Zf Zhv (Zf Y4 (Ze 1) (Zx Z9 (Zc (Ze 1) (Zc (Yn gIx (Ze 2) (fC (.int 1))) Zn)))) (Yn gIx (Ze 2) (fC (.int 1)))) (Yu 1)))
  (wE (Ze 1) Zai)))
noncomputable def Y6:FD:=Jy 1 3 Zab
noncomputable def prD(p:Int×Int):Xa:=.tuple [.int p.1,.int p.2]
theorem Zv2{a b B:Int}(ha:0<a)(hb:0<b)(h1:a∣B)(h2:b∣B)(hB:0<B):0<a.fdiv (JT a b)*b∧a∣a.fdiv (JT a b)*b∧b∣a.fdiv (JT a b)*b∧a.fdiv (JT a b)*b∣B:=by
 have hg:0<(JT a b:Int):=Zei (by omega)
 have d1:(JT a b:Int)∣a:=Int.gcd_dvd_left ..
 have d2:(JT a b:Int)∣b:=Int.gcd_dvd_right ..
 rw[Wr hg]
 have e:a/(JT a b:Int)*b=(Int.lcm a b:Int):=by
  have q:=Int.gcd_mul_lcm a b
  have h3:(JT a b:Int)*(Int.lcm a b:Int)=a*b:=by
   rw[←Int.natCast_mul,q,Int.natCast_mul,Int.natAbs_of_nonneg (by omega),Int.natAbs_of_nonneg (by omega)]
  obtain⟨k,hk⟩:=d1
  have e1:a/(JT a b:Int)=k:=Int.ediv_eq_of_eq_mul_right (by omega) hk
  rw[e1]
  apply Int.eq_of_mul_eq_mul_left (a:=(JT a b:Int)) (by omega)
  rw[h3,←Int.mul_assoc,←hk]
 rw[e]
 refine⟨?_,Int.dvd_lcm_left ..,Int.dvd_lcm_right ..,Int.coe_lcm_dvd h1 h2⟩
 have:Int.lcm a b≠0:=by
  rw[Ne,Int.lcm_eq_zero_iff]
  omega
 omega
theorem Zkv{n:Nat}{a B:Int}(hB:0<B)(h:a∣B)(b:Bt n B):Bt n a:=by
 refine Bt.of_le b ?_
 have:=Int.natAbs_dvd_natAbs.mpr h
 exact Nat.le_of_dvd (by omega) this
theorem Zf8{n:Nat}{B:Int}(hB:0<B)(bB:Bt n B)(hn:n≤9000:=by decide)(ps:List (Int×Int))(h:∀p∈ps,0<p.2∧p.2∣B) :
  ∃m,Told Y6 [.list (ps.map prD)] (.int m)∧0<m∧(∀p∈ps,p.2∣m)∧m∣B:=by
 have key:∃d,Told Y6 [.list (ps.map prD)] d∧∃m,d= .int m∧0<m∧(∀p∈ps,p.2∣m)∧m∣B:=by
  refine Znv rfl<|Zay (Zq Zw)<|Zgy (ds:=ps.map prD) (λi δ=>∃m z,δ=[some (.fz (.list (ps.map prD))),some (.fz (.int m)),z]∧0<m∧(∀j p,j<i->ps[j]? =some p->p.2∣m)∧m∣B) (Zaz Za) ⟨1,none,rfl,by decide,λj p hj=>absurd hj (V4 j),Int.one_dvd _⟩ (λi d δ hd hi=>?_) λδ' hi=>?_
  ·obtain⟨m,z,hδ,h1,h2,h3⟩:=hi
   subst hδ
   rw[Xy]at hd
   cases e:ps[i]? with
   | none=>rw[e]at hd;cases hd
   | some p=>
    rw[e]at hd
    cases hd
    obtain⟨q1,q2⟩:=h p (QV e)
    obtain⟨s1,s2,s3,s4⟩:=Zv2 h1 q1 h3 q2 hB
    have g0:0<(JT m p.2:Int):=Zei (by omega)
    have bg:Bt n (JT m p.2:Int):=Zkv hB (Int.dvd_trans (Int.gcd_dvd_right ..) q2) bB
    have bm:Bt n (m.fdiv (JT m p.2)):=by
     rw[Wr g0]
     exact Bt.of_le (Zkv hB h3 bB) (Ut _ _)
    have at1:∀{δ:Zg},δ[2]? =some (some (.fz (prD p)))->EvV (Yn gIx (Ze 2) (fC (.int 1))) δ (.int p.2):=λh=>Zah (Za h) Zw rfl
    refine⟨_,_,rfl,.inl (Zq (Z0 (Z0 Za (Zo (Zb Za (Zb (at1 rfl) Zh)) (.of (Zaw m p.2) (OT.data_fz _))) (Zgl (Zhk (by omega) bg hn))) (at1 rfl) (Zmc (Zt0 bm (Zkv hB q2 bB) (by omega))))),_,_,rfl,s1,λj p' hj hp=>?_,s4⟩
    by_cases z:j=i
    ·subst z
     rw[e]at hp;cases hp
     exact s3
    ·exact Int.dvd_trans (h2 j p' (by omega) hp) s2
  ·obtain⟨m,z,rfl,h1,h2,h3⟩:=hi
   refine Ztv Za ⟨m,rfl,h1,λp hp=>?_,h3⟩
   obtain⟨j,hj⟩:=List.getElem?_of_mem hp
   exact h2 j p (by have:=(Xn.mp hj).1;rwa[Xi]) hj
 obtain⟨d,h,m,rfl,hm⟩:=key
 exact⟨m,h,hm⟩
noncomputable def Zav:FS :=
 (Zy (wE (fC (.int 1)) (Yu 1))
  (Zy (Zcc (Zhh (Ze 0)) (gNm 2)
  (wE (Zx Y6 (Zc (Yn Ze5 (Zbm (Zc (Zjx (Zc (fC (.int 1)) (Zc (Ze 1) Zn))) Zn)) (Ze 2)) Zn)) (Yu 1)))
  (wE (Ze 1) Zai)))
noncomputable def Yj:FD:=Jy 1 3 Zav
theorem Zz4(r:List Rat):r.map frD=(r.map λq=>(q.num,(q.den:Int))).map prD:=by rw[XN];rfl
noncomputable def Z4w(T:List (List Rat))(B:Int):Prop:=∀r∈T,∀q∈r,(q.den:Int)∣B
theorem Zhq{n:Nat}{B:Int}(hB:0<B)(bB:Bt n B)(hn:n≤9000:=by decide)(T:List (List Rat))(hz:∀r∈T,r.length≤1000)(h:Z4w T B) :
  ∃m,Told Yj [tbD T] (.int m)∧0<m∧Z4w T m∧m∣B:=by
 have key:∃d,Told Yj [.list (T.map Ze1)] d∧∃m,d= .int m∧0<m∧Z4w T m∧m∣B:=by
  refine Znv rfl<|Zay (Zq Zw)<|Zgy (ds:=T.map Ze1) (λi δ=>∃m z,δ=[some (.fz (.list (T.map Ze1))),some (.fz (.int m)),z]∧0<m∧(∀j r,j<i->T[j]? =some r->∀q∈r,(q.den:Int)∣m)∧m∣B) (Zaz Za) ⟨1,none,rfl,by decide,λj p hj=>absurd hj (V4 j),Int.one_dvd _⟩ (λi d δ hd hi=>?_) λδ' hi=>?_
  ·obtain⟨m,z,hδ,h1,h2,h3⟩:=hi
   subst hδ
   rw[Xy]at hd
   cases e:T[i]? with
   | none=>rw[e]at hd;cases hd
   | some r=>
    rw[e]at hd
    cases hd
    have hr:=QV e
    obtain⟨m',e1,p1,p2,p3⟩:=Zf8 hB bB hn ((1,m) :: r.map λq=>(q.num,(q.den:Int))) λp hp=>by
     rcases Xl.mp hp with rfl|hp
     ·exact⟨h1,h3⟩
     ·obtain⟨q,hq,rfl⟩:=X4.mp hp
      exact⟨Zj5 q,h r hr q hq⟩
    rw[XF,←Zz4]at e1
    have hl:=hz r hr
    refine⟨_,_,rfl,.inl (Zq (Zo (Zb (Zq8 (ds:=[prD (1,m)]) (es:=r.map frD) (Zae (Zb (Zcd (Zb Zw (Zb Za Zh)) (show 2≤1000 by decide)) Zh) (show 1≤1000 by decide)) Za (by rw[Xi,VG];omega)) Zh) e1)),m',_,rfl,p1,λj r' hj hr' q hq=>?_,p3⟩
    by_cases z:j=i
    ·subst z
     rw[e]at hr';cases hr'
     exact p2 (q.num,(q.den:Int)) (.tail _ (X4.mpr ⟨q,hq,rfl⟩))
    ·exact Int.dvd_trans (h2 j r' (by omega) hr' q hq) (p2 (1,m) (.head _))
  ·obtain⟨m,z,rfl,h1,h2,h3⟩:=hi
   refine Ztv Za ⟨m,rfl,h1,λr hr q hq=>?_,h3⟩
   obtain⟨j,hj⟩:=List.getElem?_of_mem hr
   exact h2 j r (by have:=(Xn.mp hj).1;rwa[Xi]) hj q hq
 obtain⟨d,h,m,rfl,hm⟩:=key
 exact⟨m,h,hm⟩
noncomputable def scI(m:Int)(q:Rat):Int:=q.num*(m/(q.den:Int))
theorem Z3r{m:Int}{q:Rat}(h:(q.den:Int)∣m):(scI m q:Rat)=q*(m:Rat):=by
 obtain⟨k,rfl⟩:=h
 unfold scI
 rw[Int.mul_ediv_cancel_left _ (Zsl q)]
 rw[Rat.intCast_mul,Rat.intCast_mul,Yb4,Rat.mul_assoc]
noncomputable def Zb8:FS :=
 (wE (Wb 1 [0] (Zhh (Ze 1)) (gNm 0) Ze3 (Zf Zhv (Yn gIx (Ze 0) (fC (.int 0))) (Zf Y4 (Ze 1) (Yn gIx (Ze 0) (fC (.int 1)))))) Zai)
noncomputable def J5:FD:=Jy 2 2 Zb8
theorem Zls{n:Nat}{m:Int}(hm:0<m)(bm:Bt n m)(r:List Rat)(hz:r.length≤1000)(h:∀q∈r,(q.den:Int)∣m∧Bt n q.num)(hn:n≤9000:=by decide) :
  Told J5 [.int m,Ze1 r] (.list (r.map λq=>.int (scI m q))) :=
 Z6 rfl<|Yv<|Zbv (cs:=[some (.fz (.int m))]) r frD (λq=>.int (scI m q)) (Zaz Za) (by omega) rfl λq hq=>by
  obtain⟨h1,h2⟩:=h q hq
  refine(Z0 (Zah (d:=.int q.num) Za Zw rfl) (Z0 Za (Zah (d:=.int (q.den:Int)) Za Zw rfl) (Zgl (Zhk (Zsl q) (Zkv hm h1 bm) hn))) (Zmc ?_)).cast ?_
  ·rw[Wr (Zj5 q)]
   exact Zt0 h2 (Bt.of_le bm (Ut _ _)) (by omega)
  ·rw[Wr (Zj5 q)];rfl
noncomputable def Zbo:FS :=
 (wE (Wb 1 [0] (Zhh (Ze 1)) (gNm 0) Ze3 (Zx J5 (Zc (Ze 1) (Zc (Ze 0) Zn)))) Zai)
noncomputable def Y9:FD:=Jy 2 2 Zbo
theorem Zjc{n:Nat}{m:Int}(hm:0<m)(bm:Bt n m)(T:List (List Rat))(hT:T.length≤1000)(hz:∀r∈T,r.length≤1000)(h:Z4w T m)(hb:∀r∈T,∀q∈r,Bt n q.num)(hn:n≤9000:=by decide) :
  Told Y9 [.int m,tbD T] (.list (T.map λr=>.list (r.map λq=>.int (scI m q)))) :=
 Z6 rfl<|Yv<|Zbv (cs:=[some (.fz (.int m))]) T Ze1 (λr=>.list (r.map λq=>.int (scI m q))) (Zaz Za) (by omega) rfl λr hr=>Zo (Zb Za (Zb Za Zh)) (Zls hm bm r (hz r hr) (λq hq=>⟨h r hr q hq,hb r hr q hq⟩) hn)
noncomputable def Zcx:FS :=
 (Zy (wE (Zbm Zn) (Jo 1))
  (Zy (Zcc (iRa (Zc (Ze 0) Zn)) (gNm 2)
  (Zcc (iRb (Zc (Zf Js (Ze 2) (fC (.int 1))) (Zc (Ze 0) Zn))) (gNm 3)
  (Wq 1 (Zjx (Zc (Ze 2) (Zc (Ze 3) Zn))))))
  (Zeu 1)))
noncomputable def Jj:FD:=Jy 1 4 Zcx
noncomputable def Z4(n:Nat):List (Nat×Nat):=(Xz n).flatMap λi=>(Xz (n-(i+1))).map λj=>(i,i+1+j)
noncomputable def ptD(p:Nat×Nat):Xa:=.tuple [.int p.1,.int p.2]
theorem Zak{n:Nat}{p:Nat×Nat}(h:p∈Z4 n):p.1<p.2∧p.2<n:=by
 unfold Z4 at h
 obtain⟨i,hi,hp⟩:=List.mem_flatMap.mp h
 obtain⟨j,hj,rfl⟩:=X4.mp hp
 have:=Qt.mp hi
 have:=Qt.mp hj
 dsimp only
 omega
theorem Zp5{n i j:Nat}(h:i<j)(hj:j<n):(i,j)∈Z4 n:=by
 unfold Z4
 exact List.mem_flatMap.mpr ⟨i,Qt.mpr (by omega),X4.mpr ⟨j-(i+1),Qt.mpr (by omega),by congr 1;omega⟩⟩
noncomputable def Zh2(n i:Nat):List (Nat×Nat):=(Xz i).flatMap λi=>(Xz (n-(i+1))).map λj=>(i,i+1+j)
theorem Zhs(n:Nat):∀i,(Zh2 n i).length≤i*n
 | 0=>by simp[Zh2]
 | i+1=>by
  have:=Zhs n i
  unfold Zh2 at this⊢
  rw[List.range_succ,List.flatMap_append,XX]
  simp only[List.flatMap_cons,List.flatMap_nil,Qw,Xi,Qk]
  have e:(i+1)*n=i*n+n:=by rw[Nat.succ_mul]
  omega
theorem Zin(n i:Nat):Zh2 n (i+1)=Zh2 n i ++ (Xz (n-(i+1))).map λj=>(i,i+1+j):=by
 unfold Zh2;rw[List.range_succ,List.flatMap_append];simp
theorem Zni(n:Nat)(hn:n≤1000):Told Jj [.int n] (.list ((Z4 n).map ptD)):=by
 refine Z6 rfl<|Zt Ziz<|Zll (ds:=Zch 0 n) (λi δ=>∃z1 z2,δ=[some (.fz (.int n)),some (.nd (((Zh2 n i).map ptD).map OT.fz)),z1,z2]) (Zff (Zb Za Zh) (by omega)) ⟨_,_,rfl⟩ (λi d δ hd h=>?_) λδ' h=>?_
 ·obtain⟨z1,z2,rfl⟩:=h
  obtain⟨hi,rfl⟩:=W6 hd
  rw[JS]
  have ln:=Zhs n i
  have l2:i*n≤999*1000:=Nat.mul_le_mul (by omega) hn
  refine Zpc (ds:=Zch ((i+1:Nat):Int) (n-(i+1))) (λj δ=>∃z,δ=[some (.fz (.int n)),some (.nd (((Zh2 n i ++ (Xz j).map λj=>(i,i+1+j)).map ptD).map OT.fz)),some (.fz (.int i)),z]) rfl (Z04 (m:=i+1) (Zb (EvV.cast (Z7 Za Zw) rfl) (Zb Za Zh)) (by omega) (by omega)) ⟨z2,by rw[List.range_zero,Vj,Qw];rfl⟩ (λj d δ hd h=>?_) λδ' h=>?_
  ·obtain⟨z,rfl⟩:=h
   obtain⟨hj,rfl⟩:=W6 hd
   refine⟨_,_,rfl,.inl (Ztm (Zcd (Zb Za (Zb Za Zh)) (show 2≤1000 by decide)) rfl (by rw[Xi,Xi,XX,Xi,Qk];omega)),some (.fz (.int (((i+1:Nat):Int)+j))),?_⟩
   rw[List.range_succ]
   simp only[QF,Q8]
   rfl
  ·obtain⟨z,rfl⟩:=h
   rw[Wo,←Zin]
   exact⟨_,_,rfl⟩
 ·obtain⟨z1,z2,rfl⟩:=h
  rw[Wo]
  exact Z8c rfl (by rw[OT.data_nd,OT.map_fz];rfl)
end My
namespace My
open PySem L2 PySem.Spec
noncomputable def Za2:FS :=
 (Zy (Jp (tV (Zf gLt (Ze 1) (Zbg Za1 (Zc (Ze 0) Zn))))
  (wE (Yn gIx (Ze 0) (Ze 1)) Zai)
  fNx)
  (wE (fC (.int 0)) Zai))
noncomputable def Ym:FD:=Jy 2 2 Za2
noncomputable def Zdc:FS :=
 (Zy (Jp (tV (Zf gEq (Zf Jl (Zf Y4 (Ze 0) (fC (.int 7))) (fC (.int 8))) (fC (.int 3))))
  (wE (Zf Js (Zf Js (Ze 2) (fC (.int 1))) (Zf Jl (Zf Y4 (Ze 0) (fC (.int 56))) (Zf gSb (Ze 3) (Ze 2)))) Zai)
  fNx)
  (wE (Zf Js (Ze 1) (Zf Jl (Ze 0) (Zf gSb (Zf Js (Ze 2) (fC (.int 1))) (Ze 1)))) Zai))
noncomputable def Jh:FD:=Jy 4 4 Zdc
noncomputable def Zcw:FS :=
 (Zy (wE (Zf Jl (Zf Zhv (Zf Js (Zf Js (Zf Jl (Ze 0) (fC (.int 2147483629))) (Zf Zhv (fC (.int 9973)) (Ze 1))) (fC (.int 5))) (fC (.int 48271))) (fC (.int 2147483647))) (Yu 2))
  (Zy (wE (Zf Jl (Zf Zhv (Ze 2) (Ze 2)) (fC (.int 2147483587))) (Yu 2))
  (wE (Zf Y4 (Zf Jl (Zf Zhv (Zf Js (Ze 2) (Zf Zhv (fC (.int 7919)) (Ze 1))) (fC (.int 16807))) (fC (.int 2147483563))) (fC (.int 8))) Zai)))
noncomputable def Yl:FD:=Jy 2 3 Zcw
noncomputable def Za3:FS :=
 (Zy (wE (Zbm Zn) (Jo 2))
  (Zy (wE (Ze 0) (Yu 3))
  (Zy (Zcc (iRa (Zc (Ze 1) Zn)) (gNm 4)
  (Zy (wE (Zx Yl (Zc (Ze 0) (Zc (Ze 4) Zn))) (Yu 5))
  (Zy (Jp (tV (Zf gGe (Ze 0) (Zf Zrr (fC (.int 10)) (fC (.int 18)))))
  (wE (Zf Jl (Ze 3) (fC (.int 720720))) (Yu 5))
  fNx)
  (Zy (wE (Zf Y4 (Ze 3) (fC (.int 720720))) (Yu 3))
  (Wq 2 (Ze 5))))))
  (Zeu 2))))
noncomputable def Wl:FD:=Jy 2 6 Za3
noncomputable def Zj(p:List Int):Xa:=.list (p.map Xj)
theorem Zoe{p:List Int}{i:Int}(h0:0≤i)(h1:i<p.length):atI (p.map Xj) i=some (.int (p.getD i.toNat 0)):=by
 rw[Zle h0,Xy,Xh (by omega)]
 simp[Xd,Xh (show i.toNat<p.length by omega)]
theorem Wy{a b:FE}{δ:Zg}{p:List Int}{i:Int}(ha:EvV a δ (Zj p))(hb:EvV b δ (.int i))(h0:0≤i)(h1:i<p.length):EvV (Yn gIx a b) δ (.int (p.getD i.toNat 0)):=Zsz ha hb (Zoe h0 h1)
theorem Yw{a:FE}{δ:Zg}{p:List Int}(ha:EvV a δ (Zj p)):EvV (Zbg Za1 (Zc a Zn)) δ (.int p.length):=by
 have:=Zr5 (ds:=p.map Xj) ha
 rwa[Xi]at this
theorem Yao:Zrr (.int 10) (.int 18)=some (.int 1000000000000000000):=rfl
theorem Zdh(ns:List Int){k:Int}(h0:0≤k):∃c,Ym [Zj ns,.int k]= .ok (.fz (.int c)):=by
 by_cases c:k<ns.length
 ·exact⟨_,Told.int<|Z6 rfl<|Zb0 (Zec (Zbu (Zee Za (Yw Za) (decide_eq_true c))) (Yv (Wy Za Za h0 c)))⟩
 ·exact⟨_,Told.int<|Z6 rfl<|Zt (Z5 (Zbu (Zee Za (Yw Za) (decide_eq_false c))) rfl) (Yv Zw)⟩
theorem Zz0(c:Int){a b d:Int}(h1:a≤b)(h2:b<d):∃n:Int,Jh [.int c,.int a,.int b,.int d]= .ok (.fz (.int n))∧a≤n∧n≤d:=by
 by_cases k:(c.fdiv 7).fmod 8=3
 ·have q0:=J3 (i:=c.fdiv 56) (j:=d-b) (by omega)
  have q1:=Zas (i:=c.fdiv 56) (j:=d-b) (by omega)
  exact⟨_,Told.int<|Z6 rfl<|Zb0 (Zec (Zbu (Zhy (Yz (Jz Za Zw) Zw (by decide)) Zw (decide_eq_true k)))
   (Yv (Z7 (Z7 Za Zw) (Yz (Jz Za Zw) (Zb6 Za Za) (by omega))))),by omega,by omega⟩
 ·have q0:=J3 (i:=c) (j:=b+1-a) (by omega)
  have q1:=Zas (i:=c) (j:=b+1-a) (by omega)
  exact⟨_,Told.int<|Z6 rfl<|Zt (Z5 (Zbu (Zhy (Yz (Jz Za Zw) Zw (by decide)) Zw (decide_eq_false k))) rfl)
   (Yv (Z7 Za (Yz Za (Zb6 (Z7 Za Zw) Za) (by omega)))),by omega,by omega⟩
theorem Zmr(c k:Int):∃v,Told Yl [.int c,.int k] (.int v):=by
 have n0:=J3 (i:=(c.fmod 2147483629+9973*k+5)*48271) (j:=2147483647) (by decide)
 have n1:=Zas (i:=(c.fmod 2147483629+9973*k+5)*48271) (j:=2147483647) (by decide)
 exact⟨_,Z6 rfl<|Zt (Zq (Yz (Zjt (Z7 (Z7 (Yz Za Zw (by decide)) (Zbr Zw Za)) Zw) Zw) Zw (by decide)))<|
  Zt (Zq (Yz (Zbr Za Za (by omega)) Zw (by decide)))<|
  Yv (Jz (Yz (Zjt (Z7 Za (Zbr Zw Za)) Zw) Zw (by decide)) Zw)⟩
theorem Zj8{i:Nat}{e:FE}{δ:Zg}{vs:List Int}{v:Int}(h:EvV e δ (.int v))(hi:δ[i]? =some (some (.nd (vs.map λv=>.fz (.int v)))))(hl:vs.length≤1000000):Wq i e δ= .nx (δ.set i (some (.nd ((vs ++ [v]).map λv=>.fz (.int v))))):=by
 rw[Ztm h hi (by rw[Xi];exact hl),QF];rfl
theorem Zuh{i:Nat}{e:FE}{δ δ':Zg}{vs:List Int}{ts:List OT}{v:Int}(h:e δ=some (.fz (.int v),δ'))(h0:δ[i]? =some (some (.nd ts)))(h1:δ'[i]? =some (some (.nd (vs.map λv=>.fz (.int v)))))(hl:vs.length≤1000000):Wq i e δ= .nx (δ'.set i (some (.nd ((vs ++ [v]).map λv=>.fz (.int v))))):=by
 rw[Zzo h h0 h1 (by rw[Xi];exact hl),QF,OT.data_fz];rfl
theorem Zfv(p:List Int):(OT.nd ((p.map Xj).map OT.fz)).data=Zj p:=by
 rw[OT.data_nd,OT.map_fz];rfl
theorem Zel(vs:List Int):(OT.nd (vs.map λv=>OT.fz (.int v))).data=Zj vs:=by rw[OT.data_nd,Zpm];rfl
theorem Zpi(c:Int)(m:Nat)(hm:m≤1000):∃vs:List Int,Told Wl [.int c,.int m] (Zj vs)∧vs.length=m:=by
 have key:∃d,Told Wl [.int c,.int m] d∧∃vs,d=Zj vs∧vs.length=m :=
  Znv rfl<|Zay Ziz<|Zay (Zq Za)<|Zgy (ds:=Zch 0 m) (λi δ=>∃(vs:List Int) (x:Int) (z1 z2:Option OT),δ=[some (.fz (.int c)),some (.fz (.int m)),some (.nd (vs.map λv=>.fz (.int v))),some (.fz (.int x)),z1,z2]∧vs.length=i)
   (Zff (Zb Za Zh) (by omega)) ⟨[],c,none,none,rfl,rfl⟩ (λi d δ hd q91=>by
    obtain⟨vs,x,z1,z2,e,hl⟩:=q91
    subst e
    obtain⟨hi,rfl⟩:=W6 hd
    obtain⟨v,ev⟩:=Zmr c (0+(i:Int))
    by_cases q:1000000000000000000≤c
    ·exact⟨_,_,rfl,.inl (Yg (Zq (Zo (Zb Za (Zb Za Zh)) ev))<|Yg (W8 (Zbu (Z4o Za (Z0 Zw Zw Yao) (decide_eq_true q))) (Zq (Yz Za Zw (by decide))))<|
      Yg (Zq (Jz Za Zw)) (Zj8 (vs:=vs) Za rfl (by omega))),_,_,_,_,rfl,by rw[XX,hl];rfl⟩
    ·exact⟨_,_,rfl,.inl (Yg (Zq (Zo (Zb Za (Zb Za Zh)) ev))<|Yg (Z5 (Zbu (Z4o Za (Z0 Zw Zw Yao) (decide_eq_false q))) rfl)<|
      Yg (Zq (Jz Za Zw)) (Zj8 (vs:=vs) Za rfl (by omega))),_,_,_,_,rfl,by rw[XX,hl];rfl⟩)
   λδ' q92=>by
    obtain⟨vs,x,z1,z2,e,hl⟩:=q92
    subst e
    rw[Wo]at hl
    exact Z6k rfl ⟨vs,Zel vs,hl⟩
 obtain⟨d,h,vs,rfl,hl⟩:=key
 exact⟨vs,h,hl⟩
end My
namespace L2
open PySem PySem.Spec PyProof.Rows
variable {G:Xb}
section
variable {P:X6}{w:Qu}{A:Qo}{E:Xe->Xf->Prop}{s:Xf}
structure Ap(z TI TO i1 i2:Addr):Prop where
 a1:TI≠z
 a2:TO≠z
 a3:i1≠z
 a4:i2≠z
 a5:i1≠TO
 a6:i2≠TO
 a7:i1≠i2
 a8:TI≠TO
 a9:TI≠i1
 a10:TI≠i2
noncomputable abbrev yT1(h:Heap)(x:Str)(t:Tok):Heap:=h.push { cls:=.type (strIterType x),data:=.fields #[.str x t,.int 0 0] }
noncomputable abbrev yT2(h:Heap)(x y:Str)(t u:Tok):Heap:=yT1 (yT1 h x t) y u
noncomputable abbrev yT3(h:Heap)(x y:Str)(t u:Tok):Heap:=(yT2 h x y t u).push { cls:=.type "tuple",data:=.seq #[.ref h.objs.size,.ref (yT1 h x t).objs.size] }
noncomputable abbrev yT4(h:Heap)(x y:Str)(t u:Tok):Heap:=(yT3 h x y t u).push { cls:=.type "tuple",data:=.seq #[.none,.none] }
noncomputable abbrev yT5(h:Heap)(x y:Str)(t u:Tok):Heap:=(yT4 h x y t u).push { cls:=.type "zip",data:=.fields #[.none,.bool false,.bool false,.ref (yT2 h x y t u).objs.size,.ref (yT3 h x y t u).objs.size] }
end
section
variable {X:Cx}{io:List Nat}{p c:Bool}{a b:Expr}{mr:MAt}{ra:FA}
end
end L2
namespace L2
open PySem PySem.Spec PyProof.Rows PySem.W
structure Tot(lt:Nat->Nat->Bool)(n:Nat):Prop where
 tr:∀i j k,i<n->j<n->k<n->lt i j=true->lt j k=true->lt i k=true
 tot:∀i j,i<n->j<n->i≠j->lt i j=false->lt j i=true
 asy:∀i j,i<n->j<n->lt i j=true->lt j i=false
section
variable {lt:Nat->Nat->Bool}{n:Nat}
noncomputable abbrev gD(p:Array Nat)(i:Nat):Nat:=p.getD i 0
variable (T:Tot lt n)
include T
end
end L2
namespace L2
open PySem PySem.Spec PyProof.Rows
variable {G:Xb}
theorem Owns.deepT{H:Hp}{L:Addr->Prop}{b' q:Addr}{ws ws' zs:List V}{us us' rs:List OT}{c:Nat}(hb:H b'=Qh (HO.lst ws))(hL:¬L b')(hc:∀cs,Owns G H L ws us cs->∃cs',Owns G H L ws' us' cs'∧cs'.Sublist cs)(hq:H q=Qh (HO.tup zs))(hz:zs[c]? =Qh (.ref b'))(hr:rs[c]? =Qh (.nd us)) :
  ∀{xs:List V} {ts:List OT} {as:List Addr} {j:Nat},Owns G H L xs ts as->as.Nodup->xs[j]? =Qh (.ref q)->ts[j]? =Qh (.tp rs)->∃as',Owns G (upd H b' (.lst ws')) L xs (ts.set j (.tp (rs.set c (.nd us')))) as'∧as'.Sublist as∧b'∈as
 | _,_,_,_,.nil,_,e,_=>by simp at e
 | _,_,_,0,.cons (as:=as) (bs:=bs) k t,nd,e,e'=>by
  simp at e e'
  subst e e'
  have nd':=JQ.mp nd
  have kp:∀a o,a≠b'->H a=Qh o->upd H b' (.lst ws') a=Qh o:=λa o n q=>by rw[Zr n];exact q
  have f1:∀a (zs:MuO),L a->Rd H a zs.ho->L a∧Rd (upd H b' (.lst ws')) a zs.ho:=λa zs l q=>⟨l,by
   have na:a≠b':=λz=>hL (z▸l)
   rcases q with q|⟨u,q⟩
   ·exact .inl (kp a _ na q)
   ·exact .inr ⟨u,kp a _ na q⟩⟩
  have f2:∀a (zs:ImO),H a=Qh zs.ho->upd H b' (.lst ws') a=Qh zs.ho:=λa zs q=>kp a _ (λz=>ImO.nl q (z▸hb)) q
  cases k with
  | tp h r=>
   rename_i xs0
   rw[hq]at h
   cases h
   obtain⟨cs',o',s',m'⟩:=Owns.deep hb hL hc r nd'.1 hz hr
   have nq:q≠b':=λz=>by rw[z,hb]at hq;cases hq
   exact⟨cs' ++ bs,.cons (.tp (by rw[Zr nq];exact hq) o') (t.frame f1 f2 λa m zs q=>kp a _ (λz=>nd'.2.2 b' m' a m z.symm) q),VM s' bs,Bg _ m'⟩
 | _,_,_,j+1,.cons (as:=as) (bs:=bs) k t,nd,e,e'=>by
  have nd':=JQ.mp nd
  obtain⟨as',o,s,m⟩:=Owns.deepT hb hL hc hq hz hr (j:=j) t nd'.2.1 (by simpa using e) (by simpa using e')
  have nb:b'∉as:=λz=>nd'.2.2 b' z b' m rfl
  refine⟨as ++ as',.cons ?_ o,Vf s as,XQ _ m⟩
  have kp:∀a o,a≠b'->H a=Qh o->upd H b' (.lst ws') a=Qh o:=λa o n q=>by rw[Zr n];exact q
  refine k.frame (λa zs l q=>⟨l,?_⟩) (λa zs q=>kp a _ (λz=>ImO.nl q (z▸hb)) q) λa m' zs q=>kp a _ (λz=>nb (z▸m')) q
  have na:a≠b':=λz=>hL (z▸l)
  rcases q with q|⟨u,q⟩
  ·exact .inl (kp a _ na q)
  ·exact .inr ⟨u,kp a _ na q⟩
noncomputable def Zsy(c:Nat)(d:Xa):OT->OT
 | .tp rs=>.tp (match rs[c]? with|some (.nd us)=>rs.set c (.nd (us ++ [.fz d]))|_=>rs)
 | t=>t
noncomputable def Zuq(c:Nat)(d:Xa)(k:Nat)(ts:List OT):List OT:=(ts.take k).map (Zsy c d) ++ ts.drop k
theorem Zso(c:Nat)(d:Xa)(ts:List OT):Zuq c d 0 ts=ts:=by simp[Zuq]
theorem Zvd(c:Nat)(d:Xa)(ts:List OT):Zuq c d ts.length ts=ts.map (Zsy c d):=by simp[Zuq]
theorem Zwy{c:Nat}{d:Xa}{k:Nat}{ts:List OT}{t:OT}(h:ts[k]? =some t):(Zuq c d k ts)[k]? =some t:=by
 obtain⟨hk,e⟩:=Xn.mp h
 unfold Zuq
 rw[Q3 (by simp;omega)]
 simp[Nat.min_eq_left (Vz hk),h]
theorem Zvr{c:Nat}{d:Xa}{k:Nat}{ts:List OT}{t:OT}(h:ts[k]? =some t):(Zuq c d k ts).set k (Zsy c d t)=Zuq c d (k+1) ts:=by
 obtain⟨hk,e⟩:=Xn.mp h
 unfold Zuq
 have hl:((ts.take k).map (Zsy c d)).length=k:=by simp[Nat.min_eq_left (Vz hk)]
 rw[List.set_append_right _ _ (by omega),hl,Nat.sub_self,Bv hk,e,List.set_cons_zero,List.take_succ_eq_append_getElem hk,e,QF,Q8]
 rfl
section
variable {X:Cx}{io:List Nat}{e:Expr}{pos apos cpos px pt pl p2 kp sp:Pos}{i j:Nat}{x y:Str}
end
section
variable {X:Cx}{io:List Nat}{st:Stmt}{i j c:Nat}{d:Xa}
end
variable {G:Xb}
theorem Owns.split{H:Hp}{L:Addr->Prop}:∀{xs:List V} {ts:List OT} {as:List Addr},Owns G H L xs ts as->∃ass:List (List Addr),ass.length=xs.length∧ass.flatten=as∧∀(k:Nat) (x:V) (t:OT) (b:List Addr),xs[k]? =Qh x->ts[k]? =Qh t->ass[k]? =Qh b->Own G H L x t b
 | _,_,_,.nil=>⟨[],rfl,rfl,λk x t b e=>by simp at e⟩
 | _,_,_,.cons (as:=as) (bs:=bs) h r=>by
  obtain⟨ass,e1,e2,h2⟩:=Owns.split r
  refine⟨as :: ass,by rw[Bb,Bb,e1],by rw[Ve,e2],λk x t b q1 q2 q3=>?_⟩
  cases k with
  | zero=>
   simp at q1 q2 q3
   subst q1 q2 q3
   exact h
  | succ k=>exact h2 k x t b (by simpa using q1) (by simpa using q2) (by simpa using q3)
theorem Owns.pick{H:Hp}{L:Addr->Prop}{xs:List V}{ts:List OT}{ass:List (List Addr)}(d:OT)(hl:xs.length=ts.length)(ha:ass.length=xs.length)(h:∀(k:Nat) (x:V) (t:OT) (b:List Addr),xs[k]? =Qh x->ts[k]? =Qh t->ass[k]? =Qh b->Own G H L x t b) :
  ∀p:List Nat,(∀k∈p,k<xs.length)->Owns G H L (p.map λk=>xs.getD k .non) (p.map λk=>ts.getD k d) (p.flatMap λk=>ass.getD k [])
 | [],_=>.nil
 | k :: p,hp=>by
  have hk:=hp k (.head _)
  rw[XF,XF,List.flatMap_cons]
  refine .cons ?_ (Owns.pick d hl ha h p λk m=>hp k (.tail _ m))
  refine h k _ _ _ ?_ ?_ ?_
  ·rw[Xd,Xh hk];rfl
  ·rw[Xd,Xh (hl▸hk)];rfl
  ·rw[Xd,Xh (ha▸hk)];rfl
theorem Zjw(ass:List (List Addr)):((Xz ass.length).flatMap λk=>ass.getD k [])=ass.flatten:=by
 rw[List.flatMap_def]
 refine congrArg List.flatten (Us λk=>?_)
 rw[Xy]
 by_cases h:k<ass.length
 ·rw[Bk h,Option.map_some,Xd,Xh h];rfl
 ·rw[Q0 (by rw[Qk];omega),Q0 (by omega)];rfl
theorem Owns.sLay{H:Hp}{L:Addr->Prop}{lt:Nat->Nat->Bool}{xs:List V}{ts:List OT}{as:List Addr}(d:OT)(h:Owns G H L xs ts as):∃as',Owns G H L (L2.sLay .non lt xs) (L2.sLay d lt ts) as'∧as'.Perm as:=by
 unfold L2.sLay
 rw[h.length]
 split
 ·exact⟨as,h,.refl _⟩
 ·rename_i h2
  obtain⟨ass,e1,e2,h3⟩:=h.split
  have pm:=Zey (lt:=lt) (n:=ts.length) (by omega)
  refine⟨_,Owns.pick d h.length e1 h3 (Z0h lt ts.length) λk m=>?_,?_⟩
  ·have:=Qt.mp (pm.mem_iff.mp m)
   rw[h.length];exact this
  ·rw[←e2,←Zjw,e1,h.length]
   exact pm.flatMap_right _
section
variable {X:Cx}{io:List Nat}{pos pp cpos px:Pos}{i:Nat}{x:Str}{α:Type}{kd:Xa->Option α}{lt:α->α->Bool}
end
section
variable {X:Cx}{io:List Nat}{st:Stmt}{i:Nat}{α:Type}{kd:Xa->Option α}{lt:α->α->Bool}
end
variable {G:Xb}
theorem Ztq{H:Hp}{L:Addr->Prop}{t:OT}{ts:List OT}:∀{xs:List V} {as:List Addr} {c:Nat},Owns G H L xs ts as->as.Nodup->ts[c]? =some t->∃x cs,xs[c]? =some x∧Own G H L x t cs∧cs.Sublist as∧
  ∀t' cs' H',Own G H' L x t' cs'->cs'.Sublist cs->(∀a o,H a=some o->a∉cs->H' a=some o)->(∀a∈cs,¬L a)->∃as',Owns G H' L xs (ts.set c t') as'∧as'.Sublist as:=by
 induction ts with
 | nil=>intro xs as c _ _ e;simp at e
 | cons u ts ih=>
  intro xs as c h nd e
  cases h with
  | cons k r=>
   rename_i y ys as1 bs1
   have nd':=JQ.mp nd
   have fr:∀{cs:List Addr} {H':Hp},(∀a∈cs,∃xs:MuO,H a=some xs.ho)->(∀a o,H a=some o->a∉cs->H' a=some o)->(∀a∈cs,¬L a)->(∀a (zs:MuO),L a->Rd H a zs.ho->L a∧Rd H' a zs.ho)∧∀a (zs:ImO),H a=some zs.ho->H' a=some zs.ho:=λhm kp hL=>⟨λa zs l q=>⟨l,by
    rcases q with q|⟨u,q⟩
    ·exact .inl (kp a _ q λm=>hL a m l)
    ·exact .inr ⟨u,kp a _ q λm=>hL a m l⟩⟩,λa zs q=>kp a _ q λm=>by
    obtain⟨ys,e⟩:=hm a m
    exact ImO.nm q e⟩
   cases c with
   | zero=>
    simp at e
    subst e
    refine⟨y,as1,rfl,k,List.sublist_append_left _ _,λt' cs' H' o s kp hL=>?_⟩
    obtain⟨f1,f2⟩:=fr k.some kp hL
    exact⟨cs' ++ bs1,.cons o (r.frame f1 f2 λa m zs q=>kp a _ q λz=>nd'.2.2 a z a m rfl),VM s _⟩
   | succ c=>
    obtain⟨x,cs,e1,o1,s1,h1⟩:=ih (c:=c) r nd'.2.1 (by simpa using e)
    refine⟨x,cs,by simpa using e1,o1,s1.trans (List.sublist_append_right _ _),λt' cs' H' o s kp hL=>?_⟩
    obtain⟨f1,f2⟩:=fr o1.some kp hL
    obtain⟨as',o2,s2⟩:=h1 t' cs' H' o s kp hL
    exact⟨as1 ++ as',.cons (k.frame f1 f2 λa m zs q=>kp a _ q λz=>nd'.2.2 a m a (s1.subset z) rfl) o2,Vf s2 _⟩
noncomputable def Z1z:OT->Bool
 | .tp [.nd us,_]=>decide (us.length<Xo)
 | _=>false
theorem Zv7{t:OT}(h:Z1z t=true):∃us u,t= .tp [.nd us,u]∧us.length<Xo:=by
 unfold Z1z at h
 split at h
 ·exact⟨_,_,rfl,of_decide_eq_true h⟩
 ·cases h
noncomputable def Zou(i j k c0:Nat)(d:Xa):MSt:=λD δ=>match δ[i]? with
 | some (some (.tp os))=>match os[c0]? with
  | some (.nd ts)=>(j<δ.length∧k<δ.length∧∀t∈ts,Z1z t=true)∧D.nx (((δ.set i (some (.tp (os.set c0 (.nd (ts.map (Zsy 0 d))))))).set j none).set k none)
  | _=>False
 | _=>False
section
variable {X:Cx}{io:List Nat}{e:Expr}{pos apos cpos px pt pl p2 kp sp pt2 pt1:Pos}{i j k:Nat}{x y z:Str}
theorem Zvx(i j k c0:Nat){kk k3:Nat}{v0:V}{d:Xa}(he:PE X e (tC v0))(hsc:ScD v0 d)(hc:X.calm=true)(nd:X.N.Nodup)(hN:X.N[i]? =some x)(hj:X.N[j]? =some y)(hk:X.N[k]? =some z)(hij:j≠i∧k≠i∧j≠k)(hlj:Loc X.env.scope y)(hlk:Loc X.env.scope z)(hio:j∉io∧k∉io:=by decide)
  (hv:Vis X.env.scope x:=by first|exact Qj rfl|exact X8 (Qj rfl)|exact X8 (X8 rfl)) (hvy:Vis X.env.scope y:=by first|exact Qj rfl|exact X8 (Qj rfl)|exact X8 (X8 rfl))
  (hd:(x==("__debug__" : Str))=false:=by decide) (hcd:(x==("__classdict__" : Str))=false:=by decide) (hdy:(y==("__debug__" : Str))=false:=by decide) (hcdy:(y==("__classdict__" : Str))=false:=by decide)
  (hxe:X.xe= λ_ _=>False:=by rfl)
  (hbase:Br (.Name y px) "append" X.env (eval (.Name y px) X.env)=eval (.Name y px) X.env:=by rfl)
  (hfew:((QW cpos (Xk [e] X.env)).all (λx=>!x.1)&&(V7 cpos (Vb [] X.env)).all (λx=>x.1.isSome)
   &&decide ([e].length+([]:List Bp).length+(if([]:List Bp).isEmpty then 0 else 1)<30))=true:=by rfl)
  (hline:(apos.endLine==cpos.line)=true:=by rfl) (hs:Xk [e] X.env=(false,eval e X.env) :: Xk [] X.env:=by rfl) (hplain:(QW cpos (Xk [] X.env)).any (·.1)=false:=by rfl)
  (hsw:Bs (.Call (.Attribute (.Name y px) "append" apos) [e] [] cpos) none p2.line X.env=pure false:=by rfl) (hfs:∀z,JV (.Subscript (.Name x pl) (.Constant (.int c0) kk kp) sp) X.env z=pure z:=by intro _;rfl)
  (hf:X.fn y=true∨X.env.scope.names.lookup y=some .local:=by first|exact .inl rfl|exact .inr rfl|assumption) (hf2:X.fn z=true∨X.env.scope.names.lookup z=some .local:=by first|exact .inl rfl|exact .inr rfl|assumption)
  (hn:(QH [.Name y pt1,.Name z pt2] X.env).length=2:=by rfl) (hst:(QH [.Name y pt1,.Name z pt2] X.env).findIdx? (·.1)=none:=by rfl)
  (ha1:(QH (.Name y pt1 :: [.Name z pt2]) X.env).map (·.2)=Vy (.Name y pt1) X.env :: (QH [.Name z pt2] X.env).map (·.2):=by rfl) (ha2:(QH (.Name z pt2 :: []) X.env).map (·.2)=Vy (.Name z pt2) X.env :: (QH [] X.env).map (·.2):=by rfl) :
  MS X io (.For (.Tuple [.Name y pt1,.Name z pt2] k3 pt) (.Subscript (.Name x pl) (.Constant (.int c0) kk kp) sp) [.Expr (.Call (.Attribute (.Name y px) "append" apos) [e] [] cpos) p2] [] pos) (Zou i j k c0 d):=by
 refine⟨_,Zxt (by rw[hxe];exact Qi) hc (Zq2 (Zv4 (Zmz rfl) (pv i hN hv hd hcd) Zoj (λ_ _=>rfl))) (Zyb hc (Zjm (Zj6 (i:=j) nd hj hlj (hf:=hf)) (Zjm (Zj6 (i:=k) nd hk hlk (hf:=hf2)) Zqp ha2) ha1) hn hst) (Zri (Zfn (Zm7 JD Vm Vl Zc1 (pv j hj hvy hdy hcdy) (Ye he J8 hs) hbase hfew hline hs hplain) hsw)) hfs,λC H σ δ fp ex D D' R h E=>?_⟩
 unfold Zou at h
 split at h
 case h_2=>exact h.elim
 rename_i os hi
 split at h
 case h_2=>exact h.elim
 rename_i ts ho
 obtain⟨w0,hv0,ow0⟩:=R.own i _ hi
 have ndf:=R.nd i
 have notL:∀a∈fp i,¬Lf C fp ex a:=λa m l=>l.1 ⟨i,m⟩
 generalize hfi:fp i=asf at ow0 ndf notL
 cases ow0 with
 | tp hx0 o0=>
  rename_i a0 xs0
  obtain⟨x1,cs,hx1,o1,scs,back⟩:=Ztq o0 ndf ho
  cases o1 with
  | nd hx ow=>
   rename_i a' xs bs
   have hnd:=Qd.mp (ndf.sublist scs)
   refine⟨_,hv0,.inr (.inl ⟨a0,xs0,c0,V.ref a',rfl,rfl,.inl (.inl hx0),?_,?_⟩)⟩
   ·unfold atI ixN
    have hc:c0<xs0.length:=(Xn.mp hx1).1
    rw[if_pos (by omega),if_pos (by omega)]
    simpa using hx1
   refine⟨a',rfl,⟨xs,.inl (.inl hx)⟩,?_⟩
   have inF:∀a∈a' :: bs,a∈asf:=λa m=>scs.subset m
   refine Zvc (xs:=xs) (λn σ' H'=>σ'.length=σ.length∧(∀q,q≠j->q≠k->σ'[q]? =σ[q]?)∧H' a'=some (.lst xs)∧(∃bs',Owns X.K H' (Lf C fp ex) xs (Zuq 0 d n ts) bs'∧bs'.Sublist bs)∧(∀b o,H b=some o->b∉a' :: bs->H' b=some o)∧∀b,H' b=none->H b=none)
    ⟨rfl,λ_ _ _=>rfl,hx,⟨bs,by rw[Zso];exact ow,Vn _⟩,λ_ _ e _=>e,λ_ e=>e⟩ ?_ ?_ ?_
   ·rintro n σ' H' _ ⟨_,_,e,_⟩
    exact .inl (.inl e)
   ·rintro n xk σ' H' hk' ⟨hl,hσ,hx',⟨bs',ow',hsb⟩,keep,al⟩
    have hkl:n<ts.length:=by rw[←ow.length];exact(Xn.mp hk').1
    obtain⟨t,ht⟩:∃t,ts[n]? =some t:=⟨_,Xh hkl⟩
    obtain⟨us,u2,rfl,hus⟩:=Zv7 (h.1.2.2 t (QV ht))
    have hget:=Zwy (c:=0) (d:=d) ht
    obtain⟨xr,cr,hxr,orow,hsub⟩:=ow'.get hget
    rw[hk']at hxr
    cases hxr
    have ndb:bs'.Nodup:=hnd.2.sublist hsb
    cases orow with
    | tp hq r3=>
     rename_i q zs
     obtain⟨xc,cc,hxc,oc,hsub2⟩:=r3.get (j:=0) rfl
     have lz:=r3.length
     cases oc with
     | nd hb r4=>
      rename_i b' ws bs4
      have hbm:b'∈bs':=hsub.subset (hsub2.subset (.head _))
      have hbf:b'∈asf:=inF b' (.tail _ (hsb.subset hbm))
      have hLb:¬Lf C fp ex b':=notL b' hbf
      have jl:j<σ'.length:=by rw[hl,R.len];exact h.1.1
      match zs,lz,hxc,hq with
      | [w1,w2],_,hxc,hq=>
       have ew:w1= .ref b':=by simpa using hxc
       subst ew
       refine⟨q,[.ref b',w2],rfl,.inl (.inl hq),rfl,.ref b',[w2],rfl,w2,[],rfl,rfl,?_⟩
       show∃v,((σ'.set j (some (.ref b'))).set k (some w2))[j]? =some (some v)∧_
       refine⟨_,by rw[Xv (Q4 hij.2.2)];exact X7 jl,?_⟩
       refine⟨.inl ⟨rfl,ws,.inl (.inl hb)⟩,b',ws,v0,rfl,rfl,hb,by rw[r4.length];exact hus,?_⟩
       have hba:a'≠b':=λz=>hnd.1 (hsb.subset (z▸hbm))
       obtain⟨as',oo,ss,_⟩:=Owns.deepT (ws':=ws ++ [v0]) (us':=us ++ [.fz d]) (c:=0) (rs:=[.nd us,u2]) hb hLb (λcs hcs=>⟨cs ++ [],hcs.snoc (.fz hsc.da),by rw[Qw];exact Vn _⟩) hq rfl rfl ow' ndb hk' hget
       refine⟨by rw[Qv,Qv];exact hl,λq hq hq2=>by rw[Xv (Q4 hq2),Xv (Q4 hq)];exact hσ q hq hq2,by rw[Zr hba];exact hx',⟨as',?_,ss.trans hsb⟩,λb o eb nb=>?_,λb eb=>?_⟩
       ·rw[←Zvr (c:=0) (d:=d) ht]
        exact oo
       ·have nz:b≠b':=λz=>nb (by rw[z];exact .tail _ (hsb.subset hbm))
        rw[Zr nz];exact keep b o eb nb
       ·refine al b ?_
        by_cases q:b=b'
        ·subst q;rw[Zv]at eb;cases eb
        ·rwa[Zr q]at eb
   ·rintro σ' H' ⟨hl,hσ,hx',⟨bs',ow',hsb⟩,keep,al⟩
    rw[ow.length,Zvd]at ow'
    obtain⟨as2,o2,s2⟩:=back (.nd (ts.map (Zsy 0 d))) (a' :: bs') H' (.nd hx' ow') (List.Sublist.cons₂ _ hsb) keep λa m=>notL a (inF a m)
    have sub:∀a,a∈as2->a∈fp i:=λa m=>by rw[hfi];exact s2.subset m
    have hx0':H' a0=some (.tup xs0):=keep a0 _ hx0 λm=>by
     rcases Xl.mp m with m|m
     ·rw[m,hx]at hx0;cases hx0
     ·obtain⟨ys,e⟩:=ow.some a0 m
      rw[hx0]at e
      exact ImO.nm (x:=.tup xs0) (y:=ys) (H:=H) (a:=a0) hx0 (by rw[hx0];exact e)
    have lw:∀a,Lf C fp ex a->H' a≠none->Lf C (fpu fp i as2) (exu ex []) a:=λa l _=>⟨λz=>by
     rcases z.of_u with z|⟨k,_,z⟩
     ·exact l.1 ⟨i,sub a z⟩
     ·exact l.1 ⟨k,z⟩,λz=>l.2.1 (Zbd.mp z),l.2.2⟩
    obtain⟨R4,S4⟩:=R.change (new:=[]) (as':=as2) (t':=.tp (os.set c0 (.nd (ts.map (Zsy 0 d))))) (H':=H') hi hv0 (λb o eb nb=>keep b o eb λm=>nb (by rw[hfi];exact inF b m)) al (.tp hx0' (o2.wide lw)) (ndf.sublist s2) (λa m=>.inl (sub a m)) (λa m=>nomatch m)
    have R5:=R4.drop (ex':=ex) λa z=>.inl z
    obtain⟨fp6,R6,K6⟩:=R5.forget2 (σ':=σ.set j ((σ'[j]?).getD none)) hio.1 (by rw[Qv]) (λq hq=>by rw[Xv (Q4 hq)])
    obtain⟨fp7,R7,K7⟩:=R6.forget2 (σ':=σ') hio.2 (by rw[Qv];exact hl) (λq hq=>by
     by_cases ej:q=j
     ·subst ej
      have jl:q<σ.length:=by rw[R.len];exact h.1.1
      rw[X7 jl,Xh (hl▸jl)];rfl
     ·rw[Xv (Q4 ej)];exact hσ q ej hq)
    exact E.nx _ σ' _ fp7 R7 ((S4.kp.trans K6).trans K7) h.2
end
noncomputable def Zo7(i j k c0:Nat)(d:Xa):FS:=λδ=>match δ[i]? with
 | some (some (.tp os))=>match os[c0]? with
  | some (.nd ts)=>if j<δ.length∧k<δ.length∧ts.all Z1z=true then .nx (((δ.set i (some (.tp (os.set c0 (.nd (ts.map (Zsy 0 d))))))).set j none).set k none)else .bad
  | _=>.bad
 | _=>.bad
section
variable {X:Cx}{io:List Nat}{st:Stmt}{i j k c0:Nat}{d:Xa}
theorem Zvk(h:MS X io st (Zou i j k c0 d)):MS X io st (oS (Zo7 i j k c0 d)):=h.weak λD δ h=>by
 unfold oS Zo7 at h;unfold Zou
 split at h
 case h_2=>exact h.elim
 rename_i os q;(try rw[q]);(try dsimp only)
 split at h
 case h_2=>exact h.elim
 rename_i ts q2;(try rw[q2])
 obtain⟨hc,h⟩:=Zbq h
 exact⟨⟨hc.1,hc.2.1,λt ht=>Be.mp hc.2.2 t ht⟩,h⟩
end
noncomputable def Zn2{α:Type}(kd:Xa->Option α)(lt:α->α->Bool)(d:Xa)(i:Nat):MSt:=λD δ=>match δ[i]? with
 | some (some (.nd ts))=>ts.length<64∧keyed kd (OT.datas ts)∧D.rt (.tp [.fz d,.nd (sLay (.fz .none) (lk kd lt (OT.datas ts)) ts)]) (δ.set i none)
 | _=>False
section
variable {X:Cx}{io:List Nat}{pos pp cpos px ptt:Pos}{i:Nat}{x:Str}{α:Type}{kd:Xa->Option α}{lt:α->α->Bool}{e:Expr}
theorem Zvv(i:Nat){kk:Nat}{v0:V}{d:Xa}(hc:PE X e (tC v0))(hsc:ScD v0 d)(S:Z68 kd lt)(hu:X.A.units+64<cLine)(hg:Gl X "sorted")(hm:X.mg "sorted"=none)(hvb:Qg "sorted"=some (.builtin "sorted"))(hio:i∉io:=by decide)(hN:X.N[i]? =some x:=by rfl)(hv:Vis X.env.scope x:=by first|exact Qj rfl|exact X8 (Qj rfl)|exact X8 (X8 rfl))(hd:(x==("__debug__" : Str))=false:=by decide)
  (hcd:(x==("__classdict__" : Str))=false:=by decide) (he:Xk [.Name x px] X.env=(false,eval (.Name x px) X.env) :: Xk [] X.env:=by rfl) (hpl:(QW cpos (Xk [] X.env)).any (·.1)=false:=by rfl)
  (hs:Xk [e,.Call (.Name "sorted" pp) [.Name x px] [] cpos] X.env=(false,eval e X.env) :: Xk [.Call (.Name "sorted" pp) [.Name x px] [] cpos] X.env:=by rfl) (hs2:Xk [.Call (.Name "sorted" pp) [.Name x px] [] cpos] X.env=(false,eval (.Call (.Name "sorted" pp) [.Name x px] [] cpos) X.env) :: Xk [] X.env:=by rfl) :
  MS X io (.Return (some (.Tuple [e,.Call (.Name "sorted" pp) [.Name x px] [] cpos] kk ptt)) pos) (Zn2 kd lt d i):=by
 refine⟨_,Ztd (Zox (Ye hc (Ye (Zdj (Ziy S rfl hu) hg hm hvb (Ye (pv i hN hv hd hcd) J8 he) (by decide) (by decide) he hpl) J8 hs2) hs)),λC H σ δ fp ex D D' R h E=>?_⟩
 unfold Zn2 at h
 split at h
 case h_2=>exact h.elim
 rename_i ts hi
 obtain⟨a',xs,bs,hv0,hx,ow,hfp⟩:=R.ownNd hi
 have ndi:=R.nd i
 rw[hfp]at ndi
 have hnd:=Qd.mp ndi
 refine⟨_,hv0,a',xs,λ_=>True,OT.datas ts,rfl,.inl (.inl hx),ow.das (λ_ _ _=>trivial) (λ_ _=>trivial),by rw[ow.length];exact h.1,h.2.1,λl hl=>⟨by show 2≤Xo;rw[X5];decide,λm hm'=>?_⟩⟩
 have s:=Z3 hl (.lst (sLay .non (lk kd lt (OT.datas ts)) xs))
 have s2:=Z3 hm' (.tup [v0,.ref l])
 obtain⟨as',oo,pm⟩:=ow.sLay (lt:=lk kd lt (OT.datas ts)) (.fz .none)
 have sub:∀a∈as',a∈fp i:=λa m=>by rw[hfp];exact .tail _ (pm.mem_iff.mp m)
 have hla:l∉as':=λm=>R.footSome hl ⟨i,sub l m⟩
 have R1:=(R.take hi).made (new:=[l]) s (λa m=>by rw[XH.mp m];exact⟨hl,by rw[Zv];intro z;cases z⟩)
 have lw:∀a,Lf C fp ex a->H a≠none->Lf C (fpu fp i []) (exu ex (l :: as')) a:=λa q ha=>⟨λz=>by
   rcases z.of_u with z|⟨j,_,z⟩
   ·exact nomatch z
   ·exact q.1 ⟨j,z⟩,λz=>by
   rcases z with z|z
   ·exact q.2.1 z
   ·rcases Xl.mp z with z|z
    ·exact ha (by rw[z];exact hl)
    ·exact q.1 ⟨i,sub a z⟩,q.2.2⟩
 have R2:Rel C io (upd H l (.lst (sLay .non (lk kd lt (OT.datas ts)) xs))) σ (δ.set i none) (fpu fp i []) (exu ex (l :: as')):=R1.drop λa z=>by
  rcases z with z|z
  ·exact .inl (.inl z)
  ·rcases Xl.mp z with z|z
   ·exact .inr (XH.mpr z)
   ·exact .inl (.inr (sub a z))
 have hn:∀a∈l :: as',C.H₀ a=none:=λa m=>by
  rcases Xl.mp m with z|z
  ·rw[z];exact R.al l hl
  ·rcases R.new i a (sub a z)with w|w
   ·exact absurd w.1 hio
   ·exact w
 have ol:Own X.K (upd H l (.lst (sLay .non (lk kd lt (OT.datas ts)) xs))) (Lf C (fpu fp i []) (exu ex (l :: as'))) (.ref l) (.nd (sLay (.fz .none) (lk kd lt (OT.datas ts)) ts)) (l :: as'):=.nd Zv ((oo.wide lw).same s)
 have ot:Own X.K (upd (upd H l (.lst (sLay .non (lk kd lt (OT.datas ts)) xs))) m (.tup [v0,.ref l])) (Lf C (fpu fp i []) (exu ex (l :: as'))) (.ref m) (.tp [.fz d,.nd (sLay (.fz .none) (lk kd lt (OT.datas ts)) ts)]) ([] ++ ((l :: as') ++ [])) :=
  .tp Zv (.cons (.fz hsc.da) (.cons (ol.same s2) .nil))
 rw[List.nil_append,Qw]at ot
 exact E.rt _ σ (.ref m) _ (δ.set i none) (fpu fp i []) (l :: as') (R2.mk0 s2) ot (Qd.mpr ⟨hla,pm.nodup_iff.mpr hnd.2⟩) hn h.2.2
end
noncomputable def Zku{α:Type}(kd:Xa->Option α)(lt:α->α->Bool)(d:Xa)(i:Nat):FS:=λδ=>match δ[i]? with
 | some (some (.nd ts))=>if(decide (ts.length<64)&&(OT.datas ts).all λd=>(kd d).isSome)=true then .rt (.tp [.fz d,.nd (sLay (.fz .none) (lk kd lt (OT.datas ts)) ts)]) (δ.set i none)else .bad
 | _=>.bad
section
variable {X:Cx}{io:List Nat}{st:Stmt}{i:Nat}{α:Type}{kd:Xa->Option α}{lt:α->α->Bool}{d:Xa}
theorem Zwo(h:MS X io st (Zn2 kd lt d i)):MS X io st (oS (Zku kd lt d i)):=h.weak λD δ h=>by
 unfold oS Zku at h;unfold Zn2
 split at h
 case h_2=>exact h.elim
 rename_i ts q;(try rw[q])
 obtain⟨hc,h⟩:=Zbq h
 rw[Xx]at hc
 exact⟨of_decide_eq_true hc.1,λd m=>Ul.mp (Be.mp hc.2 d m),h⟩
instance nx_fRetTS:NoEx (Zku kd lt d i):=⟨λδ cn δ' h=>by
 unfold Zku at h
 split at h
 ·split at h<;>cases h
 ·cases h⟩
end
end L2
namespace My
open PySem L2 PySem.Spec
noncomputable def xsL:List Str:=["NoNumber","NoOrder"]
noncomputable def Wj(R:FD):FS :=
 (Zy (Jp (tD (Zmj "int" (Ze 1)))
  (wE (Zqm (Zmj "int" (Ze 0)) (Zqm (fUn Z6a (Zmj "bool" (Ze 0))) (Zf gEq (Ze 0) (Ze 1)))) Zai)
  fNx)
  (Zy (Jp (tD (Zmj "str" (Ze 1)))
  (wE (Zqm (Zmj "str" (Ze 0)) (Zf gEq (Ze 0) (Ze 1))) Zai)
  fNx)
  (Zy (Jp (tO (tV (Zf gNe (Zmj "tuple" (Ze 1)) (Zmj "tuple" (Ze 0)))) (tV (Zf gNe (Zmj "list" (Ze 1)) (Zmj "list" (Ze 0)))))
  (wE (fC (.bool false)) Zai)
  fNx)
  (Zy (Jp (tV (Zf gNe (Zbg Za1 (Zc (Ze 0) Zn)) (Zbg Za1 (Zc (Ze 1) Zn))))
  (wE (fC (.bool false)) Zai)
  fNx)
  (Zy (Zcc (Zlv (Zc (Ze 0) (Zc (Ze 1) Zn))) (gTp 2 (gCn (gNm 2) (gCn (gNm 3) gNl)))
  (Jp (tNo (tD (Zx R (Zc (Ze 2) (Zc (Ze 3) Zn)))))
  (wE (fC (.bool false)) Zai)
  fNx))
  (wE (fC (.bool true)) Zai))))))
noncomputable def Zm:Nat->FD
 | 0=>λ_=>RF.bad
 | k+1=>Jy 2 4 (Wj (Zm k))
noncomputable def Zad:FS :=
 (Zy (wE (Zbg Za1 (Zc (Ze 0) Zn)) (Yu 2))
  (Zy (wE (Zbm (Zc (Zbm Zn) (Zc (fSl (Ze 0) oN (oI (fUn Ze2 (fC (.int 1))))) (Zc (Yn Ze5 (Ze 0) (Zbm (Zc (Ze 2) Zn))) (Zc (Yn Ze5 (Ze 0) (fSl (Ze 0) (oI (fC (.int 1))) (oI (fC (.int 2))))) (Zc (Yn Ze5 (fSl (Ze 0) (oI (fC (.int 1))) oN) (fSl (Ze 0) oN (oI (fC (.int 1))))) (Zc (Yn Ze5 (fSl (Ze 0) oN (oI (fC (.int 1)))) (Zq6 (Ze 0) oN (oI (fC (.int 0))) (oI (fUn Ze2 (fC (.int 1)))))) Zn))))))) (Jo 3))
  (Zy (Zbx 3 (wE (Yn Ze5 (Ze 3) (Zbm (Zc (Yn Ze5 (fSl (Ze 0) oN (oI (fUn Ze2 (fC (.int 1))))) (fSl (Ze 0) (oI (fC (.int 1))) (oI (fC (.int 2))))) (Zc (Yn Ze5 (fSl (Ze 0) oN (oI (fUn Ze2 (fC (.int 1))))) (Zbm (Zc (Zf Js (Ze 2) (Ze 1)) Zn))) (Zc (Yn Ze5 (fSl (Ze 0) oN (oI (fUn Ze2 (fC (.int 1))))) (Zbm (Zc (Zf gSb (fUn Ze2 (fC (.int 1))) (Ze 1)) Zn))) (Zc (Yn Ze5 (fSl (Ze 0) oN (oI (fUn Ze2 (fC (.int 1))))) (Zbm (Zc (fUn Ze2 (fC (.int 1))) Zn))) Zn)))))) (Jo 3)))
  (Zy (Zcc (iRb (Zc (fC (.int 1)) (Zc (Ze 2) Zn))) (gNm 4)
  (Zy (wE (Zf Jl (Ze 1) (Ze 2)) (Yu 5))
  (Zy (Jp (tV (Zf gEq (Ze 5) (Ze 4)))
  (wE (fC (.int 0)) (Yu 5))
  fNx)
  (Zy (wE (Yn gIx (Zbm (Zc (Ze 2) (Zc (Zf Js (Ze 2) (Ze 1)) (Zc (fUn Ze2 (fC (.int 1))) (Zc (Zf gSb (fUn Ze2 (fC (.int 1))) (Ze 1)) (Zc (Zf gSb (fC (.int 0)) (Yn gIx (Ze 0) (Ze 4))) Zn)))))) (Zf Jl (Zf Js (Ze 1) (Ze 4)) (fC (.int 5)))) (Yu 6))
  (Zy (Wq 3 (Yn Ze5 (Yn Ze5 (fSl (Ze 0) oN (oI (Ze 4))) (Zbm (Zc (Yn gIx (Ze 0) (Ze 5)) Zn))) (fSl (Ze 0) (oI (Zf Js (Ze 4) (fC (.int 1)))) oN)))
  (Wq 3 (Yn Ze5 (Yn Ze5 (fSl (Ze 0) oN (oI (Ze 4))) (Zbm (Zc (Ze 6) Zn))) (fSl (Ze 0) (oI (Zf Js (Ze 4) (fC (.int 1)))) oN))))))))
  (Zeu 3)))))
noncomputable def Y5:FD:=Jy 2 7 Zad
noncomputable def Zb3:FS :=
 (Zy (wE (Wb 1 [2] (iRa (Zc (Ze 2) Zn)) (gNm 0) Ze3 (Zuu (fC (.int 0)) (Ze 1))) (Jo 5))
  (Zy (Zcc (iRa (Zc (Ze 2) Zn)) (gNm 6)
  (Zcc (iRa (Zc (Ze 6) Zn)) (gNm 7)
  (Zy (wE (Zf Js (Zf Y4 (Zf Zhv (Ze 6) (Zf gSb (Ze 6) (fC (.int 1)))) (fC (.int 2))) (Ze 7)) (Yu 8))
  (Zy (wE (Zx Yl (Zc (Ze 4) (Zc (Zf Js (fC (.int 90)) (Ze 8)) Zn))) (Yu 9))
  (Zy (Jp (tV (Zf gLt (Zf Js (Ze 1) (Ze 8)) (Zbg Za1 (Zc (Ze 0) Zn))))
  (wE (Yn gIx (Ze 0) (Zf Js (Ze 1) (Ze 8))) (Yu 9))
  fNx)
  (Zy (Zmx 5 (Zf Jl (Ze 9) (Ze 3)) (Ze 6) (Ze 7))
  (Zmx 5 (Zf Jl (Ze 9) (Ze 3)) (Ze 7) (Ze 6))))))))
  (Zeu 5)))
noncomputable def Wh:FD:=Jy 5 10 Zb3
noncomputable def Zcj:FS :=
 (Zy (wE (Zbm Zn) (Jo 1))
  (Zy (Zcc (iRa (Zc (Ze 0) Zn)) (gNm 2)
  (Zhd 1 (Wb 1 [2] (iRb (Zc (Zf Js (Ze 2) (fC (.int 1))) (Zc (Ze 0) Zn))) (gNm 0) Ze3 (Zjx (Zc (Ze 1) (Zc (Ze 0) Zn))))))
  (Zeu 1)))
noncomputable def Yt:FD:=Jy 1 3 Zcj
noncomputable def Zca:FS :=
 (wE (Wb 2 [0] (Zhh (Zx Yt (Zc (Zbg Za1 (Zc (Ze 0) Zn)) Zn))) (gTp 2 (gCn (gNm 0) (gCn (gNm 1) gNl))) Ze3 (fBl Zez (Zc (fSl (Ze 2) (oI (Zf Js (Ze 0) (fC (.int 1)))) (oI (Zf Js (Ze 1) (fC (.int 1))))) Zn))) Zai)
noncomputable def Wi:FD:=Jy 1 1 Zca
noncomputable def Zdr:FS :=
 (Zy (wE (Zbg Z1x (Zc (Ze 0) Zn)) (Yu 2))
  (Zy (wE (Ze 1) (Yu 3))
  (Zy (Zim (tV (Zf gNe (Ze 3) (fC (.int 0)))) (Zy (wE (Zf Jl (Ze 2) (Ze 3)) (Yu 4))
  (Zy (wE (Ze 3) (Yu 2))
  (wE (Ze 4) (Yu 3)))))
  (wE (Zjx (Zc (Zf Y4 (Ze 0) (Ze 2)) (Zc (Zf Y4 (Ze 1) (Ze 2)) Zn))) Zai))))
noncomputable def J0:FD:=Jy 2 5 Zdr
noncomputable def Zau:FS :=
 (wE (fBl (Zn6 kdT ltT) (Zc (Wb 2 [2] (Zlv (Zc (Ze 0) (Zc (Ze 1) Zn))) (gTp 2 (gCn (gNm 0) (gCn (gNm 1) gNl))) (tV (Zf gGt (Ze 1) (fC (.int 0)))) (Zjx (Zc (fBl Zk5 (Zc (Ze 0) Zn)) (Zc (Zx J0 (Zc (Ze 1) (Zc (Ze 2) Zn))) Zn)))) Zn)) Zai)
noncomputable def W7:FD:=Jy 3 3 Zau
noncomputable def Zdu:FS :=
 (Zy (wE (Zx Yt (Zc (Zbg Za1 (Zc (Ze 0) Zn)) Zn)) (Yu 3))
  (Zy (wE (Wb 1 [3,1] (iRa (Zc (Zbg Za1 (Zc (Ze 3) Zn)) Zn)) (gNm 0) (tV (Zf gLt (Yn gIx (Ze 2) (Ze 0)) (fC (.int 0)))) (Yn gIx (Ze 1) (Ze 0))) (Yu 4))
  (Zy (Jp (tV (Zf gNe (Ze 4) (Zbm Zn)))
  (wE (Zjx (Zc (fC (.str "bars")) (Zc (Yn gIx (Ze 4) (fC (.int 0))) Zn))) Zai)
  fNx)
  (wE (Zjx (Zc (fC (.str "ring")) (Zc (Zx W7 (Zc (Zx Wi (Zc (Ze 0) Zn)) (Zc (Ze 1) (Zc (Ze 2) Zn)))) Zn))) Zai))))
noncomputable def Wk:FD:=Jy 3 5 Zdu
noncomputable def Zdv:FS :=
 (Zy (Zcc (Zhh (Ze 1)) (gNm 2)
  (Jp (tNo (tD (Zx Y7 (Zc (Ze 2) Zn))))
  (wE (fC (.bool false)) Zai)
  fNx))
  (Zy (Jp (tO (tV (Zf gLt (Ze 0) (fC (.int 3)))) (tV (Zf gNe (fBl Zez (Zc (Ze 1) Zn)) (Zxs (Zc (Ze 0) Zn)))))
  (wE (fC (.bool false)) Zai)
  fNx)
  (wE (Zqm (Zf gEq (Yn gIx (Ze 1) (fC (.int 0))) (fC (.int 0))) (Zf gLt (Yn gIx (Ze 1) (fC (.int 1))) (Yn gIx (Ze 1) (fUn Ze2 (fC (.int 1)))))) Zai)))
noncomputable def Za8:FD:=Jy 2 3 Zdv
noncomputable def Zbj:FS :=
 (Jp (tNo (tD (Zx Za8 (Zc (Ze 0) (Zc (Ze 1) Zn)))))
  (Zkm "NoOrder")
  fNx)
noncomputable def Yp:FD:=Jy 2 2 Zbj
noncomputable def Zax:FS :=
 (Zy (wE (Yn gIx (Ze 1) (Ze 2)) (Yu 4))
  (Zy (wE (Yn gIx (Ze 1) (Zf Js (Ze 2) (fC (.int 1)))) (Yu 5))
  (Zy (wE (Yn gIx (Ze 1) (Ze 3)) (Yu 6))
  (Zy (wE (Yn gIx (Ze 1) (Zf Jl (Zf Js (Ze 3) (fC (.int 1))) (Zbg Za1 (Zc (Ze 0) Zn)))) (Yu 7))
  (wE (Zf gSb (Zf gSb (Zf Js (Yn gIx (Yn gIx (Ze 0) (Ze 4)) (Ze 6)) (Yn gIx (Yn gIx (Ze 0) (Ze 5)) (Ze 7))) (Yn gIx (Yn gIx (Ze 0) (Ze 4)) (Ze 7))) (Yn gIx (Yn gIx (Ze 0) (Ze 5)) (Ze 6))) Zai)))))
noncomputable def Ys:FD:=Jy 4 8 Zax
noncomputable def Zce:FS :=
 (Zy (wX Yp (Zc (Zbg Za1 (Zc (Ze 0) Zn)) (Zc (Ze 1) Zn)) Zmk)
  (Zy (wE (Zx Yj (Zc (Ze 0) Zn)) (Yu 2))
  (Zy (wE (Zx Y9 (Zc (Ze 2) (Zc (Ze 0) Zn))) (Yu 3))
  (Zy (wE (Zbm Zn) (Jo 4))
  (Zy (Zcc (Zhh (Zx Jj (Zc (Zbg Za1 (Zc (Ze 0) Zn)) Zn))) (gTp 2 (gCn (gNm 5) (gCn (gNm 6) gNl)))
  (Zy (wE (Zx Ys (Zc (Ze 3) (Zc (Ze 1) (Zc (Ze 5) (Zc (Ze 6) Zn))))) (Yu 7))
  (Zy (Jp (tV (Zf gLt (Ze 7) (fC (.int 0))))
  (wE (Zfy (Zc (fC (.str "bars")) (Zc (Zfy (Zc (Ze 5) (Zc (Ze 6) Zn))) Zn))) Zai)
  fNx)
  (Jp (tV (Zf gGt (Ze 7) (fC (.int 0))))
  (Zag 4 (Zfy (Zc (fBl Zez (Zc (fSl (Ze 1) (oI (Zf Js (Ze 5) (fC (.int 1)))) (oI (Zf Js (Ze 6) (fC (.int 1))))) Zn)) (Zc (Zx Y8 (Zc (Ze 7) (Zc (Zf Zhv (fC (.int 2)) (Ze 2)) Zn))) Zn))))
  fNx))))
  (Zku kdT ltT (.str "ring") 4))))))
noncomputable def Zz:FD:=Jy 2 8 Zce
noncomputable def Za0:FS :=
 (Zy (wE (fC .none) (Yu 2))
  (Zy (Z3b xsL (wX Zz (Zc (Ze 0) (Zc (Ze 1) Zn)) Zmk) "CutError" 3 (Zy (wE (Zpb xsL ["NoCut","NoName","NoNumber","NoPoint","NoRow","NoTable","NoText","NoWeb","TooMany"] (Ze 3)) (Yu 4))
  (wE (Zjx (Zc (Zue xsL "ValueError" (Ze 3)) (Zc (Zue xsL "NoOrder" (Ze 3)) (Zc (Ze 4) Zn)))) (Yu 2))))
  (wE (Zf gEq (Ze 2) (Zjx (Zc (fC (.bool true)) (Zc (fC (.bool true)) (Zc (fC (.bool false)) Zn))))) Zai)))
noncomputable def Yc:FD:=Jy 2 5 Za0
noncomputable def Zac:FS :=
 (Zy (wE (Zl1 (Ze 0) (fC (.int 0))) (Yu 1))
  (Zy (wE (Yn Ze5 (fSl (Ze 0) (oI (Ze 1)) oN) (fSl (Ze 0) oN (oI (Ze 1)))) (Yu 2))
  (Zy (Jp (tAn (tV (Zf gGt (Zbg Za1 (Zc (Ze 2) Zn)) (fC (.int 2)))) (tV (Zf gGt (Yn gIx (Ze 2) (fC (.int 1))) (Yn gIx (Ze 2) (fUn Ze2 (fC (.int 1)))))))
  (wE (Yn Ze5 (fSl (Ze 2) oN (oI (fC (.int 1)))) (Zq6 (Ze 2) oN (oI (fC (.int 0))) (oI (fUn Ze2 (fC (.int 1)))))) (Yu 2))
  fNx)
  (wE (Ze 2) Zai))))
noncomputable def Ww:FD:=Jy 1 3 Zac
noncomputable def Zcm:FS :=
 (Zy (wE (Zx Wl (Zc (Ze 0) (Zc (Ze 1) Zn))) (Yu 2))
  (Zy (wE (Zxs (Zc (Ze 1) Zn)) (Jo 3))
  (Zy (wE (Zbm Zn) (Jo 4))
  (Zy (Zcc (iRa (Zc (Ze 1) Zn)) (gNm 5)
  (Wq 4 (Z3v 3 (Zf Jl (Yn gIx (Ze 2) (Ze 5)) (Zbg Za1 (Zc (Zf1 3) Zn))))))
  (Zbx 4 (wE (Zx Ww (Zc (Ze 4) Zn)) Zai))))))
noncomputable def Je:FD:=Jy 2 6 Zcm
noncomputable def Jf:FS :=
 (Zy (wE (Yn gIx (Zbm (Zc (fC (.int 3)) (Zc (fC (.int 12)) (Zc (Zf Zrr (fC (.int 10)) (fC (.int 20))) Zn)))) (Zf Jl (Ze 3) (fC (.int 3)))) (Yu 4))
  (Zy (wE (Zbm Zn) (Jo 5))
  (Zy (Zcc (iRa (Zc (Zf Y4 (Zf Zhv (Ze 2) (Zf gSb (Ze 2) (fC (.int 1)))) (fC (.int 2))) Zn)) (gNm 6)
  (Zy (wE (Zx Yl (Zc (Ze 3) (Zc (Zf Js (fC (.int 50)) (Ze 6)) Zn))) (Yu 7))
  (Zy (Jp (tV (Zf gLt (Zf Js (Ze 1) (Ze 6)) (Zbg Za1 (Zc (Ze 0) Zn))))
  (wE (Yn gIx (Ze 0) (Zf Js (Ze 1) (Ze 6))) (Yu 7))
  fNx)
  (Wq 5 (Zf Jl (Ze 7) (Ze 4))))))
  (Zeu 5))))
noncomputable def Wf:FD:=Jy 4 8 Jf
noncomputable def Zc6:FS :=
 (Zy (wE (Wb 1 [0] (iRa (Zc (Ze 0) Zn)) (gNm 0) Ze3 (Zuu (fC (.int 0)) (Ze 1))) (Jo 3))
  (Zy (Zcc (Zlv (Zc (Ze 1) (Zc (Ze 2) Zn))) (gTp 2 (gCn (gNm 4) (gCn (gNm 5) gNl)))
  (Zcc (iRa (Zc (Ze 0) Zn)) (gNm 6)
  (Zcc (iRa (Zc (Ze 0) Zn)) (gNm 7)
  (Jp (tV (Zf gNe (Zf (Z06 false) (Ze 6) (Ze 4)) (Zf (Z06 false) (Ze 7) (Ze 4))))
  (Zmx 3 (Zf Js (Yn gIx (Yn gIx (Zf1 3) (Ze 6)) (Ze 7)) (Ze 5)) (Ze 6) (Ze 7))
  fNx))))
  (Zeu 3)))
noncomputable def Ji:FD:=Jy 3 8 Zc6
noncomputable def Zb9:FS :=
 (wE (Wb 1 [1] (Zhh (Ze 0)) (gNm 0) Ze3 (Wb 1 [1] (Zhh (Ze 0)) (gNm 0) Ze3 (Zx J0 (Zc (Ze 0) (Zc (Ze 1) Zn))))) Zai)
noncomputable def J6:FD:=Jy 2 2 Zb9
noncomputable def Zb4:FS :=
 (Zy (wE (Yn gIx (Ze 1) (Ze 2)) (Yu 4))
  (Zy (wE (Yn gIx (Ze 1) (Zf Js (Ze 2) (fC (.int 1)))) (Yu 5))
  (Zy (wE (Yn gIx (Ze 1) (Ze 3)) (Yu 6))
  (Zy (wE (Yn gIx (Yn Ze5 (Ze 1) (Ze 1)) (Zf Js (Ze 3) (fC (.int 1)))) (Yu 7))
  (Zy (wE (Zf Js (Yn gIx (Yn gIx (Ze 0) (Ze 4)) (Ze 6)) (Yn gIx (Yn gIx (Ze 0) (Ze 5)) (Ze 7))) (Yu 8))
  (wE (Zf gSb (Zf gSb (Ze 8) (Yn gIx (Yn gIx (Ze 0) (Ze 4)) (Ze 7))) (Yn gIx (Yn gIx (Ze 0) (Ze 5)) (Ze 6))) Zai))))))
noncomputable def W5:FD:=Jy 4 9 Zb4
noncomputable def Zio:FS :=
 (Zy (wE (Zx Jh (Zc (Zx Ym (Zc (Ze 0) (Zc (fC (.int 0)) Zn))) (Zc (fC (.int 3)) (Zc (fC (.int 7)) (Zc (fC (.int 10)) Zn))))) (Yu 1))
  (Zy (wE (Zx Ym (Zc (Ze 0) (Zc (fC (.int 1)) Zn))) (Yu 2))
  (Zy (wE (Yn gIx (Zbm (Zc (fC (.int 1)) (Zc (fC (.int 2)) (Zc (fC (.int 6)) (Zc (Zf Js (Zf Zrr (fC (.int 10)) (fC (.int 15))) (fC (.int 37))) Zn))))) (Zf Jl (Zf Y4 (Ze 2) (fC (.int 3))) (fC (.int 4)))) (Yu 3))
  (Zy (wE (Zx Je (Zc (Zx Ym (Zc (Ze 0) (Zc (fC (.int 2)) Zn))) (Zc (Ze 1) Zn))) (Yu 4))
  (Zy (wE (Zx Wf (Zc (Ze 0) (Zc (fC (.int 4)) (Zc (Ze 1) (Zc (Ze 2) Zn))))) (Jo 5))
  (Zy (wE (Zx Ym (Zc (Ze 0) (Zc (fC (.int 3)) Zn))) (Yu 6))
  (Zy (Jp (tV (Zf gGt (Zf Jl (Ze 6) (fC (.int 4))) (fC (.int 1))))
  (Zy (wE (Wb 1 [] (Zhh (Zf1 5)) (Zx9 0) Ze3 (Zf Js (Ze 0) (fC (.int 5)))) (Jo 5))
  (Zy (Zqn 5 (Zf gSb (fUn Ze2 (fC (.int 1))) (Zf Jl (Zf Y4 (Ze 6) (fC (.int 400))) (fC (.int 4)))) (Zf Jl (Zf Y4 (Ze 6) (fC (.int 4))) (Zbg Za1 (Zc (Zf1 5) Zn))))
  (Jp (tAn (tV (Zf gEq (Zf Jl (Ze 6) (fC (.int 4))) (fC (.int 3)))) (tV (Zf gGt (Ze 1) (fC (.int 4)))))
  (Zqn 5 (Zf gSb (fUn Ze2 (fC (.int 1))) (Zf Jl (Zf Y4 (Ze 6) (fC (.int 1600))) (fC (.int 4)))) (Zf Jl (Zf Y4 (Ze 6) (fC (.int 5))) (Zbg Za1 (Zc (Zf1 5) Zn))))
  fNx)))
  fNx)
  (Zy (Zbx 5 (wE (Zx Ji (Zc (Ze 1) (Zc (Zx Wi (Zc (Ze 4) Zn)) (Zc (Ze 5) Zn)))) (Yu 7)))
  (Zy (wE (Zx Wk (Zc (Ze 4) (Zc (Ze 5) (Zc (Ze 3) Zn)))) (Yu 8))
  (Zy (Jp (tV (Zf gEq (Zf Jl (Ze 6) (fC (.int 4))) (fC (.int 1))))
  (Zy (wE (Zx Wh (Zc (Ze 0) (Zc (fC (.int 4)) (Zc (Ze 1) (Zc (Yn gIx (Zbm (Zc (fC (.int 2)) (Zc (fC (.int 3)) (Zc (fC (.int 5)) (Zc (Zf Zrr (fC (.int 10)) (fC (.int 20))) Zn))))) (Zf Jl (Zf Y4 (Ze 2) (fC (.int 12))) (fC (.int 4)))) (Zc (Ze 2) Zn)))))) (Yu 7))
  (wE (Zx Wk (Zc (Ze 4) (Zc (Wb 2 [7,4] (Zhh (Zx Yt (Zc (Ze 1) Zn))) (gTp 2 (gCn (gNm 0) (gCn (gNm 1) gNl))) Ze3 (Zx W5 (Zc (Ze 2) (Zc (Ze 3) (Zc (Ze 0) (Zc (Ze 1) Zn)))))) (Zc (Zf Zhv (fC (.int 2)) (Ze 3)) Zn)))) (Yu 8)))
  fNx)
  (Zy (wE (Zx J6 (Zc (Ze 7) (Zc (Ze 3) Zn))) (Yu 9))
  (Zy (wE (Zbm (Zc (Wb 1 [] (Zhh (Ze 9)) (gNm 0) Ze3 (fBl Zk5 (Zc (Ze 0) Zn))) (Zc (fBl Zk5 (Zc (Ze 4) Zn)) Zn))) (Yu 10))
  (Zy (wX Zz (Zc (Yn gIx (Ze 10) (fC (.int 0))) (Zc (Yn gIx (Ze 10) (fC (.int 1))) Zn)) (Jo 11))
  (Zy (Jp (tO (tNo (tD (Zx (Zm 6) (Zc (Zf1 11) (Zc (Ze 8) Zn))))) (tV (Zf gNe (Ze 10) (Zbm (Zc (Ze 9) (Zc (Ze 4) Zn))))))
  (wE (fC (.bool false)) Zai)
  fNx)
  (Zy (Jp (tV (Zf gEq (Yn gIx (Zf1 11) (fC (.int 0))) (fC (.str "ring"))))
  (Zy (Zo7 11 12 13 1 (.int 0))
  (Zy (Zis 11 1 (fC (.int 0)))
  (Jp (tNo (tD (Zx (Zm 6) (Zc (Zx Zz (Zc (Ze 9) (Zc (Ze 4) Zn))) (Zc (Ze 8) Zn)))))
  (wE (fC (.bool false)) Zai)
  fNx)))
  fNx)
  (Zy (Jp (tNo (tD (Zx (Zm 6) (Zc (Zx Zz (Zc (Wb 1 [1] (iRa (Zc (Ze 1) Zn)) (gNm 0) Ze3 (Zuu (Zjx (Zc (fC (.int 0)) (Zc (fC (.int 1)) Zn))) (Ze 1))) (Zc (Ze 4) Zn))) (Zc (Zfy (Zc (fC (.str "ring")) (Zc (Zbm Zn) Zn))) Zn)))))
  (wE (fC (.bool false)) Zai)
  fNx)
  (Zy (Zcc (Zhh (Zx Y5 (Zc (Ze 4) (Zc (Zx Yl (Zc (Ze 6) (Zc (fC (.int 5)) Zn))) Zn)))) (gNm 14)
  (Jp (tNo (tD (Zx Yc (Zc (Ze 9) (Zc (Ze 14) Zn)))))
  (wE (fC (.bool false)) Zai)
  fNx))
  (Zy (wE (Wb 1 [] (Zhh (fSl (Ze 9) oN (oI (fC (.int 2))))) (gNm 0) Ze3 (fSl (Ze 0) oN (oI (fC (.int 2))))) (Yu 15))
  (wE (Zqm (Zx Yc (Zc (Ze 15) (Zc (Zbm (Zc (fC (.int 0)) (Zc (fC (.int 1)) Zn))) Zn))) (Zqm (Zx Yc (Zc (Ze 15) (Zc (Zbm (Zc (fC (.int 0)) Zn)) Zn))) (Zx Yc (Zc (Zbm (Zc (Zbm (Zc (Zjx (Zc (fC (.int 0)) (Zc (fC (.int 1)) Zn))) Zn)) Zn)) (Zc (Zbm (Zc (fC (.int 0)) Zn)) Zn))))) Zai)))))))))))))))))))
noncomputable def Zfk:FD:=Jy 1 16 Zio
end My
namespace My
open PySem L2 PySem.Spec
theorem Znz(p:List Int):Sh 1 (Zj p):=Ze8 λd m=>by
 obtain⟨x,_,rfl⟩:=X4.mp m
 exact Zik x
theorem Zij{ds:List Xa}(h:∀d∈ds,Yr d=true):Yr (.list ds)=true:=by
 rw[Yr]
 induction ds with
 | nil=>rfl
 | cons d ds ih=>rw[Jw,h d (.head _),ih λe he=>h e (.tail _ he)];rfl
theorem Zdd(p:List Int):Yr (Zj p)=true:=Zij λd m=>by
 obtain⟨x,_,rfl⟩:=X4.mp m
 rfl
theorem Zvq{a b:List Int}(h:Zj a=Zj b):a=b:=by
 unfold Zj at h
 injection h with h
 exact Ub (λx y z=>by injection z)|>.mp h
theorem Zw6(a b:List Int):gNe (Zj a) (Zj b)=some (.bool (!decide (a=b))):=by
 have s:Bw (Zj a)=true:=((Znz a).shp (by omega)).ok
 have t:Bw (Zj b)=true:=((Znz b).shp (by omega)).ok
 unfold gNe
 rw[if_pos (by rw[s,t];rfl)]
 by_cases c:a=b
 ·subst c
  rw[Zj3 (Zdd a)]
  simp
 ·have:Qx (Zj a) (Zj b)=false:=by
   cases e:Qx (Zj a) (Zj b)with
   | false=>rfl
   | true=>exact absurd (Zvq ((Zka _ _ (Zdd a) (Zdd b)).mp e)) c
  rw[this,decide_eq_false c]
theorem Zdn{p:List Int}(h:p.length<64):Zez [Zj p]=some (.nd (((Jx p).map Xj).map OT.fz)):=by
 show((Zgo (p.map Xj)).bind λns=>if ns.length<64 then some (OT.nd (((Jx ns).map Xj).map OT.fz))else none)=_
 rw[Zex,Xc,if_pos h]
theorem Zjv{p:List Int}{i:Int}(h0:0≤i)(h1:i<p.length):gIx (Zj p) (.int i)=some (.fz (.int (p.getD i.toNat 0))):=by
 unfold Zj
 rw[Zqb,Zoe h0 h1];rfl
theorem Zpa{p:List Int}(h:0<p.length):gIx (Zj p) (.int (-1))=some (.fz (.int (p.getD (p.length-1) 0))):=by
 unfold Zj
 rw[Zqb]
 have e:p=p.dropLast ++ [p.getLast (by intro z;rw[z]at h;simp at h)]:=(List.dropLast_concat_getLast _).symm
 have g:p.getD (p.length-1) 0=p.getLast (by intro z;rw[z]at h;simp at h):=by
  rw[List.getLast_eq_getElem,Xd,Xh (by omega)];rfl
 rw[g]
 conv=>lhs;rw[e,QF]
 rw[XF,Vj,Zwu];rfl
noncomputable def Jb(n:Int):List Int:=(Xz n.toNat).map λi:Nat=>(i:Int)
theorem Zu6(n:Int):Qy (Zch 0 n.toNat)=Zj (Jb n):=by
 unfold Zj Jb Zch
 rw[XN]
 refine congrArg _ (Xw λi _=>?_)
 show Xj (0+(i:Int))=Xj (i:Int)
 rw[JS]
noncomputable def ringB(n:Int)(p:List Int):Bool:=decide (3≤n)&&(decide (Jx p=Jb n)&&(decide (p.getD 0 0=0)&&decide (p.getD 1 0<p.getD (p.length-1) 0)))
theorem Zie{n:Int}{p:List Int}(h:p.length<64)(hn:n≤1000000):Za8 [.int n,Zj p]= .ok (.fz (.bool (ringB n p))):=by
 refine Told.ok (Z6 rfl (Zll (ds:=p.map Xj) (λi δ=>∃z,δ=[some (.fz (.int n)),some (.fz (Zj p)),z]) (Zaz Za) ⟨_,rfl⟩ (λi d δ hd q=>?_) λδ' q=>?_))
 ·obtain⟨z,rfl⟩:=q
  obtain⟨x,_,rfl⟩:=X4.mp (QV hd)
  exact⟨_,_,rfl,.inl (Z5 (Zh4 (p:=true) (Zf9 (Zo (Zb Za Zh) (.of (Zf6 x) (OT.data_fz _))))) rfl),_,rfl⟩
 obtain⟨z,rfl⟩:=q
 unfold ringB
 by_cases c:n<3
 ·rw[decide_eq_false (show¬3≤n by omega)]
  exact Zb0 (Zec (Z2y (Zbu (Zee Za Zw (decide_eq_true c)))) (Yv Zw))
 have t1:∀{b:Bool},(!decide (Jx p=Jb n))=b->EvT (tO (tV (Zf gLt (Ze 0) (fC (.int 3)))) (tV (Zf gNe (fBl Zez (Zc (Ze 1) Zn)) (Zxs (Zc (Ze 0) Zn))))) [some (.fz (.int n)),some (.fz (Zj p)),z] b:=λhb=>Z39 (Zbu (Zee Za Zw (decide_eq_false c))) (Zbu (Z0 (Zpx (Zb Za Zh) (Zdn h) (Zfv _)) (Z8r (Zb Za Zh) (by omega) hn) (by rw[Zu6,Zw6,hb])))
 rw[decide_eq_true (show 3≤n by omega)]
 by_cases c2:Jx p=Jb n
 ·have hp:n.toNat=p.length:=by
   have:=congrArg List.length c2
   rw[(W9 p).length_eq]at this
   unfold Jb at this
   simpa using this.symm
  rw[decide_eq_true c2]at t1⊢
  refine Zt (Z5 (t1 rfl) rfl) (Yv ?_)
  have a0:=Wy (p:=p) (δ:=[some (.fz (.int n)),some (.fz (Zj p)),z]) (Za (i:=1)) (Zw (d:=.int 0)) (by decide) (by omega)
  by_cases c3:p.getD 0 0=0
  ·rw[decide_eq_true c3]
   exact Zdi (Zhy a0 Zw (decide_eq_true c3)) (Zee (Wy Za Zw (by decide) (by omega)) (Zah Za (Zly Zw) (Zpa (by omega))) rfl)
  ·rw[decide_eq_false c3]
   exact Zu5 (Zhy a0 Zw (decide_eq_false c3))
 ·rw[decide_eq_false c2]at t1⊢
  exact Zb0 (Zec (t1 rfl) (Yv Zw))
noncomputable def Zwd(n:Nat)(f:Nat->Int):Xa:=.list ((Xz n).map λj=>.int (f j))
noncomputable def J2(n:Nat)(r:Nat->Nat->Int):Xa:=.list ((Xz n).map λi=>Zwd n (r i))
theorem Zpe{α:Type}{n i:Nat}(f:Nat->α)(h:i<n):atI ((Xz n).map f) (i:Int)=some (f i):=by
 rw[Zxw,Xy,Bk h];rfl
theorem Zy7{n j:Nat}{f:Nat->Int}(h:j<n):gIx (Zwd n f) (.int (j:Int))=some (.fz (.int (f j))):=by
 unfold Zwd;rw[Zqb,Zpe _ h];rfl
theorem Zwv{n i:Nat}{r:Nat->Nat->Int}(h:i<n):gIx (J2 n r) (.int (i:Int))=some (.fz (Zwd n (r i))):=by
 unfold J2;rw[Zqb,Zpe _ h];rfl
theorem Zrn(n:Nat)(r:Nat->Nat->Int):Za1 [J2 n r]=some (.int n):=by
 unfold J2;rw[Zo3,Xi,Qk]
theorem Z1b{t b:Int}(hb:b≠0):((Qn t b).den:Int)∣b:=by
 rw[Rat.den_divInt,if_neg hb]
 have:(b.natAbs/b.gcd t:Nat)∣b.natAbs:=Nat.div_dvd_of_dvd (by rw[BZ];exact Nat.gcd_dvd_left ..)
 exact Int.ofNat_dvd_left.mpr this
theorem Zif{a m k:Int}(hk:0<k)(hm:0<m):Qn (k*a) (m*k)=Qn a m:=by
 rw[Int.mul_comm k a]
 exact Rat.divInt_mul_right (by omega)
theorem Zj1{n:Int}{p:List Int}(h:p.length<64)(hn:n≤1000000)(c:ringB n p=true):Yp [.int n,Zj p]= .ok (.fz .none) :=
 (Zrv rfl (Z5 (Zh4 (p:=true) (Zf9 (Zo (Zb Za (Zb Za Zh)) (.of (by rw[Zie h hn,c]) (OT.data_fz _))))) rfl)).none
noncomputable def tw(S:Nat->Nat->Int)(x p y q:Nat):Int:=S x y+S p q-S x q-S p y
noncomputable def pn(p:List Int)(i:Nat):Nat:=(p.getD i 0).toNat
noncomputable def InR(n:Nat)(p:List Int):Prop:=p.length=n∧∀i,i<n->0≤p.getD i 0∧p.getD i 0<n
theorem InR.at{n:Nat}{p:List Int}(h:InR n p){i:Nat}(hi:i<n):gIx (Zj p) (.int (i:Int))=some (.fz (.int (pn p i:Nat)))∧pn p i<n:=by
 obtain⟨h1,h2⟩:=h
 obtain⟨a,b⟩:=h2 i hi
 rw[Zjv (by omega) (by omega),Qs]
 unfold pn
 rw[V6 a]
 exact⟨rfl,by omega⟩
theorem Zwm{b n:Nat}(h:0<n):Jl (.int ((b:Int)+1)) (.int (n:Int))=some (.int (((b+1)%n:Nat):Int)):=by
 rw[Zx8 (by omega),show((b:Int)+1).fmod (n:Int)=(((b+1)%n:Nat):Int) by rw[Zem (by omega)];push_cast;rfl]
theorem Zf7{n x y i j:Nat}{S:Nat->Nat->Int}{δ:Zg}(hx:x<n)(hy:y<n)(h0:δ[0]? =some (some (.fz (J2 n S))))(h1:δ[i]? =some (some (.fz (.int x))))(h2:δ[j]? =some (some (.fz (.int y)))):EvV (Yn gIx (Yn gIx (Ze 0) (Ze i)) (Ze j)) δ (.int (S x y)):=Zah (Zah (Za h0) (Za h1) (Zwv hx)) (Za h2) (Zy7 hy)
theorem Zg9{n a b:Nat}{S:Nat->Nat->Int}{p:List Int}(h:InR n p)(hab:a<b)(hb:b<n):Ys [J2 n S,Zj p,.int a,.int b]= .ok (.fz (.int (tw S (pn p a) (pn p (a+1)) (pn p b) (pn p ((b+1)%n))))):=by
 have hm:(b+1)%n<n:=Nat.mod_lt _ (by omega)
 obtain⟨e1,l1⟩:=h.at (i:=a) (by omega)
 obtain⟨e2,l2⟩:=h.at (i:=a+1) (by omega)
 obtain⟨e3,l3⟩:=h.at hb
 obtain⟨e4,l4⟩:=h.at hm
 exact Told.int<|Z6 rfl<|Zt (Zq (Zah Za Za e1))<|Zt (Zq (Zah Za (Z7 Za Zw) e2))<|Zt (Zq (Zah Za Za e3))<|
  Zt (Zq (Zah Za (Z0 (Z7 Za Zw) (Zeq (Zb Za Zh) (Zrn n S)) (Zwm (by omega))) e4))<|
  Yv (Zb6 (Zb6 (Z7 (Zf7 l1 l3 rfl rfl rfl) (Zf7 l2 l4 rfl rfl rfl)) (Zf7 l1 l4 rfl rfl rfl)) (Zf7 l2 l3 rfl rfl rfl))
noncomputable def Zgh(n:Nat)(R:Nat->Nat->Int)(b:Int):List (List Rat):=(Xz n).map λi=>(Xz n).map λj=>Qn (R i j) b
theorem Z1h(T:List (List Rat)):Za1 [tbD T]=some (.int T.length):=by
 unfold tbD
 rw[Zo3,Xi]
theorem Zjk(n:Nat)(R:Nat->Nat->Int)(b:Int):(Zgh n R b).length=n:=by unfold Zgh;simp
theorem Zrc{S R:Nat->Nat->Int}{m k:Int}(hm:0<m)(hk:0<k){x p y q:Nat}(h1:k*S x y=R x y)(h2:k*S p q=R p q)(h3:k*S x q=R x q)(h4:k*S p y=R p y) :
  Qn (tw S x p y q) (2*m)=Qn (tw R x p y q) (2*(m*k)):=by
 have e:tw R x p y q=k*tw S x p y q:=by
  unfold tw
  rw[←h1,←h2,←h3,←h4]
  simp only[Int.mul_add,Int.mul_sub]
 rw[e,show 2*(m*k)=(2*m)*k by rw[Int.mul_assoc],Zif hk (by omega)]
theorem Z2r{n:Nat}{R:Nat->Nat->Int}{b:Int}(hn:n<64)(hb:0<b)(bb:Bt 300 b)(bR:∀i j,i<n->j<n->Bt 300 (R i j)):∃(m k:Int) (S:Nat->Nat->Int),Told Yj [tbD (Zgh n R b)] (.int m)∧Told Y9 [.int m,tbD (Zgh n R b)] (J2 n S)∧0<m∧0<k∧b=m*k∧Bt 300 m∧∀x y,x<n->y<n->k*S x y=R x y:=by
 have hz:∀r∈Zgh n R b,r.length≤1000:=λr hr=>by
  unfold Zgh at hr
  obtain⟨x,_,rfl⟩:=X4.mp hr
  rw[Xi,Qk];omega
 have hB:Z4w (Zgh n R b) b:=λr hr q hq=>by
  unfold Zgh at hr
  obtain⟨x,_,rfl⟩:=X4.mp hr
  obtain⟨y,_,rfl⟩:=X4.mp hq
  exact Z1b (by omega)
 have hN:∀r∈Zgh n R b,∀q∈r,Bt 300 q.num:=λr hr q hq=>by
  unfold Zgh at hr
  obtain⟨x,hx,rfl⟩:=X4.mp hr
  obtain⟨y,hy,rfl⟩:=X4.mp hq
  exact Z4r (by omega) (bR x y (Qt.mp hx) (Qt.mp hy))
 obtain⟨m,e1,m0,hm,k,rfl⟩:=Zhq hb bb (by decide) (Zgh n R b) hz hB
 have k0:0<k:=by
  by_cases c:0<k
  ·exact c
  ·have:=Int.mul_nonpos_of_nonneg_of_nonpos (a:=m) (b:=k) (by omega) (by omega)
   omega
 have bm:Bt 300 m:=Zkv hb ⟨k,rfl⟩ bb
 have e2:=Zjc m0 bm (Zgh n R (m*k)) (by rw[Zjk];omega) hz hm hN
 have sc:∀x y,x<n->y<n->k*scI m (Qn (R x y) (m*k))=R x y:=λx y hx hy=>by
  have hd:((Qn (R x y) (m*k)).den:Int)∣m:=hm _ (X4.mpr ⟨x,Qt.mpr hx,rfl⟩) _ (X4.mpr ⟨y,Qt.mpr hy,rfl⟩)
  have:=Z3r hd
  have e:((k*scI m (Qn (R x y) (m*k)):Int):Rat)=((R x y:Int):Rat):=by
   have nk:((k:Int):Rat)≠0:=by
    intro z
    have:k=0:=by exact_mod_cast z
    omega
   have nm:((m:Int):Rat)≠0:=by
    intro z
    have:m=0:=by exact_mod_cast z
    omega
   rw[Rat.intCast_mul,this,Rat.divInt_eq_div,Rat.intCast_mul]
   rw[Rat.mul_comm,Rat.mul_assoc]
   exact Rat.div_mul_cancel (λz=>(Rat.mul_eq_zero.mp z).elim nm nk)
  exact_mod_cast e
 have er:Qy ((Zgh n R (m*k)).map λr=>.list (r.map λq=>.int (scI m q)))=J2 n (λi j=>scI m (Qn (R i j) (m*k))):=by
  unfold Zgh J2
  rw[XN]
  refine congrArg Qy (Xw λi _=>?_)
  show Qy _=Zwd _ _
  rw[XN];rfl
 exact⟨m,k,_,e1,er▸e2,m0,k0,rfl,bm,sc⟩
theorem Ziv{n:Nat}{t b:Int}(hb:0<b)(hB:Bt n b)(hn:n≤9000:=by decide):Told J0 [.int t,.int b] (frD (Qn t b)):=by
 obtain⟨z',e⟩:=Zjg (f1:=λx y z=>[some (.fz (.int t)),some (.fz (.int b)),some (.fz (.int x)),some (.fz (.int y)),z]) (f2:=λx y z=>[]) (t:=tV (Zf gNe (Ze 3) (fC (.int 0)))) (u:=Zy (wE (Zf Jl (Ze 2) (Ze 3)) (Yu 4)) (Zy (wE (Ze 3) (Yu 2)) (wE (Ze 4) (Yu 3)))) (λx y z=>Zbu (Z1l Za Zw rfl)) (λx y z hy=>⟨_,Yg (Zq (Yz Za Za hy)) (Yg (Zq Za) (Zq Za))⟩) (b.toNat+1) (t.natAbs:Int) b none (by omega) (by omega) (by omega)
 have eg:(JT (t.natAbs:Int) b:Int)=shr t b:=by
  unfold shr
  rw[if_neg (by omega),BZ,BZ,Int.natAbs_natCast]
 obtain⟨e1,e2⟩:=Z2g (t:=t) (b:=b) (by omega) hB hn _ eg
 exact Z6 rfl<|Zt (Zq (Zeq (Zb Za Zh) (Zsg t)))<|Zt (Zq Za)<|Zt (Zl0 _ e (by intro z;cases z)) (Yv (Zcd (Zb (Z0 Za Za e1) (Zb (Z0 Za Za e2) Zh)) (show 2≤1000 by decide)))
theorem Z90:Zrr (.int 10) (.int 20)=some (.int 100000000000000000000):=rfl
theorem Ybs:Zrr (.int 10) (.int 15)=some (.int 1000000000000000):=rfl
theorem btc{n:Nat}{m:Int}(h1:decide (-(2^n)<m)=true)(h2:decide (m<2^n)=true):Bt n m:=Bt.of_lt (of_decide_eq_true h1) (of_decide_eq_true h2)
noncomputable def Zjf(r:List Int):OT:=.nd (r.map λx=>.fz (.int x))
noncomputable def Dr(n:Nat)(base:Int)(L:List (List Int)):Prop:=L.length=n∧∀r∈L,r.length=n∧∀x∈r,-base<x∧x<base
theorem Dr.put{n:Nat}{base v:Int}{L:List (List Int)}(h:Dr n base L)(h0:-base<v)(h1:v<base)(a b:Nat):Dr n base (L.set a ((L.getD a []).set b v)):=by
 refine⟨by rw[Qv];exact h.1,λr hr=>?_⟩
 rcases Um hr with hr|rfl
 ·exact h.2 r hr
 ·by_cases c:a<L.length
  ·have m:L.getD a []∈L:=by rw[Xd,Xh c];exact Bc c
   obtain⟨h3,h4⟩:=h.2 _ m
   refine⟨by rw[Qv];exact h3,λx hx=>?_⟩
   rcases Um hx with hx|rfl
   ·exact h4 x hx
   ·exact⟨h0,h1⟩
  ·rw[Uy (by omega)]at hr
   exact h.2 _ hr
theorem Znw{i:Nat}{e j j2:FE}{δ:Zg}{d:Int}{L:List (List Int)}{a b:Nat}(he:EvV e δ (.int d))(hi:δ[i]? =some (some (.nd (L.map Zjf))))(hj:EvV j δ (.int a))(ha:a<L.length)(hk:EvV j2 δ (.int b))(hb:b<(L.getD a []).length) :
  Zmx i e j j2 δ= .nx (δ.set i (some (.nd ((L.set a ((L.getD a []).set b d)).map Zjf)))):=by
 have e1:(L.map Zjf)[a]? =some (.nd ((L.getD a []).map λx=>.fz (.int x))):=by
  rw[Xy,Xh ha,Xd,Xh ha];rfl
 obtain⟨_,e2,d2⟩:=he
 obtain⟨_,e3,d3⟩:=hj
 obtain⟨_,e4,d4⟩:=hk
 unfold Zmx
 rw[Ze9,e2,Yo,hi]
 dsimp only
 rw[Ze9,e3,Yo,d3]
 dsimp only
 rw[Zrk (by rw[Xi];exact ha)]
 dsimp only
 rw[e1]
 dsimp only
 rw[Ze9,e4,Yo,d4]
 dsimp only
 rw[Zrk (by rw[Xi];exact hb)]
 dsimp only
 rw[d2]
 refine congrArg RS.nx (congrArg (δ.set i) (congrArg some (congrArg OT.nd ?_)))
 rw[List.map_set]
 refine congrArg _ ?_
 show _=OT.nd _
 rw[List.map_set]
noncomputable def fnL(L:List (List Int))(i j:Nat):Int:=(L.getD i []).getD j 0
theorem Zmo{L:List (List Int)}{a b:Nat}{v:Int}(ha:a<L.length)(hb:b<(L.getD a []).length)(x y:Nat):fnL (L.set a ((L.getD a []).set b v)) x y=if x=a∧y=b then v else fnL L x y:=by
 unfold fnL
 rw[Xd (l:=L.set a _),List.getElem?_set]
 by_cases c:a=x
 ·subst c
  rw[if_pos rfl,if_pos ha]
  show(((L.getD a []).set b v).getD y 0)=_
  rw[Xd,List.getElem?_set]
  by_cases e:b=y
  ·subst e
   rw[if_pos rfl,if_pos hb,if_pos ⟨rfl,rfl⟩];rfl
  ·rw[if_neg e,if_neg λz=>e z.2.symm,←Xd]
 ·rw[if_neg c,if_neg λz=>c z.1.symm,←Xd]
noncomputable def Sy(n:Nat)(L:List (List Int)):Prop:=∀i j,i<n->j<n->fnL L i j=fnL L j i∧fnL L i i=0
theorem Zuv(ns:List Int)(n:Nat)(hn:n≤10){base:Int}(hb:0<base)(c:Int):∃L,Told Wh [Zj ns,.int 4,.int n,.int base,.int c] (OT.nd (L.map Zjf)).data∧Dr n base L∧Sy n L:=by
 have e0:∀{δ:Zg},δ[2]? =some (some (.fz (.int n)))->blk 1 [2] δ=[none,some (.fz (.int n))]->(Wb 1 [2] (iRa (Zc (Ze 2) Zn)) (gNm 0) Ze3 (Zuu (fC (.int 0)) (Ze 1))) δ=some (.nd ((Xz n).map λ_=>Zjf (Xr n 0)),δ):=λh2 hb=>Zi2 (cs:=[some (.fz (.int n))]) (Xz n) (λi:Nat=>Xj (0+(i:Int))) (λ_=>Zjf (Xr n 0)) (Zff (Zb (Za h2) Zh) (by omega)) (by rw[Qk,X5];omega) hb λx _=>by
  unfold Zjf
  rw[Ua]
  exact Zxz (by omega)
 have len:∀{L:List (List Int)} (k:Nat),Dr n base L->k<n->(L.getD k []).length=n:=fun{L} k h hk=>by
  refine(h.2 _ ?_).1
  rw[Xd,Xh (by rw[h.1];exact hk)]
  exact Bc _
 have key:∃d,Told Wh [Zj ns,(.int 4),.int n,.int base,.int c] d∧∃L,d=(OT.nd (L.map Zjf)).data∧Dr n base L∧Sy n L:=by
  refine Znv rfl<|Zay (Zct (e0 rfl rfl))<|Zgy (ds:=Zch 0 n) (λi δ=>∃(L:List (List Int)) (z1 z2 z3 z4:Option OT),δ=[some (.fz (Zj ns)),some (.fz (.int 4)),some (.fz (.int n)),some (.fz (.int base)),some (.fz (.int c)),some (.nd (L.map Zjf)),z1,z2,z3,z4]∧Dr n base L∧Sy n L) (Zff (Zb Za Zh) (by omega)) ⟨(Xz n).map λ_=>Xr n 0,none,none,none,none,by rw[XN];rfl,⟨by rw[Xi,Qk],λr hr=>by
   obtain⟨_,_,rfl⟩:=X4.mp hr
   exact⟨Bo,λx hx=>by rw[List.eq_of_mem_replicate hx];omega⟩⟩,λi j hi hj=>by
   have z:∀i j,i<n->j<n->fnL ((Xz n).map λ_=>Xr n 0) i j=0:=λi j hi hj=>by
    unfold fnL
    rw[Xd (l:=List.map _ _),Xy,Bk hi]
    show(Xr n (0:Int)).getD j 0=0
    rw[Xd,BP,if_pos hj];rfl
   exact⟨by rw[z i j hi hj,z j i hj hi],z i i hi hi⟩⟩ (λi d δ hd q=>?_) λδ' q=>by obtain⟨L,z1,z2,z3,z4,rfl,hL,sy⟩:=q;exact Z6k rfl ⟨L,rfl,hL,sy⟩
  obtain⟨L,z1,z2,z3,z4,rfl,hL,sy⟩:=q
  obtain⟨hi,rfl⟩:=W6 hd
  rw[JS]
  refine Zpc (ds:=Zch 0 i) (λj δ=>∃(L:List (List Int)) (z2 z3 z4:Option OT),δ=[some (.fz (Zj ns)),some (.fz (.int 4)),some (.fz (.int n)),some (.fz (.int base)),some (.fz (.int c)),some (.nd (L.map Zjf)),some (.fz (.int i)),z2,z3,z4]∧Dr n base L∧Sy n L) rfl (Zff (Zb Za Zh) (by omega)) ⟨L,z2,z3,z4,rfl,hL,sy⟩ (λj d δ hd q=>?_) λδ' q=>by obtain⟨L,z2,z3,z4,e,hL,sy⟩:=q;exact⟨L,_,_,_,_,e,hL,sy⟩
  ·obtain⟨L,z2,z3,z4,rfl,hL,sy⟩:=q
   obtain⟨hj,rfl⟩:=W6 hd
   rw[JS]
   obtain⟨at',hat,a0⟩:∃k,((i:Int)*((i:Int)-1)).fdiv 2+(j:Int)=k∧0≤k:=by
    refine⟨_,rfl,?_⟩
    have hsm:0≤(i:Int)*((i:Int)-1):=Int.mul_nonneg (by omega) (by omega)
    rw[Wr (by decide)]
    omega
   obtain⟨v,ev⟩:=Zmr c (90+at')
   have w1:∀{δ:Zg},δ[6]? =some (some (.fz (.int i)))->δ[7]? =some (some (.fz (.int j)))->EvV (Zf Js (Zf Y4 (Zf Zhv (Ze 6) (Zf gSb (Ze 6) (fC (.int 1)))) (fC (.int 2))) (Ze 7)) δ (.int at'):=λh6 h7=>hat▸Z7 (Jz (Zbr (Za h6) (Zb6 (Za h6) Zw) (by omega)) Zw) (Za h7)
   have w3:∀{δ:Zg},δ[0]? =some (some (.fz (Zj ns)))->δ[1]? =some (some (.fz (.int 4)))->δ[8]? =some (some (.fz (.int at')))->δ[9]? =some (some (.fz (.int v)))->∃w,Jp (tV (Zf gLt (Zf Js (Ze 1) (Ze 8)) (Zbg Za1 (Zc (Ze 0) Zn)))) (wE (Yn gIx (Ze 0) (Zf Js (Ze 1) (Ze 8))) (Yu 9)) fNx δ= .nx (δ.set 9 (some (.fz (.int w)))):=fun{δ} h0 h1 h8 h9=>by
    by_cases q:4+at'<ns.length
    ·exact⟨_,W8 (Zbu (Zee (Z7 (Za h1) (Za h8)) (Yw (Za h0)) (decide_eq_true q))) (Zq (Wy (Za h0) (Z7 (Za h1) (Za h8)) (by omega) q))⟩
    ·exact⟨v,(Z5 (Zbu (Zee (Z7 (Za h1) (Za h8)) (Yw (Za h0)) (decide_eq_false q))) rfl).trans (congrArg RS.nx (Zw3 h9).symm)⟩
   obtain⟨w,e3⟩:=w3 (δ:=[some (.fz (Zj ns)),some (.fz (.int 4)),some (.fz (.int n)),some (.fz (.int base)),some (.fz (.int c)),some (.nd (L.map Zjf)),some (.fz (.int i)),some (.fz (.int j)),some (.fz (.int at')),some (.fz (.int v))]) rfl rfl rfl rfl
   have w0:0≤w.fmod base:=J3 hb
   have w1':w.fmod base<base:=Zas hb
   have w0:-base<w.fmod base:=by omega
   have D1:=hL.put w0 w1' i j
   exact⟨_,_,rfl,.inl (Yg (Zq (w1 rfl rfl))<|Yg (Zq (Zo (Zb Za (Zb (Z7 Zw Za) Zh)) ev))<|Yg e3<|
    Yg (Znw (L:=L) (a:=i) (b:=j) (Yz Za Za (by omega)) rfl Za (by rw[hL.1];exact hi) Za (by rw[len i hL hi];omega)) (Znw (L:=L.set i ((L.getD i []).set j (w.fmod base))) (a:=j) (b:=i) (Yz Za Za (by omega)) rfl Za (by rw[D1.1];omega) Za (by rw[len j D1 (by omega)];omega))),_,_,_,_,rfl,D1.put w0 w1' j i,λx y hx hy=>by
     have f2:=Zmo (L:=L.set i ((L.getD i []).set j (w.fmod base))) (a:=j) (b:=i) (v:=w.fmod base) (by rw[D1.1];omega) (by rw[len j D1 (by omega)];exact hi)
     have f1:=Zmo (L:=L) (a:=i) (b:=j) (v:=w.fmod base) (by rw[hL.1];exact hi) (by rw[len i hL hi];omega)
     rw[f2,f2,f2,f1,f1,f1]
     obtain⟨s1,s2⟩:=sy x y hx hy
     refine⟨?_,by rw[if_neg (by omega),if_neg (by omega)];exact s2⟩
     by_cases c1:x=j∧y=i
     ·rw[if_pos c1,if_neg (by omega),if_pos ⟨c1.2,c1.1⟩]
     ·rw[if_neg c1]
      by_cases c2:x=i∧y=j
      ·rw[if_pos c2,if_pos ⟨c2.2,c2.1⟩]
      ·rw[if_neg c2,if_neg (by omega),if_neg (by omega)];exact s1⟩
 obtain⟨d,h,L,rfl,hL,sy⟩:=key
 exact⟨L,h,hL,sy⟩
noncomputable def Zme(p:List Int)(lo hi:Option Int):List Int:=(p.drop (HT.sIx p.length 0 lo)).take (HT.sIx p.length p.length hi-HT.sIx p.length 0 lo)
theorem Zw2(p:List Int)(lo hi:Option Int):cutD (p.map Xj) lo hi=(Zme p lo hi).map Xj:=by
 unfold cutD Zme
 rw[Xi,List.map_take,List.map_drop]
theorem Zje{p:List Int}{k:Nat}(h:k≤p.length):Zme p none (some (k:Int))=p.take k:=by
 unfold Zme
 rw[HT.sIx_none,HT.sIx_nat,Vv,Nat.sub_zero,Nat.min_eq_left h]
theorem Zgw{p:List Int}{k:Nat}(h:k≤p.length):Zme p (some (k:Int)) none=p.drop k:=by
 unfold Zme
 rw[HT.sIx_none,HT.sIx_nat,Nat.min_eq_left h,List.take_of_length_le (by rw[Qq];omega)]
theorem Zeg{p:List Int}:Zme p none (some (-1))=p.dropLast:=by
 unfold Zme
 rw[HT.sIx_none,Vv,Nat.sub_zero,List.dropLast_eq_take]
 refine congrArg (λk=>p.take k) ?_
 show(if(-1:Int)<0 then((-1:Int)+(p.length:Int)).toNat else min (-1:Int).toNat p.length)=_
 rw[if_pos (by decide)]
 omega
theorem Z0o{p:List Int}(h:2≤p.length):Zme p (some 1) (some 2)=[p.getD 1 0]:=by
 have e1:HT.sIx p.length 0 (some 1)=1:=by
  show(if(1:Int)<0 then((1:Int)+(p.length:Int)).toNat else min (1:Int).toNat p.length)=1
  rw[if_neg (by decide)]
  show min 1 p.length=1
  omega
 have e2:HT.sIx p.length p.length (some 2)=2:=by
  show(if(2:Int)<0 then((2:Int)+(p.length:Int)).toNat else min (2:Int).toNat p.length)=2
  rw[if_neg (by decide)]
  show min 2 p.length=2
  omega
 unfold Zme
 rw[e1,e2]
 match p,h with
 | a :: b :: r,_=>rfl
theorem Zv5(e:FE)(lo hi st:FO)(δ:Zg):Zq6 e lo hi st δ=(e δ).bind λp=>(lo p.2).bind λq=>(hi q.2).bind λr=>(st r.2).bind λt=>(stepOf p.1.data q.1 r.1 t.1).bind λo=>some (o,t.2):=rfl
theorem Zuj(p:List Int):stepOf (Zj p) none (some 0) (some (-1))=some (.nd ((((p.drop 1).reverse).map Xj).map OT.fz)):=by
 unfold Zj
 rw[Zm3,show((p.map Xj).drop 1).reverse=((p.drop 1).reverse).map Xj by rw[List.map_reverse,List.map_drop]]
noncomputable def Pm(n:Nat)(p:List Int):Prop:=p.Perm (Jb n)
theorem Zfw{n:Nat}{x:Int}:x∈Jb n↔0≤x∧x<n:=by
 unfold Jb
 rw[Qs,X4]
 constructor
 ·rintro⟨i,hi,rfl⟩
  have:=Qt.mp hi
  omega
 ·rintro⟨h0,h1⟩
  exact⟨x.toNat,Qt.mpr (by omega),by omega⟩
theorem Zkn(n:Nat):(Jb n).Nodup:=by
 unfold Jb
 rw[Qs]
 exact List.pairwise_map.mpr (List.nodup_range.imp λh e=>h (by omega))
theorem Zi5(n:Nat):(Jb n).Pairwise (·≤·):=by
 unfold Jb
 rw[Qs,List.pairwise_map]
 exact List.pairwise_lt_range.imp λh=>by omega
theorem Zfd(n:Nat):(Jb n).length=n:=by unfold Jb;simp
theorem Pm.len{n:Nat}{p:List Int}(h:Pm n p):p.length=n:=by rw[h.length_eq,Zfd]
theorem Pm.nodup{n:Nat}{p:List Int}(h:Pm n p):p.Nodup:=h.nodup_iff.mpr (Zkn n)
theorem getD_mem{p:List Int}{i:Nat}(h:i<p.length):p.getD i 0∈p:=by
 rw[Xd,Xh h];exact Bc h
theorem Pm.inR{n:Nat}{p:List Int}(h:Pm n p):InR n p:=⟨h.len,λi hi=>Zfw.mp (h.mem_iff.mp (getD_mem (by rw[h.len];exact hi)))⟩
theorem Pm.ne{n:Nat}{p:List Int}(h:Pm n p){i j:Nat}(hi:i<n)(hj:j<n)(e:p.getD i 0=p.getD j 0):i=j:=by
 have hl:=h.len
 rw[Xd,Xd,Xh (by omega),Xh (by omega)]at e
 have nd:=List.pairwise_iff_getElem.mp h.nodup
 rcases Nat.lt_trichotomy i j with c|c|c
 ·exact(nd i j (by omega) (by omega) c e).elim
 ·exact c
 ·exact(nd j i (by omega) (by omega) c e.symm).elim
theorem Pm.ringB{n:Nat}{p:List Int}(h:Pm n p)(h3:3≤n)(h0:p.getD 0 0=0)(h1:p.getD 1 0<p.getD (n-1) 0):ringB n p=true:=by
 unfold My.ringB
 rw[decide_eq_true (show(3:Int)≤n by omega),decide_eq_true (Zbt ((W9 p).trans h) (Zcy p) (Zi5 n)),decide_eq_true h0,h.len,decide_eq_true h1]
 rfl
theorem Zp8{n:Nat}{p:List Int}(h:ringB n p=true):Pm n p∧3≤n∧p.getD 0 0=0∧p.getD 1 0<p.getD (p.length-1) 0:=by
 unfold ringB at h
 simp only[Xx,decide_eq_true_eq]at h
 obtain⟨h1,h2,h3,h4⟩:=h
 exact⟨by unfold Pm;rw[←h2];exact(W9 p).symm,by omega,h3,h4⟩
theorem Zgp{n:Nat}{p:List Int}(h:Pm n p->p.getD 0 0=0->p.getD 1 0<p.getD (p.length-1) 0->False):ringB n p=false:=by
 cases e:ringB n p with
 | false=>rfl
 | true=>
  obtain⟨a,_,b,c⟩:=Zp8 e
  exact(h a b c).elim
theorem Zwi{a b:FE}{δ:Zg}{p:List Int}{k:Int}(ha:a δ=some (.fz (Zj p),δ))(hp:p.length≤1000)(hb:b δ=some (.fz (.int k),δ))(hk:k∈p):Zl1 a b δ=some (.fz (.int (p.idxOf k:Nat)),δ):=by
 unfold Zl1
 rw[ha,Xc,OT.data_fz]
 unfold Zj
 dsimp only
 rw[Zex,Xc,if_pos (by omega),hb,Xc,OT.data_fz]
 dsimp only
 rw[if_pos hk]
noncomputable def flip(w:List Int):List Int:=w.take 1 ++ (w.drop 1).reverse
theorem Zlz(a:Int)(t:List Int):flip (a :: t)=a :: t.reverse:=rfl
theorem Ztg(w:List Int):(flip w).Perm w:=by
 cases w with
 | nil=>exact .nil
 | cons a t=>rw[Zlz];exact(List.reverse_perm t).cons a
theorem Zo6{w:List Int}(h:2≤w.length):(flip w).getD 0 0=w.getD 0 0∧(flip w).getD 1 0=w.getD (w.length-1) 0∧(flip w).getD (w.length-1) 0=w.getD 1 0:=by
 match w,h with
 | a :: b :: t,_=>
  rw[Zlz]
  simp only[Xd,Bb]
  refine⟨rfl,?_,?_⟩
  ·rw[Vq,List.getElem?_reverse (by simp)]
   simp only[Bb,Nat.add_sub_cancel,Nat.sub_zero]
   rw[Vq (l:=b :: t)]
  ·rw[show t.length+1+1-1=t.length+1 by omega,Vq,List.getElem?_reverse (by simp)]
   simp
theorem Zcg{e:FE}{δ:Zg}{r p:List Int}{lo hi:FO}{l h:Option Int}(he:EvV e δ (Zj r))(hl:EvO lo δ l)(hh:EvO hi δ h)(hp:Zme r l h=p):EvV (fSl e lo hi) δ (Zj p):=hp▸(Zzq (ds:=r.map Xj) he hl hh).cast (by rw[Zw2];rfl)
theorem Zb7{a b:FE}{δ:Zg}{p q:List Int}(ha:EvV a δ (Zj p))(hb:EvV b δ (Zj q))(h:p.length≤1000)(k:q.length≤1000):EvV (Yn Ze5 a b) δ (Zj (p ++ q)):=(Zq8 (ds:=p.map Xj) (es:=q.map Xj) ha hb (by rw[Xi,Xi];omega)).cast (by rw[←QF];rfl)
theorem Zha{e:FE}{δ:Zg}{x:Int}(h:EvV e δ (.int x)):EvV (Zbm (Zc e Zn)) δ (Zj [x]):=Zae (Zb h Zh) (show 1≤1000 by decide)
theorem Z2q{δ:Zg}:EvV (Zbm Zn) δ (Zj []):=Zae Zh (show 0≤1000 by decide)
theorem Zru{e:FE}{δ:Zg}{r:List Int}{hi st:FO}(he:EvV e δ (Zj r))(hh:EvO hi δ (some 0))(hs:EvO st δ (some (-1))):EvV (Zq6 e oN hi st) δ (Zj ((r.drop 1).reverse)):=by
 obtain⟨t,e1,d1⟩:=he
 unfold EvO at hh hs
 exact⟨_,by rw[Zv5,e1,Xc,Z77,Xc,hh,Xc,hs,Xc,d1,Zuj,Xc],Zfv _⟩
theorem Z5r{e:FE}{δ:Zg}{p:List Int}{i:Nat}{bs:List (List Int)}(he:EvV e δ (Zj p))(hi:δ[i]? =some (some (.nd ((bs.map Zj).map OT.fz))))(hl:bs.length≤1000):Wq i e δ= .nx (δ.set i (some (.nd (((bs ++ [p]).map Zj).map OT.fz)))):=by
 rw[Ztm he hi (by rw[Xi,Xi];omega),QF,QF];rfl
theorem Zk8{n:Nat}{p:List Int}(h:Pm n p)(h3:3≤n)(hn:n≤10):∃r,Told Ww [Zj p] (Zj r)∧Pm n r∧r.getD 0 0=0∧r.getD 1 0<r.getD (n-1) 0:=by
 have hl:=h.len
 have m0:(0:Int)∈p:=h.mem_iff.mpr (Zfw.mpr (by omega))
 have hk:p.idxOf 0<p.length:=List.idxOf_lt_length_of_mem m0
 obtain⟨k,ek⟩:∃k,p.idxOf 0=k:=⟨_,rfl⟩
 obtain⟨w,ew⟩:∃w,p.drop k ++ p.take k=w:=⟨_,rfl⟩
 have hw:Pm n w:=by
  unfold Pm
  rw[←ew]
  refine(List.perm_append_comm.trans ?_).trans h
  rw[List.take_append_drop]
 have wl:=hw.len
 have w0:w.getD 0 0=0:=by
  rw[←ew,Xd,JW (by rw[Qq];omega),Vp,Nat.add_zero,Xh (by omega)]
  subst ek
  exact List.getElem_idxOf hk
 have e1:∀{δ:Zg},δ[0]? =some (some (.fz (Zj p)))->EvV (Zl1 (Ze 0) (fC (.int 0))) δ (.int k):=λh0=>⟨_,by rw[Zwi (p:=p) (k:=0) (by rw[Zg8,h0,Zg6]) (by omega) rfl m0,ek],OT.data_fz _⟩
 have e2:∀{δ:Zg},δ[0]? =some (some (.fz (Zj p)))->δ[1]? =some (some (.fz (.int k)))->EvV (Yn Ze5 (fSl (Ze 0) (oI (Ze 1)) oN) (fSl (Ze 0) oN (oI (Ze 1)))) δ (Zj w):=λh0 h1=>ew▸Zb7 (Zcg (Za h0) (Zqi (Za h1)) Zmw (Zgw (by omega))) (Zcg (Za h0) Zmw (Zqi (Za h1)) (Zje (by omega))) (by rw[Qq];omega) (by rw[QG];omega)
 have e3:∀{δ:Zg} {b:Bool},decide (w.getD (n-1) 0<w.getD 1 0)=b->δ[2]? =some (some (.fz (Zj w)))->EvT (tAn (tV (Zf gGt (Zbg Za1 (Zc (Ze 2) Zn)) (fC (.int 2)))) (tV (Zf gGt (Yn gIx (Ze 2) (fC (.int 1))) (Yn gIx (Ze 2) (fUn Ze2 (fC (.int 1))))))) δ b:=λhb h2=>Z3u (Zbu (Zm4 (Yw (Za h2)) Zw (decide_eq_true (by omega)))) (Zbu (Zm4 (Wy (Za h2) Zw (by decide) (by omega)) (Zah (Za h2) (Zly Zw) (Zpa (by omega))) (by rw[wl];exact hb)))
 by_cases c:w.getD (n-1) 0<w.getD 1 0
 ·obtain⟨g0,g1,g2⟩:=Zo6 (w:=w) (by omega)
  rw[wl]at g1 g2
  exact⟨flip w,Z6 rfl<|Zt (Zq (e1 rfl))<|Zt (Zq (e2 rfl rfl))<|Zt (W8 (e3 (decide_eq_true c) rfl) (Zq (Zb7 (Zcg Za Zmw (Zqi Zw) (Zje (k:=1) (by omega))) (Zru Za rfl rfl) (by rw[QG];omega) (by rw[List.length_reverse,Qq];omega)))) (Yv Za),(Ztg w).trans hw,by rw[g0,w0],by rw[g1,g2];exact c⟩
 ·refine⟨w,Z6 rfl<|Zt (Zq (e1 rfl))<|Zt (Zq (e2 rfl rfl))<|Zt (Z5 (e3 (decide_eq_false c) rfl) rfl) (Yv Za),hw,w0,?_⟩
  have:w.getD 1 0≠w.getD (n-1) 0:=λe=>by
   have:=hw.ne (by omega) (by omega) e
   omega
  omega
theorem Zkw{α β:Type}(f:α->β):∀(l:List α) (j:Nat),(l.map f).eraseIdx j=(l.eraseIdx j).map f
 | [],_=>rfl
 | _ :: _,0=>rfl
 | a :: l,j+1=>by
  show f a :: (l.map f).eraseIdx j=f a :: (l.eraseIdx j).map f
  rw[Zkw f l j]
theorem Zih:∀(l:List Int) (j:Nat),j<l.length->(l.getD j 0 :: l.eraseIdx j).Perm l
 | [],_,h=>by simp at h
 | a :: l,0,_=>.refl _
 | a :: l,j+1,h=>by
  have:=Zih l j (by simpa using h)
  show(l.getD j 0 :: a :: l.eraseIdx j).Perm (a :: l)
  exact(List.Perm.swap _ _ _).trans (this.cons a)
theorem Z3x{i:Nat}{a:FE}{δ:Zg}{l:List Int}{j:Nat}(hi:δ[i]? =some (some (.nd (l.map λx=>.fz (.int x)))))(ha:a δ=some (.fz (.int j),δ))(hj:j<l.length)(hl:l.length≤1000) :
  Z3v i a δ=some (.fz (.int (l.getD j 0)),δ.set i (some (.nd ((l.eraseIdx j).map λx=>.fz (.int x))))):=by
 have e1:(l.map λx=>OT.fz (.int x))[j]? =some (.fz (.int (l.getD j 0))):=by
  rw[Xy,Xd,Xh hj];rfl
 unfold Z3v
 rw[hi]
 dsimp only
 rw[ha,Xc]
 dsimp only
 rw[hi]
 dsimp only
 rw[OT.data_fz]
 dsimp only
 rw[Zrk (by rw[Xi];exact hj)]
 dsimp only
 rw[e1]
 dsimp only
 rw[if_pos (by rw[Xi,X5];omega)]
 refine congrArg some (congrArg (Prod.mk _) (congrArg (δ.set i) (congrArg some (congrArg OT.nd ?_))))
 rw[Zkw]
theorem Zm6(c:Int){n:Nat}(h3:3≤n)(hn:n≤10):∃r,Told Je [.int c,.int n] (Zj r)∧Pm n r∧r.getD 0 0=0∧r.getD 1 0<r.getD (n-1) 0:=by
 obtain⟨vs,e0,hv⟩:=Zpi c n (by omega)
 have e1:∀{δ:Zg},δ[1]? =some (some (.fz (.int n)))->(Zxs (Zc (Ze 1) Zn)) δ=some (.nd ((Jb n).map λx=>OT.fz (.int x)),δ):=λh1=>by
  rw[Zr7,Zgf,Zg8,h1,Zg6,Xc,Zuo,Xc,Xc,Zdk,Ze0,OT.data_fz,Zyz,if_pos ⟨Zgu (by omega) (by omega),by rw[X5];omega⟩]
  refine congrArg some (congrArg (λt=>(t,_)) (congrArg OT.nd ?_))
  unfold Zch Jb
  rw[XN,XN]
  refine Xw λi _=>?_
  show OT.fz (.int (0+(i:Int)))=OT.fz (.int (i:Int))
  rw[JS]
 have key:∃d,Told Je [.int c,.int n] d∧∃r,d=Zj r∧Pm n r∧r.getD 0 0=0∧r.getD 1 0<r.getD (n-1) 0:=by
  refine Znv rfl<|Zay (Zq (Zo (Zb Za (Zb Za Zh)) e0))<|Zay (Zct (e1 rfl))<|Zay Ziz<|Zgy (ds:=Zch 0 n) (λi δ=>∃(l r:List Int) (z:Option OT),δ=[some (.fz (.int c)),some (.fz (.int n)),some (.fz (Zj vs)),some (.nd (l.map λx=>.fz (.int x))),some (.nd (r.map λx=>.fz (.int x))),z]∧(r ++ l).Perm (Jb n)∧r.length=i) (Zff (Zb Za Zh) (by omega)) ⟨Jb n,[],none,rfl,.refl _,rfl⟩ (λi d δ hd q=>?_) λδ' q=>?_
  ·obtain⟨l,r,z,rfl,hp,hr⟩:=q
   obtain⟨hi,rfl⟩:=W6 hd
   rw[JS]
   have hl:=hp.length_eq
   rw[XX,Zfd]at hl
   obtain⟨j,ej,hj⟩:=Zet (vs.getD i 0) (n:=l.length) (by omega)
   have ep:EvV (Zf Jl (Yn gIx (Ze 2) (Ze 5)) (Zbg Za1 (Zc (Zf1 3) Zn))) [some (.fz (.int c)),some (.fz (.int n)),some (.fz (Zj vs)),some (.nd (l.map λx=>.fz (.int x))),some (.nd (r.map λx=>.fz (.int x))),some (.fz (.int i))] (.int j):=EvV.cast (Yz (j:=l.length) (Wy (p:=vs) (i:=(i:Int)) Za Za (by omega) (by omega)) (Yw (Zil rfl (Zel l))) (by omega)) (congrArg _ ej)
   obtain⟨t,e2,d2⟩:=ep
   rw[Zoi d2]at e2
   refine⟨_,_,rfl,.inl (Zuh (vs:=r) (Z3x (l:=l) (j:=j) rfl e2 hj (by omega)) rfl rfl (by omega)),l.eraseIdx j,r ++ [l.getD j 0],some (.fz (.int i)),rfl,?_,by rw[XX,hr];rfl⟩
   rw[Q8]
   exact(List.Perm.append_left r (Zih l j hj)).trans hp
  ·obtain⟨l,r,z,rfl,hp,hr⟩:=q
   rw[Wo]at hr
   have hl:=hp.length_eq
   rw[XX,Zfd]at hl
   have hl:l=[]:=List.length_eq_zero_iff.mp (by omega)
   subst hl
   rw[Qw]at hp
   obtain⟨q,e1,h1⟩:=Zk8 hp h3 hn
   exact Zsc rfl (Ztv (Zo (Zb (Za (d:=Zj r) (by rw[Zel];rfl)) Zh) e1) ⟨q,rfl,h1⟩)
 obtain⟨d,h,r,rfl,hr⟩:=key
 exact⟨r,h,hr⟩
noncomputable def sm(f:Nat->Int):Nat->Int
 | 0=>0
 | n+1=>sm f n+f n
noncomputable def twP(n:Nat)(D:Nat->Nat->Int)(a c:Nat):Int:=D a c+D (a+1) ((c+1)%n)-D a ((c+1)%n)-D (a+1) c
noncomputable def inS(a c x:Nat):Bool:=decide (a<x)&&decide (x≤c)
noncomputable def Z6n(a c u v:Nat):Bool:=inS a c u !=inS a c v
theorem Zfg{a c x:Nat}:inS a c x=true↔a<x∧x≤c:=by
 unfold inS
 rw[Xx,decide_eq_true_eq,decide_eq_true_eq]
theorem Zys{a c x:Nat}(h:¬(a<x∧x≤c)):inS a c x=false:=by
 cases e:inS a c x with
 | true=>exact absurd (Zfg.mp e) h
 | false=>rfl
theorem Zo4{a c x y:Nat}(h:(a<x∧x≤c)↔(a<y∧y≤c)):inS a c x=inS a c y:=by
 rw[Bool.eq_iff_iff,Zfg,Zfg];exact h
noncomputable def cd(w:Int)(a c i j:Nat):Int:=w*(if Z6n a c i j=true then 1 else 0)
theorem Zi7{w:Int}{a c x y:Nat}(h:inS a c x=inS a c y)(j:Nat):cd w a c x j=cd w a c y j∧cd w a c j x=cd w a c j y:=by
 unfold cd Z6n
 rw[h];exact⟨rfl,rfl⟩
theorem Zor{w:Int}{a c i j:Nat}{p q:Bool}(h1:inS a c i=p)(h2:inS a c j=q):cd w a c i j=if(p !=q)=true then w else 0:=by
 unfold cd Z6n
 rw[h1,h2]
 cases(p !=q)
 ·rw[if_neg Xp,if_neg Xp];omega
 ·rw[if_pos rfl,if_pos rfl];omega
theorem Z3g{n a c x y:Nat}(hac:a<c)(hc:c<n)(hxy:x<y)(hy:y<n)(D:Nat->Nat->Int)(w:Int):twP n (λi j=>D i j+cd w a c i j) x y=twP n D x y+(if x=a∧y=c then 2*w else 0):=by
 obtain⟨z,hz,hz2⟩:∃z,(y+1)%n=z∧(z=y+1∨(z=0∧y+1=n)):=by
  by_cases e:y+1=n
  ·exact⟨0,by rw[e,Nat.mod_self],.inr ⟨rfl,e⟩⟩
  ·exact⟨y+1,Nat.mod_eq_of_lt (by omega),.inl rfl⟩
 unfold twP
 rw[hz]
 dsimp only
 by_cases kx:x=a∨x=c
 ·by_cases ky:y=a∨y=c
  ·have k:x=a∧y=c:=by omega
   obtain⟨rfl,rfl⟩:=k
   have e1:inS x y x=false:=Zys (by omega)
   have e2:inS x y (x+1)=true:=Zfg.mpr (by omega)
   have e3:inS x y y=true:=Zfg.mpr (by omega)
   have e4:inS x y z=false:=Zys (by omega)
   rw[if_pos ⟨rfl,rfl⟩,Zor e1 e3,Zor e2 e4,Zor e1 e4,Zor e2 e3]
   show(D x y+w)+(D (x+1) z+w)-(D x z+0)-(D (x+1) y+0)=_
   omega
  ·rw[if_neg (by omega)]
   have e:inS a c y=inS a c z:=Zo4 (by omega)
   have h1:=(Zi7 (w:=w) e x).2
   have h2:=(Zi7 (w:=w) e (x+1)).2
   omega
 ·rw[if_neg (by omega)]
  have e:inS a c x=inS a c (x+1):=Zo4 (by omega)
  have h1:=(Zi7 (w:=w) e y).1
  have h2:=(Zi7 (w:=w) e z).1
  omega
theorem Zrd{e:FE}{δ:Zg}{i:Nat}{ts rs:List OT}{ds:List Xa}(h:e δ=some (.nd rs,δ))(hd:OT.datas rs=ds)(hi:δ[i]? =some (some (.nd ts)))(hl:ts.length+ds.length≤1000000):Zhd i e δ= .nx (δ.set i (some (.nd (ts ++ ds.map OT.fz)))):=by
 unfold Zhd
 rw[hi]
 dsimp only
 rw[Ze9,h,Yo,hi]
 dsimp only
 have lr:rs.length=ds.length:=by rw[←hd,Zdb]
 rw[if_pos (by rw[X5,lr];omega),hd]
theorem Zyx{α:Type}{caps:List Nat}{it:FI}{me:FE}{cs:Zg}{δ:Zg}(xs:List α)(mk f:α->Xa)(hi:EvI it δ (xs.map mk))(hz:xs.length≤1000000)(hb:blk 1 caps δ=none :: cs)(h:∀x∈xs,EvV me (some (.fz (mk x)) :: cs) (f x)):∃rs,Wb 1 caps it (gNm 0) Ze3 me δ=some (.nd rs,δ)∧OT.datas rs=xs.map f:=by
 obtain⟨t,e1,e2⟩:=Zbv xs mk f hi hz hb h
 cases t with
 | fz d=>
  unfold Wb at e1
  unfold EvI at hi
  rw[hi,Xc]at e1
  split at e1
  ·obtain⟨z,h1,h2⟩:=bs e1
   cases h2
  ·cases e1
 | tp ts=>rw[OT.data_tp]at e2;cases e2
 | dc _ _ _=>rw[OT.data_dc]at e2;cases e2
 | nd rs=>
  rw[OT.data_nd,←datas_map]at e2
  injection e2 with e2
  exact⟨rs,e1,e2⟩
theorem Zm8(n:Nat)(hn:n≤20):Told Yt [.int n] (.list ((Z4 n).map ptD)):=by
 refine Z6 rfl<|Zt Ziz ?_
 refine Zll (ds:=Zch 0 n) (λi δ=>∃z,δ=[some (.fz (.int n)),some (.nd (((Zh2 n i).map ptD).map OT.fz)),z]) (Zff (Zb Za Zh) (by omega)) ⟨none,rfl⟩ (λi d δ hd q=>?_) λδ' q=>?_
 ·obtain⟨z,rfl⟩:=q
  obtain⟨hi,rfl⟩:=W6 hd
  rw[JS]
  have lp:=Zhs n i
  have:i*n≤20*20:=Nat.mul_le_mul (by omega) hn
  obtain⟨rs,e1,e2⟩:=Zyx (δ:=[some (.fz (.int n)),some (.nd (((Zh2 n i).map ptD).map OT.fz)),some (.fz (.int i))]) (caps:=[2]) (cs:=[some (.fz (.int i))]) (me:=Zjx (Zc (Ze 1) (Zc (Ze 0) Zn))) (it:=iRb (Zc (Zf Js (Ze 2) (fC (.int 1))) (Zc (Ze 0) Zn))) (Xz (n-(i+1))) (λj:Nat=>Xj (((i+1:Nat):Int)+(j:Int))) (λj=>ptD (i,i+1+j)) (Z04 (m:=i+1) (Zb ((Z7 Za Zw).cast (by rw[Int.natCast_add];rfl)) (Zb Za Zh)) (by omega) (by omega)) (by rw[Qk];omega) rfl λj _=>(Zcd (Zb Za (Zb Za Zh)) (show 2≤1000 by decide)).cast (by
   show PyData.tuple [.int (i:Int),.int (((i+1:Nat):Int)+(j:Int))]= .tuple [.int (i:Int),.int ((i+1+j:Nat):Int)]
   rw[Int.natCast_add (i+1) j])
  refine⟨_,_,rfl,.inl (Zrd e1 e2 rfl (by rw[Xi,Xi,Xi,Qk];omega)),some (.fz (.int i)),?_⟩
  have em:(Xz (n-(i+1))).map (λj=>ptD (i,i+1+j))=((Xz (n-(i+1))).map λj=>(i,i+1+j)).map ptD:=by rw[XN];rfl
  rw[Zin,QF,QF,em];rfl
 ·obtain⟨z,rfl⟩:=q
  rw[Wo]
  exact Z8c rfl (by rw[OT.data_nd,OT.map_fz];rfl)
theorem Zk0(neg:Bool)(x:Int)(p:List Int):Z06 neg (.int x) (Zj p)=some (.bool (if neg then !decide (x∈p)else decide (x∈p))):=by
 have e:memS (.int x) (p.map Xj)=decide (x∈p):=by
  unfold memS
  rw[List.any_map]
  rw[Bool.eq_iff_iff,List.any_eq_true,decide_eq_true_eq]
  constructor
  ·rintro⟨y,hy,h⟩
   have:(y==x)=true:=h
   rw[←eq_of_beq this];exact hy
  ·intro h
   exact⟨x,h,(show(x==x)=true from beq_self_eq_true x)⟩
 have s:(p.map Xj).all scD=true:=by
  rw[Be]
  intro d hd
  obtain⟨y,_,rfl⟩:=X4.mp hd
  rfl
 show(if(scD (.int x)&&(p.map Xj).all scD)=true then some (PyData.bool (if neg then !memS (.int x) (p.map Xj)else memS (.int x) (p.map Xj)))else none)=_
 rw[s,e];rfl
theorem Zs4(x y:Bool):gNe (.bool x) (.bool y)=some (.bool (x !=y)):=by
 cases x<;>cases y<;>rfl
noncomputable def sd(p:List Int)(q:Nat×Nat):List Int:=(p.drop (q.1+1)).take (q.2-q.1)
theorem Zvm{n:Nat}{p:List Int}(h:Pm n p){u:Nat}(hu:u<n){q:Nat×Nat}(h1:q.1<q.2)(h2:q.2<n):decide (p.getD u 0∈sd p q)=inS q.1 q.2 u:=by
 rw[Bool.eq_iff_iff,decide_eq_true_eq,Zfg]
 have lp:=h.len
 unfold sd
 constructor
 ·intro m
  obtain⟨k,hk⟩:=List.getElem?_of_mem m
  rw[List.getElem?_take]at hk
  split at hk
  ·rw[Vp]at hk
   have hl:=(Xn.mp hk).1
   have e:p.getD (q.1+1+k) 0=p.getD u 0:=by rw[Xd,hk];rfl
   have:=h.ne (by omega) hu e
   omega
  ·cases hk
 ·rintro⟨h3,h4⟩
  refine QV (i:=u-(q.1+1)) ?_
  rw[List.getElem?_take,if_pos (by omega),Vp,show q.1+1+(u-(q.1+1))=u by omega,Xd,Xh (by omega)];rfl
theorem Zsu{p:List Int}{q:Nat×Nat}(h1:q.1<q.2)(h2:q.2<p.length):Zme p (some ((q.1:Int)+1)) (some ((q.2:Int)+1))=sd p q:=by
 have e1:(q.1:Int)+1=((q.1+1:Nat):Int):=by omega
 have e2:(q.2:Int)+1=((q.2+1:Nat):Int):=by omega
 have f:∀k d:Nat,k≤p.length->HT.sIx p.length d (some (k:Int))=k:=λk d hk=>by
  show(if(k:Int)<0 then((k:Int)+(p.length:Int)).toNat else min (k:Int).toNat p.length)=k
  rw[if_neg (by omega)]
  omega
 unfold Zme sd
 rw[e1,e2,f _ _ (by omega),f _ _ (by omega),show q.2+1-(q.1+1)=q.2-q.1 by omega]
theorem list_range{α β:Type}(p:List α)(d:α)(f:α->β):p.map f=(Xz p.length).map λi=>f (p.getD i d):=by
 refine Us λi=>?_
 rw[Xy,Xy]
 by_cases c:i<p.length
 ·rw[Bk c,Xh c]
  simp[Xd,Xh c]
 ·rw[Q0 (by omega),Q0 (by simp;omega)];rfl
theorem Zsd{n:Nat}{base:Int}{L:List (List Int)}(h:Dr n base L):Qy ((L.map Zjf).map OT.data)=J2 n (fnL L)∧∀i j,i<n->j<n->-base<fnL L i j∧fnL L i j<base:=by
 refine⟨?_,λi j hi hj=>?_⟩
 ·unfold J2
  refine congrArg Qy ?_
  rw[XN,list_range L [],h.1]
  refine Xw λi hi=>?_
  have hi:i<n:=by simpa using hi
  have hr:(L.getD i []).length=n:=by
   refine(h.2 _ ?_).1
   rw[Xd,Xh (by rw[h.1];exact hi)]
   exact Bc _
  show(OT.nd _).data=Zwd n _
  rw[OT.data_nd]
  unfold Zwd
  refine congrArg Qy ?_
  rw[XN,list_range (L.getD i []) 0,hr]
  rfl
 ·have m1:L.getD i []∈L:=by
   rw[Xd,Xh (by rw[h.1];exact hi)]
   exact Bc _
  obtain⟨h1,h2⟩:=h.2 _ m1
  exact h2 _ (getD_mem (by omega))
theorem ix3{x y z:Xa}{v:Int}(h0:0≤v)(h1:v<3):∃d,gIx (.list [x,y,z]) (.int v)=some (.fz d)∧(d=x∨d=y∨d=z):=by
 obtain⟨n,rfl⟩:∃n:Nat,v=n:=⟨v.toNat,by omega⟩
 match n with
 | 0=>exact⟨x,rfl,.inl rfl⟩
 | 1=>exact⟨y,rfl,.inr (.inl rfl)⟩
 | 2=>exact⟨z,rfl,.inr (.inr rfl)⟩
 | n+3=>exact absurd h1 (by omega)
theorem ix4{x y z w:Xa}{v:Int}(h0:0≤v)(h1:v<4):∃d,gIx (.list [x,y,z,w]) (.int v)=some (.fz d)∧(d=x∨d=y∨d=z∨d=w):=by
 obtain⟨n,rfl⟩:∃n:Nat,v=n:=⟨v.toNat,by omega⟩
 match n with
 | 0=>exact⟨x,rfl,.inl rfl⟩
 | 1=>exact⟨y,rfl,.inr (.inl rfl)⟩
 | 2=>exact⟨z,rfl,.inr (.inr (.inl rfl))⟩
 | 3=>exact⟨w,rfl,.inr (.inr (.inr rfl))⟩
 | n+4=>exact absurd h1 (by omega)
noncomputable def B20:Int:=100000000000000000000
noncomputable def wtB(cnt:FE):FS:=(Zy (wE (Yn gIx (Zbm (Zc (fC (.int 3)) (Zc (fC (.int 12)) (Zc (Zf Zrr (fC (.int 10)) (fC (.int 20))) Zn)))) (Zf Jl (Ze 3) (fC (.int 3)))) (Yu 4))
  (Zy (wE (Zbm Zn) (Jo 5))
  (Zy (Zcc (iRa (Zc cnt Zn)) (gNm 6)
  (Zy (wE (Zx Yl (Zc (Ze 3) (Zc (Zf Js (fC (.int 50)) (Ze 6)) Zn))) (Yu 7))
  (Zy (Jp (tV (Zf gLt (Zf Js (Ze 1) (Ze 6)) (Zbg Za1 (Zc (Ze 0) Zn))))
  (wE (Yn gIx (Ze 0) (Zf Js (Ze 1) (Ze 6))) (Yu 7))
  fNx)
  (Wq 5 (Zf Jl (Ze 7) (Ze 4))))))
  (Zeu 5))))
theorem Z8i(ns:List Int)(st:Nat)(x c:Int){cnt:FE}{m:Nat}(hm:m≤1000)(hc:∀{δ:Zg},δ[2]? =some (some (.fz (.int x)))->EvV cnt δ (.int m)):∃vs:List Int,Told (Jy 4 8 (wtB cnt)) [Zj ns,.int st,.int x,.int c] (Zj vs)∧vs.length=m∧∀v∈vs,0≤v∧v<B20:=by
 obtain⟨d,e,h⟩:=ix3 (x:=.int 3) (y:=.int 12) (z:=.int B20) (v:=c.fmod 3) (J3 (by decide)) (Zas (by decide))
 obtain⟨b,rfl,b0,b1⟩:∃b:Int,d= .int b∧0<b∧b≤B20:=by
  unfold B20 at h⊢
  rcases h with h|h|h<;>exact⟨_,h,by decide,by decide⟩
 have key:∃d,Told (Jy 4 8 (wtB cnt)) [Zj ns,.int st,.int x,.int c] d∧∃vs:List Int,d=Zj vs∧vs.length=m∧∀v∈vs,0≤v∧v<B20:=by
  refine Znv rfl<|Zay (Zq (Zah (Zae (Zb Zw (Zb Zw (Zb (Z0 Zw Zw Z90) Zh))) (show 3≤1000 by decide)) (Yz Za Zw (by decide)) e))<|Zay Ziz<|Zgy (ds:=Zch 0 m) (λi δ=>∃(vs:List Int) (z6 z7:Option OT),δ=[some (.fz (Zj ns)),some (.fz (.int st)),some (.fz (.int x)),some (.fz (.int c)),some (.fz (.int b)),some (.nd (vs.map λv=>.fz (.int v))),z6,z7]∧vs.length=i∧∀v∈vs,0≤v∧v<B20) (Zff (Zb (hc rfl) Zh) (by omega)) ⟨[],none,none,rfl,rfl,λ_ h=>nomatch h⟩ (λi d δ hd q=>?_) λδ' q=>?_
  ·obtain⟨vs,z6,z7,rfl,hl,hv⟩:=q
   obtain⟨hi,rfl⟩:=W6 hd
   rw[JS]
   obtain⟨v,ev⟩:=Zmr c (50+(i:Int))
   obtain⟨w,e3⟩:∃w,Jp (tV (Zf gLt (Zf Js (Ze 1) (Ze 6)) (Zbg Za1 (Zc (Ze 0) Zn)))) (wE (Yn gIx (Ze 0) (Zf Js (Ze 1) (Ze 6))) (Yu 7)) fNx [some (.fz (Zj ns)),some (.fz (.int st)),some (.fz (.int x)),some (.fz (.int c)),some (.fz (.int b)),some (.nd (vs.map λv=>.fz (.int v))),some (.fz (.int i)),some (.fz (.int v))]= .nx [some (.fz (Zj ns)),some (.fz (.int st)),some (.fz (.int x)),some (.fz (.int c)),some (.fz (.int b)),some (.nd (vs.map λv=>.fz (.int v))),some (.fz (.int i)),some (.fz (.int w))]:=by
    by_cases q:(st:Int)+(i:Int)<ns.length
    ·exact⟨_,W8 (Zbu (Zee (Z7 Za Za) (Yw Za) (decide_eq_true q))) (Zq (Wy Za (Z7 Za Za) (by omega) q))⟩
    ·exact⟨v,Z5 (Zbu (Zee (Z7 Za Za) (Yw Za) (decide_eq_false q))) rfl⟩
   refine⟨_,_,rfl,.inl (Yg (Zq (Zo (Zb Za (Zb (Z7 Zw Za) Zh)) ev))<|Yg e3 (Zj8 (vs:=vs) (Yz Za Za (by omega)) rfl (by omega))),vs ++ [w.fmod b],_,_,rfl,by rw[XX,hl];rfl,λu hu=>?_⟩
   rcases Qz.mp hu with q|q
   ·exact hv u q
   ·rw[XH.mp q]
    exact⟨J3 b0,Int.lt_of_lt_of_le (Zas b0) b1⟩
  ·obtain⟨vs,z6,z7,rfl,hl,hv⟩:=q
   rw[Wo]at hl
   exact Z6k rfl ⟨vs,Zel vs,hl,hv⟩
 obtain⟨d,h,vs,rfl,r⟩:=key
 exact⟨vs,h,r⟩
theorem Zgm(ns:List Int)(st n:Nat)(c:Int)(hn:n≤10):∃vs:List Int,Told Wf [Zj ns,.int st,.int n,.int c] (Zj vs)∧vs.length=n*(n-1)/2∧∀v∈vs,0≤v∧v<B20:=by
 refine Z8i ns st n c (m:=n*(n-1)/2) ?_ λh=>(Jz (Zbr (Za h) (Zb6 (Za h) Zw) (by omega)) Zw).cast (congrArg Xj ?_)
 ·have:n*(n-1)≤10*10:=Nat.mul_le_mul hn (by omega)
  omega
 ·cases n with
  | zero=>rfl
  | succ k=>
   rw[Wr (by decide),show((k+1:Nat):Int)-1=(k:Int) by omega,←Int.natCast_mul]
   rfl
theorem Zr8{np n:Nat}{S:FS}{xs:List Xa}{o:OT}{δ':Zg}(hl:xs.length=np)(k:S (Zes n xs)= .rt o δ'):Jy np n S xs= .ok o:=by rw[Zjd hl,k,Zth]
theorem Z02{δ:Zg}{i:Nat}{o:OT}(h:δ[i]? =some (some o)):Zeu i δ= .rt o (δ.set i none):=by rw[Zo0,h,Zz5]
noncomputable def B25:Int:=10000000000000000000000000
noncomputable def sep(s:List Int)(x y:Nat):Bool:=decide ((x:Int)∈s) !=decide ((y:Int)∈s)
theorem Dr.len{n:Nat}{base:Int}{L:List (List Int)}(h:Dr n base L){k:Nat}(hk:k<n):(L.getD k []).length=n:=by
 refine(h.2 _ ?_).1
 rw[Xd,Xh (by rw[h.1];exact hk)]
 exact Bc _
theorem Z5a{δ:Zg}{a b:FE}{i x y:Nat}{n:Nat}{base:Int}{L:List (List Int)}(h:Dr n base L)(hi:δ[i]? =some (some (.nd (L.map Zjf))))(ha:EvV a δ (.int x))(hx:x<n)(hb:EvV b δ (.int y))(hy:y<n):EvV (Yn gIx (Yn gIx (Zf1 i) a) b) δ (.int (fnL L x y)):=by
 have e1:EvV (Zf1 i) δ (.list (L.map Zj)):=Zil hi (by
  rw[OT.data_nd,XN]
  exact congrArg Qy (Xw λr _=>Zel r))
 have e2:EvV (Yn gIx (Zf1 i) a) δ (Zj (L.getD x [])):=Zsz e1 ha (Z0a (by rw[Xy,Xd,Xh (by rw[h.1];exact hx)];rfl))
 exact(Wy e2 hb (by omega) (by rw[h.len hx];omega)).cast (by rw[show(y:Int).toNat=y by omega];rfl)
noncomputable def rE(n:Nat)(A B:Xa)(L:List (List Int))(s:List Int)(w:Int)(z6 z7:Option OT):Zg:=[some (.fz (.int n)),some (.fz A),some (.fz B),some (.nd (L.map Zjf)),some (.fz (Zj s)),some (.fz (.int w)),z6,z7]
noncomputable def Zpo:FS:=Jp (tV (Zf gNe (Zf (Z06 false) (Ze 6) (Ze 4)) (Zf (Z06 false) (Ze 7) (Ze 4))))
  (Zmx 3 (Zf Js (Yn gIx (Yn gIx (Zf1 3) (Ze 6)) (Ze 7)) (Ze 5)) (Ze 6) (Ze 7))
  fNx
structure Up(n:Nat)(L0:List (List Int))(s:List Int)(w:Int)(P:Nat->Nat->Prop)(L:List (List Int)):Prop where
 dr:Dr n B25 L
 yes:∀x y,x<n->y<n->P x y->fnL L x y=fnL L0 x y+(if sep s x y=true then w else 0)
 no:∀x y,x<n->y<n->¬P x y->fnL L x y=fnL L0 x y
theorem Up.mono{n:Nat}{L0 L:List (List Int)}{s:List Int}{w:Int}{P Q:Nat->Nat->Prop}(h:Up n L0 s w P L)(e:∀x y,x<n->y<n->(P x y↔Q x y)):Up n L0 s w Q L:=⟨h.dr,λx y hx hy q=>h.yes x y hx hy ((e x y hx hy).mpr q),λx y hx hy q=>h.no x y hx hy λz=>q ((e x y hx hy).mp z)⟩
theorem Z0d{n:Nat}{A B:Xa}{L0 L:List (List Int)}{s:List Int}{w:Int}{P:Nat->Nat->Prop}{i j:Nat}(hi:i<n)(hj:j<n)(U:Up n L0 s w P L)(np:¬P i j)(lo:-B25<fnL L0 i j+w)(hb:fnL L0 i j+w<B25) :
  ∃L',Zpo (rE n A B L s w (some (.fz (.int i))) (some (.fz (.int j))))= .nx (rE n A B L' s w (some (.fz (.int i))) (some (.fz (.int j))))∧Up n L0 s w (λx y=>P x y∨(x=i∧y=j)) L':=by
 have t:=Zbu (Z0 (g:=gNe) (δ:=rE n A B L s w (some (.fz (.int i))) (some (.fz (.int j)))) (Z0 (Za (i:=6) rfl) (Za (i:=4) rfl) (Zk0 false (i:Int) s)) (Z0 (Za (i:=7) rfl) (Za (i:=4) rfl) (Zk0 false (j:Int) s)) (Zs4 _ _))
 have t:EvT _ _ (sep s i j):=t
 cases c:sep s i j with
 | false=>
  rw[c]at t
  refine⟨L,Z5 t rfl,U.dr,λx y hx hy q=>?_,λx y hx hy q=>U.no x y hx hy λz=>q (.inl z)⟩
  rcases q with q|⟨rfl,rfl⟩
  ·exact U.yes x y hx hy q
  ·rw[U.no x y hx hy np,c,if_neg Xp,Int.add_zero]
 | true=>
  rw[c]at t
  have f:=Zmo (L:=L) (a:=i) (b:=j) (v:=fnL L i j+w) (by rw[U.dr.1];exact hi) (by rw[U.dr.len hi];exact hj)
  have e:=U.no i j hi hj np
  refine⟨_,W8 t (Znw (L:=L) (a:=i) (b:=j) (d:=fnL L i j+w) (Z7 (Z5a U.dr rfl (Za rfl) hi (Za rfl) hj) (Za rfl)) rfl (Za rfl) (by rw[U.dr.1];exact hi) (Za rfl) (by rw[U.dr.len hi];exact hj)),U.dr.put (by rw[e];exact lo) (by rw[e];exact hb) i j,λx y hx hy q=>?_,λx y hx hy q=>?_⟩
  ·rw[f]
   by_cases z:x=i∧y=j
   ·obtain⟨rfl,rfl⟩:=z
    rw[if_pos ⟨rfl,rfl⟩,e,c,if_pos rfl]
   ·rw[if_neg z]
    exact U.yes x y hx hy (q.resolve_right z)
  ·rw[f,if_neg λz=>q (.inr z)]
   exact U.no x y hx hy λz=>q (.inl z)
theorem Zwq{n:Nat}{A B:Xa}{L0 L:List (List Int)}{s:List Int}{w:Int}{i:Nat}{z7:Option OT}(n10:n≤10)(hi:i<n)(U:Up n L0 s w (λx _=>x<i) L)(lo:∀x y,x<n->y<n->-B25<fnL L0 x y+w)(hb:∀x y,x<n->y<n->fnL L0 x y+w<B25) :
  ∃L' z7',Zcc (iRa (Zc (Ze 0) Zn)) (gNm 7) Zpo (rE n A B L s w (some (.fz (.int i))) z7)= .nx (rE n A B L' s w (some (.fz (.int i))) z7')∧Up n L0 s w (λx _=>x<i+1) L':=by
 obtain⟨δ',e,L',z7',rfl,U'⟩:=Zms (S:=Zpo) (g:=gNm 7) (it:=iRa (Zc (Ze 0) Zn)) (δ:=rE n A B L s w (some (.fz (.int i))) z7) (ds:=Zch 0 n) (λj δ=>∃L' z7',δ=rE n A B L' s w (some (.fz (.int i))) z7'∧Up n L0 s w (λx y=>x<i∨(x=i∧y<j)) L') (Zff (Zb (Za rfl) Zh) (by omega)) ⟨L,z7,rfl,U.mono λx y _ _=>by omega⟩ λj d δ hd q=>by
  obtain⟨L',z7',rfl,U'⟩:=q
  obtain⟨hj,rfl⟩:=W6 hd
  rw[JS]
  obtain⟨L2,e2,U2⟩:=Z0d (A:=A) (B:=B) hi hj U' (by omega) (lo i j hi hj) (hb i j hi hj)
  exact⟨_,_,rfl,.inl e2,L2,_,rfl,U2.mono λx y _ _=>by omega⟩
 rw[Wo]at U'
 exact⟨L',z7',e,U'.mono λx y _ hy=>by omega⟩
theorem Zws{n:Nat}{A B:Xa}{L0:List (List Int)}{s:List Int}{w:Int}{z6 z7:Option OT}(n10:n≤10)(D:Dr n B25 L0)(lo:∀x y,x<n->y<n->-B25<fnL L0 x y+w)(hb:∀x y,x<n->y<n->fnL L0 x y+w<B25) :
  ∃L' z6' z7',Zcc (iRa (Zc (Ze 0) Zn)) (gNm 6) (Zcc (iRa (Zc (Ze 0) Zn)) (gNm 7) Zpo) (rE n A B L0 s w z6 z7)= .nx (rE n A B L' s w z6' z7')∧Dr n B25 L'∧∀x y,x<n->y<n->fnL L' x y=fnL L0 x y+(if sep s x y=true then w else 0):=by
 obtain⟨δ',e,L',z6',z7',rfl,U'⟩:=Zms (S:=Zcc (iRa (Zc (Ze 0) Zn)) (gNm 7) Zpo) (g:=gNm 6) (it:=iRa (Zc (Ze 0) Zn)) (δ:=rE n A B L0 s w z6 z7) (ds:=Zch 0 n) (λi δ=>∃L' z6' z7',δ=rE n A B L' s w z6' z7'∧Up n L0 s w (λx _=>x<i) L') (Zff (Zb (Za rfl) Zh) (by omega)) ⟨L0,z6,z7,rfl,D,λ_ _ _ _ z=>absurd z (V4 _),λ_ _ _ _ _=>rfl⟩ λi d δ hd q=>by
  obtain⟨L',z6',z7',rfl,U'⟩:=q
  obtain⟨hi,rfl⟩:=W6 hd
  rw[JS]
  obtain⟨L2,z,e2,U2⟩:=Zwq (A:=A) (B:=B) (z7:=z7') n10 hi U' lo hb
  exact⟨_,_,rfl,.inl e2,L2,_,z,rfl,U2⟩
 rw[Wo]at U'
 exact⟨L',z6',z7',e,U'.dr,λx y hx hy=>U'.yes x y hx hy hx⟩
theorem Zw0(s:List Int)(x y:Nat):sep s x y=sep s y x:=by unfold sep;cases decide ((x:Int)∈s)<;>cases decide ((y:Int)∈s)<;>rfl
theorem Zwh(s:List Int)(x:Nat):sep s x x=false:=by unfold sep;cases decide ((x:Int)∈s)<;>rfl
theorem Zuz{n:Nat}:Dr n B25 ((Xz n).map λ_=>Xr n 0)∧∀x y,x<n->y<n->fnL ((Xz n).map λ_=>Xr n 0) x y=0:=by
 refine⟨⟨by rw[Xi,Qk],λr hr=>?_⟩,λi j hi hj=>?_⟩
 ·obtain⟨_,_,rfl⟩:=X4.mp hr
  exact⟨Bo,λx hx=>by rw[List.eq_of_mem_replicate hx];decide⟩
 ·unfold fnL
  rw[Xd (l:=List.map _ _),Xy,Bk hi]
  show(Xr n (0:Int)).getD j 0=0
  rw[Xd,BP,if_pos hj];rfl
theorem Z8q{F:FD}{as:FA}{δ:Zg}{ds:List Xa}{o:OT}(h:EvA as δ ds)(hF:F ds= .ok o):Zx F as δ=some (o,δ):=by
 obtain⟨ts,e1,d1⟩:=h
 rw[Zoc,e1,Xc]
 dsimp only
 rw[d1,hF];rfl
theorem Z7j{α:Type}{g:FG}{t:FT}{me:FE}{cs:Zg}(x1 x2:α->Xa)(p:α->Bool)(f:α->OT):∀(xs:List α) (z0 z1:Option OT),(∀x∈xs,∀z0 z1,g (.tuple [x1 x,x2 x]) (z0 :: z1 :: cs)=some (some (.fz (x1 x)) :: some (.fz (x2 x)) :: cs))->(∀x∈xs,t (some (.fz (x1 x)) :: some (.fz (x2 x)) :: cs)=some (p x,some (.fz (x1 x)) :: some (.fz (x2 x)) :: cs))->(∀x∈xs,p x=true->me (some (.fz (x1 x)) :: some (.fz (x2 x)) :: cs)=some (f x,some (.fz (x1 x)) :: some (.fz (x2 x)) :: cs)) ->
  ∃z0' z1',compLoop g t me (xs.map λx=>.tuple [x1 x,x2 x]) (z0 :: z1 :: cs)=some ((xs.filter p).map f,z0' :: z1' :: cs):=by
 intro xs
 induction xs with
 | nil=>exact λz0 z1 _ _ _=>⟨z0,z1,rfl⟩
 | cons x xs ih=>
  intro z0 z1 hg ht hm
  obtain⟨y0,y1,e⟩:=ih (some (.fz (x1 x))) (some (.fz (x2 x))) (λy hy=>hg y (.tail _ hy)) (λy hy=>ht y (.tail _ hy)) λy hy=>hm y (.tail _ hy)
  refine⟨y0,y1,?_⟩
  rw[XF,compLoop,hg x (.head _),Xc,ht x (.head _),Xc]
  dsimp only
  cases hp:p x with
  | true=>rw[if_pos rfl,hm x (.head _) hp,Xc,UV hp,XF];dsimp only;rw[e];rfl
  | false=>rw[if_neg Xp,UW (by rw[hp];exact Xp)];exact e
theorem Zxg{α:Type}{caps:List Nat}{it:FI}{g:FG}{t:FT}{me:FE}{cs δ:Zg}(xs:List α)(x1 x2:α->Xa)(p:α->Bool)(f:α->OT)(hi:EvI it δ (xs.map λx=>.tuple [x1 x,x2 x]))(hz:xs.length≤1000000)(hb:blk 2 caps δ=none :: none :: cs)
  (hg:∀x∈xs,∀z0 z1,g (.tuple [x1 x,x2 x]) (z0 :: z1 :: cs)=some (some (.fz (x1 x)) :: some (.fz (x2 x)) :: cs)) (ht:∀x∈xs,t (some (.fz (x1 x)) :: some (.fz (x2 x)) :: cs)=some (p x,some (.fz (x1 x)) :: some (.fz (x2 x)) :: cs)) (hm:∀x∈xs,p x=true->me (some (.fz (x1 x)) :: some (.fz (x2 x)) :: cs)=some (f x,some (.fz (x1 x)) :: some (.fz (x2 x)) :: cs)) :
  Wb 2 caps it g t me δ=some (.nd ((xs.filter p).map f),δ):=by
 obtain⟨z0,z1,e⟩:=Z7j x1 x2 p f xs none none hg ht hm
 unfold EvI at hi
 unfold Wb
 rw[hi,Xc]
 dsimp only
 rw[if_pos (by rw[X5,Xi];omega),hb,e];rfl
theorem Zjr{α β:Type}(f:α->Xa)(g:β->Xa)(r:List α)(s:List β):Zkk (r.map f) (s.map g)=(r.zip s).map λq=>.tuple [f q.1,g q.2]:=by
 unfold Zkk
 rw[List.zip_map,XN];rfl
theorem Zd1:∀m≤10,(Z4 m).length≤60:=by decide
theorem Zlh{n:Nat}(hn:n≤10)(R:Nat->Nat->Int){b:Int}(hb:0<b)(bb:Bt 300 b):Told J6 [J2 n R,.int b] (tbD (Zgh n R b)):=by
 have e:tbD (Zgh n R b)= .list ((Xz n).map λi=>.list ((Xz n).map λj=>frD (Qn (R i j) b))):=by
  unfold tbD Zgh
  rw[XN]
  refine congrArg Qy (Xw λi _=>?_)
  show Ze1 _=_
  unfold Ze1
  rw[XN];rfl
 rw[e]
 exact Z6 rfl<|Yv<|Zbv (cs:=[some (.fz (.int b))]) (Xz n) (λi=>Zwd n (R i)) (λi=>.list ((Xz n).map λj=>frD (Qn (R i j) b))) (Zaz Za) (by rw[Qk];omega) rfl λi _=>
  Zbv (cs:=[some (.fz (.int b))]) (Xz n) (λj=>.int (R i j)) (λj=>frD (Qn (R i j) b)) (Zaz Za) (by rw[Qk];omega) rfl λj _=>Zo (Zb Za (Zb Za Zh)) (Ziv hb bb)
structure Rw(n:Nat)(R:Nat->Nat->Int):Prop where
 sy:∀i j,i<n->j<n->R i j=R j i∧R i i=0
 bt:∀i j,i<n->j<n->Bt 300 (R i j)
noncomputable def ctD(p:List Int×Rat):Xa:=.tuple [Zj p.1,frD p.2]
noncomputable def Zur(L:List (List Int×Rat)):Xa:=.list (L.map ctD)
theorem Zxl(p:List Int×Rat):kdT (ctD p)=some (p.1,[p.2.num,(p.2.den:Int)]):=by
 show((Zgo (p.1.map Xj)).bind λns=>(Zgo [.int p.2.num,.int (p.2.den:Int)]).bind λms=>some (ns,ms))=_
 rw[Zex];rfl
noncomputable def sCt(L:List (List Int×Rat)):List (List Int×Rat):=sLay ([],0) (lk kdT ltT (L.map ctD)) L
theorem Zt7{α:Type}(d d':α)(lt:Nat->Nat->Bool)(vs:List α):sLay d lt vs=sLay d' lt vs:=by
 unfold sLay
 split
 ·rfl
 ·refine Xw λi hi=>?_
  have:=Qt.mp ((Zey (by omega)).mem_iff.mp hi)
  rw[Xd,Xd,Xh this];rfl
theorem Zvy{α:Type}{g:FG}{u:FS}(mk:α->Xa)(P:α->Bool)(I:List α->Zg->Prop)(W:α->OT->Prop)(all:List α)(t:∀x done rest,done ++ x :: rest=all->∀δ,I done δ->∃δ1,g (mk x) δ=some δ1∧(P x=false->∃δ2,u δ1= .nx δ2∧I (done ++ [x]) δ2)∧(P x=true->∃o δ',u δ1= .rt o δ'∧W x o)):∀(xs done:List α),done ++ xs=all->∀(δ:Zg),I done δ ->
  (xs.find? P=none->∃δ2,forLoop g u (xs.map mk) δ= .nx δ2∧I all δ2)∧∀x,xs.find? P=some x->∃o δ',forLoop g u (xs.map mk) δ= .rt o δ'∧W x o:=by
 intro xs
 induction xs with
 | nil=>exact λdone e δ h=>⟨λ_=>⟨δ,rfl,by rw[Qw]at e;exact e▸h⟩,λx z=>nomatch z⟩
 | cons x xs ih=>
  intro done ea δ h
  obtain⟨δ1,e1,a,b⟩:=t x done xs ea δ h
  cases c:P x with
  | true=>
   rw[List.find?_cons_of_pos c]
   refine⟨λz=>(nomatch z),λy hy=>?_⟩
   cases hy
   obtain⟨o,δ2,e2,d⟩:=b c
   refine⟨o,δ2,?_,d⟩
   rw[XF,forLoop,e1]
   dsimp only
   rw[e2]
  | false=>
   rw[List.find?_cons_of_neg (by rw[c];exact Xp)]
   obtain⟨δ2,e2,h2⟩:=a c
   have e:forLoop g u ((x :: xs).map mk) δ=forLoop g u (xs.map mk) δ2:=by
    rw[XF,forLoop,e1]
    dsimp only
    rw[e2]
   have:=ih (done ++ [x]) (by rw[Q8];exact ea) δ2 h2
   rw[e]
   exact this
theorem Zza{e:FE}{δ:Zg}{L:List (List Int×Rat)}(he:EvV e δ (Zur L))(h:L.length<64):EvV (fBl (Zn6 kdT ltT) (Zc e Zn)) δ (Zur (sCt L)):=by
 refine Zpx (Zb he Zh) (o:=.nd (((sCt L).map ctD).map OT.fz)) ?_ (by rw[OT.data_nd,OT.map_fz];rfl)
 unfold sCt
 rw[←Zjb,Zt7 (ctD ([],0)) Xa.none]
 refine if_pos ?_
 rw[Xx,decide_eq_true_eq,Xi,Be]
 refine⟨h,λd m=>?_⟩
 obtain⟨p,_,rfl⟩:=X4.mp m
 rw[Zxl];rfl
noncomputable def tq(n:Nat)(R:Nat->Nat->Int)(p:List Int)(q:Nat×Nat):Int:=twP n (λu v=>R (pn p u) (pn p v)) q.1 q.2
noncomputable def cL(n:Nat)(R:Nat->Nat->Int)(p:List Int)(b:Int)(Q:List (Nat×Nat)):List (List Int×Rat):=(Q.filter λq=>decide (0<tq n R p q)).map λq=>(Jx (sd p q),Qn (tq n R p q) (2*b))
noncomputable def Zp6(n:Nat)(R:Nat->Nat->Int)(p:List Int):Option (Nat×Nat):=(Z4 n).find? λq=>decide (tq n R p q<0)
noncomputable def Zcf(n:Nat)(R:Nat->Nat->Int)(p:List Int)(b:Int):Xa:=match Zp6 n R p with
 | some q=>.tuple [.str "bars",ptD q]
 | none=>.tuple [.str "ring",Zur (sCt (cL n R p b (Z4 n)))]
theorem Zuc(n:Nat)(R:Nat->Nat->Int)(p:List Int)(b:Int)(Q:List (Nat×Nat))(q:Nat×Nat):cL n R p b (Q ++ [q])=cL n R p b Q ++ (if 0<tq n R p q then[(Jx (sd p q),Qn (tq n R p q) (2*b))]else[]):=by
 unfold cL
 rw[List.filter_append,QF]
 by_cases c:0<tq n R p q
 ·rw[if_pos c,UV (p:=λq=>decide (0<tq n R p q)) (decide_eq_true c)];rfl
 ·rw[if_neg c,UW (p:=λq=>decide (0<tq n R p q)) (by rw[decide_eq_false c];exact Xp)];rfl
theorem Zym(n:Nat)(R:Nat->Nat->Int)(p:List Int)(b:Int)(Q:List (Nat×Nat)):(cL n R p b Q).length≤Q.length:=by
 unfold cL
 rw[Xi]
 exact List.length_filter_le _ _
theorem Zl6:∀m≤10,(Z4 m).Nodup:=by decide +kernel
theorem Zzk{d:Xa}{n:Nat}(h:Sh n d)(hn:n≤64)(hp:Yr d=true):gEq d d=some (.bool true)∧gNe d d=some (.bool false):=by
 have s:=(h.shp hn).ok
 unfold gEq gNe
 rw[if_pos (by rw[s];rfl),if_pos (by rw[s];rfl),Zj3 hp]
 exact⟨rfl,rfl⟩
theorem Zs7{w:Str}(h:Vr w=true):Sh 0 (.str w):=⟨by rw[Bf];exact h,Nat.le_of_eq rfl⟩
theorem Zgt(w:Str):Yr (.str w)=true:=by rw[Yr]
theorem Zn7{w:Str}(h:Vr w=true):gNe (.str w) (.str w)=some (.bool false)∧gEq (.str w) (.str w)=some (.bool true):=by
 have:=Zzk (Zs7 h) (by decide) (Zgt w)
 exact⟨this.2,this.1⟩
theorem Z3o{a b:Str}(ha:Vr a=true)(hb:Vr b=true)(h:a≠b):gNe (.str a) (.str b)=some (.bool true)∧gEq (.str a) (.str b)=some (.bool false):=by
 have s1:=((Zs7 ha).shp (by decide)).ok
 have s2:=((Zs7 hb).shp (by decide)).ok
 unfold gNe gEq
 rw[if_pos (by rw[s1,s2];rfl),if_pos (by rw[s1,s2];rfl),Zxd (Zgt a) (Zgt b) λz=>h (Xa.str.inj z)]
 exact⟨rfl,rfl⟩
theorem Znu:Vr "ring"=true:=by decide +kernel
theorem Ztz:Vr "bars"=true:=by decide +kernel
theorem Zcl(k:Nat)(i:Int):Told (Zm (k+1)) [.int i,.int i] (.bool true) :=
 show Told (Jy 2 4 (Wj (Zm k))) [.int i,.int i] (.bool true)from Z6 rfl<|Zb0<|Zec (Z6p (Zeh Za) rfl)<|Yv (Zdi (Zot Za rfl) (Zdi (Z2w (Zeh Za) rfl) (Zhy Za Za (decide_eq_true rfl))))
theorem Zl4(k:Nat){w:Str}(h:Vr w=true):Told (Zm (k+1)) [.str w,.str w] (.bool true) :=
 show Told (Jy 2 4 (Wj (Zm k))) [.str w,.str w] (.bool true)from Z6 rfl<|Zt (Z5 (Z6p (Zeh Za) rfl) rfl)<|Zb0<|Zec (Z6p (Zeh Za) rfl)<|Yv (Zdi (Zot Za rfl) (Z0 Za Za (Zn7 h).2))
theorem Zap{k:Nat}{x:Xa}{ds:List Xa}(hx:x= .list ds∨x= .tuple ds)(h:∀d∈ds,Told (Zm k) [d,d] (.bool true)):Told (Zm (k+1)) [x,x] (.bool true):=by
 have key:Zo2 "int" x=false->Zo2 "str" x=false->Zgv x=false->Za1 [x]=some (.int ds.length)->Z1y [x,x]=some (Zkk ds ds)->Told (Zm (k+1)) [x,x] (.bool true):=λh1 h2 hf hl hz=>
  show Told (Jy 2 4 (Wj (Zm k))) [x,x] (.bool true)from Z6 rfl<|Zt (Z5 (Zf9 (Zot Za h1 hf)) rfl)<|Zt (Z5 (Zf9 (Zot Za h2 hf)) rfl)<|
   Zt (Z5 (Z39 (Zbu (Z0 (Zeh Za hf) (Zeh Za hf) ((Zs4 _ _).trans (by rw[bne_self_eq_false])))) (Zbu (Z0 (Zeh Za hf) (Zeh Za hf) ((Zs4 _ _).trans (by rw[bne_self_eq_false]))))) rfl)<|
   Zt (Z5 (Zbu (Z1l (Zeq (Zb Za Zh) hl) (Zeq (Zb Za Zh) hl) (by rw[decide_eq_true rfl];rfl))) rfl)<|
   Zll (ds:=Zkk ds ds) (λi δ=>∃z1 z2,δ=[some (.fz x),some (.fz x),z1,z2]) (Zrh (Zb Za (Zb Za Zh)) hz) ⟨none,none,rfl⟩ (λi d δ hd q=>by
    obtain⟨z1,z2,rfl⟩:=q
    obtain⟨a,b,ha,hb,rfl⟩:=Zos hd
    rw[ha]at hb
    cases hb
    exact⟨_,_,rfl,.inl (Z5 (Zh4 (p:=true) (Zf9 (Zo (Zb Za (Zb Za Zh)) (h a (QV ha))))) rfl),_,_,rfl⟩) λδ' _=>Yv Zw
 rcases hx with rfl|rfl
 ·exact key rfl rfl rfl (Zo3 ds) rfl
 ·exact key rfl rfl rfl (Z33 ds) rfl
theorem Zw8(k:Nat)(q:Rat):Told (Zm (k+2)) [frD q,frD q] (.bool true):=Zap (ds:=[.int q.num,.int (q.den:Int)]) (.inr rfl) λd m=>by
 rcases Xl.mp m with rfl|m
 ·exact Zcl k _
 ·rw[XH.mp m];exact Zcl k _
theorem Zkz(k:Nat)(L:List (List Int×Rat)):Told (Zm (k+5)) [.tuple [.str "ring",Zur L],.tuple [.str "ring",Zur L]] (.bool true):=Zap (ds:=[.str "ring",Zur L]) (.inr rfl) λd m=>by
 rcases Xl.mp m with rfl|m
 ·exact Zl4 (k+3) Znu
 rw[XH.mp m]
 refine Zap (k:=k+3) (ds:=L.map ctD) (.inl rfl) λd m=>?_
 obtain⟨c,_,rfl⟩:=X4.mp m
 refine Zap (k:=k+2) (ds:=[Zj c.1,frD c.2]) (.inr rfl) λd m=>?_
 rcases Xl.mp m with rfl|m
 ·refine Zap (k:=k+1) (ds:=c.1.map Xj) (.inl rfl) λd m=>?_
  obtain⟨i,_,rfl⟩:=X4.mp m
  exact Zcl k i
 ·rw[XH.mp m];exact Zw8 k _
theorem Zn1{α:Type}{caps:List Nat}{it:FI}{g:FG}{t:FT}{me:FE}{cs δ:Zg}(xs:List α)(x1 x2:α->Xa)(p:α->Bool)(f:α->Xa)(hi:EvI it δ (xs.map λx=>.tuple [x1 x,x2 x]))(hz:xs.length≤1000000)(hb:blk 2 caps δ=none :: none :: cs)
  (hg:∀x∈xs,∀z0 z1,g (.tuple [x1 x,x2 x]) (z0 :: z1 :: cs)=some (some (.fz (x1 x)) :: some (.fz (x2 x)) :: cs)) (ht:∀x∈xs,EvT t (some (.fz (x1 x)) :: some (.fz (x2 x)) :: cs) (p x)) (hm:∀x∈xs,p x=true->EvV me (some (.fz (x1 x)) :: some (.fz (x2 x)) :: cs) (f x)) :
  EvV (Wb 2 caps it g t me) δ (.list ((xs.filter p).map f)):=by
 have ch:∀x,∃o:OT,x∈xs->p x=true->me (some (.fz (x1 x)) :: some (.fz (x2 x)) :: cs)=some (o,some (.fz (x1 x)) :: some (.fz (x2 x)) :: cs)∧o.data=f x:=λx=>by
  by_cases c:x∈xs∧p x=true
  ·obtain⟨o,h⟩:=hm x c.1 c.2
   exact⟨o,λ_ _=>h⟩
  ·exact⟨.fz .none,λa b=>absurd ⟨a,b⟩ c⟩
 obtain⟨F,hF⟩:=Classical.axiomOfChoice ch
 refine⟨_,Zxg xs x1 x2 p F hi hz hb hg ht λx m q=>(hF x m q).1,?_⟩
 rw[OT.data_nd,XN]
 exact congrArg Qy (Xw λx m=>(hF x (VP.mp m).1 (VP.mp m).2).2)
noncomputable def rwT(n:Nat)(f:Nat->Nat->Rat)(i:Nat):Xa:=.list ((Xz n).map λj=>frD (f i j))
noncomputable def mt(n:Nat)(f:Nat->Nat->Rat):Xa:=.list ((Xz n).map (rwT n f))
noncomputable def cz(Z:List (List Int×Int))(x y:Nat):Int:=(Z.map λq=>if sep q.1 x y=true then q.2 else 0).sum
theorem Zzu(Z:List (List Int×Int))(q:List Int×Int)(x y:Nat):cz (Z ++ [q]) x y=cz Z x y+(if sep q.1 x y=true then q.2 else 0):=by
 unfold cz
 rw[QF,List.sum_append]
 show _+(_+0)=_
 rw[Int.add_zero]
theorem Zno{n:Nat}{f g:Nat->Nat->Int}(h:∀i j,i<n->j<n->f i j=g i j):J2 n f=J2 n g:=by
 unfold J2 Zwd
 refine congrArg Qy (Xw λi hi=>congrArg Qy (Xw λj hj=>?_))
 rw[h i j (Qt.mp hi) (Qt.mp hj)]
theorem Zt5{n:Nat}(n10:n≤10){Ls:List (List Int)}{vs:List Int}(hl:Ls.length≤60)(hv:∀v∈vs,-(1000*B20)<v∧v<1000*B20):Told Ji [.int n,.list (Ls.map Zj),Zj vs] (J2 n (cz (Ls.zip vs)))∧Rw n (cz (Ls.zip vs)):=by
 obtain⟨D0,f0⟩:=Zuz (n:=n)
 have s1:wE (Wb 1 [0] (iRa (Zc (Ze 0) Zn)) (gNm 0) Ze3 (Zuu (fC (.int 0)) (Ze 1))) (Jo 3) (Zes 8 [.int n,.list (Ls.map Zj),Zj vs])= .nx [some (.fz (.int n)),some (.fz (.list (Ls.map Zj))),some (.fz (Zj vs)),some (.nd (((Xz n).map λ_=>Xr n 0).map Zjf)),none,none,none,none]:=by
  refine(Zct (Zi2 (cs:=[some (.fz (.int n))]) (Xz n) (λi:Nat=>Xj (0+(i:Int))) (λ_=>Zjf (Xr n 0)) (Zff (Zb (Za rfl) Zh) (by omega)) (by rw[Qk,X5];omega) rfl λx _=>?_)).trans (by rw[XN];rfl)
  unfold Zjf
  rw[Ua]
  exact Zxz (by omega)
 obtain⟨δ',e,L,z4,z5,z6,z7,rfl,D,ex,bd⟩:=Zms (S:=Zcc (iRa (Zc (Ze 0) Zn)) (gNm 6) (Zcc (iRa (Zc (Ze 0) Zn)) (gNm 7) Zpo)) (g:=gTp 2 (gCn (gNm 4) (gCn (gNm 5) gNl))) (it:=Zlv (Zc (Ze 1) (Zc (Ze 2) Zn))) (δ:=[some (.fz (.int n)),some (.fz (.list (Ls.map Zj))),some (.fz (Zj vs)),some (.nd (((Xz n).map λ_=>Xr n 0).map Zjf)),none,none,none,none]) (ds:=Zkk (Ls.map Zj) (vs.map Xj)) (λk δ=>∃(L:List (List Int)) (z4 z5 z6 z7:Option OT),δ=[some (.fz (.int n)),some (.fz (.list (Ls.map Zj))),some (.fz (Zj vs)),some (.nd (L.map Zjf)),z4,z5,z6,z7]∧Dr n B25 L∧(∀x y,x<n->y<n->fnL L x y=cz ((Ls.zip vs).take k) x y)∧∀x y,x<n->y<n->-(k*(1000*B20))≤fnL L x y∧fnL L x y≤k*(1000*B20)) (Zq9 (Za rfl) (Za (d:=Zj vs) rfl) rfl) ⟨_,_,_,_,_,rfl,D0,λi j hi hj=>f0 i j hi hj,λx y hx hy=>by rw[f0 x y hx hy,Int.natCast_zero,Int.zero_mul];exact⟨Int.le_refl _,Int.le_refl _⟩⟩ λk d δ hd q=>by
  obtain⟨L,z4,z5,z6,z7,rfl,D,ex,bd⟩:=q
  rw[Zjr,Xy]at hd
  obtain⟨⟨s,w⟩,hq,rfl⟩:=Option.map_eq_some_iff.mp hd
  have ml:=List.of_mem_zip (QV hq)
  have k60:k<60:=by
   have:=(Xn.mp hq).1
   rw[List.length_zip]at this
   omega
  obtain⟨w0,w1⟩:=hv w ml.2
  have kB:(k:Int)*(1000*B20)≤60*(1000*B20):=Int.mul_le_mul_of_nonneg_right (by omega) (by decide)
  obtain⟨L',y6,y7,e,D',f⟩:=Zws (A:=.list (Ls.map Zj)) (B:=Zj vs) (s:=s) (w:=w) (z6:=z6) (z7:=z7) n10 D (λx y hx hy=>by
   have:=(bd x y hx hy).1
   have:B25=100000*B20:=by decide
   have:0<B20:=by decide
   omega) λx y hx hy=>by
   have:=(bd x y hx hy).2
   have:B25=100000*B20:=by decide
   have:0<B20:=by decide
   omega
  refine⟨_,_,rfl,.inl e,L',_,_,y6,y7,rfl,D',λi j hi hj=>?_,λx y hx hy=>?_⟩
  ·rw[f i j hi hj,ex i j hi hj,List.take_add_one,hq]
   exact(Zzu _ (s,w) i j).symm
  ·have:=bd x y hx hy
   rw[f x y hx hy,Int.natCast_succ,Int.add_mul,Int.one_mul]
   split<;>omega
 have tk:(Ls.zip vs).take (Zkk (Ls.map Zj) (vs.map Xj)).length=Ls.zip vs:=by rw[Zjr,Xi,List.take_length]
 rw[tk]at ex
 obtain⟨e1,e2⟩:=Zsd D
 refine⟨⟨_,Zr8 rfl (Yg s1 (Yg e (Z02 (i:=3) rfl))),?_⟩,λi j hi hj=>⟨?_,?_⟩,λi j hi hj=>?_⟩
 ·rw[OT.data_nd,e1]
  exact Zno ex
 ·unfold cz
  exact congrArg List.sum (Xw λq _=>by rw[Zw0])
 ·unfold cz
  rw[show(Ls.zip vs).map (λq=>if sep q.1 i i=true then q.2 else 0)=(Ls.zip vs).map (λ_=>0)from Xw λq _=>by rw[Zwh,if_neg Xp]]
  generalize Ls.zip vs=Z
  induction Z with
  | nil=>rfl
  | cons q Z ih=>rw[XF,Ux,ih];rfl
 ·rw[←ex i j hi hj]
  have:=e2 i j hi hj
  refine Bt.of_lt ?_ ?_
  ·have:-B25> -(2^300):=by decide +kernel
   omega
  ·have:B25<2^300:=by decide +kernel
   omega
noncomputable def wL(Z:List (List Int×Int))(b:Int):List (List Int×Rat):=(Z.filter λq=>decide (0<q.2)).map λq=>(q.1,Qn q.2 b)
theorem Zmv{Ls:List (List Int)}{vs:List Int}{b:Int}(hl:Ls.length≤60)(hb:0<b)(bb:Bt 400 b):Told W7 [.list (Ls.map Zj),Zj vs,.int b] (Zur (sCt (wL (Ls.zip vs) b))):=by
 have l:(Ls.zip vs).length≤60:=by rw[List.length_zip];omega
 have l2:=List.length_filter_le (λq:List Int×Int=>decide (0<q.2)) (Ls.zip vs)
 refine Z6 rfl<|Yv<|Zza ?_ (by unfold wL;rw[Xi];omega)
 refine(Zn1 (t:=tV (Zf gGt (Ze 1) (fC (.int 0)))) (cs:=[some (.fz (.int b))]) (Ls.zip vs) (λq=>Zj q.1) (λq=>.int q.2) (λq=>decide (0<q.2)) (λq=>ctD (q.1,Qn q.2 b)) (Zq9 Za (Za (d:=Zj vs) rfl) (Zjr _ _ _ _)) (by omega) rfl (λ_ _ _ _=>rfl) (λq _=>Zbu (Zm4 Za Zw rfl)) λq _ _=>?_).cast ?_
 ·exact Zcd (Zb (Zpx (Zb (Za (d:=Zj q.1) rfl) Zh) (Znn _) (Zfv _)) (Zb (Zo (Zb (Za (d:=.int q.2) rfl) (Zb (Za (d:=.int b) rfl) Zh)) (Ziv hb bb)) Zh)) (show 2≤1000 by decide)
 ·unfold Zur wL
  rw[XN];rfl
noncomputable def rz(n:Nat)(p:List Int)(w:Nat×Nat->Int):List (List Int×Int):=(Z4 n).map λq=>(Jx (sd p q),w q)
theorem Z3z{n x y:Nat}(hxy:x<y)(hy:y<n)(w:Nat×Nat->Int):∀Q:List (Nat×Nat),(∀q∈Q,q.1<q.2∧q.2<n)->twP n (λi j=>(Q.map λq=>cd (w q) q.1 q.2 i j).sum) x y=(Q.map λq=>if x=q.1∧y=q.2 then 2*w q else 0).sum:=by
 intro Q
 induction Q with
 | nil=>exact λ_=>rfl
 | cons q Q ih=>
  intro h
  have e:(λi j=>((q :: Q).map λq=>cd (w q) q.1 q.2 i j).sum)= λi j=>(Q.map λq=>cd (w q) q.1 q.2 i j).sum+cd (w q) q.1 q.2 i j:=funext λi=>funext λj=>by rw[XF,Ux,Int.add_comm]
  obtain⟨h1,h2⟩:=h q (.head _)
  rw[e,Z3g h1 h2 hxy hy,ih λr hr=>h r (.tail _ hr),XF,Ux,Int.add_comm]
theorem Zwb{x y:Nat}(w:Nat×Nat->Int):∀Q:List (Nat×Nat),(x,y)∉Q->(Q.map λq=>if x=q.1∧y=q.2 then 2*w q else 0).sum=0:=by
 intro Q
 induction Q with
 | nil=>exact λ_=>rfl
 | cons q Q ih=>
  intro h
  rw[XF,Ux,ih λm=>h (.tail _ m),if_neg λc=>h (by rw[c.1,c.2];exact .head _)];rfl
theorem Z07{x y:Nat}(w:Nat×Nat->Int):∀Q:List (Nat×Nat),Q.Nodup->(x,y)∈Q->(Q.map λq=>if x=q.1∧y=q.2 then 2*w q else 0).sum=2*w (x,y):=by
 intro Q
 induction Q with
 | nil=>exact λ_ m=>nomatch m
 | cons q Q ih=>
  intro nd m
  obtain⟨n1,n2⟩:=Qd.mp nd
  rw[XF,Ux]
  by_cases c:(x,y)=q
  ·subst c
   rw[if_pos ⟨rfl,rfl⟩,Zwb w Q n1,Int.add_zero]
  ·rcases Xl.mp m with m|m
   ·exact absurd m c
   ·rw[ih n2 m,if_neg λz=>c (Prod.ext z.1 z.2),JS]
theorem Ztp{n a c:Nat}{D E:Nat->Nat->Int}(hac:a<c)(hc:c<n)(h:∀i j,i<n->j<n->D i j=E i j):twP n D a c=twP n E a c:=by
 have m:=Nat.mod_lt (c+1) (show 0<n by omega)
 unfold twP
 rw[h a c (by omega) hc,h (a+1) _ (by omega) m,h a _ (by omega) m,h (a+1) c (by omega) hc]
theorem Pm.pn{n:Nat}{p:List Int}(h:Pm n p){u:Nat}(hu:u<n):((pn p u:Nat):Int)=p.getD u 0:=V6 (h.inR.2 u hu).1
theorem Zz8{n:Nat}{p:List Int}(h:Pm n p)(w:Nat×Nat->Int){u v:Nat}(hu:u<n)(hv:v<n):cz (rz n p w) (pn p u) (pn p v)=((Z4 n).map λq=>cd (w q) q.1 q.2 u v).sum:=by
 unfold cz rz
 rw[XN]
 refine congrArg List.sum (Xw λq hq=>?_)
 obtain⟨l1,l2⟩:=Zak hq
 have mm:∀{u:Nat},u<n->decide (((My.pn p u:Nat):Int)∈Jx (sd p q))=inS q.1 q.2 u:=fun{u} hu=>by
  rw[←Zvm h hu l1 l2]
  exact decide_eq_decide.mpr (by rw[h.pn hu,(W9 (sd p q)).mem_iff])
 show(if sep (Jx (sd p q)) (My.pn p u) (My.pn p v)=true then w q else 0)=_
 unfold sep cd Z6n
 rw[mm hu,mm hv]
 cases(inS q.1 q.2 u !=inS q.1 q.2 v)
 ·rw[if_neg Xp,if_neg Xp,Int.mul_zero]
 ·rw[if_pos rfl,if_pos rfl,Int.mul_one]
theorem Zny{n:Nat}{p:List Int}(h:Pm n p)(hn:n≤10)(w:Nat×Nat->Int){q:Nat×Nat}(hq:q∈Z4 n):tq n (cz (rz n p w)) p q=2*w q:=by
 obtain⟨l1,l2⟩:=Zak hq
 unfold tq
 rw[Ztp l1 l2 λi j hi hj=>Zz8 h w hi hj,Z3z l1 l2 w (Z4 n) λq hq=>Zak hq]
 exact Z07 w (Z4 n) (Zl6 n hn) hq
theorem Z1e{n:Nat}{p:List Int}(h:Pm n p)(hn:n≤10)(w:Nat×Nat->Int){b:Int}(hb:0<b):cL n (cz (rz n p w)) p b (Z4 n)=wL (rz n p w) b:=by
 unfold cL wL
 rw[show rz n p w=(Z4 n).map λq=>(Jx (sd p q),w q)from rfl,List.filter_map,XN]
 rw[show(Z4 n).filter ((λq:List Int×Int=>decide (0<q.2))∘ λq=>(Jx (sd p q),w q))=(Z4 n).filter (λq=>decide (0<tq n (cz (rz n p w)) p q))from List.filter_congr λq hq=>by
  rw[Zny h hn w hq]
  exact decide_eq_decide.mpr (by show 0<w q↔_;omega)]
 refine Xw λq hq=>?_
 have hq:=(VP.mp hq).1
 show(_,Qn (tq n (cz (rz n p w)) p q) (2*b))=(_,Qn (w q) b)
 rw[Zny h hn w hq,Int.mul_comm 2 b,Zif (by decide) hb]
theorem Z60:∀{Q:List (Nat×Nat)} {vs:List Int},Q.Nodup->vs.length=Q.length->∃w:Nat×Nat->Int,vs=Q.map w:=by
 intro Q
 induction Q with
 | nil=>exact fun{vs} _ l=>⟨λ_=>0,Q7 l⟩
 | cons q Q ih=>
  intro vs nd l
  cases vs with
  | nil=>cases l
  | cons v vs=>
   obtain⟨n1,n2⟩:=Qd.mp nd
   obtain⟨w,e⟩:=ih (vs:=vs) n2 (Nat.succ.inj l)
   refine⟨λx=>if x=q then v else w x,?_⟩
   rw[XF,if_pos rfl,e]
   refine congrArg (v :: ·) (Xw λx hx=>?_)
   exact(if_neg λz:x=q=>n1 (z▸hx)).symm
theorem Zzs:∀m≤10,(Z4 m).length=m*(m-1)/2:=by decide +kernel
theorem Zpd{n:Nat}{r:List Int}(hr:r.length=n)(hn:n≤10):Told Wi [Zj r] (.list (((Z4 n).map λq=>Jx (sd r q)).map Zj)):=by
 refine Z6 rfl (Yv ⟨_,Zxg (cs:=[some (.fz (Zj r))]) (Z4 n) (λq=>.int (q.1:Int)) (λq=>.int (q.2:Int)) (λ_=>true) (λq=>.nd (((Jx (sd r q)).map Xj).map OT.fz)) (Zaz (Zo (Zb ((Yw Za).cast (by rw[hr])) Zh) (Zm8 n (by omega)))) (QK (Zd1 n hn) (by decide)) rfl (λq _ z0 z1=>rfl) (λq _=>rfl) λq hq _=>?_,?_⟩)
 ·obtain⟨l1,l2⟩:=Zak hq
  have ls:(sd r q).length<64:=by
   unfold sd
   rw[QG,Qq];omega
  obtain⟨ts,e1,d1⟩:=Zb (Zcg (e:=Ze 2) (δ:=[some (.fz (.int (q.1:Int))),some (.fz (.int (q.2:Int))),some (.fz (Zj r))]) (r:=r) Za (Zqi (Z7 (Za (i:=0) (d:=.int (q.1:Int)) rfl) (Zw (d:=.int 1)))) (Zqi (Z7 (Za (i:=1) (d:=.int (q.2:Int)) rfl) (Zw (d:=.int 1)))) (Zsu l1 (by omega))) Zh
  rw[Zsw,e1,Xc]
  dsimp only
  rw[d1,Zdn ls];rfl
 ·rw[List.filter_eq_self.mpr λ_ _=>rfl,OT.data_nd,XN,XN]
  exact congrArg Qy (Xw λq _=>Zfv _)
theorem Zjl{n:Int}{p:List Int}(h:p.length<64)(hn:n≤1000000)(c:ringB n p=false):Yp [.int n,Zj p]= .exn "NoOrder" :=
 Zop rfl (W8 (Zh4 (p:=false) (Zf9 (Zo (Zb Za (Zb Za Zh)) (.of (by rw[Zie h hn,c]) (OT.data_fz _))))) rfl)
theorem Zuf{n b:Nat}{p:List Int}(h:p.length=n)(hb:b<n):(p ++ p).getD (b+1) 0=p.getD ((b+1)%n) 0:=by
 rw[Xd,Xd]
 by_cases c:b+1<n
 ·rw[JW (by omega),Nat.mod_eq_of_lt c]
 ·have:b+1=n:=by omega
  rw[Q3 (by omega),this,h,Nat.mod_self,Nat.sub_self]
theorem Zlq{n a b:Nat}{S:Nat->Nat->Int}{p:List Int}(h:InR n p)(hn:n≤1000)(hab:a<b)(hb:b<n):W5 [J2 n S,Zj p,.int a,.int b]= .ok (.fz (.int (tw S (pn p a) (pn p (a+1)) (pn p b) (pn p ((b+1)%n))))):=by
 have hm:(b+1)%n<n:=Nat.mod_lt _ (by omega)
 obtain⟨e1,l1⟩:=h.at (i:=a) (by omega)
 obtain⟨e2,l2⟩:=h.at (i:=a+1) (by omega)
 obtain⟨e3,l3⟩:=h.at hb
 obtain⟨_,l4⟩:=h.at hm
 have hl:=h.1
 have e4:gIx (.list (p.map Xj ++ p.map Xj)) (.int ((b:Int)+1))=some (.fz (.int (pn p ((b+1)%n):Nat))):=by
  rw[←QF]
  show gIx (Zj (p ++ p)) _=_
  rw[Zjv (by omega) (by rw[XX];omega),show((b:Int)+1).toNat=b+1 by omega,Zuf hl hb]
  unfold pn
  rw[V6 (h.2 _ hm).1]
 have v:∀δ:Zg,δ[1]? =some (some (.fz (Zj p)))->EvV (Ze 1) δ (.list (p.map Xj)):=λδ h=>Za h
 exact Told.int<|Z6 rfl<|Zt (Zq (Zah Za Za e1))<|Zt (Zq (Zah Za (Z7 Za Zw) e2))<|Zt (Zq (Zah Za Za e3))<|
  Zt (Zq (Zah (Zq8 (v _ rfl) (v _ rfl) (by rw[Xi];omega)) (Z7 Za Zw) e4))<|
  Zt (Zq (Z7 (Zf7 l1 l3 rfl rfl rfl) (Zf7 l2 l4 rfl rfl rfl)))<|
  Yv (Zb6 (Zb6 Za (Zf7 l1 l4 rfl rfl rfl)) (Zf7 l2 l3 rfl rfl rfl))
noncomputable def Bad(n:Nat)(b:List Int):Prop:=b.length≤20∧ringB n b=false
structure Gd(n:Nat)(r:List Int):Prop where
 pm:Pm n r
 h3:3≤n
 hn:n≤10
 r0:r.getD 0 0=0
 r1:r.getD 1 0<r.getD (n-1) 0
theorem Zry{n:Nat}{b:List Int}(h:b.length≠n):ringB n b=false:=Zgp λp _ _=>h p.len
theorem Zt8{n:Nat}{b:List Int}{x:Int}(h:x∈b)(hx:¬(0≤x∧x<n)):ringB n b=false:=Zgp λp _ _=>hx (Zfw.mp (p.mem_iff.mp h))
theorem Zsi{n:Nat}{A B:List Int}{x:Int}(h:x∈A∨x∈B):ringB n (A ++ [x] ++ B)=false:=Zgp λp _ _=>by
 have nd:=p.nodup
 rw[Q8,JQ]at nd
 obtain⟨_,n2,n3⟩:=nd
 rcases h with h|h
 ·exact n3 x h x (by simp) rfl
 ·have:=(Qd.mp (show(x :: B).Nodup from n2)).1
  exact this h
theorem Gd.len{n:Nat}{r:List Int}(g:Gd n r):r.length=n:=g.pm.len
theorem Ych{n:Nat}{r:List Int}(g:Gd n r):ringB n (r.drop 1 ++ r.take 1)=false:=Zgp λ_ h0 _=>by
 have hl:=g.len
 have h3:=g.h3
 have e:(r.drop 1 ++ r.take 1).getD 0 0=r.getD 1 0:=by
  rw[Xd,JW (by rw[Qq];omega),Vp,Xd]
 rw[e]at h0
 have:=g.pm.ne (i:=1) (j:=0) (by omega) (by omega) (h0.trans g.r0.symm)
 omega
theorem Yck{n:Nat}{r:List Int}(g:Gd n r):ringB n (r.take 1 ++ (r.drop 1).reverse)=false:=Zgp λp _ h1=>by
 have hl:=g.len
 have h3:=g.h3
 obtain⟨_,g1,g2⟩:=Zo6 (w:=r) (by omega)
 have:=p.len
 rw[this]at h1
 have h1:(flip r).getD 1 0<(flip r).getD (n-1) 0:=h1
 rw[hl]at g1 g2
 rw[g1,g2]at h1
 have:=g.r1
 omega
theorem Zon{r:List Int}{k a:Nat}(ha:a<k)(hk:k≤r.length):r.getD a 0∈r.take k:=by
 rw[Xd,←List.getElem?_take_of_lt ha,Xh (by rw[QG];omega)]
 exact Bc _
theorem Zvw{r:List Int}{k a:Nat}(hk:k≤a)(ha:a<r.length):r.getD a 0∈r.drop k:=by
 have:r.getD a 0=(r.drop k).getD (a-k) 0:=by
  rw[Xd,Xd,Vp,show k+(a-k)=a by omega]
 rw[this]
 exact getD_mem (by rw[Qq];omega)
theorem Zug{n k a:Nat}{r:List Int}(g:Gd n r)(hk:k<n)(ha:a<n)(hne:a≠k):Bad n (r.take k ++ [r.getD a 0] ++ r.drop (k+1)):=by
 have hl:=g.len
 have:=g.hn
 refine⟨by simp;omega,Zsi ?_⟩
 by_cases c:a<k
 ·exact .inl (Zon c (by omega))
 ·exact .inr (Zvw (by omega) (by omega))
theorem Zui{n k:Nat}{r:List Int}{x:Int}(g:Gd n r)(hk:k<n)(hx:¬(0≤x∧x<n)):Bad n (r.take k ++ [x] ++ r.drop (k+1)):=by
 have hl:=g.len
 have:=g.hn
 exact⟨by simp;omega,Zt8 (x:=x) (by simp) hx⟩
theorem Zi8{n:Nat}{r:List Int}{x:Int}(g:Gd n r)(hx:¬(0≤x∧x<n)):Bad n (r.dropLast ++ [x]):=by
 have hl:=g.len
 have:=g.hn
 exact⟨by simp;omega,Zt8 (x:=x) (by simp) hx⟩
theorem Ycm{n:Nat}{r:List Int}(g:Gd n r):Bad n (r.dropLast ++ [r.getD 1 0]):=by
 have hl:=g.len
 have:=g.hn
 have:=g.h3
 refine⟨by simp;omega,?_⟩
 have:=Zsi (n:=n) (A:=r.dropLast) (B:=[]) (x:=r.getD 1 0) (.inl (by rw[List.dropLast_eq_take];exact Zon (by omega) (by omega)))
 rw[Qw]at this
 exact this
theorem Zl8{n:Nat}{r:List Int}{far:Int}(g:Gd n r)(hf:0≤far):∃bs:List (List Int),Told Y5 [Zj r,.int far] (.list (bs.map Zj))∧∀b∈bs,Bad n b:=by
 have hl:=g.len
 have hn:=g.hn
 have h3:=g.h3
 have pos:∀k,0<k->k<n->0<r.getD k 0:=λk h0 hk=>by
  have h1:=(g.pm.inR.2 k hk).1
  have:r.getD k 0≠0:=λe=>XM h0 (g.pm.ne (i:=k) (j:=0) hk (by omega) (by rw[e,g.r0]))
  omega
 have sr:r.length≤1000:=by omega
 have sT:∀k,(r.take k).length≤1000:=λk=>QK (List.length_take_le' ..) sr
 have sD:∀k,(r.drop k).length≤1000:=λk=>QK (List.drop_sublist k r).length_le sr
 have sL:r.dropLast.length≤1000:=QK (List.dropLast_sublist r).length_le sr
 have s1:∀x:Int,[x].length≤1000:=λx=>U0 (Q9 _)
 have c12:Zme r (some 1) (some 2)=[r.getD 1 0]:=Z0o (by omega)
 have c1f:Zme r (some 1) none=r.drop 1:=Zgw (k:=1) (by omega)
 have c1t:Zme r none (some 1)=r.take 1:=Zje (k:=1) (by omega)
 have m1:∀{δ:Zg},EvO (oI (fUn Ze2 (fC (.int 1)))) δ (some (-1)):=rfl
 have one:∀{δ:Zg} {i:Int},EvO (oI (fC (.int i))) δ (some i):=rfl
 have neg:∀{δ:Zg},EvV (fUn Ze2 (fC (.int 1))) δ (.int (-1)):=Zly Zw
 obtain⟨ten,hten⟩:∃x,x=[[],r.dropLast,r ++ [(n:Int)],r ++ [r.getD 1 0],r.drop 1 ++ r.take 1,r.take 1 ++ (r.drop 1).reverse,r.dropLast ++ [r.getD 1 0],r.dropLast ++ [(n:Int)+far],r.dropLast ++ [-1-far],r.dropLast ++ [-1]]:=⟨_,rfl⟩
 have hbad:(∀b∈ten,Bad n b)∧ten.length=10:=by
  refine⟨λb hb=>?_,by rw[hten];rfl⟩
  rw[hten]at hb
  simp only[Xl,JF,or_false]at hb
  have ln:∀{b:List Int},b.length+1=n∨b.length=n+1->Bad n b:=λh=>⟨by omega,Zry (by omega)⟩
  have a1:∀x:Int,(r ++ [x]).length=n+1:=λx=>by rw[XX,hl];rfl
  rcases hb with rfl|rfl|rfl|rfl|rfl|rfl|rfl|rfl|rfl|rfl
  ·exact⟨Q9 _,Zry (by rw[List.length_nil];omega)⟩
  ·exact ln (.inl (by rw[List.length_dropLast,hl];omega))
  ·exact ln (.inr (a1 _))
  ·exact ln (.inr (a1 _))
  ·exact⟨by rw[XX,Qq,QG];omega,Ych g⟩
  ·exact⟨by rw[XX,List.length_reverse,Qq,QG];omega,Yck g⟩
  ·exact Ycm g
  ·exact Zi8 g (by omega)
  ·exact Zi8 g (by omega)
  ·exact Zi8 g (by omega)
 have key:∃d,Told Y5 [Zj r,.int far] d∧∃bs:List (List Int),d= .list (bs.map Zj)∧∀b∈bs,Bad n b:=by
  refine Znv rfl<|Zay (Zq (d:=.int n) (EvV.cast (Yw (p:=r) Za) (by rw[hl])))<|Zy6 (Zae (Zb Z2q (Zb (Zcg Za Zmw m1 Zeg) (Zb (Zb7 Za (Zha Za) sr (s1 _)) (Zb (Zb7 Za (Zcg Za one one c12) sr (s1 _)) (Zb (Zb7 (Zcg Za one Zmw c1f) (Zcg Za Zmw one c1t) (sD 1) (sT 1)) (Zb (Zb7 (Zcg Za Zmw one c1t) (Zru Za one m1) (sT 1) (by rw[List.length_reverse];exact sD 1)) Zh)))))) (show 6≤1000 by decide)) λo d2=>Zay (Zhg rfl (Zs2 (EvV.cast Za d2) (Zae (Zb (Zb7 (Zcg Za Zmw m1 Zeg) (Zcg Za one one c12) sL (s1 _)) (Zb (Zb7 (Zcg Za Zmw m1 Zeg) (Zha (Z7 Za Za)) sL (s1 _)) (Zb (Zb7 (Zcg Za Zmw m1 Zeg) (Zha (Zb6 neg Za)) sL (s1 _)) (Zb (Zb7 (Zcg Za Zmw m1 Zeg) (Zha neg) sL (s1 _)) Zh)))) (show 4≤1000 by decide)) (show 6+4≤1000000 by decide)))<|Zgy (ds:=Zch 1 (n-1)) (λi δ=>∃(bs:List (List Int)) (z1 z2 z3:Option OT),δ=[some (.fz (Zj r)),some (.fz (.int far)),some (.fz (.int n)),some (.nd ((bs.map Zj).map OT.fz)),z1,z2,z3]∧(∀b∈bs,Bad n b)∧bs.length≤10+2*i) (Z04 (m:=1) (Zb Zw (Zb Za Zh)) (by decide) (by omega)) ⟨ten,none,none,none,by rw[hten];rfl,hbad.1,Nat.le_of_eq hbad.2⟩ (λi d δ hd q=>?_) λδ' q=>?_
  ·obtain⟨bs,z1,z2,z3,rfl,hb,hz⟩:=q
   obtain⟨hi,rfl⟩:=W6 hd
   obtain⟨k,hk⟩:∃k:Nat,k=1+i:=⟨_,rfl⟩
   rw[show(1:Int)+(i:Int)=(k:Int) by omega]
   have hkn:0<k∧k<n:=by omega
   obtain⟨a0,ha0,ha1⟩:=Zet far (n:=n) (by omega)
   obtain⟨a,ha⟩:∃a:Nat,a=if a0=k then 0 else a0:=⟨_,rfl⟩
   have hak:a≠k∧a<n:=by
    rw[ha]
    split<;>omega
   have rk:=pos k hkn.1 hkn.2
   obtain⟨x,ex,hx⟩:∃x,atI [Xj n,.int (n+far),.int (-1),.int (-1-far),.int (0-r.getD k 0)] ((far+k).fmod 5)=some (.int x)∧¬(0≤x∧x<n):=by
    obtain⟨m,hm,hm5⟩:=Zet (far+k) (n:=5) (by decide)
    rw[show((5:Nat):Int)=5 from rfl]at hm
    rw[hm]
    rcases m with _|_|_|_|_|m
    ·exact⟨_,rfl,by omega⟩
    ·exact⟨_,rfl,by omega⟩
    ·exact⟨_,rfl,by omega⟩
    ·exact⟨_,rfl,by omega⟩
    ·exact⟨_,rfl,by omega⟩
    ·omega
   have w2:∀{δ:Zg},δ[4]? =some (some (.fz (.int k)))->δ[5]? =some (some (.fz (.int a0)))->δ.set 5 (some (.fz (.int a0)))=δ->Jp (tV (Zf gEq (Ze 5) (Ze 4))) (wE (fC (.int 0)) (Yu 5)) fNx δ= .nx (δ.set 5 (some (.fz (.int a)))):=fun{δ} h4 h5 hs=>by
    by_cases c:a0=k
    ·rw[ha,if_pos c]
     exact W8 (Zbu (Zhy (Za h5) (Za h4) (decide_eq_true (by omega)))) (Zq Zw)
    ·rw[ha,if_neg c,hs]
     exact Z5 (Zbu (Zhy (Za h5) (Za h4) (decide_eq_false (by omega)))) rfl
   have w4:∀{δ:Zg} {bs:List (List Int)} {y:Int} {e:FE},EvV e δ (.int y)->δ[0]? =some (some (.fz (Zj r)))->δ[4]? =some (some (.fz (.int k)))->δ[3]? =some (some (.nd ((bs.map Zj).map OT.fz)))->bs.length≤1000->(Wq 3 (Yn Ze5 (Yn Ze5 (fSl (Ze 0) oN (oI (Ze 4))) (Zbm (Zc e Zn))) (fSl (Ze 0) (oI (Zf Js (Ze 4) (fC (.int 1)))) oN))) δ= .nx (δ.set 3 (some (.nd (((bs ++ [r.take k ++ [y] ++ r.drop (k+1)]).map Zj).map OT.fz)))):=λhe h0 h4 h3 hl=>Z5r (Zb7 (Zb7 (Zcg (Za h0) Zmw (Zqi (Za h4)) (Zje (by omega))) (Zha he) (sT k) (s1 _)) (Zcg (Za h0) (Zqi (Z7 (Za h4) Zw)) Zmw (Zgw (k:=k+1) (by omega))) (by rw[XX,QG,VG];omega) (sD _)) h3 hl
   have l1:(bs ++ [r.take k ++ [r.getD a 0] ++ r.drop (k+1)]).length=bs.length+1:=XX
   refine⟨_,_,rfl,.inl (Yg (Zq (EvV.cast (Yz Za Za (by omega)) (congrArg Xj ha0)))<|Yg (w2 rfl rfl rfl)<|Yg (Zq (Zsz (Zae (Zb Za (Zb (Z7 Za Za) (Zb neg (Zb (Zb6 neg Za) (Zb (Zb6 Zw (Wy (p:=r) (i:=(k:Int)) Za Za (by omega) (by omega))) Zh))))) (show 5≤1000 by decide)) (Yz (Z7 Za Za) Zw (by decide)) ex))<|
    Yg (w4 (bs:=bs) (y:=r.getD a 0) (Wy (p:=r) (i:=(a:Int)) Za Za (by omega) (by omega)) rfl rfl rfl (by omega)) (w4 (y:=x) Za rfl rfl rfl (by omega))),_,some (.fz (.int k)),some (.fz (.int a)),some (.fz (.int x)),rfl,λb hb'=>?_,by rw[XX,l1,VG];omega⟩
   rcases Qz.mp hb' with h|h
   ·rcases Qz.mp h with h|h
    ·exact hb b h
    ·rcases XH.mp h with rfl
     exact Zug g hkn.2 hak.2 hak.1
   ·rcases XH.mp h with rfl
    exact Zui g hkn.2 hx
  ·obtain⟨bs,z1,z2,z3,rfl,hb,hz⟩:=q
   exact Z6k rfl ⟨bs,by rw[OT.data_nd,OT.map_fz],hb⟩
 obtain⟨d,h,bs,rfl,hb⟩:=key
 exact⟨bs,h,hb⟩
theorem Z41{δ:Zg}{i n:Nat}{e j:FE}{ts:List OT}{d:Xa}{k:Int}(h:EvV e δ d)(hi:δ[i]? =some (some (.nd ts)))(hj:EvV j δ (.int k))(hx:ixN ts.length k=some n):Zqn i e j δ= .nx (δ.set i (some (.nd (ts.set n (.fz d))))):=by
 obtain⟨t,e1,e2⟩:=h
 obtain⟨u,e3,e4⟩:=hj
 rw[Zze,e1,Yo,hi]
 show onO (j δ) _=_
 rw[e3,Yo,e4]
 show onX (ixN ts.length k) _=_
 rw[hx,e2];rfl
theorem Z57{as:FA}{δ:Zg}{ts:List OT}(h:as δ=some (ts,δ))(hl:ts.length≤1000):Zfy as δ=some (.tp ts,δ):=by
 rw[Zv6,h,Xc,if_pos (by rw[X5];show ts.length≤_;omega)]
theorem Zzl{a b:FE}{δ:Zg}{s t:OT}(ha:a δ=some (s,δ))(hb:b δ=some (t,δ)):Zc a (Zc b Zn) δ=some ([s,t],δ):=by
 rw[Zgf,ha,Xc,Zgf,hb,Xc,Zuo,Xc,Xc]
theorem Yb5{e:FE}{δ:Zg}{i:Nat}{o:OT}{ts:List OT}(h:e δ=some (o,δ))(hi:δ[i]? =some (some (.nd ts)))(hl:ts.length≤1000):Zag i e δ= .nx (δ.set i (some (.nd (ts ++ [o])))):=by
 rw[Zmf,hi,Zp7,h,Yo,hi,Zp7,if_pos (by rw[X5];omega)]
noncomputable def Z29(n:Nat)(R:Nat->Nat->Int)(p:List Int)(b:Int)(o:OT):Prop:=o.data=Zcf n R p b∧(Zp6 n R p=none->∃ts,o= .tp [.fz (.str "ring"),.nd ts]∧ts.length≤100∧∀t∈ts,Z1z t=true)
noncomputable abbrev Zu7(S':FS):FS:=Zy (wX Yp (Zc (Zbg Za1 (Zc (Ze 0) Zn)) (Zc (Ze 1) Zn)) Zmk) (Zy (wE (Zx Yj (Zc (Ze 0) Zn)) (Yu 2)) (Zy (wE (Zx Y9 (Zc (Ze 2) (Zc (Ze 0) Zn))) (Yu 3)) (Zy (wE (Zbm Zn) (Jo 4)) S')))
theorem Zgn{n:Nat}{R:Nat->Nat->Int}{b:Int}{p:List Int}(h:Pm n p)(hr:ringB n p=true)(hn:n≤10)(hb:0<b)(bb:Bt 300 b)(W:Rw n R):∃o,Zz [tbD (Zgh n R b),Zj p]= .ok o∧Z29 n R p b o:=by
 obtain⟨m,k,S,e1,eS,m0,k0,rfl,bm,sc⟩:=Z2r (by omega:n<64) hb bb W.bt
 have hI:=h.inR
 have hle:Za1 [tbD (Zgh n R (m*k))]=some (.int n):=by rw[Z1h,Zjk]
 have hg:Zhv (.int 2) (.int m)=some (.int (2*m)):=Zmc (Zxo (by decide))
 obtain⟨E,hE⟩:∃E:List OT->Option OT->Option OT->Option OT->Zg,E= λts z5 z6 z7=>[some (.fz (tbD (Zgh n R (m*k)))),some (.fz (Zj p)),some (.fz (.int m)),some (.fz (J2 n S)),some (.nd ts),z5,z6,z7]:=⟨_,rfl⟩
 have key:=Zvy (g:=gTp 2 (gCn (gNm 5) (gCn (gNm 6) gNl))) (u:=Zy (wE (Zx Ys (Zc (Ze 3) (Zc (Ze 1) (Zc (Ze 5) (Zc (Ze 6) Zn))))) (Yu 7)) (Zy (Jp (tV (Zf gLt (Ze 7) (fC (.int 0)))) (wE (Zfy (Zc (fC (.str "bars")) (Zc (Zfy (Zc (Ze 5) (Zc (Ze 6) Zn))) Zn))) Zai) fNx) (Jp (tV (Zf gGt (Ze 7) (fC (.int 0)))) (Zag 4 (Zfy (Zc (fBl Zez (Zc (fSl (Ze 1) (oI (Zf Js (Ze 5) (fC (.int 1)))) (oI (Zf Js (Ze 6) (fC (.int 1))))) Zn)) (Zc (Zx Y8 (Zc (Ze 7) (Zc (Zf Zhv (fC (.int 2)) (Ze 2)) Zn))) Zn)))) fNx))) ptD (λq=>decide (tq n R p q<0)) (λQ δ=>∃ts z5 z6 z7,δ=E ts z5 z6 z7∧ts.map OT.data=(cL n R p (m*k) Q).map ctD∧∀t∈ts,Z1z t=true) (λq o=>o.data= .tuple [.str "bars",ptD q]) (Z4 n) (λq done rest ea δ hI'=>?_) (Z4 n) [] rfl (E [] none none none) ⟨[],_,_,_,rfl,rfl,λt m=>nomatch m⟩
 ·have l0:=Zd1 n hn
  have st:∀{S':FS} {o:OT} {δ':Zg},S' (E [] none none none)= .rt o δ'->Jy 2 8 (Zu7 S') [tbD (Zgh n R (m*k)),Zj p]= .ok o:=fun{S' o δ'} q=>
   Zr8 rfl (Yg (Ybg (Zb (Zeq (Zb Za Zh) hle) (Zb Za Zh)) (.of (Zj1 (by rw[hI.1];omega) (by omega) hr) (OT.data_fz _)) λ_ _=>rfl)<|Yg (Zq (Zo (Zb Za Zh) e1))<|Yg (Zq (Zo (Zb Za (Zb Za Zh)) eS))<|Yg Ziz (by rw[hE]at q;exact q))
  have hi:EvI (Zhh (Zx Jj (Zc (Zbg Za1 (Zc (Ze 0) Zn)) Zn))) (E [] none none none) ((Z4 n).map ptD):=by
   rw[hE]
   exact Zaz (Zo (Zb (Zeq (Zb (Za (i:=0) rfl) Zh) hle) Zh) (Zni n (by omega)))
  unfold Z29 Zcf
  cases c:Zp6 n R p with
  | some q=>
   obtain⟨o,δ',e,d⟩:=key.2 q c
   exact⟨o,st (Zgq (Zh9 hi e)),d,λz=>nomatch z⟩
  | none=>
   obtain⟨δ',e,ts,z5,z6,z7,rfl,hd,hok⟩:=key.1 c
   have ll:=Zym n R p (m*k) (Z4 n)
   have lt:ts.length=(cL n R p (m*k) (Z4 n)).length:=by
    have:=congrArg List.length hd
    rwa[Xi,Xi]at this
   obtain⟨L,hL⟩:∃L,L=cL n R p (m*k) (Z4 n):=⟨_,rfl⟩
   rw[←hL]at hd lt ll⊢
   have dd:OT.datas ts=L.map ctD:=by rw[OT.datas_map,hd]
   have pm:=Zln (d:=OT.fz .none) (lt:=lk kdT ltT (L.map ctD)) (vs:=ts)
   refine⟨.tp [.fz (.str "ring"),.nd (sLay (.fz .none) (lk kdT ltT (L.map ctD)) ts)],st (Yg (Zh9 hi e) (δ':=E ts z5 z6 z7) (r:=.rt _ ((E ts z5 z6 z7).set 4 none)) ?_),?_,λ_=>⟨_,rfl,by rw[pm.length_eq];omega,λt m=>hok t (pm.mem_iff.mp m)⟩⟩
   ·rw[hE]
    show(if(decide (ts.length<64)&&(OT.datas ts).all λd=>(kdT d).isSome)=true then RS.rt (.tp [.fz (.str "ring"),.nd (sLay (.fz .none) (lk kdT ltT (OT.datas ts)) ts)]) _ else .bad)=_
    rw[if_pos ?_,dd]
    rw[dd,Xx,decide_eq_true_eq,Be]
    refine⟨by omega,λd m=>?_⟩
    obtain⟨x,_,rfl⟩:=X4.mp m
    rw[Zxl];rfl
   ·rw[OT.data_tp,XF,XF,Vj,OT.data_fz,OT.data_nd,←Zjb,hd,OT.data_fz]
    show _=PyData.tuple [.str "ring",.list ((sCt L).map ctD)]
    unfold sCt
    rw[←Zjb,Zt7 (ctD ([],0)) Xa.none]
 ·obtain⟨l1,l2⟩:=Zak (p:=q) (by rw[←ea];exact XQ _ (.head _))
  have dl:done.length≤60:=by
   have:=Zd1 n hn
   rw[←ea,XX]at this
   omega
  obtain⟨ts,z5,z6,z7,rfl,hd,hok⟩:=hI'
  have lt:ts.length≤60:=by
   have:=congrArg List.length hd
   rw[Xi,Xi]at this
   have:=Zym n R p (m*k) done
   omega
  have hmod:(q.2+1)%n<n:=Nat.mod_lt _ (by omega)
  obtain⟨_,a1⟩:=hI.at (i:=q.1) (by omega)
  obtain⟨_,a2⟩:=hI.at (i:=q.1+1) (by omega)
  obtain⟨_,a3⟩:=hI.at l2
  obtain⟨_,a4⟩:=hI.at hmod
  obtain⟨v,hv⟩:∃v,v=tw S (pn p q.1) (pn p (q.1+1)) (pn p q.2) (pn p ((q.2+1)%n)):=⟨_,rfl⟩
  have kv:k*v=tq n R p q:=by
   rw[hv]
   show k*(S _ _+S _ _-S _ _-S _ _)=R _ _+R _ _-R _ _-R _ _
   rw[Int.mul_sub,Int.mul_sub,Int.mul_add,sc _ _ a1 a3,sc _ _ a2 a4,sc _ _ a1 a4,sc _ _ a2 a3]
  have neg:(v<0)↔tq n R p q<0:=by
   rw[←kv]
   exact⟨λz=>Int.mul_neg_of_pos_of_neg k0 z,λz=>Int.not_le.mp λy=>Int.not_lt.mpr (Int.mul_nonneg (Int.le_of_lt k0) y) z⟩
  have ps:(0<v)↔0<tq n R p q:=by
   rw[←kv]
   exact⟨λz=>Int.mul_pos k0 z,λz=>Int.not_le.mp λy=>Int.not_lt.mpr (Int.mul_nonpos_of_nonneg_of_nonpos (Int.le_of_lt k0) y) z⟩
  have eF:=Zmg (n:=302) (t:=tw S (pn p q.1) (pn p (q.1+1)) (pn p q.2) (pn p ((q.2+1)%n))) (b:=2*m) (by omega) (Bt.mul (m:=2) (Bt.of_lt (by decide) (by decide)) bm)
  rw[Zrc m0 k0 (sc _ _ a1 a3) (sc _ _ a2 a4) (sc _ _ a1 a4) (sc _ _ a2 a3),←hv]at eF
  have eF:Told Y8 [.int v,.int (2*m)] (frD (Qn (tq n R p q) (2*(m*k)))):=eF
  obtain⟨δ,hδ⟩:∃δ,δ=E ts (some (.fz (.int (q.1:Int)))) (some (.fz (.int (q.2:Int)))) (some (.fz (.int v))):=⟨_,rfl⟩
  have v1:δ[1]? =some (some (.fz (Zj p))):=by rw[hδ,hE];rfl
  have v2:δ[2]? =some (some (.fz (.int m))):=by rw[hδ,hE];rfl
  have v4:δ[4]? =some (some (.nd ts)):=by rw[hδ,hE];rfl
  have v5:δ[5]? =some (some (.fz (.int (q.1:Int)))):=by rw[hδ,hE];rfl
  have v6:δ[6]? =some (some (.fz (.int (q.2:Int)))):=by rw[hδ,hE];rfl
  have v7:δ[7]? =some (some (.fz (.int v))):=by rw[hδ,hE];rfl
  have s7:∀{S':FS} {r:RS},S' δ=r->Zy (wE (Zx Ys (Zc (Ze 3) (Zc (Ze 1) (Zc (Ze 5) (Zc (Ze 6) Zn))))) (Yu 7)) S' (E ts (some (.fz (.int (q.1:Int)))) (some (.fz (.int (q.2:Int)))) z7)=r:=λh=>Yg (Zq (d:=.int v) (Zo (Zb (Za (i:=3) (d:=J2 n S) (by rw[hE];rfl)) (Zb (Za (i:=1) (d:=Zj p) (by rw[hE];rfl)) (Zb (Za (i:=5) (d:=.int (q.1:Int)) (by rw[hE];rfl)) (Zb (Za (i:=6) (d:=.int (q.2:Int)) (by rw[hE];rfl)) Zh)))) (.of (hv▸Zg9 hI l1 l2) (OT.data_fz _)))) (by rw[hδ,hE]at h;rw[hE];exact h)
  refine⟨E ts (some (.fz (.int (q.1:Int)))) (some (.fz (.int (q.2:Int)))) z7,by rw[hE];rfl,λc=>?_,λc=>?_⟩
  ·have nn:¬v<0:=λz=>of_decide_eq_false c (neg.mp z)
   have f1:=Zbu (Zee (δ:=δ) (Za v7) (Zw (d:=.int 0)) (decide_eq_false nn))
   by_cases pv:0<v
   ·obtain⟨o1,h1,h2⟩:=Zpx (Zb (Zcg (r:=p) (δ:=δ) (Za v1) (Zqi (Z7 (Za v5) (Zw (d:=.int 1)))) (Zqi (Z7 (Za v6) (Zw (d:=.int 1)))) (Zsu l1 (by rw[hI.1];exact l2))) Zh) (Zdn (by unfold sd;rw[QG,Qq,hI.1];omega)) rfl
    have h1:fBl Zez (Zc (fSl (Ze 1) (oI (Zf Js (Ze 5) (fC (.int 1)))) (oI (Zf Js (Ze 6) (fC (.int 1))))) Zn) δ=some (.nd (((Jx (sd p q)).map Xj).map OT.fz),δ):=by
     obtain⟨_,e1,d1⟩:=Zb (Zcg (r:=p) (δ:=δ) (Za v1) (Zqi (Z7 (Za v5) (Zw (d:=.int 1)))) (Zqi (Z7 (Za v6) (Zw (d:=.int 1)))) (Zsu l1 (by rw[hI.1];exact l2))) Zh
     rw[Zsw,e1,Xc,d1,Zdn (by unfold sd;rw[QG,Qq,hI.1];omega),Xc]
    obtain⟨o2,h3,h4⟩:=Zo (Zb (Za v7) (Zb (Z0 (δ:=δ) (Zw (d:=.int 2)) (Za v2) hg) Zh)) eF
    refine⟨_,s7 (Yg (Z5 f1 rfl) (W8 (Zbu (Zm4 (Za v7) Zw (decide_eq_true pv))) (Yb5 (Z57 (Zzl h1 h3) (show 2≤1000 by decide)) v4 (by omega)))),ts ++ [.tp [.nd (((Jx (sd p q)).map Xj).map OT.fz),o2]],some (.fz (.int (q.1:Int))),some (.fz (.int (q.2:Int))),some (.fz (.int v)),by rw[hδ,hE];rfl,?_,λt mt=>?_⟩
    ·rw[Zuc,if_pos (ps.mp pv),QF,QF,hd,XF,Vj,OT.data_tp,XF,XF,Vj,Zfv,h4];rfl
    ·rcases Qz.mp mt with mt|mt
     ·exact hok t mt
     ·rw[XH.mp mt]
      refine decide_eq_true ?_
      rw[Xi,Xi,(W9 _).length_eq,X5]
      unfold sd
      rw[QG,Qq,hI.1];omega
   ·refine⟨_,s7 (Yg (Z5 f1 rfl) (Z5 (Zbu (Zm4 (Za v7) Zw (decide_eq_false pv))) rfl)),ts,some (.fz (.int (q.1:Int))),some (.fz (.int (q.2:Int))),some (.fz (.int v)),hδ,?_,hok⟩
    rw[Zuc,if_neg λz=>pv (ps.mpr z),Qw,hd]
  ·have f1:=Zbu (Zee (δ:=δ) (Za v7) (Zw (d:=.int 0)) (decide_eq_true (neg.mpr (of_decide_eq_true c))))
   have h5:Ze 5 δ=some (.fz (.int (q.1:Int)),δ):=by rw[Zg8,v5,Zg6]
   have h6:Ze 6 δ=some (.fz (.int (q.2:Int)),δ):=by rw[Zg8,v6,Zg6]
   have er:Zfy (Zc (fC (.str "bars")) (Zc (Zfy (Zc (Ze 5) (Zc (Ze 6) Zn))) Zn)) δ=some (.tp [.fz (.str "bars"),.tp [.fz (.int (q.1:Int)),.fz (.int (q.2:Int))]],δ):=Z57 (Zzl (Z2i _ _) (Z57 (Zzl h5 h6) (show 2≤1000 by decide))) (show 2≤1000 by decide)
   refine⟨_,δ,s7 (Zgq (W8 f1 (by rw[Ze9,er,Yo,Zs9]))),?_⟩
   simp only[OT.data_tp,XF,Vj,OT.data_fz];rfl
theorem Zf4{ds:List Xa}{p:List Int}(h:p.length<64)(hn:ds.length≤1000)(c:ringB ds.length p=false):Zz [.list ds,Zj p]= .exn "NoOrder" :=
 Zop rfl (Zq1 (Zr3 (Zb (Zr5 Za) (Zb Za Zh)) (Zjl h (by omega) c)))
theorem Zir{T R:Xa}(h:Zz [T,R]= .exn "NoOrder"):Told Yc [T,R] (.bool true):=by
 have e:(wX Zz (Zc (Ze 0) (Zc (Ze 1) Zn)) Zmk) [some (.fz T),some (.fz R),some (.fz .none),none,none]= .ex "NoOrder" [some (.fz T),some (.fz R),some (.fz .none),none,none]:=Zr3 (Zb Za (Zb Za Zh)) h
 exact Z6 rfl<|Zt (Zq Zw)<|Zt (Z3n e (by decide +kernel) (Yg (Zq (Zzn (p:=false) (x :="NoOrder") Za rfl (by decide +kernel))) (Zq (Zcd (Zb (Zyp (p:=true) (x :="NoOrder") Za rfl (by decide +kernel)) (Zb (Zyp (p:=true) (x :="NoOrder") Za rfl (by decide +kernel)) (Zb Za Zh))) (by decide))))) (Yv (Z0 Za (Zcd (Zb Zw (Zb Zw (Zb Zw Zh))) (by decide)) rfl))
theorem Zbw{ds:List Xa}{p:List Int}(h:p.length<64)(hT:ds.length<3):Told Yc [.list ds,Zj p] (.bool true):=Zir (Zf4 h (by omega) (by
  unfold ringB
  rw[decide_eq_false (show¬(3:Int)≤(ds.length:Int) by omega)];rfl))
noncomputable def Z13(n:Nat)(p:List Int)(w:Nat×Nat->Int)(b:Int):Xa:=match(Z4 n).find? λq=>decide (w q<0)with
 | some q=>.tuple [.str "bars",ptD q]
 | none=>.tuple [.str "ring",Zur (sCt (wL (rz n p w) b))]
theorem Z1j(L:List (Nat×Nat)):gNe (.list (L.map ptD)) (.list [])=some (.bool (!L.isEmpty)):=by
 have sh:∀L:List (Nat×Nat),Sh 2 (.list (L.map ptD)):=λL=>Ze8 λd m=>by
  obtain⟨x,_,rfl⟩:=X4.mp m
  exact Zpg λd m=>by
   rcases Xl.mp m with rfl|m
   ·exact Zik _
   ·rw[XH.mp m];exact Zik _
 have s:Bw (.list (L.map ptD))=true:=((sh L).shp (by omega)).ok
 have t:Bw (.list [])=true:=((sh []).shp (by omega)).ok
 unfold gNe
 rw[if_pos (by rw[s,t];rfl)]
 cases L with
 | nil=>rfl
 | cons x L=>simp[Qx,VF]
theorem Sh.up{m n:Nat}{d:Xa}(h:Sh m d)(k:m≤n):Sh n d:=⟨h.1,QK h.2 k⟩
theorem Zj9{α β γ:Type}(f:α->β)(g:α->γ):∀Q:List α,(Q.map f).zip (Q.map g)=Q.map λq=>(f q,g q)
 | []=>rfl
 | q :: Q=>by rw[XF,XF,List.zip_cons_cons,Zj9 f g Q];rfl
theorem Zya{Q:List (Nat×Nat)}{k:Nat}(h:k<Q.length):gIx (.list (Q.map ptD)) (.int (k:Int))=some (.fz (ptD (Q.getD k (0,0)))):=by
 rw[Zqb,Zxw,Xy,Xh h,Xd,Xh h];rfl
theorem Zxy{n:Nat}{p:List Int}(hl:p.length=n)(hn:n≤10)(w:Nat×Nat->Int){b:Int}(hb:0<b)(bb:Bt 400 b):Told Wk [Zj p,Zj ((Z4 n).map w),.int b] (Z13 n p w b):=by
 obtain⟨Q,hQ⟩:∃Q,Q=Z4 n:=⟨_,rfl⟩
 have lQ:Q.length≤60:=by rw[hQ];exact Zd1 n hn
 have eb:EvV (Wb 1 [3,1] (iRa (Zc (Zbg Za1 (Zc (Ze 3) Zn)) Zn)) (gNm 0) (tV (Zf gLt (Yn gIx (Ze 2) (Ze 0)) (fC (.int 0)))) (Yn gIx (Ze 1) (Ze 0))) [some (.fz (Zj p)),some (.fz (Zj (Q.map w))),some (.fz (.int b)),some (.fz (.list (Q.map ptD))),none] (.list ((Q.filter λq=>decide (w q<0)).map ptD)):=by
  refine⟨_,Zty (cs:=[some (.fz (.list (Q.map ptD))),some (.fz (Zj (Q.map w)))]) (Xz Q.length) (λk:Nat=>Xj (0+(k:Int))) (λk=>decide (w (Q.getD k (0,0))<0)) (λk=>.fz (ptD (Q.getD k (0,0)))) (Zff (n:=Q.length) (Zb ((Zr5 (Za (i:=3) rfl)).cast (by rw[Xi])) Zh) (by omega)) (by rw[Qk,X5];omega) rfl (λk hk=>?_) (λk hk _=>?_),?_⟩
  ·have hk:=Qt.mp hk
   refine Zbu (Zee (Zah (Za (i:=2) rfl) ((Za (i:=0) (d:=.int (0+(k:Int))) rfl).cast (by rw[JS])) ?_) Zw rfl)
   rw[Zjv (by omega) (by rw[Xi];omega),Qs,Xd,Xy,Xh hk,Xd,Xh hk];rfl
  ·have hk:=Qt.mp hk
   obtain⟨_,e1,d1⟩:=Za (δ:=[some (.fz (Xj (0+(k:Int)))),some (.fz (.list (Q.map ptD))),some (.fz (Zj (Q.map w)))]) (i:=1) (d:=.list (Q.map ptD)) rfl
   obtain⟨_,e2,d2⟩:=Za (δ:=[some (.fz (Xj (0+(k:Int)))),some (.fz (.list (Q.map ptD))),some (.fz (Zj (Q.map w)))]) (i:=0) (d:=.int (0+(k:Int))) rfl
   rw[Znp,e1,Xc,e2,Xc,d1,d2,JS,Zya hk,Xc]
  ·rw[OT.data_nd,XN]
   refine congrArg Qy ?_
   have e:=list_range Q (0,0) id
   rw[List.map_id]at e
   conv=>rhs;rw[e,List.filter_map,XN]
   exact Xw λk _=>OT.data_fz _
 have hh:(Q.filter λq=>decide (w q<0)).head? =Q.find? λq=>decide (w q<0):=by rw[List.head?_filter]
 unfold Z13
 rw[←hQ]
 have t:=Zbu (Z0 (δ:=[some (.fz (Zj p)),some (.fz (Zj (Q.map w))),some (.fz (.int b)),some (.fz (.list (Q.map ptD))),some (.fz (.list ((Q.filter λq=>decide (w q<0)).map ptD)))]) (Za (i:=4) rfl) (Zae Zh (show 0≤1000 by decide)) (Z1j _))
 have st:∀{S':FS} {d:Xa},Zmd S' [some (.fz (Zj p)),some (.fz (Zj (Q.map w))),some (.fz (.int b)),some (.fz (.list (Q.map ptD))),some (.fz (.list ((Q.filter λq=>decide (w q<0)).map ptD)))] d->Told (Jy 3 5 (Zy (wE (Zx Yt (Zc (Zbg Za1 (Zc (Ze 0) Zn)) Zn)) (Yu 3)) (Zy (wE (Wb 1 [3,1] (iRa (Zc (Zbg Za1 (Zc (Ze 3) Zn)) Zn)) (gNm 0) (tV (Zf gLt (Yn gIx (Ze 2) (Ze 0)) (fC (.int 0)))) (Yn gIx (Ze 1) (Ze 0))) (Yu 4)) S'))) [Zj p,Zj (Q.map w),.int b] d:=λq=>Z6 rfl<|Zt (Zq (Zo (Zb ((Yw Za).cast (by rw[hl])) Zh) (Zm8 n (by omega))))<|Zt (Zq (by rw[←hQ];exact eb)) (by rw[←hQ];exact q)
 refine st ?_
 cases c:Q.filter λq=>decide (w q<0)with
 | nil=>
  rw[c]at t hh
  rw[←hh]
  refine Zt (Z5 t rfl) (Yv (Zcd (Zb Zw (Zb (Zo (Zb (Zo (Zb (Za rfl) Zh) (Zpd hl hn)) (Zb (Za rfl) (Zb (Za rfl) Zh))) ?_) Zh)) (show 2≤1000 by decide)))
  have:=Zmv (Ls:=(Z4 n).map λq=>Jx (sd p q)) (vs:=Q.map w) (b:=b) (by rw[Xi,←hQ];exact lQ) hb bb
  rw[←hQ,Zj9]at this
  rw[←hQ]
  unfold rz
  rw[←hQ]
  exact this
 | cons q L=>
  rw[c]at t hh
  rw[←hh]
  exact Zb0 (Zec t (Yv (Zcd (Zb Zw (Zb (Zah (Za (i:=4) rfl) (Zw (d:=.int 0)) (Zya (Q:=q :: L) (k:=0) (Nat.succ_pos _))) Zh)) (show 2≤1000 by decide))))
theorem Zii{α:Type}{P P':α->Bool}:∀{Q:List α},(∀q∈Q,P q=P' q)->Q.find? P=Q.find? P'
 | [],_=>rfl
 | q :: Q,h=>by rw[List.find?_cons,List.find?_cons,h q (.head _),Zii λq m=>h q (.tail _ m)]
theorem Zw9{n:Nat}{p:List Int}(h:Pm n p)(hn:n≤10)(w:Nat×Nat->Int){b:Int}(hb:0<b):Z13 n p w b=Zcf n (cz (rz n p w)) p b:=by
 unfold Z13 Zcf Zp6
 rw[Z1e h hn w hb,Zii (P:=λq=>decide (tq n (cz (rz n p w)) p q<0)) (P':=λq=>decide (w q<0)) λq hq=>by
  rw[Zny h hn w hq]
  exact decide_eq_decide.mpr (by omega)]
 all_goals (cases(Z4 n).find? λq=>decide (w q<0)<;>rfl)
theorem Ztk(n:Nat)(p:List Int)(R:Nat->Nat->Int)(b:Int):Z13 n p (tq n R p) (2*b)=Zcf n R p b:=by
 unfold Z13 Zcf Zp6 wL cL rz
 rw[List.filter_map,XN]
 rfl
theorem Z4a(k:Nat)(a b:Int):Told (Zm (k+4)) [.tuple [.str "bars",.tuple [.int a,.int b]],.tuple [.str "bars",.tuple [.int a,.int b]]] (.bool true):=Zap (ds:=[.str "bars",.tuple [.int a,.int b]]) (.inr rfl) λd m=>by
 rcases Xl.mp m with rfl|m
 ·exact Zl4 (k+2) Ztz
 rw[XH.mp m]
 refine Zap (k:=k+2) (ds:=[.int a,.int b]) (.inr rfl) λd m=>?_
 rcases Xl.mp m with rfl|m
 ·exact Zcl (k+1) a
 ·rw[XH.mp m];exact Zcl (k+1) b
theorem Zip(n:Nat)(R:Nat->Nat->Int)(p:List Int)(b:Int):Told (Zm 6) [Zcf n R p b,Zcf n R p b] (.bool true):=by
 unfold Zcf
 cases Zp6 n R p with
 | some q=>exact Z4a 2 _ _
 | none=>exact Zkz 1 _
theorem Zm1{n:Nat}(p:List Int):Zcf n (λ_ _=>0) p 1= .tuple [.str "ring",Zur []]:=by
 have z:∀q,tq n (λ_ _=>0) p q=0:=λq=>rfl
 unfold Zcf
 rw[show Zp6 n (λ_ _=>0) p=none by
  unfold Zp6
  rw[List.find?_eq_none]
  intro q _ c
  rw[z]at c
  exact absurd (of_decide_eq_true c) (by decide)]
 rw[show cL n (λ_ _=>0) p 1 (Z4 n)=[] by
  unfold cL
  rw[List.filter_eq_nil_iff.mpr λq _ c=>by
   rw[z]at c
   exact absurd (of_decide_eq_true c) (by decide)];rfl]
 rfl
theorem Z1v(c k:Int):∃v,Told Yl [.int c,.int k] (.int v)∧0≤v:=by
 have n0:=J3 (i:=(c.fmod 2147483629+9973*k+5)*48271) (j:=2147483647) (by decide)
 have n1:=Zas (i:=(c.fmod 2147483629+9973*k+5)*48271) (j:=2147483647) (by decide)
 refine⟨_,Z6 rfl<|Zt (Zq (Yz (Zjt (Z7 (Z7 (Yz Za Zw (by decide)) (Zbr Zw Za)) Zw) Zw) Zw (by decide)))<|
  Zt (Zq (Yz (Zbr Za Za (by omega)) Zw (by decide)))<|
  Yv (Jz (Yz (Zjt (Z7 Za (Zbr Zw Za)) Zw) Zw (by decide)) Zw),?_⟩
 exact Int.fdiv_nonneg (J3 (by decide)) (by decide)
theorem Zwl{m:Nat}{caps:List Nat}{it:FI}{g:FG}{t:FT}{e:FE}{δ δ':Zg}{o:OT}(h:Wb m caps it g t e δ=some (o,δ')):∃ts,o= .nd ts:=by
 unfold Wb at h
 obtain⟨p,_,h⟩:=Uw.mp h
 split at h
 ·obtain⟨z,_,h⟩:=Uw.mp h
  injection h with h
  injection h with h _
  exact⟨_,h.symm⟩
 ·cases h
theorem Z51{i:Nat}{e j:FE}{δ:Zg}{ts:List OT}{vs:List Int}{y:Int}{x:Nat}(hi:δ[i]? =some (some (.nd ts)))(hd:ts.map OT.data=vs.map Xj)(he:EvV e δ (.int y))(hj:EvV j δ (.int (x:Int)))(hx:x<vs.length):∃us,Zqn i e j δ= .nx (δ.set i (some (.nd us)))∧us.map OT.data=(vs.set x y).map Xj:=by
 have l:ts.length=vs.length:=by
  have:=congrArg List.length hd
  rwa[Xi,Xi]at this
 refine⟨_,Z41 he hi hj (n:=x) ?_,?_⟩
 ·unfold ixN
  rw[if_pos (by omega),if_pos (by omega),Qs]
 ·rw[List.map_set,hd,List.map_set,OT.data_fz]
theorem Z65{F:FD}{as:FA}{δ:Zg}{ds:List Xa}{o:OT}{k:OT->Zg->RS}(h:EvA as δ ds)(hF:F ds= .ok o):wX F as k δ=k o δ:=by
 obtain⟨_,e1,d1⟩:=h
 rw[Z0n,e1,Yo,d1,hF,Zyd]
theorem Z0v{as:FA}{δ:Zg}{ds:List Xa}(h:EvA as δ ds)(hl:ds.length≤1000):EvV (Zfy as) δ (.tuple ds):=by
 obtain⟨ts,e1,d1⟩:=h
 have:=Zdb ts
 rw[d1]at this
 exact⟨_,Z57 e1 (by omega),by rw[OT.data_tp,←OT.datas_map,d1]⟩
theorem Z3i(T:List (List Rat))(h:2≤T.length):cutD (T.map Ze1) none (some 2)=(T.take 2).map Ze1:=by
 unfold cutD
 rw[Xi,show HT.sIx T.length 0 none=0 from rfl,show HT.sIx T.length T.length (some (2:Int))=2 by unfold HT.sIx;simp;omega,Vv,Nat.sub_zero,List.map_take]
theorem Zu3{α:Type}{caps:List Nat}{it:FI}{me:FE}{cs:Zg}{δ:Zg}(xs:List α)(mk f:α->Xa)(hi:EvI it δ (xs.map mk))(hz:xs.length≤1000000)(hb:blk 1 caps δ=none :: cs)(hf:∀x∈xs,Zbl (mk x)=true)(h:∀x∈xs,EvV me (some (.fz (mk x)) :: cs) (f x)):EvV (Wb 1 caps it (Zx9 0) Ze3 me) δ (.list (xs.map f)):=by
 obtain⟨o,e,d⟩:=Zbv xs mk f hi hz hb h
 refine⟨o,?_,d⟩
 rw[←e]
 unfold EvI at hi
 unfold Wb
 rw[hi,Xc,Xc]
 dsimp only
 rw[hb]
 have key:∀(l:List α),(∀x∈l,Zbl (mk x)=true)->∀δ:Zg,compLoop (Zx9 0) Ze3 me (l.map mk) δ=compLoop (gNm 0) Ze3 me (l.map mk) δ:=by
  intro l
  induction l with
  | nil=>exact λ_ _=>rfl
  | cons x l ih=>
   intro hl δ
   have e0:Zx9 0 (mk x) δ=gNm 0 (mk x) δ:=if_pos (hl x (.head _))
   rw[XF,compLoop,compLoop,e0]
   simp only[ih λy m=>hl y (.tail _ m)]
 rw[key xs hf]
theorem Z7v{n:Nat}{R:Nat->Nat->Int}{p:List Int}{b:Int}:gIx (Zcf n R p b) (.int 0)=some (.fz (.str (if(Zp6 n R p).isSome=true then"bars"else"ring"))):=by
 unfold Zcf
 cases Zp6 n R p<;>rfl
noncomputable def lE(ns:List Int)(n:Nat)(c1 b:Int)(r:List Int)(o5:Option OT)(c3:Int)(o7 o8 o9 o10 o11 o12 o13 o14 o15:Option OT):Zg:=[some (.fz (Zj ns)),some (.fz (.int n)),some (.fz (.int c1)),some (.fz (.int b)),some (.fz (Zj r)),o5,some (.fz (.int c3)),o7,o8,o9,o10,o11,o12,o13,o14,o15]
theorem Znh{ns:List Int}{n:Nat}{c1 b c3:Int}{r vs:List Int}{o:OT}(hd:o.data=Zj vs)(hm:0<vs.length)(hm2:vs.length≤60)(hv:∀v∈vs,0≤v∧v<B20):∃(o':OT) (us:List Int),o'.data=Zj us∧us.length=vs.length∧(∀v∈us,-(1000*B20)<v∧v<1000*B20)∧
  (Jp (tV (Zf gGt (Zf Jl (Ze 6) (fC (.int 4))) (fC (.int 1)))) (Zy (wE (Wb 1 [] (Zhh (Zf1 5)) (Zx9 0) Ze3 (Zf Js (Ze 0) (fC (.int 5)))) (Jo 5)) (Zy (Zqn 5 (Zf gSb (fUn Ze2 (fC (.int 1))) (Zf Jl (Zf Y4 (Ze 6) (fC (.int 400))) (fC (.int 4)))) (Zf Jl (Zf Y4 (Ze 6) (fC (.int 4))) (Zbg Za1 (Zc (Zf1 5) Zn)))) (Jp (tAn (tV (Zf gEq (Zf Jl (Ze 6) (fC (.int 4))) (fC (.int 3)))) (tV (Zf gGt (Ze 1) (fC (.int 4))))) (Zqn 5 (Zf gSb (fUn Ze2 (fC (.int 1))) (Zf Jl (Zf Y4 (Ze 6) (fC (.int 1600))) (fC (.int 4)))) (Zf Jl (Zf Y4 (Ze 6) (fC (.int 5))) (Zbg Za1 (Zc (Zf1 5) Zn)))) fNx))) fNx) (lE ns n c1 b r (some o) c3 none none none none none none none none none)= .nx (lE ns n c1 b r (some o') c3 none none none none none none none none none):=by
 have B0:0<B20:=by decide
 have B5:5<B20:=by decide
 have t:=Zbu (Zm4 (δ:=lE ns n c1 b r (some o) c3 none none none none none none none none none) (Yz (Za (i:=6) rfl) (Zw (d:=.int 4)) (by decide)) (Zw (d:=.int 1)) rfl)
 by_cases c:1<c3.fmod 4
 case neg=>
  rw[decide_eq_false c]at t
  exact⟨o,vs,hd,rfl,λv m=>by have:=hv v m;omega,Z5 t rfl⟩
 rw[decide_eq_true c]at t
 obtain⟨o1,e1,d1⟩:=Zu3 (caps:=[]) (me:=Zf Js (Ze 0) (fC (.int 5))) (cs:=[]) (δ:=lE ns n c1 b r (some o) c3 none none none none none none none none none) vs Xj (λv=>.int (v+5)) (Zaz (Zil (i:=5) rfl hd)) (by omega) rfl (λ_ _=>rfl) λv _=>Z7 (Za rfl) Zw
 obtain⟨ts,rfl⟩:=Zwl e1
 rw[OT.data_nd]at d1
 injection d1 with d1
 obtain⟨ws,hws⟩:∃ws,ws=vs.map λv=>v+5:=⟨_,rfl⟩
 have dws:ts.map OT.data=ws.map Xj:=by rw[d1,hws,XN];rfl
 have lws:ws.length=vs.length:=by rw[hws,Xi]
 have bws:∀v∈ws,0≤v∧v<2*B20:=λv m=>by
  rw[hws]at m
  obtain⟨u,mu,rfl⟩:=X4.mp m
  have:=hv u mu
  omega
 have len:∀{ts:List OT} {us:List Int},ts.map OT.data=us.map Xj->us.length=vs.length->EvV (Zbg Za1 (Zc (Zf1 5) Zn)) (lE ns n c1 b r (some (.nd ts)) c3 none none none none none none none none none) (.int vs.length):=λh l=>(Yw (Zil (i:=5) rfl (by rw[OT.data_nd,h];rfl))).cast (by rw[l])
 have val:∀(ts:List OT) (k:Int),(decide (0<k)&&decide (k<18446744073709551616))=true->∃y,EvV (Zf gSb (fUn Ze2 (fC (.int 1))) (Zf Jl (Zf Y4 (Ze 6) (fC (.int k))) (fC (.int 4)))) (lE ns n c1 b r (some (.nd ts)) c3 none none none none none none none none none) (.int y)∧-5<y∧y<0:=λts k hk=>by
  have a:=J3 (i:=c3.fdiv k) (j:=4) (by decide)
  have b:=Zas (i:=c3.fdiv k) (j:=4) (by decide)
  exact⟨_,Zb6 (Zly Zw) (Yz (Jz (Za (i:=6) rfl) Zw hk) Zw (by decide)),by omega,by omega⟩
 have ix:∀{ts:List OT} {us:List Int} {k:Int},ts.map OT.data=us.map Xj->us.length=vs.length->(decide (0<k)&&decide (k<18446744073709551616))=true->∃x:Nat,EvV (Zf Jl (Zf Y4 (Ze 6) (fC (.int k))) (Zbg Za1 (Zc (Zf1 5) Zn))) (lE ns n c1 b r (some (.nd ts)) c3 none none none none none none none none none) (.int (x:Int))∧x<vs.length:=fun{ts us k} h l hk=>by
  obtain⟨x,ex,hx⟩:=Zet (c3.fdiv k) hm
  exact⟨x,ex▸Yz (Jz (Za (i:=6) rfl) Zw hk) (len h l) (by omega),hx⟩
 have put:∀{ts:List OT} {us:List Int} {k l:Int},ts.map OT.data=us.map Xj->us.length=vs.length->(∀v∈us,-(1000*B20)<v∧v<1000*B20)->(decide (0<k)&&decide (k<18446744073709551616))=true->(decide (0<l)&&decide (l<18446744073709551616))=true->∃(ts':List OT) (us':List Int),ts'.map OT.data=us'.map Xj∧us'.length=vs.length∧(∀v∈us',-(1000*B20)<v∧v<1000*B20)∧Zqn 5 (Zf gSb (fUn Ze2 (fC (.int 1))) (Zf Jl (Zf Y4 (Ze 6) (fC (.int k))) (fC (.int 4)))) (Zf Jl (Zf Y4 (Ze 6) (fC (.int l))) (Zbg Za1 (Zc (Zf1 5) Zn))) (lE ns n c1 b r (some (.nd ts)) c3 none none none none none none none none none)= .nx (lE ns n c1 b r (some (.nd ts')) c3 none none none none none none none none none):=fun{ts us k l} h hl hb hk hl'=>by
  obtain⟨y,ey,y0,y1⟩:=val ts k hk
  obtain⟨x,ex,hx⟩:=ix h hl hl'
  obtain⟨ts',e,d⟩:=Z51 (i:=5) rfl h ey ex (by omega)
  refine⟨ts',us.set x y,d,by rw[Qv];exact hl,λv m=>?_,e.trans rfl⟩
  rcases Um m with m|rfl
  ·exact hb v m
  ·omega
 obtain⟨t1,u1,a1,a2,a3,a4⟩:=put (k:=400) (l:=4) dws lws (λv m=>by have:=bws v m;omega) (by decide) (by decide)
 have s1:=W8 (S':=fNx) t (Yg (Zct (i:=5) e1) (Yg a4 (S':=Jp (tAn (tV (Zf gEq (Zf Jl (Ze 6) (fC (.int 4))) (fC (.int 3)))) (tV (Zf gGt (Ze 1) (fC (.int 4))))) (Zqn 5 (Zf gSb (fUn Ze2 (fC (.int 1))) (Zf Jl (Zf Y4 (Ze 6) (fC (.int 1600))) (fC (.int 4)))) (Zf Jl (Zf Y4 (Ze 6) (fC (.int 5))) (Zbg Za1 (Zc (Zf1 5) Zn)))) fNx) rfl))
 have t2:=Zbu (Zhy (δ:=lE ns n c1 b r (some (.nd t1)) c3 none none none none none none none none none) (Yz (Za (i:=6) rfl) (Zw (d:=.int 4)) (by decide)) (Zw (d:=.int 3)) rfl)
 have t3:=Zbu (Zm4 (δ:=lE ns n c1 b r (some (.nd t1)) c3 none none none none none none none none none) (Za (i:=1) rfl) (Zw (d:=.int 4)) rfl)
 have fin:∀q:Bool,EvT (tAn (tV (Zf gEq (Zf Jl (Ze 6) (fC (.int 4))) (fC (.int 3)))) (tV (Zf gGt (Ze 1) (fC (.int 4))))) (lE ns n c1 b r (some (.nd t1)) c3 none none none none none none none none none) q->∃(o':OT) (us:List Int),o'.data=Zj us∧us.length=vs.length∧(∀v∈us,-(1000*B20)<v∧v<1000*B20)∧(Jp (tAn (tV (Zf gEq (Zf Jl (Ze 6) (fC (.int 4))) (fC (.int 3)))) (tV (Zf gGt (Ze 1) (fC (.int 4))))) (Zqn 5 (Zf gSb (fUn Ze2 (fC (.int 1))) (Zf Jl (Zf Y4 (Ze 6) (fC (.int 1600))) (fC (.int 4)))) (Zf Jl (Zf Y4 (Ze 6) (fC (.int 5))) (Zbg Za1 (Zc (Zf1 5) Zn)))) fNx) (lE ns n c1 b r (some (.nd t1)) c3 none none none none none none none none none)= .nx (lE ns n c1 b r (some o') c3 none none none none none none none none none):=λq tq=>by
  cases q with
  | false=>exact⟨.nd t1,u1,by rw[OT.data_nd,a1];rfl,a2,a3,Z5 tq rfl⟩
  | true=>
   obtain⟨t2,u2,b1,b2,b3,b4⟩:=put (k:=1600) (l:=5) a1 a2 a3 (by decide) (by decide)
   exact⟨.nd t2,u2,by rw[OT.data_nd,b1];rfl,b2,b3,W8 tq b4⟩
 have ex:∃q,EvT (tAn (tV (Zf gEq (Zf Jl (Ze 6) (fC (.int 4))) (fC (.int 3)))) (tV (Zf gGt (Ze 1) (fC (.int 4))))) (lE ns n c1 b r (some (.nd t1)) c3 none none none none none none none none none) q:=by
  cases q:decide (c3.fmod 4=3)with
  | false=>rw[q]at t2;exact⟨_,Z1n t2⟩
  | true=>rw[q]at t2;exact⟨_,Z3u t2 t3⟩
 obtain⟨q,tq⟩:=ex
 obtain⟨o',us,f1,f2,f3,f4⟩:=fin q tq
 exact⟨o',us,f1,f2,f3,s1.trans f4⟩
theorem Zqg(n:Nat):tbD (Zgh n (λ_ _=>0) 1)= .list ((Xz n).map λ_=>.list (Xr n (.tuple [.int 0,.int 1]))):=by
 unfold tbD Zgh
 rw[XN]
 congr 1
 refine Xw λi _=>?_
 show Ze1 ((Xz n).map λ_=>Qn 0 1)=_
 unfold Ze1
 rw[XN]
 congr 1
 rw[List.eq_replicate_iff]
 refine⟨by rw[Xi,Qk],λb hb=>?_⟩
 obtain⟨_,_,rfl⟩:=X4.mp hb
 rfl
theorem Zy2{n:Nat}(hn:n≤1000000){v:Option OT}:(Zuu (Zjx (Zc (fC (.int 0)) (Zc (fC (.int 1)) Zn))) (Ze 1)) [v,some (.fz (.int n))]=some (.nd (Xr n (.fz (.tuple [.int 0,.int 1]))),[v,some (.fz (.int n))]):=by
 obtain⟨_,e1,d1⟩:=Za (δ:=[v,some (.fz (.int n))]) (i:=1) (d:=.int n)
 obtain⟨_,e0,d0⟩:=Zcd (δ:=[v,some (.fz (.int n))]) (Zb (Zw (d:=.int 0)) (Zb (Zw (d:=.int 1)) Zh)) (show 2≤1000 by decide)
 rw[Zsr,e0,Xc,e1,Xc,d1,Zml,if_pos ⟨Zgu (by omega) (by omega),by rw[X5];omega⟩,Qs,d0]
theorem Zv3{ns:List Int}{n:Nat}{c1 b c3:Int}{r us:List Int}(pm:Pm n r)(hn:n≤10)(hb:0<b)(bb:Bt 300 b)(lu:us.length=(Z4 n).length)(hu:∀v∈us,-(1000*B20)<v∧v<1000*B20){o5:OT}(h5:o5.data=Zj us){S':FS}{d:Xa}
  (k:∀R,Rw n R->Zmd S' (lE ns n c1 b r (some (.fz (Zj us))) c3 (some (.fz (J2 n R))) (some (.fz (Zcf n R r b))) none none none none none none none) d) :
  Zmd (Zy (Zbx 5 (wE (Zx Ji (Zc (Ze 1) (Zc (Zx Wi (Zc (Ze 4) Zn)) (Zc (Ze 5) Zn)))) (Yu 7))) (Zy (wE (Zx Wk (Zc (Ze 4) (Zc (Ze 5) (Zc (Ze 3) Zn)))) (Yu 8)) (Zy (Jp (tV (Zf gEq (Zf Jl (Ze 6) (fC (.int 4))) (fC (.int 1)))) (Zy (wE (Zx Wh (Zc (Ze 0) (Zc (fC (.int 4)) (Zc (Ze 1) (Zc (Yn gIx (Zbm (Zc (fC (.int 2)) (Zc (fC (.int 3)) (Zc (fC (.int 5)) (Zc (Zf Zrr (fC (.int 10)) (fC (.int 20))) Zn))))) (Zf Jl (Zf Y4 (Ze 2) (fC (.int 12))) (fC (.int 4)))) (Zc (Ze 2) Zn)))))) (Yu 7)) (wE (Zx Wk (Zc (Ze 4) (Zc (Wb 2 [7,4] (Zhh (Zx Yt (Zc (Ze 1) Zn))) (gTp 2 (gCn (gNm 0) (gCn (gNm 1) gNl))) Ze3 (Zx W5 (Zc (Ze 2) (Zc (Ze 3) (Zc (Ze 0) (Zc (Ze 1) Zn)))))) (Zc (Zf Zhv (fC (.int 2)) (Ze 3)) Zn)))) (Yu 8))) fNx) S'))) (lE ns n c1 b r (some o5) c3 none none none none none none none none none) d:=by
 obtain⟨w,rfl⟩:=Z60 (Zl6 n hn) lu
 obtain⟨Tr,W⟩:=Zt5 hn (Ls:=(Z4 n).map λq=>Jx (sd r q)) (vs:=(Z4 n).map w) (by rw[Xi];exact Zd1 n hn) hu
 rw[Zj9]at Tr W
 have bb4:Bt 400 b:=Bt.mono bb (by decide)
 have Td:=Zxy pm.len hn w hb bb4
 rw[Zw9 pm hn w hb]at Td
 refine Zt (δ':=lE ns n c1 b r (some (.fz (Zj ((Z4 n).map w)))) c3 (some (.fz (J2 n (cz (rz n r w))))) none none none none none none none none) (Zhg (o:=o5) rfl (by rw[h5];exact(Zq (Zo (Zb (Za (i:=1) rfl) (Zb (Zo (Zb (Za (i:=4) rfl) Zh) (Zpd pm.len hn)) (Zb (Za (i:=5) rfl) Zh))) Tr)).trans rfl))<|Zt (Zq (Zo (Zb (Za (i:=4) rfl) (Zb (Za (i:=5) rfl) (Zb (Za (i:=3) rfl) Zh))) Td)) ?_
 have t:=Zbu (Zhy (δ:=lE ns n c1 b r (some (.fz (Zj ((Z4 n).map w)))) c3 (some (.fz (J2 n (cz (rz n r w))))) (some (.fz (Zcf n (cz (rz n r w)) r b))) none none none none none none none) (Yz (Za (i:=6) rfl) (Zw (d:=.int 4)) (by decide)) (Zw (d:=.int 1)) rfl)
 cases c:decide (c3.fmod 4=1)with
 | false=>
  rw[c]at t
  exact Zt (Z5 t rfl) (k _ W)
 | true=>
  rw[c]at t
  obtain⟨base,eb,hbase⟩:∃base:Int,gIx (.list [.int 2,.int 3,.int 5,.int B20]) (.int ((c1.fdiv 12).fmod 4))=some (.fz (.int base))∧0<base∧base≤B20:=by
   obtain⟨d,e,h⟩:=ix4 (x:=.int 2) (y:=.int 3) (z:=.int 5) (w:=.int B20) (v:=(c1.fdiv 12).fmod 4) (J3 (by decide)) (Zas (by decide))
   rcases h with rfl|rfl|rfl|rfl<;>exact⟨_,e,by decide,by decide⟩
  obtain⟨L,TL,D,sy⟩:=Zuv ns n hn hbase.1 c1
  obtain⟨e1,e2⟩:=Zsd D
  rw[OT.data_nd,e1]at TL
  have W2:Rw n (fnL L):=⟨sy,λi j hi hj=>by
   have:=e2 i j hi hj
   refine Bt.of_lt ?_ ?_
   ·have:-B20> -(2^300):=by decide +kernel
    omega
   ·have:B20<2^300:=by decide +kernel
    omega⟩
  have b2:Bt 400 (2*b):=Bt.mono (Bt.mul (m:=2) (n:=300) (Bt.of_lt (by decide) (by decide)) bb) (by decide)
  have Td2:=Zxy pm.len hn (tq n (fnL L) r) (b:=2*b) (by omega) b2
  rw[Ztk]at Td2
  refine Zt (δ':=lE ns n c1 b r (some (.fz (Zj ((Z4 n).map w)))) c3 (some (.fz (J2 n (fnL L)))) (some (.fz (Zcf n (fnL L) r b))) none none none none none none none) (W8 t (Yg (Zq (Zo (Zb (Za (i:=0) rfl) (Zb Zw (Zb (Za (i:=1) rfl) (Zb (Zah (Zae (Zb Zw (Zb Zw (Zb Zw (Zb (Z0 Zw Zw Z90) Zh)))) (show 4≤1000 by decide)) (Yz (Jz (Za (i:=2) rfl) Zw) Zw (by decide)) eb) (Zb (Za (i:=2) rfl) Zh))))) TL)) ((Zq (Zo (Zb (Za (i:=4) rfl) (Zb ?_ (Zb (Zbr (Zw (d:=.int 2)) (Za (i:=3) rfl)) Zh))) Td2)).trans rfl))) (k _ W2)
  refine(Zn1 (t:=Ze3) (cs:=[some (.fz (J2 n (fnL L))),some (.fz (Zj r))]) (Z4 n) (λq=>.int (q.1:Int)) (λq=>.int (q.2:Int)) (λ_=>true) (λq=>.int (tq n (fnL L) r q)) (Zaz (Zo (Zb (Za (i:=1) rfl) Zh) (Zm8 n (by omega)))) (QK (Zd1 n hn) (by decide)) rfl (λ_ _ _ _=>rfl) (λ_ _=>rfl) λq hq _=>?_).cast ?_
  ·obtain⟨l1,l2⟩:=Zak hq
   exact Zo (Zb (Za rfl) (Zb (Za rfl) (Zb (Za rfl) (Zb (Za rfl) Zh)))) (.of (Zlq pm.inR (by omega) l1 l2) (OT.data_fz _))
  ·rw[List.filter_eq_self.mpr λ_ _=>rfl]
   unfold Zj
   rw[XN];rfl
theorem Zu8(ns:List Int)(hl:ns.length≤63):Zfk [.list (ns.map Xj)]= .ok (.fz (.bool true)):=by
 show Zfk [Zj ns]=_
 obtain⟨c0,e0⟩:=Zdh ns (k:=0) (by decide)
 obtain⟨c1,e1⟩:=Zdh ns (k:=1) (by decide)
 obtain⟨c2,e2⟩:=Zdh ns (k:=2) (by decide)
 obtain⟨c3,e3⟩:=Zdh ns (k:=3) (by decide)
 obtain⟨n,en,h3,hn⟩:∃n:Nat,Jh [.int c0,.int 3,.int 7,.int 10]= .ok (.fz (.int n))∧3≤n∧n≤10:=by
  obtain⟨m,e,h1,h2⟩:=Zz0 c0 (a:=3) (b:=7) (d:=10) (by decide) (by decide)
  exact⟨m.toNat,by rw[e,V6 (by omega)],by omega,by omega⟩
 obtain⟨b,eb,hb,bb⟩:∃b:Int,gIx (.list [.int 1,.int 2,.int 6,.int (1000000000000000+37)]) (.int ((c1.fdiv 3).fmod 4))=some (.fz (.int b))∧0<b∧Bt 300 b:=by
  obtain⟨d,e,h⟩:=ix4 (x:=.int 1) (y:=.int 2) (z:=.int 6) (w:=.int (1000000000000000+37)) (v:=(c1.fdiv 3).fmod 4) (J3 (by decide)) (Zas (by decide))
  rcases h with rfl|rfl|rfl|rfl<;>exact⟨_,e,by decide,btc (by decide +kernel) (by decide +kernel)⟩
 obtain⟨r,Tr,pm,z,lt⟩:=Zm6 c2 h3 hn
 have hr:=pm.ringB h3 z lt
 obtain⟨vs,⟨ow,Tw,dw⟩,lv,hv⟩:=Zgm ns 4 n c1 hn
 rw[←Zzs n hn]at lv
 have lp:0<(Z4 n).length:=List.length_pos_of_mem (Zp5 (show 0<1 by decide) (show 1<n by omega))
 have lp2:=Zd1 n hn
 obtain⟨o5,us,d5,lu,hu,s7⟩:=Znh (ns:=ns) (n:=n) (c1:=c1) (b:=b) (c3:=c3) (r:=r) dw (by omega) (by omega) hv
 refine Told.ok (Z6 rfl ?_)
 refine Zt (Zq (Zo (Zb (Zo (Zb Za (Zb Zw Zh)) (.of e0 (OT.data_fz _))) (Zb Zw (Zb Zw (Zb Zw Zh)))) (.of en (OT.data_fz _))))<|Zt (Zq (Zo (Zb Za (Zb Zw Zh)) (.of e1 (OT.data_fz _))))<|Zt (Zq (Zah (Zae (Zb Zw (Zb Zw (Zb Zw (Zb (Z7 (Z0 Zw Zw Ybs) Zw) Zh)))) (show 4≤1000 by decide)) (Yz (Jz Za Zw) Zw (by decide)) eb))<|Zt (Zq (Zo (Zb (Zo (Zb (Za (i:=0) rfl) (Zb Zw Zh)) (.of e2 (OT.data_fz _))) (Zb (Za (i:=1) rfl) Zh)) Tr))<|Zt (Zct (Z8q (Zb (Za (i:=0) rfl) (Zb Zw (Zb (Za (i:=1) rfl) (Zb (Za (i:=2) rfl) Zh)))) Tw))<|Zt (δ':=lE ns n c1 b r (some ow) c3 none none none none none none none none none) ((Zq (Zo (Zb (Za (i:=0) rfl) (Zb Zw Zh)) (.of e3 (OT.data_fz _)))).trans rfl)<|Zt s7 ?_
 refine Zv3 pm hn hb bb (by rw[lu,lv]) hu d5 λR W=>?_
 have Tt:=Zlh hn R hb bb
 obtain⟨o,Fo,od,ok⟩:=Zgn pm hr hn hb bb W
 obtain⟨T,hT⟩:∃T,T=Zgh n R b:=⟨_,rfl⟩
 rw[←hT]at Tt Fo
 have lT:T.length=n:=by rw[hT,Zjk]
 have eC:∀{δ:Zg},δ[9]? =some (some (.fz (tbD T)))->EvV (Wb 1 [] (Zhh (Ze 9)) (gNm 0) Ze3 (fBl Zk5 (Zc (Ze 0) Zn))) δ (tbD T):=λh9=>Zbv (cs:=[]) T Ze1 Ze1 (Zaz (Za h9)) (by omega) rfl λx _=>Zpx (Zb Za Zh) (Znn _) (by rw[OT.data_nd,OT.map_fz];rfl)
 have sh2:Sh 4 (.list [tbD T,Zj r]):=Ze8 λd m=>by
  rcases Xl.mp m with rfl|m
  ·exact Z6y T
  ·rw[XH.mp m];exact Sh.up (Znz r) (by decide)
 have pl2:Yr (.list [tbD T,Zj r])=true:=Zij λd m=>by
  rcases Xl.mp m with rfl|m
  ·exact L2.Zvh T
  ·rw[XH.mp m];exact Zdd r
 have two:(2:Nat)≤1000:=by decide
 obtain⟨E,hE⟩:∃E:Option OT->Option OT->Option OT->Option OT->Option OT->Zg,E= λz11 z12 z13 z14 z15=>lE ns n c1 b r (some (.fz (Zj us))) c3 (some (.fz (J2 n R))) (some (.fz (Zcf n R r b))) (some (.fz (tbD T))) (some (.fz (.list [tbD T,Zj r]))) z11 z12 z13 z14 z15:=⟨_,rfl⟩
 have v1:∀{x1 x2 x3 x4 x5},(E x1 x2 x3 x4 x5)[1]? =some (some (.fz (.int n))):=by rw[hE];exact fun{_ _ _ _ _}=>rfl
 have v4:∀{x1 x2 x3 x4 x5},(E x1 x2 x3 x4 x5)[4]? =some (some (.fz (Zj r))):=by rw[hE];exact fun{_ _ _ _ _}=>rfl
 have v6:∀{x1 x2 x3 x4 x5},(E x1 x2 x3 x4 x5)[6]? =some (some (.fz (.int c3))):=by rw[hE];exact fun{_ _ _ _ _}=>rfl
 have v8:∀{x1 x2 x3 x4 x5},(E x1 x2 x3 x4 x5)[8]? =some (some (.fz (Zcf n R r b))):=by rw[hE];exact fun{_ _ _ _ _}=>rfl
 have v9:∀{x1 x2 x3 x4 x5},(E x1 x2 x3 x4 x5)[9]? =some (some (.fz (tbD T))):=by rw[hE];exact fun{_ _ _ _ _}=>rfl
 have v10:∀{x1 x2 x3 x4 x5},(E x1 x2 x3 x4 x5)[10]? =some (some (.fz (.list [tbD T,Zj r]))):=by rw[hE];exact fun{_ _ _ _ _}=>rfl
 have v11:∀{x1 x2 x3 x4 x5},(E x1 x2 x3 x4 x5)[11]? =some x1:=by rw[hE];exact fun{_ _ _ _ _}=>rfl
 refine Zt (Zq (Zo (Zb (Za (i:=7) rfl) (Zb (Za (i:=3) rfl) Zh)) Tt))<|Zt (Zq (d:=.list [tbD T,Zj r]) (Zae (Zb (eC rfl) (Zb (Zpx (Zb (Za (i:=4) rfl) Zh) (Znn _) (Zfv r)) Zh)) two))<|Zt (δ':=E (some o) none none none none) ((Z65 (Zb (Zah (Za (i:=10) rfl) (Zw (d:=.int 0)) rfl) (Zb (Zah (Za (i:=10) rfl) (Zw (d:=.int 1)) rfl) Zh)) Fo).trans (by rw[hE];rfl))<|Zt (Z5 (Z39 (Zh4 (p:=true) (Zf9 (Zo (Zb (Zil v11 od) (Zb (Za v8) Zh)) (Zip n R r b)))) (Zbu (Z0 (Za v10) (Zae (Zb (Za v9) (Zb (Za v4) Zh)) two) (Zvp sh2 pl2 (by decide))))) rfl) ?_
 obtain⟨y11,y12,y13,s11⟩:∃y11 y12 y13,(Jp (tV (Zf gEq (Yn gIx (Zf1 11) (fC (.int 0))) (fC (.str "ring")))) (Zy (Zo7 11 12 13 1 (.int 0)) (Zy (Zis 11 1 (fC (.int 0))) (Jp (tNo (tD (Zx (Zm 6) (Zc (Zx Zz (Zc (Ze 9) (Zc (Ze 4) Zn))) (Zc (Ze 8) Zn))))) (wE (fC (.bool false)) Zai) fNx))) fNx) (E (some o) none none none none)= .nx (E y11 y12 y13 none none):=by
  have t:=Zbu (p:=!(Zp6 n R r).isSome) (Z0 (g:=gEq) (δ:=E (some o) none none none none) (Zah (Zil v11 od) (Zw (d:=.int 0)) Z7v) (Zw (d:=.str "ring")) (by
   cases(Zp6 n R r).isSome
   ·exact(Zn7 Znu).2
   ·exact(Z3o Ztz Znu (by decide +kernel)).2))
  cases c:Zp6 n R r with
  | some q=>
   rw[c]at t
   exact⟨_,_,_,Z5 t rfl⟩
  | none=>
   rw[c]at t
   obtain⟨ts,rfl,lts,hts⟩:=ok c
   refine⟨some (.tp [.fz (.str "ring"),.nd (ts.map (Zsy 0 (.int 0)) ++ [.fz (.int 0)])]),none,none,W8 t (Yg (δ':=E (some (.tp [.fz (.str "ring"),.nd (ts.map (Zsy 0 (.int 0)))])) none none none none) ?_ (Yg (δ':=E (some (.tp [.fz (.str "ring"),.nd (ts.map (Zsy 0 (.int 0)) ++ [.fz (.int 0)])])) none none none none) ?_ (Z5 (Zh4 (p:=true) (Zf9 (Zo (Zb (Zo (Zb (Za v9) (Zb (Za v4) Zh)) ⟨_,Fo,od⟩) (Zb (Za v8) Zh)) (Zip n R r b)))) rfl)))⟩
   ·rw[hE]
    exact if_pos ⟨by show 12<16;decide,by show 13<16;decide,Be.mpr hts⟩
   ·rw[hE]
    exact if_pos (by rw[Xi,X5];omega)
 obtain⟨o0,F0,d0,_⟩:=Zgn (R:=λ_ _=>0) (b:=1) pm hr hn (by decide) (btc (by decide +kernel) (by decide +kernel)) ⟨λ_ _ _ _=>⟨rfl,rfl⟩,λ_ _ _ _=>btc (by decide +kernel) (by decide +kernel)⟩
 rw[Zm1]at d0
 refine Zt s11<|Zt (Z5 (Zh4 (p:=true) (Zf9 (Zo (Zb (Zo (Zb ((Zbv (cs:=[some (.fz (.int n))]) (Xz n) (λi:Nat=>Xj (0+(i:Int))) (λ_=>.list (Xr n (.tuple [.int 0,.int 1]))) (Zff (n:=n) (Zb (Za v1) Zh) (by omega)) (by rw[Qk];omega) (by rw[hE];rfl) λx _=>⟨_,Zy2 (by omega),by rw[OT.data_nd,Ua,OT.data_fz]⟩).cast (Zqg n).symm) (Zb (Za v4) Zh)) ⟨_,F0,d0⟩) (Zb (Z0v (Zb Zw (Zb (Zae Zh (show 0≤1000 by decide)) Zh)) two) Zh)) (Zkz 1 [])))) rfl) ?_
 obtain⟨far,Tf,f0⟩:=Z1v c3 5
 have g:Gd n r:=⟨pm,h3,hn,z,lt⟩
 obtain⟨bs,Tbs,hbs⟩:=Zl8 g f0
 have lds:(T.map Ze1).length=n:=by rw[Xi,lT]
 refine Zll (ds:=bs.map Zj) (λ_ δ=>∃z14,δ=E y11 y12 y13 z14 none) (Zaz (Zo (Zb (Za v4) (Zb (Zo (Zb (Za v6) (Zb Zw Zh)) Tf) Zh)) Tbs)) ⟨_,rfl⟩ (λi d δ hd q=>?_) λδ' q=>?_
 ·obtain⟨z14,rfl⟩:=q
  obtain⟨x,hx,rfl⟩:=X4.mp (QV hd)
  obtain⟨b1,b2⟩:=hbs x hx
  refine⟨E y11 y12 y13 (some (.fz (Zj x))) none,_,by rw[hE];rfl,.inl (Z5 (Zh4 (p:=true) (Zf9 (Zo (Zb (Za v9) (Zb (Za (d:=Zj x) (by rw[hE];rfl)) Zh)) (Zir (Zf4 (ds:=T.map Ze1) (by omega) (by omega) (by rw[lds];exact b2)))))) rfl),_,rfl⟩
 ·obtain⟨z14,rfl⟩:=q
  obtain⟨sm,hsm⟩:∃sm,sm=(T.take 2).map λr=>Qy (cutD (r.map frD) none (some 2)):=⟨_,rfl⟩
  have lsm:sm.length<3:=by rw[hsm,Xi,QG];omega
  refine Zt (δ':=E y11 y12 y13 z14 (some (.fz (.list sm)))) ((Zq (d:=.list sm) (hsm▸Zbv (cs:=[]) (T.take 2) Ze1 (λr=>Qy (cutD (r.map frD) none (some 2))) (Zaz ((Zzq (ds:=T.map Ze1) (Za v9) Zmw (Zqi (Zw (d:=.int 2)))).cast (by rw[Z3i T (by omega)]))) (by rw[QG];omega) (by rw[hE];rfl) λx _=>Zzq (ds:=x.map frD) (Za (d:=Ze1 x) rfl) Zmw (Zqi (Zw (d:=.int 2))))).trans (by rw[hE];rfl)) ?_
  have v15:(E y11 y12 y13 z14 (some (.fz (.list sm))))[15]? =some (some (.fz (.list sm))):=by rw[hE];rfl
  exact Yv (Zdi (Zo (Zb (Za v15) (Zb (Zae (Zb Zw (Zb Zw Zh)) two) Zh)) (Zbw (p:=[0,1]) (by decide) lsm)) (Zdi (Zo (Zb (Za v15) (Zb (Zha Zw) Zh)) (Zbw (p:=[0]) (by decide) lsm)) (Zo (Zb (Zae (Zb (Zae (Zb (Zcd (Zb Zw (Zb Zw Zh)) two) Zh) (show 1≤1000 by decide)) Zh) (show 1≤1000 by decide)) (Zb (Zha Zw) Zh)) (Zbw (p:=[0]) (by decide) (show 1<3 by decide)))))
end My
namespace L2
open PySem PySem.Spec PyProof.Rows
structure Ei(K:Xb)(x:Str)(st:Stmt)(f:Addr)(fd:XC):Prop where
 a:Ql K XJ x=some (some (.ref f))
 F:Fun K x x st f fd
structure En(K:Xb)(mg:Str->Option Xe)(x:Str)(st:Stmt)(ps:List Str)(f:Addr)(fd:XC):Prop where
 F:Fun K x x st f fd
 b:Binds K fd ps []
 m:mg x=some (.ref f)
structure Ec(K:Xb)(mg:Str->Option Xe)(x:Str)(f:Addr):Prop where
 m:mg x=some (.ref f)
 a:VR K x f
section
variable {K:Xb}{h:Heap}{mg:Str->Option Xe}{x:Str}{st:Stmt}{f:Addr}{fd:XC}
theorem en0(X:K.In h)(G:h.Ns XJ mg)(q:Ei K x st f fd){ps:List Str}(hb:∀(kV doc pm:Xe) (an:Option Addr) (cdv ct:Xe) (us:List Xe),us.length=ps.length->bindArgs (Vi x x (Zfc st) (J7 st) (Zk st) .none kV doc pm an cdv ct) ⟨us,[]⟩=pure (ps.zip us)):En K mg x st ps f fd:=⟨q.F,q.F.binds hb,PySem.W.mg_of X G q.a⟩
noncomputable abbrev Bd(x:Str)(st:Stmt)(ps:List Str)(us:List Xe):Prop:=∀(kV doc pm:Xe) (an:Option Addr) (cdv ct:Xe),bindArgs (Vi x x (Zfc st) (J7 st) (Zk st) .none kV doc pm an cdv ct) ⟨us,[]⟩=pure (ps.zip us)
theorem l_c{us:List Xe}{n:Nat}(h:us.length=n+1):∃u vs,us=u :: vs∧vs.length=n:=by
 cases us with
 | nil=>cases h
 | cons u vs=>exact⟨u,vs,rfl,Nat.succ.inj h⟩
theorem en1(X:K.In h)(G:h.Ns XJ mg)(q:Ei K x st f fd){p0:Str}(hb:∀v0,Bd x st [p0] [v0]:=by exact λ_ _ _ _ _ _ _=>rfl):En K mg x st [p0] f fd:=en0 X G q λa b c d e g us hl=>by
 have h0:us.length=1:=hl
 obtain⟨u0,us0,e0,h1⟩:=l_c h0
 cases Q7 h1
 subst e0
 exact hb u0 a b c d e g
theorem en2(X:K.In h)(G:h.Ns XJ mg)(q:Ei K x st f fd){p0 p1:Str}(hb:∀v0 v1,Bd x st [p0,p1] [v0,v1]:=by exact λ_ _ _ _ _ _ _ _=>rfl):En K mg x st [p0,p1] f fd:=en0 X G q λa b c d e g us hl=>by
 have h0:us.length=2:=hl
 obtain⟨u0,us0,e0,h1⟩:=l_c h0
 obtain⟨u1,us1,e1,h2⟩:=l_c h1
 cases Q7 h2
 subst e1
 subst e0
 exact hb u0 u1 a b c d e g
theorem en3(X:K.In h)(G:h.Ns XJ mg)(q:Ei K x st f fd){p0 p1 p2:Str}(hb:∀v0 v1 v2,Bd x st [p0,p1,p2] [v0,v1,v2]:=by exact λ_ _ _ _ _ _ _ _ _=>rfl):En K mg x st [p0,p1,p2] f fd:=en0 X G q λa b c d e g us hl=>by
 have h0:us.length=3:=hl
 obtain⟨u0,us0,e0,h1⟩:=l_c h0
 obtain⟨u1,us1,e1,h2⟩:=l_c h1
 obtain⟨u2,us2,e2,h3⟩:=l_c h2
 cases Q7 h3
 subst e2
 subst e1
 subst e0
 exact hb u0 u1 u2 a b c d e g
theorem en4(X:K.In h)(G:h.Ns XJ mg)(q:Ei K x st f fd){p0 p1 p2 p3:Str}(hb:∀v0 v1 v2 v3,Bd x st [p0,p1,p2,p3] [v0,v1,v2,v3]:=by exact λ_ _ _ _ _ _ _ _ _ _=>rfl):En K mg x st [p0,p1,p2,p3] f fd:=en0 X G q λa b c d e g us hl=>by
 have h0:us.length=4:=hl
 obtain⟨u0,us0,e0,h1⟩:=l_c h0
 obtain⟨u1,us1,e1,h2⟩:=l_c h1
 obtain⟨u2,us2,e2,h3⟩:=l_c h2
 obtain⟨u3,us3,e3,h4⟩:=l_c h3
 cases Q7 h4
 subst e3
 subst e2
 subst e1
 subst e0
 exact hb u0 u1 u2 u3 a b c d e g
theorem en5(X:K.In h)(G:h.Ns XJ mg)(q:Ei K x st f fd){p0 p1 p2 p3 p4:Str}(hb:∀v0 v1 v2 v3 v4,Bd x st [p0,p1,p2,p3,p4] [v0,v1,v2,v3,v4]:=by exact λ_ _ _ _ _ _ _ _ _ _ _=>rfl):En K mg x st [p0,p1,p2,p3,p4] f fd:=en0 X G q λa b c d e g us hl=>by
 have h0:us.length=5:=hl
 obtain⟨u0,us0,e0,h1⟩:=l_c h0
 obtain⟨u1,us1,e1,h2⟩:=l_c h1
 obtain⟨u2,us2,e2,h3⟩:=l_c h2
 obtain⟨u3,us3,e3,h4⟩:=l_c h3
 obtain⟨u4,us4,e4,h5⟩:=l_c h4
 cases Q7 h5
 subst e4
 subst e3
 subst e2
 subst e1
 subst e0
 exact hb u0 u1 u2 u3 u4 a b c d e g
theorem ec(X:K.In h)(G:h.Ns XJ mg)(a:Ql K XJ x=some (some (.ref f))):Ec K mg x f:=⟨PySem.W.mg_of X G a,a⟩
end
theorem fsc{N P:List Str}{sc:VN}(h1:sc.kind= .function:=by rfl)(h2:sc.isCoroutine=false:=by rfl)(h3:sc.isGenerator=false:=by rfl)(h4:N.Nodup:=by decide +kernel)(h5:N.take P.length=P:=by rfl)(h6:∀x∈P,sc.names.lookup x=some .local∨sc.names.lookup x=some .cell:=by decide +kernel)(h7:∀y∈sc.names,y.2≠ .free:=by decide +kernel):Zu N P sc:=⟨h1,h2,h3,h4,h5,h6,h7⟩
section
variable {X:Cx}{io:List Nat}{st:Stmt}{sts ss ss':List Stmt}{f g:FS}{e:Expr}{es:List Expr}{p c:Bool}{ta:FT}{pos:Pos}{ra:FA}
noncomputable abbrev BS(X:Cx)(io:List Nat)(st:Stmt)(f:FS):Prop:=MS X io st (oS f)∧XS X io st (xS X.K f)
noncomputable abbrev BSs(X:Cx)(io:List Nat)(sts:List Stmt)(f:FS):Prop:=MSs X io sts (oS f)∧XSs X io sts (xS X.K f)
theorem Zvn(m:MSs X io sts (oS f))[NoEx f]:BSs X io sts f:=⟨m,Z42 f⟩
theorem Z3k(a:BS X io st f)(b:BSs X io sts g)(hx:X.xe= λ_ _=>False:=by rfl):BSs X io (st :: sts) (Zy f g):=⟨xsq a.1 b.1,Z2p a.2 a.1 b.2 hx⟩
theorem Zw5(a:BS X io st f):BSs X io [st] f:=⟨Zi a.1,Zz6 a.2⟩
theorem Yak(h:MT X io p e (o2 ta))(a:BSs X io ss f)(b:BSs X io ss' g)(hx:X.xe= λ_ _=>False:=by rfl):BS X io (.If e ss ss' pos) (Jp ta f g):=⟨xif h a.1 b.1,Z8w (Z8d h a.2 b.2 hx)⟩
theorem b_x(m:MA X io p c es (o2 ra)->MS X io st (oS f))(x:MA X io p c es (o2 ra)->XS X io st (xS X.K f))(a:MA X io p c es (o2 ra)):BS X io st f:=⟨m a,x a⟩
theorem Ybd(h:BSs X io sts f):XSs X io sts (xS X.K f):=h.2
end
section
variable {X:Cx}{io:List Nat}{e:Expr}{es:List Expr}{p c:Bool}{ra:FA}{pos pp:Pos}{k k':Nat}{f:Addr}{fd:XC}{ps:List Str}{x:Str}{F:FD}{st:Stmt}
theorem xce(G:FnOk X.prog X.w X.K X.mg X.base CX0 k f fd ps (spD X.K (sD F)))(hr:Room k' X.A)(E:En X.K X.mg x st ps f fd)(ha:MA X io p c (e :: es) (o2 ra))(hle:k≤k':=by decide)(hg:Gl X x:=by rfl)(h1:(x==("__debug__" : Str))=false:=by decide)(h2:Xk (e :: es) X.env=(false,eval e X.env) :: Xk es X.env:=by rfl)(h3:((QW pos (Xk es X.env)).any λx=>x.fst)=false:=by rfl):ME X io p c (.Call (.Name x pp) (e :: es) [] pos) (o2 (Zx F ra)):=xcl G (hr.mono hle) E.m E.F.kp E.b ha hg h1 h2 h3
theorem xee{S}{mr:MAt}(G:FnOk X.prog X.w X.K X.mg X.base (CX1 X.prog X.w) k f fd ps (spX X.K S))(hr:Room k' X.A)(E:En X.K X.mg x st ps f fd)(ha:MA X io p c (e :: es) mr)(hle:k≤k':=by decide)(hg:Gl X x:=by rfl)(hex:X.ex=[]:=by rfl)(hx:X.xe= λ_ _=>False:=by rfl)(h1:(x==("__debug__" : Str))=false:=by decide)(h2:Xk (e :: es) X.env=(false,eval e X.env) :: Xk es X.env:=by rfl)(h3:(QW pos (Xk es X.env)).any (·.1)=false:=by rfl):XE X io (.Call (.Name x pp) (e :: es) [] pos) (Zt3 S mr):=Z1p G (hr.mono hle) hg E.m E.F.kp E.b ha hex hx h1 h2 h3
end
section
variable {X:Cx}{io:List Nat}{p ci pt pe:Bool}{tg iter elt:Expr}{ifs:List Expr}{sc:VN}{pos:Pos}{mi:MIt}{g:MGt}{mt:MTt}{me:MEt}
theorem Zh1(own:List Str)(caps:List Nat)(N':List Str)(hi:MI X io p ci tg iter mi)
  (hg:∀C cells s₂ H₂ fp,MG (Wg X N' sc C cells s₂ H₂ fp) (Zbk own.length caps) ci tg g) (ht:∀C cells s₂ H₂ fp,MIfs (Wg X N' sc C cells s₂ H₂ fp) (Zbk own.length caps) pt ifs mt) (he:∀C cells s₂ H₂ fp,ME (Wg X N' sc C cells s₂ H₂ fp) (Zbk own.length caps) pe true elt me)
  (S:CompScope X own caps N' sc:=by exact⟨rfl,by decide +kernel,rfl,by decide +kernel,rfl,rfl⟩) (hc:X.calm=true:=by rfl) (nd:caps.Nodup:=by decide) (hp:(pt&&pe)=true:=by rfl) (hs:∀x,JV iter X.env x=pure x:=by intro _;rfl):ME X io p true (.ListComp elt [⟨tg,iter,ifs,0⟩] sc pos) (Zhe own.length caps mi g mt me):=Z3p S hc nd hi hg ht he hp hs
end
theorem Zt9{P:X6}{w:Qu}{K:Xb}{mg:Str->Option Xe}{base:Heap}{x qual:Str}{st:Stmt}{f:Addr}{fd:XC}{N ps:List Str}{n np nn:Nat}{S:FS}(F:Fun K x qual st f fd)(Sc:Zu N ps (Zk st))(hN:N.length=nn)(hp:np=ps.length)
  (hb:∀(CX:CXT) (cdv:Xe) (A:Qo) (outer:List Env) (s:Xf) (H:Hp) (E:XK),Room n (A.deeper (Uj qual (Zk st) s.heap.objs.size f cdv))->BSs (Zqq CX P w K mg base N qual (Zk st) f cdv A outer s H E).nox [] (J7 st) S) :
  FnOk P w K mg base CX0 (n+1) f fd ps (spD K (sD (Jy np nn S)))∧FnOk P w K mg base (CX1 P w) (n+1) f fd ps (spX K (sX K (Jy np nn S))) :=
 ⟨Yq F Sc hN hp λcdv A outer s H E hr=>(hb CX0 cdv A outer s H E hr).1,Z4f F Sc hN hp λcdv A outer s H E hr=>(hb (CX1 P w) cdv A outer s H E hr).2⟩
end L2
namespace My
open PySem L2 PySem.Spec
noncomputable def top(i:Nat):Stmt:=PySem.Challenge.pw_farcuts_k28_rings_told.main.body.getD i (.Pass ⟨0,0,0,0⟩)
noncomputable abbrev Zd8:Stmt:=top 34
noncomputable abbrev Zar:Stmt:=top 47
noncomputable abbrev Zb2:Stmt:=top 30
noncomputable abbrev Zfq:Stmt:=top 31
noncomputable abbrev Zdy:Stmt:=top 39
noncomputable abbrev Zfm:Stmt:=top 43
noncomputable abbrev Zed:Stmt:=top 44
noncomputable abbrev Zhn:Stmt:=top 33
noncomputable abbrev Za7:Stmt:=top 37
noncomputable abbrev Zhb:Stmt:=top 48
noncomputable abbrev Zfz:Stmt:=top 13
noncomputable abbrev Zgx:Stmt:=top 25
noncomputable abbrev Zc8:Stmt:=top 26
noncomputable abbrev Jc:Stmt:=top 14
noncomputable abbrev Zft:Stmt:=top 15
noncomputable abbrev Zfs:Stmt:=top 16
noncomputable abbrev Zfh:Stmt:=top 18
noncomputable abbrev Zaq:Stmt:=top 20
noncomputable abbrev Za4:Stmt:=top 22
noncomputable abbrev Zeb:Stmt:=top 21
noncomputable abbrev Zc5:Stmt:=top 23
noncomputable abbrev Zbb:Stmt:=top 27
noncomputable abbrev Zd0:Stmt:=top 28
noncomputable abbrev Zb1:Stmt:=top 46
noncomputable abbrev Zby:Stmt:=top 32
noncomputable abbrev Zan:Stmt:=top 40
noncomputable abbrev Ze6:Stmt:=top 41
noncomputable abbrev Jg:Stmt:=top 45
noncomputable abbrev Zfl:Stmt:=top 35
noncomputable abbrev Zfu:Stmt:=top 38
noncomputable abbrev Zd7:Stmt:=top 36
noncomputable abbrev Zd9:Stmt:=top 42
noncomputable abbrev Zz1:Stmt:=top 49
set_option genInjectivity false in
set_option genSizeOfSpec false in
structure Txt(K:Xb)(mg:Str->Option Xe)(f:Nat->Addr)(fd:Nat->XC)(cls:Nat->Addr):Prop where
 e_law_alike:En K mg "_law_alike" Zd8 ["found","due"] (f 0) (fd 0)
 e_law_bad_rings:En K mg "_law_bad_rings" Zar ["ring","far"] (f 1) (fd 1)
 e_law_cell_at:En K mg "_law_cell_at" Zb2 ["script","k"] (f 2) (fd 2)
 e_law_stir:En K mg "_law_stir" Zfq ["cell","k"] (f 3) (fd 3)
 e_law_drawn:En K mg "_law_drawn" Zdy ["script","start","n","base","cell"] (f 4) (fd 4)
 e_law_gaps:En K mg "_law_gaps" Zfm ["n"] (f 5) (fd 5)
 e_law_sides:En K mg "_law_sides" Zed ["ring"] (f 6) (fd 6)
 e_law_low:En K mg "_law_low" Zhn ["top","bottom"] (f 7) (fd 7)
 e_law_weighted:En K mg "_law_weighted" Za7 ["sides","weights","bottom"] (f 8) (fd 8)
 e_law_due:En K mg "_law_due" Zhb ["ring","weights","bottom"] (f 9) (fd 9)
 e_is_whole:En K mg "is_whole" Zfz ["thing"] (f 10) (fd 10)
 e_is_ring:En K mg "is_ring" Zgx ["n","ring"] (f 11) (fd 11)
 e_check_ring:En K mg "check_ring" Zc8 ["n","ring"] (f 12) (fd 12)
 e_greatest_divisor:En K mg "greatest_divisor" Jc ["a","b"] (f 13) (fd 13)
 e_in_least:En K mg "in_least" Zft ["top","bottom"] (f 14) (fd 14)
 e_fraction:En K mg "fraction" Zfs ["top","bottom"] (f 15) (fd 15)
 e_pairs_of:En K mg "pairs_of" Zfh ["n"] (f 16) (fd 16)
 e_shared_bottom:En K mg "shared_bottom" Zaq ["numbers"] (f 17) (fd 17)
 e_table_bottom:En K mg "table_bottom" Za4 ["table"] (f 18) (fd 18)
 e_tops_over:En K mg "tops_over" Zeb ["bottom","numbers"] (f 19) (fd 19)
 e_table_over:En K mg "table_over" Zc5 ["bottom","table"] (f 20) (fd 20)
 e_twice_weight:En K mg "twice_weight" Zbb ["rows","ring","a","b"] (f 21) (fd 21)
 e_ring_told:En K mg "ring_told" Zd0 ["table","ring"] (f 22) (fd 22)
 e_law_refused:En K mg "_law_refused" Zb1 ["table","ring"] (f 23) (fd 23)
 e_law_numbers:En K mg "_law_numbers" Zby ["cell","many"] (f 24) (fd 24)
 e_law_put_right:En K mg "_law_put_right" Zan ["ring"] (f 25) (fd 25)
 e_law_ring:En K mg "_law_ring" Ze6 ["cell","n"] (f 26) (fd 26)
 e_law_ring_weights:En K mg "_law_ring_weights" Jg ["script","start","n","cell"] (f 27) (fd 27)
 e_law_rows:En K mg "_law_rows" Zfl ["n","sides","weights"] (f 28) (fd 28)
 e_law_size:En K mg "_law_size" Zfu ["cell","least","most","great"] (f 29) (fd 29)
 e_law_table:En K mg "_law_table" Zd7 ["rows","bottom"] (f 30) (fd 30)
 e_law_twice:En K mg "_law_twice" Zd9 ["rows","ring","a","b"] (f 31) (fd 31)
 e_law:En K mg "law" Zz1 ["script"] (f 32) (fd 32)
 z_ValueError:mg "ValueError"=none
 z_abs:mg "abs"=none
 z_bool:mg "bool"=none
 z_int:mg "int"=none
 z_isinstance:mg "isinstance"=none
 z_len:mg "len"=none
 z_list:mg "list"=none
 z_range:mg "range"=none
 z_sorted:mg "sorted"=none
 z_str:mg "str"=none
 z_tuple:mg "tuple"=none
 z_zip:mg "zip"=none
 c_CutError:Ec K mg "CutError" (cls 0)
 c_NoCut:Ec K mg "NoCut" (cls 1)
 c_NoName:Ec K mg "NoName" (cls 2)
 c_NoNumber:Ec K mg "NoNumber" (cls 3)
 c_NoOrder:Ec K mg "NoOrder" (cls 4)
 c_NoPoint:Ec K mg "NoPoint" (cls 5)
 c_NoRow:Ec K mg "NoRow" (cls 6)
 c_NoTable:Ec K mg "NoTable" (cls 7)
 c_NoText:Ec K mg "NoText" (cls 8)
 c_NoWeb:Ec K mg "NoWeb" (cls 9)
 c_TooMany:Ec K mg "TooMany" (cls 10)
 x_NoNumber:Zbz K (cls 3)
 x_NoOrder:Zbz K (cls 4)
 r_CutError:Zi6 K (cls 0)
 r_NoNumber:Zi6 K (cls 3)
 r_NoOrder:Zi6 K (cls 4)
 u_NoNumber_CutError:Bj K (.ref (cls 3)) (.ref (cls 0))=some true
 kt_NoNumber_NoOrder:Qm K (.ref (cls 3)) (.ref (cls 4))=some false
 kt_NoNumber_ValueError:Qm K (.ref (cls 3)) (.type "ValueError")=some true
 ka_NoNumber_0:Bx K (.ref (cls 3)) [.ref (cls 1),.ref (cls 2),.ref (cls 3),.ref (cls 5),.ref (cls 6),.ref (cls 7),.ref (cls 8),.ref (cls 9),.ref (cls 10)]=some true
 u_NoOrder_CutError:Bj K (.ref (cls 4)) (.ref (cls 0))=some true
 kt_NoOrder_NoOrder:Qm K (.ref (cls 4)) (.ref (cls 4))=some true
 kt_NoOrder_ValueError:Qm K (.ref (cls 4)) (.type "ValueError")=some true
 ka_NoOrder_0:Bx K (.ref (cls 4)) [.ref (cls 1),.ref (cls 2),.ref (cls 3),.ref (cls 5),.ref (cls 6),.ref (cls 7),.ref (cls 8),.ref (cls 9),.ref (cls 10)]=some false
theorem Txt.kx_NoOrder{K:Xb}{mg:Str->Option Xe}{f:Nat->Addr}{fd:Nat->XC}{cls:Nat->Addr}(T:Txt K mg f fd cls):∀x∈xsL,∃C,VR K x C∧Qm K (.ref C) (.ref (cls 4))=some (Zpj x "NoOrder"):=λx hx=>by
 simp only[xsL,Xl,JF,or_false]at hx
 rcases hx with rfl|rfl
 ·exact⟨_,T.c_NoNumber.a,T.kt_NoNumber_NoOrder.trans (congrArg some (by decide +kernel))⟩
 ·exact⟨_,T.c_NoOrder.a,T.kt_NoOrder_NoOrder.trans (congrArg some (by decide +kernel))⟩
theorem Txt.kx_ValueError{K:Xb}{mg:Str->Option Xe}{f:Nat->Addr}{fd:Nat->XC}{cls:Nat->Addr}(T:Txt K mg f fd cls):∀x∈xsL,∃C,VR K x C∧Qm K (.ref C) (.type "ValueError")=some (Zpj x "ValueError"):=λx hx=>by
 simp only[xsL,Xl,JF,or_false]at hx
 rcases hx with rfl|rfl
 ·exact⟨_,T.c_NoNumber.a,T.kt_NoNumber_ValueError.trans (congrArg some (by decide +kernel))⟩
 ·exact⟨_,T.c_NoOrder.a,T.kt_NoOrder_ValueError.trans (congrArg some (by decide +kernel))⟩
theorem Txt.kxt_0{K:Xb}{mg:Str->Option Xe}{f:Nat->Addr}{fd:Nat->XC}{cls:Nat->Addr}(T:Txt K mg f fd cls):∀x∈xsL,∃C,VR K x C∧Bx K (.ref C) [.ref (cls 1),.ref (cls 2),.ref (cls 3),.ref (cls 5),.ref (cls 6),.ref (cls 7),.ref (cls 8),.ref (cls 9),.ref (cls 10)]=some ((["NoCut","NoName","NoNumber","NoPoint","NoRow","NoTable","NoText","NoWeb","TooMany"]:List Str).any (Zpj x)):=λx hx=>by
 simp only[xsL,Xl,JF,or_false]at hx
 rcases hx with rfl|rfl
 ·exact⟨_,T.c_NoNumber.a,T.ka_NoNumber_0.trans (congrArg some (by decide +kernel))⟩
 ·exact⟨_,T.c_NoOrder.a,T.ka_NoOrder_0.trans (congrArg some (by decide +kernel))⟩
theorem Txt.ku_CutError{K:Xb}{mg:Str->Option Xe}{f:Nat->Addr}{fd:Nat->XC}{cls:Nat->Addr}(T:Txt K mg f fd cls):∀x∈xsL,Zpj x "CutError"=true->∃C,VR K x C∧Zbz K C∧Bj K (.ref C) (.ref (cls 0))=some true:=λx hx=>by
 simp only[xsL,Xl,JF,or_false]at hx
 rcases hx with rfl|rfl
 ·exact λ_=>⟨_,T.c_NoNumber.a,T.x_NoNumber,T.u_NoNumber_CutError⟩
 ·exact λ_=>⟨_,T.c_NoOrder.a,T.x_NoOrder,T.u_NoOrder_CutError⟩
section
variable {P:X6}{w:Qu}{K:Xb}{mg:Str->Option Xe}{base:Heap}
theorem Zc7:Zu ["found","due","one","other"] ["found","due"] (Zk Zd8):=fsc
theorem Zc9{f:Nat->Addr}{fd:Nat->XC}{cls:Nat->Addr}(T:Txt K mg f fd cls):∀k,FnOk P w K mg base CX0 (1+k) (f 0) (fd 0) ["found","due"] (spD K (sD (Zm k)))
 | 0=>Zyy λds k h=>by obtain⟨r,h,_⟩:=h;cases h
 | k+1=>by
  have G_rec:=Zc9 T k
  refine Yq T.e_law_alike.F Zc7 (S:=Wj (Zm k)) rfl rfl (λcdv A outer s H E hr=>?_)
  have hu:=hr.units
  exact(Zcb (W0 (Zkp (Zl3 (Zco (Zcr (Zcs (Zhl (by decide) (by rfl) T.z_isinstance L2.B.boot_isinstance (by rfl) T.z_int L2.B.boot_int (Z2 (mv 1)))) (λ_=>rfl))) (Zi (Zeo (Zef (Zdx (Zn0 (Zcs (Zhl (by decide) (by rfl) T.z_isinstance L2.B.boot_isinstance (by rfl) T.z_int L2.B.boot_int (Z2 (mv 0)))) (Zdx (Zn0 (Ztt (Z44 (Zcs (Zhl (by decide) (by rfl) T.z_isinstance L2.B.boot_isinstance (by rfl) T.z_bool L2.B.boot_bool (Z2 (mv 0)))))) (Zr9 (Wx Z11 (Znm (Zig hu) Zp2 (Z2 (mv 0)) (Z2 (mv 1)) (hm:=(Zaf _)))))))))))) (Zbf Zbc)))
   (Zcb (W0 (Zkp (Zl3 (Zco (Zcr (Zcs (Zhl (by decide) (by rfl) T.z_isinstance L2.B.boot_isinstance (by rfl) T.z_str L2.B.boot_str (Z2 (mv 1)))) (λ_=>rfl))) (Zi (Zeo (Zef (Zdx (Zn0 (Zcs (Zhl (by decide) (by rfl) T.z_isinstance L2.B.boot_isinstance (by rfl) T.z_str L2.B.boot_str (Z2 (mv 0)))) (Zr9 (Wx Z11 (Znm (Zig hu) Zp2 (Z2 (mv 0)) (Z2 (mv 1)) (hm:=(Zaf _)))))))))) (Zbf Zbc)))
   (Zcb (W0 (Zkp (Zl3 (MW.mt (Zr4 (Ztn (Zda Z6r (Zcp (Zpf hu) Zwp (Zcs (Zhl (by decide) (by rfl) T.z_isinstance L2.B.boot_isinstance (by rfl) T.z_tuple L2.B.boot_tuple (Z2 (mv 1)))) (Zcs (Zhl (by decide) (by rfl) T.z_isinstance L2.B.boot_isinstance (by rfl) T.z_tuple L2.B.boot_tuple (Z2 (mv 0)))) (hm:=(Zaf _)))) (Zo8 (Zda Z6r (Zcp (Zpf hu) Zwp (Zcs (Zhl (by decide) (by rfl) T.z_isinstance L2.B.boot_isinstance (by rfl) T.z_list L2.B.boot_list (Z2 (mv 1)))) (Zcs (Zhl (by decide) (by rfl) T.z_isinstance L2.B.boot_isinstance (by rfl) T.z_list L2.B.boot_list (Z2 (mv 0)))) (hm:=(Zaf _)))))))) (Zi (Zeo (Zef (Zf2 Ze7)))) (Zbf Zbc)))
   (Zcb (W0 (Zkp (Zl3 (Zda Z6r (Zcp (Zpf hu) Zwp (Zf0 Zr0 (Zl5 Zlj (Zcz rfl) (by rfl) T.z_len L2.B.boot_len (Zd (Z2 (mv 0)) (Wu Wv)))) (Zf0 Zr0 (Zl5 Zlj (Zcz rfl) (by rfl) T.z_len L2.B.boot_len (Zd (Z2 (mv 1)) (Wu Wv)))) (hm:=(Zaf _)))) (Zi (Zeo (Zef (Zf2 Ze7)))) (Zbf Zbc)))
   (Zcb (W0 (Zs8 (Ztr Qi rfl (Znl (Zng (by rfl) T.z_zip L2.B.boot_zip (Zd (Z2 (mv 0)) (Zd (Z2 (mv 1)) (Wu Wv))))) (Zra (Zrl (n:=2) (by rfl) (Zdf (Zdl (Zg2 (Zg5 (i:=2) Zc7.nd)) (Zdf (Zdl (Zg2 (Zg5 (i:=3) Zc7.nd)) (Znt Zmp)))))))
   (Zi (Zkp (Zl3 (Zk1 (Zld (Zco (Zcr (J4 (Zb5 G_rec hr (by rfl) T.e_law_alike.m T.e_law_alike.F.kp T.e_law_alike.b Zge (Zd (Z2 (mv 2)) (Zd (Z2 (mv 3)) (Wu Wv))))) (λ_=>rfl))))) (Zi (Zeo (Zef (Zf2 Ze7)))) (Zbf Zbc))))))
   (Zi (Zeo (Zef (Zf2 Ze7))))))))))))))
theorem Zl7{f:Nat->Addr}{fd:Nat->XC}{cls:Nat->Addr}(T:Txt K mg f fd cls):FnOk P w K mg base CX0 7 (f 0) (fd 0) ["found","due"] (spD K (sD (Zm 6))):=Zc9 T 6
theorem Yd:Zu ["ring","far","n","bad","k","again","other"] ["ring","far"] (Zk Zar):=fsc
theorem Zga{f:Nat->Addr}{fd:Nat->XC}{cls:Nat->Addr}(T:Txt K mg f fd cls):FnOk P w K mg base CX0 1 (f 1) (fd 1) ["ring","far"] (spD K (sD Y5)):=by
 refine Yq T.e_law_bad_rings.F Yd (S:=Zad) rfl rfl (λcdv A outer s H E hr=>?_)
 have hu:=hr.units
 exact(xsq (xst 2 Yd.nd (xln T.z_len (xa1 (xv 0)))) (xsq (xso 3 Yd.nd (xls (Zd (xls xa0) (Zd (Zba (Zbe (xv 0) (Wc Wd) (Z8 (Yb (J9 (Zdo xci)))))) (Zd (Zci (Jr Zc0 (Zkq (Wn rfl) J1 (xv 0) (xls (xa1 (xv 2)))))) (Zd (Zci (Jr Zc0 (Zkq (Wn rfl) J1 (xv 0) (Zba (Zbe (xv 0) (Z8 (Yb xci)) (Z8 (Yb xci))))))) (Zd (Zci (Jr Zc0 (Zkq (Wn rfl) J1 (Zba (Zbe (xv 0) (Z8 (Yb xci)) (Wc Wd))) (Zba (Zbe (xv 0) (Wc Wd) (Z8 (Yb xci))))))) (xa1 (Zci (Jr Zc0 (Zkq (Wn rfl) J1 (Zba (Zbe (xv 0) (Wc Wd) (Z8 (Yb xci)))) (Zsn (Zx4 (xv 0) (Wc Wd) (Z8 (Yb xci)) (Z8 (Yb (J9 (Zdo xci))))))))))))))))) (xsq (Zhf (Zhm 3 (xso 3 Yd.nd (Zci (Jr Zc0 (Zkq (Wn rfl) J1 (xv 3) (xls (Zd (Zci (Jr Zc0 (Zkq (Wn rfl) J1 (Zba (Zbe (xv 0) (Wc Wd) (Z8 (Yb (J9 (Zdo xci)))))) (Zba (Zbe (xv 0) (Z8 (Yb xci)) (Z8 (Yb xci))))))) (Zd (Zci (Jr Zc0 (Zkq (Wn rfl) J1 (Zba (Zbe (xv 0) (Wc Wd) (Z8 (Yb (J9 (Zdo xci)))))) (xls (xa1 (Zds (xv 2) (xv 1))))))) (Zd (Zci (Jr Zc0 (Zkq (Wn rfl) J1 (Zba (Zbe (xv 0) (Wc Wd) (Z8 (Yb (J9 (Zdo xci)))))) (xls (xa1 (Zpq (J9 (Zdo xci)) (xv 1))))))) (xa1 (Zci (Jr Zc0 (Zkq (Wn rfl) J1 (Zba (Zbe (xv 0) (Wc Wd) (Z8 (Yb (J9 (Zdo xci)))))) (xls (xa1 (J9 (Zdo xci)))))))))))))))))) (xsq (xfr Qi rfl (Z1m (Zg4 (by rfl) T.z_range (Zd xci (xa1 (xv 2))))) (xg 4 Yd.nd) (xsq (xst 5 Yd.nd (Zfx (xv 1) (xv 2))) (xsq (xif (xeq hu (xv 5) (xv 4)) (Zi (xst 5 Yd.nd xci)) xnl) (xsq (xst 6 Yd.nd (xix (xls (Zd (xv 2) (Zd (Zds (xv 2) (xv 1)) (Zd (J9 (Zdo xci)) (Zd (Zpq (J9 (Zdo xci)) (xv 1)) (xa1 (Zpq xci (xix (xv 0) (xv 4))))))))) (Zfx (Zds (xv 1) (xv 4)) xci))) (xsq (Zbi (Zbh 3 (Zci (Jr Zc0 (Zkq (Wn rfl) J1 (Zci (Jr Zc0 (Zkq (Wn rfl) J1 (Zba (Zbe (xv 0) (Wc Wd) (Z8 (Yb (xv 4))))) (xls (xa1 (xix (xv 0) (xv 5))))))) (Zba (Zbe (xv 0) (Z8 (Yb (Zds (xv 4) xci))) (Wc Wd)))))))) (Zi (Zbi (Zbh 3 (Zci (Jr Zc0 (Zkq (Wn rfl) J1 (Zci (Jr Zc0 (Zkq (Wn rfl) J1 (Zba (Zbe (xv 0) (Wc Wd) (Z8 (Yb (xv 4))))) (xls (xa1 (xv 6)))))) (Zba (Zbe (xv 0) (Z8 (Yb (Zds (xv 4) xci))) (Wc Wd)))))))))))))) (Zi (Zea (Zdz 3)))))))
theorem Zh5:Zu ["script","k"] ["script","k"] (Zk Zb2):=fsc
theorem Zh6{f:Nat->Addr}{fd:Nat->XC}{cls:Nat->Addr}(T:Txt K mg f fd cls):FnOk P w K mg base CX0 1 (f 2) (fd 2) ["script","k"] (spD K (sD Ym)):=by
 refine Yq T.e_law_cell_at.F Zh5 (S:=Za2) rfl rfl (λcdv A outer s H E hr=>?_)
 exact(xsq (xif (xlt (xv 1) (xln T.z_len (xa1 (xv 0)))) (Zi (xrt (xix (xv 0) (xv 1)))) xnl) (Zi (xrt xci)))
theorem Zd3:Zu ["cell","k","one"] ["cell","k"] (Zk Zfq):=fsc
theorem Zbs{f:Nat->Addr}{fd:Nat->XC}{cls:Nat->Addr}(T:Txt K mg f fd cls):FnOk P w K mg base CX0 1 (f 3) (fd 3) ["cell","k"] (spD K (sD Yl)):=by
 refine Yq T.e_law_stir.F Zd3 (S:=Zcw) rfl rfl (λcdv A outer s H E hr=>?_)
 exact(xsq (xst 2 Zd3.nd (Zfx (Zus (Zds (Zds (Zfx (xv 0) xci) (Zus xci (xv 1))) xci) xci) xci)) (xsq (xst 2 Zd3.nd (Zfx (Zus (xv 2) (xv 2)) xci)) (Zi (xrt (Zkj (Zfx (Zus (Zds (xv 2) (Zus xci (xv 1))) xci) xci) xci)))))
theorem Wm:Zu ["script","start","n","base","cell","rows","i","j","at","number"] ["script","start","n","base","cell"] (Zk Zdy):=fsc
theorem Zlu{f:Nat->Addr}{fd:Nat->XC}{cls:Nat->Addr}(T:Txt K mg f fd cls):FnOk P w K mg base CX0 2 (f 4) (fd 4) ["script","start","n","base","cell"] (spD K (sD Wh)):=by
 have G_law_stir:=Zbs (P:=P) (w:=w) (base:=base) T
 refine Yq T.e_law_drawn.F Wm (S:=Zb3) rfl rfl (λcdv A outer s H E hr=>?_)
 exact(xsq (Zi1 (Zbn (i:=5) (own:=["point"]) (caps:=[2]) (N':=["point","n"]) true Wm.nd rfl (Qj rfl) (by exact⟨rfl,by decide +kernel,rfl,by decide +kernel,rfl,rfl⟩) (by rfl) (by decide) (Zfb (Wa (by rfl) T.z_range (xa1 (xv 2)))) (λ_ _ _ _ _=>(xg 0 (by show Q6 (["point","n"]:List Str);decide +kernel))) (λ_ _ _ _ _=>(Jv Ju)) (λ_ _ _ _ _=>(Zsp (Z0p xci (xv 1)))))) (xsq (xfr Qi rfl (Zfb (Wa (by rfl) T.z_range (xa1 (xv 2)))) (xg 6 Wm.nd) (Zi (xfr Qi rfl (Zfb (Wa (by rfl) T.z_range (xa1 (xv 6)))) (xg 7 Wm.nd) (xsq (xst 8 Wm.nd (Zds (Zkj (Zus (xv 6) (Zpq (xv 6) xci)) xci) (xv 7))) (xsq (xst 9 Wm.nd (xce G_law_stir hr T.e_law_stir (Zd (xv 4) (xa1 (Zds xci (xv 8)))))) (xsq (xif (xlt (Zds (xv 1) (xv 8)) (xln T.z_len (xa1 (xv 0)))) (Zi (xst 9 Wm.nd (xix (xv 0) (Zds (xv 1) (xv 8))))) xnl) (xsq (Zm0 (Znr 5 (Zfx (xv 9) (xv 3)) (xv 6) (xv 7) (λ_ _=>rfl))) (Zi (Zm0 (Znr 5 (Zfx (xv 9) (xv 3)) (xv 7) (xv 6) (λ_ _=>rfl))))))))))) (Zi (Zea (Zdz 5)))))
theorem Zd6:Zu ["n","found","a"] ["n"] (Zk Zfm):=fsc
theorem Zd5{f:Nat->Addr}{fd:Nat->XC}{cls:Nat->Addr}(T:Txt K mg f fd cls):FnOk P w K mg base CX0 1 (f 5) (fd 5) ["n"] (spD K (sD Yt)):=by
 refine Yq T.e_law_gaps.F Zd6 (S:=Zcj) rfl rfl (λcdv A outer s H E hr=>?_)
 exact(xsq (xso 1 Zd6.nd (xls xa0)) (xsq (xfr Qi rfl (Zfb (Wa (by rfl) T.z_range (xa1 (xv 0)))) (xg 2 Zd6.nd) (Zi (Zrx (Zq5 1 (Za6 (Zh1 ["b"] [2] ["b","a"] (Z1m (Zg4 (by rfl) T.z_range (Zd (Zds (xv 2) xci) (xa1 (xv 0))))) (λ_ _ _ _ _=>(xg 0 (by show Q6 (["b","a"]:List Str);decide +kernel))) (λ_ _ _ _ _=>(Jv Ju)) (λ_ _ _ _ _=>(xtp (Zd (xv 1) (xa1 (xv 0))))))))))) (Zi (Zea (Zdz 1)))))
theorem Zlx:Zu ["ring"] ["ring"] (Zk Zed):=fsc
theorem Zf5{f:Nat->Addr}{fd:Nat->XC}{cls:Nat->Addr}(T:Txt K mg f fd cls):FnOk P w K mg base CX0 2 (f 6) (fd 6) ["ring"] (spD K (sD Wi)):=by
 have G_law_gaps:=Zd5 (P:=P) (w:=w) (base:=base) T
 refine Yq T.e_law_sides.F Zlx (S:=Zca) rfl rfl (λcdv A outer s H E hr=>?_)
 exact(Zi (xrt (Za6 (Zh1 ["a","b"] [0] ["a","b","ring"] (xil (xce G_law_gaps hr T.e_law_gaps (xa1 (xln T.z_len (xa1 (xv 0)))))) (λ_ _ _ _ _=>(xg2 rfl (xg 0 (by show Q6 (["a","b","ring"]:List Str);decide +kernel)) (xg 1 (by show Q6 (["a","b","ring"]:List Str);decide +kernel)))) (λ_ _ _ _ _=>(Jv Ju)) (λ_ _ _ _ _=>(Zm2 Znb (Z53 Zkg (Zfe rfl) (by rfl) T.z_sorted L2.B.boot_sorted (xa1 (Zba (Zbe (xv 2) (Z8 (Yb (Zds (xv 0) xci))) (Z8 (Yb (Zds (xv 1) xci)))))))))))))
theorem Zaj:Zu ["top","bottom","one","other","left"] ["top","bottom"] (Zk Zhn):=fsc
theorem Ziu{f:Nat->Addr}{fd:Nat->XC}{cls:Nat->Addr}(T:Txt K mg f fd cls):FnOk P w K mg base CX0 1 (f 7) (fd 7) ["top","bottom"] (spD K (sD J0)):=by
 refine Yq T.e_law_low.F Zaj (S:=Zdr) rfl rfl (λcdv A outer s H E hr=>?_)
 have hu:=hr.units
 exact(xsq (xst 2 Zaj.nd (Zf0 Z1r (Zl5 Zun Zi3 (by rfl) T.z_abs L2.B.boot_abs (xa1 (xv 0))))) (xsq (xst 3 Zaj.nd (xv 1)) (xsq (Zo9 (Zof Qi (xne hu (xv 3) xci) (xsq (xst 4 Zaj.nd (Zfx (xv 2) (xv 3))) (xsq (xst 2 Zaj.nd (xv 3)) (Zi (xst 3 Zaj.nd (xv 4))))))) (Zi (xrt (xtp (Zd (Zkj (xv 0) (xv 2)) (xa1 (Zkj (xv 1) (xv 2))))))))))
theorem Zgz:Zu ["sides","weights","bottom"] ["sides","weights","bottom"] (Zk Za7):=fsc
theorem Zho{f:Nat->Addr}{fd:Nat->XC}{cls:Nat->Addr}(T:Txt K mg f fd cls):FnOk P w K mg base CX0 2 (f 8) (fd 8) ["sides","weights","bottom"] (spD K (sD W7)):=by
 have G_law_low:=Ziu (P:=P) (w:=w) (base:=base) T
 refine Yq T.e_law_weighted.F Zgz (S:=Zau) rfl rfl (λcdv A outer s H E hr=>?_)
 have hu:=hr.units
 exact(Zi (xrt (Zm2 Z09 (Z53 Zu0 (Ziy Zxn rfl hu) (by rfl) T.z_sorted L2.B.boot_sorted (xa1 (Za6 (Zh1 ["side","weight"] [2] ["side","weight","bottom"] (Znl (Zng (by rfl) T.z_zip L2.B.boot_zip (Zd (xv 0) (xa1 (xv 1))))) (λ_ _ _ _ _=>(xg2 rfl (xg 0 (by show Q6 (["side","weight","bottom"]:List Str);decide +kernel)) (xg 1 (by show Q6 (["side","weight","bottom"]:List Str);decide +kernel)))) (λ_ _ _ _ _=>(Zua (xgt (xv 1) xci))) (λ_ _ _ _ _=>(xtp (Zd (Zm2 Zte (Z78 Znq (Ze4 rfl) (by rfl) T.z_list L2.B.boot_list (xa1 (xv 0)))) (xa1 (xce G_law_low hr T.e_law_low (Zd (xv 1) (xa1 (xv 2)))))))))))))))
theorem Zfa:Zu ["ring","weights","bottom","gaps","below"] ["ring","weights","bottom"] (Zk Zhb):=fsc
theorem Zqk{f:Nat->Addr}{fd:Nat->XC}{cls:Nat->Addr}(T:Txt K mg f fd cls):FnOk P w K mg base CX0 3 (f 9) (fd 9) ["ring","weights","bottom"] (spD K (sD Wk)):=by
 have G_law_gaps:=Zd5 (P:=P) (w:=w) (base:=base) T
 have G_law_sides:=Zf5 (P:=P) (w:=w) (base:=base) T
 have G_law_weighted:=Zho (P:=P) (w:=w) (base:=base) T
 refine Yq T.e_law_due.F Zfa (S:=Zdu) rfl rfl (λcdv A outer s H E hr=>?_)
 have hu:=hr.units
 exact(xsq (Zew (Zev (i:=3) Zfa.nd rfl (X8 rfl) (xce G_law_gaps hr T.e_law_gaps (xa1 (xln T.z_len (xa1 (xv 0))))))) (xsq (Zqy (Zbn (i:=4) (own:=["k"]) (caps:=[3,1]) (N':=["k","gaps","weights"]) false Zfa.nd rfl (Qj rfl) (by exact⟨rfl,by decide +kernel,rfl,by decide +kernel,rfl,rfl⟩) (by rfl) (by decide) (Zfb (Wa (by rfl) T.z_range (xa1 (xln T.z_len (xa1 (xv 3)))))) (λ_ _ _ _ _=>(xg 0 (by show Q6 (["k","gaps","weights"]:List Str);decide +kernel))) (λ_ _ _ _ _=>(Zua (xlt (xix (xv 2) (xv 0)) xci))) (λ_ _ _ _ _=>(xix (xv 1) (xv 0))))) (xsq (xif (xne hu (xv 4) (xls xa0)) (Zi (xrt (xtp (Zd (Zf2 Zlg) (xa1 (xix (xv 4) xci)))))) xnl) (Zi (xrt (xtp (Zd (Zf2 Zlg) (xa1 (xce G_law_weighted hr T.e_law_weighted (Zd (xce G_law_sides hr T.e_law_sides (xa1 (xv 0))) (Zd (xv 1) (xa1 (xv 2)))))))))))))
theorem Zmh:Zu ["thing"] ["thing"] (Zk Zfz):=fsc
theorem Zgs{f:Nat->Addr}{fd:Nat->XC}{cls:Nat->Addr}(T:Txt K mg f fd cls):FnOk P w K mg base CX0 1 (f 10) (fd 10) ["thing"] (spD K (sD Y7)):=by
 refine Yq T.e_is_whole.F Zmh (S:=Zcv) rfl rfl (λcdv A outer s H E hr=>?_)
 exact(Zi (xrt (Zdx (Zn0 (Zcs (Zhl (by decide) (by rfl) T.z_isinstance L2.B.boot_isinstance (by rfl) T.z_int L2.B.boot_int (xv 0))) (Zr9 (Ztt (Z44 (Zcs (Zhl (by decide) (by rfl) T.z_isinstance L2.B.boot_isinstance (by rfl) T.z_bool L2.B.boot_bool (xv 0))))))))))
theorem Ziw:Zu ["n","ring","point"] ["n","ring"] (Zk Zgx):=fsc
theorem Zpz{f:Nat->Addr}{fd:Nat->XC}{cls:Nat->Addr}(T:Txt K mg f fd cls):FnOk P w K mg base CX0 2 (f 11) (fd 11) ["n","ring"] (spD K (sD Za8)):=by
 have G_is_whole:=Zgs (P:=P) (w:=w) (base:=base) T
 refine Yq T.e_is_ring.F Ziw (S:=Zdv) rfl rfl (λcdv A outer s H E hr=>?_)
 have hu:=hr.units
 exact(xsq (xfr Qi rfl (xil (xv 1)) (xg 2 Ziw.nd) (Zi (xif (xno (Zco (Zcr (xce G_is_whole hr T.e_is_whole (xa1 (xv 2))) (λ_=>rfl)))) (Zi (xrt (Zf2 Ze7))) xnl))) (xsq (xif (MW.mt (Zr4 (Ztn (xlt (xv 0) xci) (Zo8 (xne hu (Zm2 Znb (Z53 Zkg (Zfe rfl) (by rfl) T.z_sorted L2.B.boot_sorted (xa1 (xv 1)))) (Zxj (Zk9 (by rfl) (by rfl) T.z_list L2.B.boot_list (by rfl) T.z_range L2.B.boot_range (xa1 (xv 0))))))))) (Zi (xrt (Zf2 Ze7))) xnl) (Zi (xrt (Zdx (Zn0 (Wx Z11 (Znm (Zig hu) Zp2 (xix (xv 1) xci) xci (hm:=(Zaf _)))) (Zr9 (Wx Z8p (Znm Zzh Zib (xix (xv 1) xci) (xix (xv 1) (J9 (Zdo xci))) (hm:=(Zaf _)))))))))))
theorem Zke:Zu ["n","ring"] ["n","ring"] (Zk Zc8):=fsc
theorem Zh3{f:Nat->Addr}{fd:Nat->XC}{cls:Nat->Addr}(T:Txt K mg f fd cls):FnOk P w K mg base CX0 3 (f 12) (fd 12) ["n","ring"] (spD K (sD Yp))∧FnOk P w K mg base (CX1 P w) 3 (f 12) (fd 12) ["n","ring"] (spX K (sX K Yp)):=by
 have G_is_ring:=Zpz (P:=P) (w:=w) (base:=base) T
 refine Zt9 T.e_check_ring.F Zke (S:=Zbj) rfl rfl (λCX cdv A outer s H E hr=>?_)
 exact(Zw5 (Yak (Zk1 (Zld (Zco (Zcr (J4 (Zb5 G_is_ring (hr.mono (by decide)) (by rfl) T.e_is_ring.m T.e_is_ring.F.kp T.e_is_ring.b Zge (Zd (Z2 (mv 0)) (Zd (Z2 (mv 1)) (Wu Wv))))) (λ_=>rfl))))) (Zw5 ⟨Zoa,Zoy T.c_NoOrder.a (Zol rfl hr.hd (by rfl) T.c_NoOrder.m T.r_NoOrder)⟩) (Zvn (Zbf Zbc))))
theorem Yk:Zu ["a","b","left"] ["a","b"] (Zk Jc):=fsc
theorem Zao{f:Nat->Addr}{fd:Nat->XC}{cls:Nat->Addr}(T:Txt K mg f fd cls):FnOk P w K mg base CX0 1 (f 13) (fd 13) ["a","b"] (spD K (sD Z9)):=by
 refine Yq T.e_greatest_divisor.F Yk (S:=Jk) rfl rfl (λcdv A outer s H E hr=>?_)
 have hu:=hr.units
 exact(xsq (xst 0 Yk.nd (Zf0 Z1r (Zl5 Zun Zi3 (by rfl) T.z_abs L2.B.boot_abs (xa1 (xv 0))))) (xsq (xst 1 Yk.nd (Zf0 Z1r (Zl5 Zun Zi3 (by rfl) T.z_abs L2.B.boot_abs (xa1 (xv 1))))) (xsq (Zo9 (Zof Qi (xne hu (xv 1) xci) (xsq (xst 2 Yk.nd (Zfx (xv 0) (xv 1))) (xsq (xst 0 Yk.nd (xv 1)) (Zi (xst 1 Yk.nd (xv 2))))))) (Zi (xrt (xv 0))))))
theorem Zd4:Zu ["top","bottom","shared"] ["top","bottom"] (Zk Zft):=fsc
theorem Zmi{f:Nat->Addr}{fd:Nat->XC}{cls:Nat->Addr}(T:Txt K mg f fd cls):FnOk P w K mg base CX0 2 (f 14) (fd 14) ["top","bottom"] (spD K (sD Zat)):=by
 have G_greatest_divisor:=Zao (P:=P) (w:=w) (base:=base) T
 refine Yq T.e_in_least.F Zd4 (S:=Zc3) rfl rfl (λcdv A outer s H E hr=>?_)
 exact(xsq (xst 2 Zd4.nd (xce G_greatest_divisor hr T.e_greatest_divisor (Zd (xv 0) (xa1 (xv 1))))) (xsq (xif (xlt (xv 1) xci) (Zi (xst 2 Zd4.nd (J9 (Zdo (xv 2))))) xnl) (Zi (xrt (xtp (Zd (Zkj (xv 0) (xv 2)) (xa1 (Zkj (xv 1) (xv 2)))))))))
theorem Zmq:Zu ["top","bottom"] ["top","bottom"] (Zk Zfs):=fsc
theorem Zmb{f:Nat->Addr}{fd:Nat->XC}{cls:Nat->Addr}(T:Txt K mg f fd cls):FnOk P w K mg base CX0 3 (f 15) (fd 15) ["top","bottom"] (spD K (sD Y8))∧FnOk P w K mg base (CX1 P w) 3 (f 15) (fd 15) ["top","bottom"] (spX K (sX K Y8)):=by
 have G_in_least:=Zmi (P:=P) (w:=w) (base:=base) T
 have G_is_whole:=Zgs (P:=P) (w:=w) (base:=base) T
 refine Zt9 T.e_fraction.F Zmq (S:=Zc4) rfl rfl (λCX cdv A outer s H E hr=>?_)
 have hu:=hr.units
 exact(Z3k (Yak (MW.mt (Zr4 (Ztn (Zk1 (Zld (Zco (Zcr (J4 (Zb5 G_is_whole (hr.mono (by decide)) (by rfl) T.e_is_whole.m T.e_is_whole.F.kp T.e_is_whole.b Zge (Zd (Z2 (mv 0)) (Wu Wv)))) (λ_=>rfl))))) (Zr4 (Ztn (Zk1 (Zld (Zco (Zcr (J4 (Zb5 G_is_whole (hr.mono (by decide)) (by rfl) T.e_is_whole.m T.e_is_whole.F.kp T.e_is_whole.b Zge (Zd (Z2 (mv 1)) (Wu Wv)))) (λ_=>rfl))))) (Zo8 (Zda Z11 (Zcp (Zig hu) Zp2 (Z2 (mv 1)) (Zf2 Zg1) (hm:=(Zaf _)))))))))) (Zw5 ⟨Zoa,Zoy T.c_NoNumber.a (Zol rfl hr.hd (by rfl) T.c_NoNumber.m T.r_NoNumber)⟩) (Zvn (Zbf Zbc)))
   (Zvn (Zi (Zeo (Zef (J4 (Zb5 G_in_least (hr.mono (by decide)) (by rfl) T.e_in_least.m T.e_in_least.F.kp T.e_in_least.b Zge (Zd (Z2 (mv 0)) (Zd (Z2 (mv 1)) (Wu Wv))))))))))
theorem Zbp:Zu ["n","pairs","i","j"] ["n"] (Zk Zfh):=fsc
theorem Zna{f:Nat->Addr}{fd:Nat->XC}{cls:Nat->Addr}(T:Txt K mg f fd cls):FnOk P w K mg base CX0 1 (f 16) (fd 16) ["n"] (spD K (sD Jj)):=by
 refine Yq T.e_pairs_of.F Zbp (S:=Zcx) rfl rfl (λcdv A outer s H E hr=>?_)
 exact(xsq (xso 1 Zbp.nd (xls xa0)) (xsq (xfr Qi rfl (Zfb (Wa (by rfl) T.z_range (xa1 (xv 0)))) (xg 2 Zbp.nd) (Zi (xfr Qi rfl (Z1m (Zg4 (by rfl) T.z_range (Zd (Zds (xv 2) xci) (xa1 (xv 0))))) (xg 3 Zbp.nd) (Zi (Zbi (Zbh 1 (xtp (Zd (xv 2) (xa1 (xv 3)))))))))) (Zi (Zea (Zdz 1)))))
theorem W3:Zu ["numbers","bottom","q"] ["numbers"] (Zk Zaq):=fsc
theorem Zgc{f:Nat->Addr}{fd:Nat->XC}{cls:Nat->Addr}(T:Txt K mg f fd cls):FnOk P w K mg base CX0 2 (f 17) (fd 17) ["numbers"] (spD K (sD Y6)):=by
 have G_greatest_divisor:=Zao (P:=P) (w:=w) (base:=base) T
 refine Yq T.e_shared_bottom.F W3 (S:=Zab) rfl rfl (λcdv A outer s H E hr=>?_)
 exact(xsq (xst 1 W3.nd xci) (xsq (xfr Qi rfl (xil (xv 0)) (xg 2 W3.nd) (Zi (xst 1 W3.nd (Zus (Zkj (xv 1) (xce G_greatest_divisor hr T.e_greatest_divisor (Zd (xv 1) (xa1 (xix (xv 2) xci))))) (xix (xv 2) xci))))) (Zi (xrt (xv 1)))))
theorem Jd:Zu ["table","bottom","row"] ["table"] (Zk Za4):=fsc
theorem Zg7{f:Nat->Addr}{fd:Nat->XC}{cls:Nat->Addr}(T:Txt K mg f fd cls):FnOk P w K mg base CX0 3 (f 18) (fd 18) ["table"] (spD K (sD Yj)):=by
 have G_shared_bottom:=Zgc (P:=P) (w:=w) (base:=base) T
 refine Yq T.e_table_bottom.F Jd (S:=Zav) rfl rfl (λcdv A outer s H E hr=>?_)
 exact(xsq (xst 1 Jd.nd xci) (xsq (xfr Qi rfl (xil (xv 0)) (xg 2 Jd.nd) (Zi (xst 1 Jd.nd (xce G_shared_bottom hr T.e_shared_bottom (xa1 (Zci (Jr Zc0 (Zkq (Wn rfl) J1 (xls (xa1 (xtp (Zd xci (xa1 (xv 1)))))) (xv 2))))))))) (Zi (xrt (xv 1)))))
theorem Zlo:Zu ["bottom","numbers"] ["bottom","numbers"] (Zk Zeb):=fsc
theorem Zks{f:Nat->Addr}{fd:Nat->XC}{cls:Nat->Addr}(T:Txt K mg f fd cls):FnOk P w K mg base CX0 1 (f 19) (fd 19) ["bottom","numbers"] (spD K (sD J5)):=by
 refine Yq T.e_tops_over.F Zlo (S:=Zb8) rfl rfl (λcdv A outer s H E hr=>?_)
 exact(Zi (xrt (Za6 (Zh1 ["q"] [0] ["q","bottom"] (xil (xv 1)) (λ_ _ _ _ _=>(xg 0 (by show Q6 (["q","bottom"]:List Str);decide +kernel))) (λ_ _ _ _ _=>(Jv Ju)) (λ_ _ _ _ _=>(Zus (xix (xv 0) xci) (Zkj (xv 1) (xix (xv 0) xci))))))))
theorem Zkd:Zu ["bottom","table"] ["bottom","table"] (Zk Zc5):=fsc
theorem Zkh{f:Nat->Addr}{fd:Nat->XC}{cls:Nat->Addr}(T:Txt K mg f fd cls):FnOk P w K mg base CX0 2 (f 20) (fd 20) ["bottom","table"] (spD K (sD Y9)):=by
 have G_tops_over:=Zks (P:=P) (w:=w) (base:=base) T
 refine Yq T.e_table_over.F Zkd (S:=Zbo) rfl rfl (λcdv A outer s H E hr=>?_)
 exact(Zi (xrt (Za6 (Zh1 ["row"] [0] ["row","bottom"] (xil (xv 1)) (λ_ _ _ _ _=>(xg 0 (by show Q6 (["row","bottom"]:List Str);decide +kernel))) (λ_ _ _ _ _=>(Jv Ju)) (λ_ _ _ _ _=>(xce G_tops_over hr T.e_tops_over (Zd (xv 1) (xa1 (xv 0)))))))))
theorem Wt:Zu ["rows","ring","a","b","x","p","y","q"] ["rows","ring","a","b"] (Zk Zbb):=fsc
theorem Zgr{f:Nat->Addr}{fd:Nat->XC}{cls:Nat->Addr}(T:Txt K mg f fd cls):FnOk P w K mg base CX0 1 (f 21) (fd 21) ["rows","ring","a","b"] (spD K (sD Ys)):=by
 refine Yq T.e_twice_weight.F Wt (S:=Zax) rfl rfl (λcdv A outer s H E hr=>?_)
 exact(xsq (xst 4 Wt.nd (xix (xv 1) (xv 2))) (xsq (xst 5 Wt.nd (xix (xv 1) (Zds (xv 2) xci))) (xsq (xst 6 Wt.nd (xix (xv 1) (xv 3))) (xsq (xst 7 Wt.nd (xix (xv 1) (Zfx (Zds (xv 3) xci) (xln T.z_len (xa1 (xv 0)))))) (Zi (xrt (Zpq (Zpq (Zds (xix (xix (xv 0) (xv 4)) (xv 6)) (xix (xix (xv 0) (xv 5)) (xv 7))) (xix (xix (xv 0) (xv 4)) (xv 7))) (xix (xix (xv 0) (xv 5)) (xv 6)))))))))
theorem Ws:Zu ["table","ring","bottom","rows","weighted","a","b","twice"] ["table","ring"] (Zk Zd0):=fsc
theorem Zen{f:Nat->Addr}{fd:Nat->XC}{cls:Nat->Addr}(T:Txt K mg f fd cls):FnOk P w K mg base CX0 4 (f 22) (fd 22) ["table","ring"] (spD K (sD Zz))∧FnOk P w K mg base (CX1 P w) 4 (f 22) (fd 22) ["table","ring"] (spX K (sX K Zz)):=by
 obtain⟨G_check_ring,GX_check_ring⟩:=Zh3 (P:=P) (w:=w) (base:=base) T
 obtain⟨G_fraction,GX_fraction⟩:=Zmb (P:=P) (w:=w) (base:=base) T
 have G_pairs_of:=Zna (P:=P) (w:=w) (base:=base) T
 have G_table_bottom:=Zg7 (P:=P) (w:=w) (base:=base) T
 have G_table_over:=Zkh (P:=P) (w:=w) (base:=base) T
 have G_twice_weight:=Zgr (P:=P) (w:=w) (base:=base) T
 refine Zt9 T.e_ring_told.F Ws (S:=Zce) rfl rfl (λCX cdv A outer s H E hr=>?_)
 have hu:=hr.units
 exact(Z3k (b_x (λq=>(Z6b (Zmu (Znd (J4 (Zb5 G_check_ring (hr.mono (by decide)) (by rfl) T.e_check_ring.m T.e_check_ring.F.kp T.e_check_ring.b Zge q)))))) (λq=>Zq7 (Zuk (xee GX_check_ring hr T.e_check_ring q))) (Zd (Zf0 Zr0 (Zl5 Zlj (Zcz rfl) (by rfl) T.z_len L2.B.boot_len (Zd (Z2 (mv 0)) (Wu Wv)))) (Zd (Z2 (mv 1)) (Wu Wv))))
   (Zvn (Zcb (W0 (Zew (Zev (i:=2) Ws.nd rfl (Qj rfl) (J4 (Zb5 G_table_bottom (hr.mono (by decide)) (by rfl) T.e_table_bottom.m T.e_table_bottom.F.kp T.e_table_bottom.b Zge (Zd (Z2 (mv 0)) (Wu Wv))))))
   (Zcb (W0 (Zew (Zev (i:=3) Ws.nd rfl (Qj rfl) (J4 (Zb5 G_table_over (hr.mono (by decide)) (by rfl) T.e_table_over.m T.e_table_over.F.kp T.e_table_over.b Zge (Zd (Z2 (mv 2)) (Zd (Z2 (mv 0)) (Wu Wv)))))))
   (Zcb (W0 (Zqr (Zsf (i:=4) Ws.nd rfl (Qj rfl) (Zxx (Z3e (Wu Wv)))))
   (Zcb (W0 (Zs8 (Ztr Qi rfl (Zrj (Zrg (J4 (Zb5 G_pairs_of (hr.mono (by decide)) (by rfl) T.e_pairs_of.m T.e_pairs_of.F.kp T.e_pairs_of.b Zge (Zd (Zf0 Zr0 (Zl5 Zlj (Zcz rfl) (by rfl) T.z_len L2.B.boot_len (Zd (Z2 (mv 0)) (Wu Wv)))) (Wu Wv)))))) (Zra (Zrl (n:=2) (by rfl) (Zdf (Zdl (Zg2 (Zg5 (i:=5) Ws.nd)) (Zdf (Zdl (Zg2 (Zg5 (i:=6) Ws.nd)) (Znt Zmp)))))))
   (Zcb (W0 (Zew (Zev (i:=7) Ws.nd rfl (Qj rfl) (J4 (Zb5 G_twice_weight (hr.mono (by decide)) (by rfl) T.e_twice_weight.m T.e_twice_weight.F.kp T.e_twice_weight.b Zge (Zd (Z2 (mv 3)) (Zd (Z2 (mv 1)) (Zd (Z2 (mv 5)) (Zd (Z2 (mv 6)) (Wu Wv)))))))))
   (Zcb (W0 (Zkp (Zl3 (Zda Z8p (Zcp Zzh Zib (Z2 (mv 7)) (Zf2 Zg1) (hm:=(Zaf _)))) (Zi (Zeo (Zef (Zkc (Zph (Zd (Zf2 Zlg) (Zd (Zkc (Zph (Zd (Z2 (mv 5)) (Zd (Z2 (mv 6)) (Wu Wv))))) (Wu Wv)))))))) (Zbf Zbc)))
   (Zi (Zkp (Zl3 (Zda Z9p (Zcp Z2k Zib (Z2 (mv 7)) (Zf2 Zg1) (hm:=(Zaf _)))) (Zi (Zql (Zpl 4 (Zkc (Zph (Zd (Zm2 Znb (Z53 Zkg (Zfe rfl) (by rfl) T.z_sorted L2.B.boot_sorted (Zd (Zba (Zbe (Z2 (mv 1)) (Z8 (Yb (Wx Zzr (Zkf Zr2 Zjn (Z2 (mv 5)) (Zf2 Zg1))))) (Z8 (Yb (Wx Zzr (Zkf Zr2 Zjn (Z2 (mv 6)) (Zf2 Zg1))))))) (Wu Wv)))) (Zd (J4 (Zb5 G_fraction (hr.mono (by decide)) (by rfl) T.e_fraction.m T.e_fraction.F.kp T.e_fraction.b Zge (Zd (Z2 (mv 7)) (Zd (Wx Z3f (Zkf Zts Zx7 (Zf2 Zg1) (Z2 (mv 2)))) (Wu Wv))))) (Wu Wv)))))))) (Zbf Zbc))))))))))
   (Zi (Zwo (Zvv 4 Zxi (.str _) Zxn hu (by rfl) T.z_sorted L2.B.boot_sorted)))))))))))))
theorem Wz:Zu ["table","ring","told","e","others"] ["table","ring"] (Zk Zb1):=fsc
theorem Zhw{f:Nat->Addr}{fd:Nat->XC}{cls:Nat->Addr}(T:Txt K mg f fd cls):FnOk P w K mg base CX0 5 (f 23) (fd 23) ["table","ring"] (spD K (sD Yc)):=by
 obtain⟨G_ring_told,GX_ring_told⟩:=Zen (P:=P) (w:=w) (base:=base) T
 refine Yq T.e_law_refused.F Wz (S:=Za0) rfl rfl (λcdv A outer s H E hr=>?_)
 have hu:=hr.units
 exact(xsq (xst 2 Wz.nd (Zf2 Z3y)) (xsq (Z2b T.ku_CutError (Z27 (i:=3) Wz.nd rfl rfl (by rfl) T.c_CutError.m T.r_CutError (Zi (Z6b (Zmu (Znd (xce G_ring_told hr T.e_ring_told (Zd (xv 0) (xa1 (xv 1)))))))) (Ybd (Zw5 (b_x (λq=>(Z6b (Zmu (Znd (xce G_ring_told hr T.e_ring_told q))))) (λq=>Zq7 (Zuk (xee GX_ring_told hr T.e_ring_told q))) (Zd (xv 0) (xa1 (xv 1)))))) (λ_=>(xsq (xst 4 Wz.nd (Zvf T.kxt_0 (Zzy (Ye (Za9 (v:=.ref (cls 1)) (by rfl) T.c_NoCut.m rfl) (Ye (Za9 (v:=.ref (cls 2)) (by rfl) T.c_NoName.m rfl) (Ye (Za9 (v:=.ref (cls 3)) (by rfl) T.c_NoNumber.m rfl) (Ye (Za9 (v:=.ref (cls 5)) (by rfl) T.c_NoPoint.m rfl) (Ye (Za9 (v:=.ref (cls 6)) (by rfl) T.c_NoRow.m rfl) (Ye (Za9 (v:=.ref (cls 7)) (by rfl) T.c_NoTable.m rfl) (Ye (Za9 (v:=.ref (cls 8)) (by rfl) T.c_NoText.m rfl) (Ye (Za9 (v:=.ref (cls 9)) (by rfl) T.c_NoWeb.m rfl) (Ye (Za9 (v:=.ref (cls 10)) (by rfl) T.c_TooMany.m rfl) J8))))))))) (λ_ _ _ h=>h) (.cons (.own _) (.cons (.own _) (.cons (.own _) (.cons (.own _) (.cons (.own _) (.cons (.own _) (.cons (.own _) (.cons (.own _) (.cons (.own _) .nil))))))))) (by show 9≤Xo;decide) (by rfl) T.z_isinstance L2.B.boot_isinstance (xv 3)))) (Zi (xst 2 Wz.nd (xtp (Zd (Zrt T.kx_ValueError (Zyq (Zqz (v:=.ty "ValueError") (by rfl) T.z_ValueError PyProof.Rows.Boot.«ValueError» rfl) (.ty _) (by rfl) T.z_isinstance L2.B.boot_isinstance (xv 3))) (Zd (Zrt T.kx_NoOrder (Zyq (Za9 (v:=.ref (cls 4)) (by rfl) T.c_NoOrder.m rfl) (.own _) (by rfl) T.z_isinstance L2.B.boot_isinstance (xv 3))) (xa1 (xv 4))))))))))) (Zi (xrt (Wx Z11 (Znm (Zig hu) Zp2 (xv 2) (xtp (Zd (Zf2 Ze7) (Zd (Zf2 Ze7) (xa1 (Zf2 Ze7))))) (hm:=(Zaf _))))))))
theorem Y0:Zu ["cell","many","found","digits","k","number"] ["cell","many"] (Zk Zby):=fsc
theorem Zhz{f:Nat->Addr}{fd:Nat->XC}{cls:Nat->Addr}(T:Txt K mg f fd cls):FnOk P w K mg base CX0 2 (f 24) (fd 24) ["cell","many"] (spD K (sD Wl)):=by
 have G_law_stir:=Zbs (P:=P) (w:=w) (base:=base) T
 refine Yq T.e_law_numbers.F Y0 (S:=Za3) rfl rfl (λcdv A outer s H E hr=>?_)
 exact(xsq (xso 2 Y0.nd (xls xa0)) (xsq (xst 3 Y0.nd (xv 0)) (xsq (xfr Qi rfl (Zfb (Wa (by rfl) T.z_range (xa1 (xv 1)))) (xg 4 Y0.nd) (xsq (xst 5 Y0.nd (xce G_law_stir hr T.e_law_stir (Zd (xv 0) (xa1 (xv 4))))) (xsq (xif (xge (xv 0) (Z6h xci xci)) (Zi (xst 5 Y0.nd (Zfx (xv 3) xci))) xnl) (xsq (xst 3 Y0.nd (Zkj (xv 3) xci)) (Zi (Zbi (Zbh 2 (xv 5)))))))) (Zi (Zea (Zdz 2))))))
theorem W4:Zu ["ring","at","wound"] ["ring"] (Zk Zan):=fsc
theorem Zgd{f:Nat->Addr}{fd:Nat->XC}{cls:Nat->Addr}(T:Txt K mg f fd cls):FnOk P w K mg base CX0 1 (f 25) (fd 25) ["ring"] (spD K (sD Ww)):=by
 refine Yq T.e_law_put_right.F W4 (S:=Zac) rfl rfl (λcdv A outer s H E hr=>?_)
 exact(xsq (xst 1 W4.nd (Zxa (Z1f (xv 0) xci))) (xsq (xst 2 W4.nd (Zci (Jr Zc0 (Zkq (Wn rfl) J1 (Zba (Zbe (xv 0) (Z8 (Yb (xv 1))) (Wc Wd))) (Zba (Zbe (xv 0) (Wc Wd) (Z8 (Yb (xv 1))))))))) (xsq (xif (MW.mt (Zyn (Zx5 (xgt (xln T.z_len (xa1 (xv 2))) xci) (Zqt (xgt (xix (xv 2) xci) (xix (xv 2) (J9 (Zdo xci)))))))) (Zi (xst 2 W4.nd (Zci (Jr Zc0 (Zkq (Wn rfl) J1 (Zba (Zbe (xv 2) (Wc Wd) (Z8 (Yb xci)))) (Zsn (Zx4 (xv 2) (Wc Wd) (Z8 (Yb xci)) (Z8 (Yb (J9 (Zdo xci))))))))))) xnl) (Zi (xrt (xv 2))))))
theorem Zal:Zu ["cell","n","numbers","left","ring","k"] ["cell","n"] (Zk Ze6):=fsc
theorem Znj{f:Nat->Addr}{fd:Nat->XC}{cls:Nat->Addr}(T:Txt K mg f fd cls):FnOk P w K mg base CX0 3 (f 26) (fd 26) ["cell","n"] (spD K (sD Je)):=by
 have G_law_numbers:=Zhz (P:=P) (w:=w) (base:=base) T
 have G_law_put_right:=Zgd (P:=P) (w:=w) (base:=base) T
 refine Yq T.e_law_ring.F Zal (S:=Zcm) rfl rfl (λcdv A outer s H E hr=>?_)
 exact(xsq (xst 2 Zal.nd (xce G_law_numbers hr T.e_law_numbers (Zd (xv 0) (xa1 (xv 1))))) (xsq (xso 3 Zal.nd (Zxj (Zk9 (by rfl) (by rfl) T.z_list L2.B.boot_list (by rfl) T.z_range L2.B.boot_range (xa1 (xv 1))))) (xsq (xso 4 Zal.nd (xls xa0)) (xsq (xfr Qi rfl (Zfb (Wa (by rfl) T.z_range (xa1 (xv 1)))) (xg 5 Zal.nd) (Zi (Zbi (Zbh 4 (Z45 (Z85 3 (Zfx (xix (xv 2) (xv 5)) (xln T.z_len (xa1 (xo 3)))))))))) (Zi (Zhf (Zhm 4 (xrt (xce G_law_put_right hr T.e_law_put_right (xa1 (xv 4)))))))))))
theorem Yi:Zu ["script","start","n","cell","base","found","k","number"] ["script","start","n","cell"] (Zk Jg):=fsc
theorem Zd2{f:Nat->Addr}{fd:Nat->XC}{cls:Nat->Addr}(T:Txt K mg f fd cls):FnOk P w K mg base CX0 2 (f 27) (fd 27) ["script","start","n","cell"] (spD K (sD Wf)):=by
 have G_law_stir:=Zbs (P:=P) (w:=w) (base:=base) T
 refine Yq T.e_law_ring_weights.F Yi (S:=Jf) rfl rfl (λcdv A outer s H E hr=>?_)
 exact(xsq (xst 4 Yi.nd (xix (xls (Zd xci (Zd xci (xa1 (Z6h xci xci))))) (Zfx (xv 3) xci))) (xsq (xso 5 Yi.nd (xls xa0)) (xsq (xfr Qi rfl (Zfb (Wa (by rfl) T.z_range (xa1 (Zkj (Zus (xv 2) (Zpq (xv 2) xci)) xci)))) (xg 6 Yi.nd) (xsq (xst 7 Yi.nd (xce G_law_stir hr T.e_law_stir (Zd (xv 3) (xa1 (Zds xci (xv 6)))))) (xsq (xif (xlt (Zds (xv 1) (xv 6)) (xln T.z_len (xa1 (xv 0)))) (Zi (xst 7 Yi.nd (xix (xv 0) (Zds (xv 1) (xv 6))))) xnl) (Zi (Zbi (Zbh 5 (Zfx (xv 7) (xv 4)))))))) (Zi (Zea (Zdz 5))))))
theorem Jt:Zu ["n","sides","weights","rows","side","weight","i","j"] ["n","sides","weights"] (Zk Zfl):=fsc
theorem Zmy{f:Nat->Addr}{fd:Nat->XC}{cls:Nat->Addr}(T:Txt K mg f fd cls):FnOk P w K mg base CX0 1 (f 28) (fd 28) ["n","sides","weights"] (spD K (sD Ji)):=by
 refine Yq T.e_law_rows.F Jt (S:=Zc6) rfl rfl (λcdv A outer s H E hr=>?_)
 have hu:=hr.units
 exact(xsq (Zi1 (Zbn (i:=3) (own:=["point"]) (caps:=[0]) (N':=["point","n"]) true Jt.nd rfl (Qj rfl) (by exact⟨rfl,by decide +kernel,rfl,by decide +kernel,rfl,rfl⟩) (by rfl) (by decide) (Zfb (Wa (by rfl) T.z_range (xa1 (xv 0)))) (λ_ _ _ _ _=>(xg 0 (by show Q6 (["point","n"]:List Str);decide +kernel))) (λ_ _ _ _ _=>(Jv Ju)) (λ_ _ _ _ _=>(Zsp (Z0p xci (xv 1)))))) (xsq (xfr Qi rfl (Znl (Zng (by rfl) T.z_zip L2.B.boot_zip (Zd (xv 1) (xa1 (xv 2))))) (xg2 rfl (xg 4 Jt.nd) (xg 5 Jt.nd)) (Zi (xfr Qi rfl (Zfb (Wa (by rfl) T.z_range (xa1 (xv 0)))) (xg 6 Jt.nd) (Zi (xfr Qi rfl (Zfb (Wa (by rfl) T.z_range (xa1 (xv 0)))) (xg 7 Jt.nd) (Zi (xif (xne hu (Wx Z5n (Znm (Zyh rfl) Z4i (xv 6) (xv 4) (hm:=(by with_unfolding_all rfl)))) (Wx Z5n (Znm (Zyh rfl) Z4i (xv 7) (xv 4) (hm:=(by with_unfolding_all rfl))))) (Zi (Zm0 (Znr 3 (Zds (xix (xix (xo 3) (xv 6)) (xv 7)) (xv 5)) (xv 6) (xv 7) (λ_ _=>rfl)))) xnl))))))) (Zi (Zea (Zdz 3)))))
theorem Zmm:Zu ["cell","least","most","great"] ["cell","least","most","great"] (Zk Zfu):=fsc
theorem Zne{f:Nat->Addr}{fd:Nat->XC}{cls:Nat->Addr}(T:Txt K mg f fd cls):FnOk P w K mg base CX0 1 (f 29) (fd 29) ["cell","least","most","great"] (spD K (sD Jh)):=by
 refine Yq T.e_law_size.F Zmm (S:=Zdc) rfl rfl (λcdv A outer s H E hr=>?_)
 have hu:=hr.units
 exact(xsq (xif (xeq hu (Zfx (Zkj (xv 0) xci) xci) xci) (Zi (xrt (Zds (Zds (xv 2) xci) (Zfx (Zkj (xv 0) xci) (Zpq (xv 3) (xv 2)))))) xnl) (Zi (xrt (Zds (xv 1) (Zfx (xv 0) (Zpq (Zds (xv 2) xci) (xv 1)))))))
theorem Zlc:Zu ["rows","bottom"] ["rows","bottom"] (Zk Zd7):=fsc
theorem Zma{f:Nat->Addr}{fd:Nat->XC}{cls:Nat->Addr}(T:Txt K mg f fd cls):FnOk P w K mg base CX0 2 (f 30) (fd 30) ["rows","bottom"] (spD K (sD J6)):=by
 have G_law_low:=Ziu (P:=P) (w:=w) (base:=base) T
 refine Yq T.e_law_table.F Zlc (S:=Zb9) rfl rfl (λcdv A outer s H E hr=>?_)
 exact(Zi (xrt (Za6 (Zh1 ["row"] [1] ["row","bottom"] (xil (xv 0)) (λ_ _ _ _ _=>(xg 0 (by show Q6 (["row","bottom"]:List Str);decide +kernel))) (λ_ _ _ _ _=>(Jv Ju)) (λ_ _ _ _ _=>(Za6 (Zh1 ["one"] [1] ["one","bottom"] (xil (xv 0)) (λ_ _ _ _ _=>(xg 0 (by show Q6 (["one","bottom"]:List Str);decide +kernel))) (λ_ _ _ _ _=>(Jv Ju)) (λ_ _ _ _ _=>(xce G_law_low hr T.e_law_low (Zd (xv 0) (xa1 (xv 1))))))))))))
theorem Ja:Zu ["rows","ring","a","b","x","p","y","q","straight"] ["rows","ring","a","b"] (Zk Zd9):=fsc
theorem Zlr{f:Nat->Addr}{fd:Nat->XC}{cls:Nat->Addr}(T:Txt K mg f fd cls):FnOk P w K mg base CX0 1 (f 31) (fd 31) ["rows","ring","a","b"] (spD K (sD W5)):=by
 refine Yq T.e_law_twice.F Ja (S:=Zb4) rfl rfl (λcdv A outer s H E hr=>?_)
 exact(xsq (xst 4 Ja.nd (xix (xv 1) (xv 2))) (xsq (xst 5 Ja.nd (xix (xv 1) (Zds (xv 2) xci))) (xsq (xst 6 Ja.nd (xix (xv 1) (xv 3))) (xsq (xst 7 Ja.nd (xix (Zci (Jr Zc0 (Zkq (Wn rfl) J1 (xv 1) (xv 1)))) (Zds (xv 3) xci))) (xsq (xst 8 Ja.nd (Zds (xix (xix (xv 0) (xv 4)) (xv 6)) (xix (xix (xv 0) (xv 5)) (xv 7)))) (Zi (xrt (Zpq (Zpq (xv 8) (xix (xix (xv 0) (xv 4)) (xv 7))) (xix (xix (xv 0) (xv 5)) (xv 6))))))))))
theorem Jq:Zu ["script","n","cell","bottom","ring","weights","number","rows","due","table","handed","found","side","weight","bad","small"] ["script"] (Zk Zz1):=fsc
theorem Z34{f:Nat->Addr}{fd:Nat->XC}{cls:Nat->Addr}(T:Txt K mg f fd cls):FnOk P w K mg base CX0 8 (f 32) (fd 32) ["script"] (spD K (sD Zfk)):=by
 have G_law_alike:=Zl7 (P:=P) (w:=w) (base:=base) T
 have G_law_bad_rings:=Zga (P:=P) (w:=w) (base:=base) T
 have G_law_cell_at:=Zh6 (P:=P) (w:=w) (base:=base) T
 have G_law_drawn:=Zlu (P:=P) (w:=w) (base:=base) T
 have G_law_due:=Zqk (P:=P) (w:=w) (base:=base) T
 have G_law_gaps:=Zd5 (P:=P) (w:=w) (base:=base) T
 have G_law_refused:=Zhw (P:=P) (w:=w) (base:=base) T
 have G_law_ring:=Znj (P:=P) (w:=w) (base:=base) T
 have G_law_ring_weights:=Zd2 (P:=P) (w:=w) (base:=base) T
 have G_law_rows:=Zmy (P:=P) (w:=w) (base:=base) T
 have G_law_sides:=Zf5 (P:=P) (w:=w) (base:=base) T
 have G_law_size:=Zne (P:=P) (w:=w) (base:=base) T
 have G_law_stir:=Zbs (P:=P) (w:=w) (base:=base) T
 have G_law_table:=Zma (P:=P) (w:=w) (base:=base) T
 have G_law_twice:=Zlr (P:=P) (w:=w) (base:=base) T
 obtain⟨G_ring_told,GX_ring_told⟩:=Zen (P:=P) (w:=w) (base:=base) T
 refine Yq T.e_law.F Jq (S:=Zio) rfl rfl (λcdv A outer s H E hr=>?_)
 have hu:=hr.units
 exact(xsq (Zew (Zev (i:=1) Jq.nd rfl (X8 rfl) (xce G_law_size hr T.e_law_size (Zd (xce G_law_cell_at hr T.e_law_cell_at (Zd (xv 0) (xa1 xci))) (Zd xci (Zd xci (xa1 xci))))))) (xsq (xst 2 Jq.nd (xce G_law_cell_at hr T.e_law_cell_at (Zd (xv 0) (xa1 xci)))) (xsq (xst 3 Jq.nd (xix (xls (Zd xci (Zd xci (Zd xci (xa1 (Zds (Z6h xci xci) xci)))))) (Zfx (Zkj (xv 2) xci) xci))) (xsq (Zew (Zev (i:=4) Jq.nd rfl (X8 rfl) (xce G_law_ring hr T.e_law_ring (Zd (xce G_law_cell_at hr T.e_law_cell_at (Zd (xv 0) (xa1 xci))) (xa1 (xv 1)))))) (xsq (xso 5 Jq.nd (xce G_law_ring_weights hr T.e_law_ring_weights (Zd (xv 0) (Zd xci (Zd (xv 1) (xa1 (xv 2))))))) (xsq (xst 6 Jq.nd (xce G_law_cell_at hr T.e_law_cell_at (Zd (xv 0) (xa1 xci)))) (xsq (xif (xgt (Zfx (xv 6) xci) xci) (xsq (Zi1 (Zbn (i:=5) (own:=["weight"]) (caps:=[]) (N':=["weight"]) true Jq.nd rfl (Qj rfl) (by exact⟨rfl,by decide +kernel,rfl,by decide +kernel,rfl,rfl⟩) (by rfl) (by decide) (xil (xo 5)) (λ_ _ _ _ _=>(Zv9 (Zuy (i:=0) (by show Q6 (["weight"]:List Str);decide +kernel)))) (λ_ _ _ _ _=>(Jv Ju)) (λ_ _ _ _ _=>(Zds (xv 0) xci)))) (xsq (Zxf (Zyj 5 (Zpq (J9 (Zdo xci)) (Zfx (Zkj (xv 6) xci) xci)) (Zfx (Zkj (xv 6) xci) (xln T.z_len (xa1 (xo 5)))))) (Zi (xif (MW.mt (Zyn (Zx5 (xeq hu (Zfx (xv 6) xci) xci) (Zqt (xgt (xv 1) xci))))) (Zi (Zxf (Zyj 5 (Zpq (J9 (Zdo xci)) (Zfx (Zkj (xv 6) xci) xci)) (Zfx (Zkj (xv 6) xci) (xln T.z_len (xa1 (xo 5))))))) xnl)))) xnl) (xsq (Zhf (Zhm 5 (Zew (Zev (i:=7) Jq.nd rfl (X8 rfl) (xce G_law_rows hr T.e_law_rows (Zd (xv 1) (Zd (xce G_law_sides hr T.e_law_sides (xa1 (xv 4))) (xa1 (xv 5))))))))) (xsq (xst 8 Jq.nd (xce G_law_due hr T.e_law_due (Zd (xv 4) (Zd (xv 5) (xa1 (xv 3)))))) (xsq (xif (xeq hu (Zfx (xv 6) xci) xci) (xsq (Zew (Zev (i:=7) Jq.nd rfl (X8 rfl) (xce G_law_drawn hr T.e_law_drawn (Zd (xv 0) (Zd xci (Zd (xv 1) (Zd (xix (xls (Zd xci (Zd xci (Zd xci (xa1 (Z6h xci xci)))))) (Zfx (Zkj (xv 2) xci) xci)) (xa1 (xv 2))))))))) (Zi (xst 8 Jq.nd (xce G_law_due hr T.e_law_due (Zd (xv 4) (Zd (Za6 (Zh1 ["a","b"] [7,4] ["a","b","rows","ring"] (xil (xce G_law_gaps hr T.e_law_gaps (xa1 (xv 1)))) (λ_ _ _ _ _=>(xg2 rfl (xg 0 (by show Q6 (["a","b","rows","ring"]:List Str);decide +kernel)) (xg 1 (by show Q6 (["a","b","rows","ring"]:List Str);decide +kernel)))) (λ_ _ _ _ _=>(Jv Ju)) (λ_ _ _ _ _=>(xce G_law_twice hr T.e_law_twice (Zd (xv 2) (Zd (xv 3) (Zd (xv 0) (xa1 (xv 1))))))))) (xa1 (Zus xci (xv 3))))))))) xnl) (xsq (xst 9 Jq.nd (xce G_law_table hr T.e_law_table (Zd (xv 7) (xa1 (xv 3))))) (xsq (xst 10 Jq.nd (xls (Zd (Za6 (Zh1 ["row"] [] ["row"] (xil (xv 9)) (λ_ _ _ _ _=>(xg 0 (by show Q6 (["row"]:List Str);decide +kernel))) (λ_ _ _ _ _=>(Jv Ju)) (λ_ _ _ _ _=>(Zm2 Zte (Z78 Znq (Ze4 rfl) (by rfl) T.z_list L2.B.boot_list (xa1 (xv 0))))))) (xa1 (Zm2 Zte (Z78 Znq (Ze4 rfl) (by rfl) T.z_list L2.B.boot_list (xa1 (xv 4)))))))) (xsq (Z6b (xso 11 Jq.nd (xce G_ring_told hr T.e_ring_told (Zd (xix (xv 10) xci) (xa1 (xix (xv 10) xci)))))) (xsq (xif (MW.mt (Zr4 (Ztn (xno (Zco (Zcr (xce G_law_alike hr T.e_law_alike (Zd (xo 11) (xa1 (xv 8)))) (λ_=>rfl)))) (Zo8 (xne hu (xv 10) (xls (Zd (xv 9) (xa1 (xv 4))))))))) (Zi (xrt (Zf2 Ze7))) xnl) (xsq (xif (xeq hu (xix (xo 11) xci) (Zf2 Zlg)) (xsq (Zvk (Zvx 11 12 13 1 Zoj (.int _) rfl Jq.nd rfl rfl rfl (by decide) (Qj rfl) (Qj rfl))) (xsq (Zv8 (Zvi 11 1 xci)) (Zi (xif (xno (Zco (Zcr (xce G_law_alike hr T.e_law_alike (Zd (xce G_ring_told hr T.e_ring_told (Zd (xv 9) (xa1 (xv 4)))) (xa1 (xv 8)))) (λ_=>rfl)))) (Zi (xrt (Zf2 Ze7))) xnl)))) xnl) (xsq (xif (xno (Zco (Zcr (xce G_law_alike hr T.e_law_alike (Zd (xce G_ring_told hr T.e_ring_told (Zd (Za6 (Zh1 ["point"] [1] ["point","n"] (Zfb (Wa (by rfl) T.z_range (xa1 (xv 1)))) (λ_ _ _ _ _=>(xg 0 (by show Q6 (["point","n"]:List Str);decide +kernel))) (λ_ _ _ _ _=>(Jv Ju)) (λ_ _ _ _ _=>(Zsp (Z0p (xtp (Zd xci (xa1 xci))) (xv 1)))))) (xa1 (xv 4)))) (xa1 (Zkc (Zph (Zd (Zf2 Zlg) (xa1 (xls xa0)))))))) (λ_=>rfl)))) (Zi (xrt (Zf2 Ze7))) xnl) (xsq (xfr Qi rfl (xil (xce G_law_bad_rings hr T.e_law_bad_rings (Zd (xv 4) (xa1 (xce G_law_stir hr T.e_law_stir (Zd (xv 6) (xa1 xci))))))) (xg 14 Jq.nd) (Zi (xif (xno (Zco (Zcr (xce G_law_refused hr T.e_law_refused (Zd (xv 9) (xa1 (xv 14)))) (λ_=>rfl)))) (Zi (xrt (Zf2 Ze7))) xnl))) (xsq (Zqy (Zbn (i:=15) (own:=["row"]) (caps:=[]) (N':=["row"]) false Jq.nd rfl (Qj rfl) (by exact⟨rfl,by decide +kernel,rfl,by decide +kernel,rfl,rfl⟩) (by rfl) (by decide) (xil (Zba (Zbe (xv 9) (Wc Wd) (Z8 (Yb xci))))) (λ_ _ _ _ _=>(xg 0 (by show Q6 (["row"]:List Str);decide +kernel))) (λ_ _ _ _ _=>(Jv Ju)) (λ_ _ _ _ _=>(Zba (Zbe (xv 0) (Wc Wd) (Z8 (Yb xci))))))) (Zi (xrt (Zdx (Zn0 (xce G_law_refused hr T.e_law_refused (Zd (xv 15) (xa1 (xls (Zd xci (xa1 xci)))))) (Zdx (Zn0 (xce G_law_refused hr T.e_law_refused (Zd (xv 15) (xa1 (xls (xa1 xci))))) (Zr9 (xce G_law_refused hr T.e_law_refused (Zd (xls (xa1 (xls (xa1 (xtp (Zd xci (xa1 xci))))))) (xa1 (xls (xa1 xci))))))))))))))))))))))))))))))
theorem Zzc{f:Nat->Addr}{fd:Nat->XC}{cls:Nat->Addr}(T:Txt K mg f fd cls):FnOk P w K mg base CX0 8 (f 32) (fd 32) ["script"] (spD K Z3j):=(Z34 T).imp λvs H Q E q=>by
 obtain⟨L,ds,k,h1,⟨ns,e,hl,hk⟩,h3⟩:=q
 exact⟨L,ds,k,h1,⟨_,by rw[e];exact Zu8 ns hl,hk⟩,h3⟩
end
theorem Z26{l:PySem.W.OpenLaw}{w:Qu}{K:Xb}{h:Heap}{mg:Str->Option Xe}{fa:Addr}(X:K.In h)(G:h.Ns XJ mg)(hfa:mg "law"=some (.ref fa))
  (q1:Ei K "_law_alike" Zd8 f1 d1)
  (q2:Ei K "_law_bad_rings" Zar f2 d2)
  (q3:Ei K "_law_cell_at" Zb2 f3 d3)
  (q4:Ei K "_law_stir" Zfq f4 d4)
  (q5:Ei K "_law_drawn" Zdy f5 d5)
  (q6:Ei K "_law_gaps" Zfm f6 d6)
  (q7:Ei K "_law_sides" Zed f7 d7)
  (q8:Ei K "_law_low" Zhn f8 d8)
  (q9:Ei K "_law_weighted" Za7 f9 d9)
  (q10:Ei K "_law_due" Zhb f10 d10)
  (q11:Ei K "is_whole" Zfz f11 d11)
  (q12:Ei K "is_ring" Zgx f12 d12)
  (q13:Ei K "check_ring" Zc8 f13 d13)
  (q14:Ei K "greatest_divisor" Jc f14 d14)
  (q15:Ei K "in_least" Zft f15 d15)
  (q16:Ei K "fraction" Zfs f16 d16)
  (q17:Ei K "pairs_of" Zfh f17 d17)
  (q18:Ei K "shared_bottom" Zaq f18 d18)
  (q19:Ei K "table_bottom" Za4 f19 d19)
  (q20:Ei K "tops_over" Zeb f20 d20)
  (q21:Ei K "table_over" Zc5 f21 d21)
  (q22:Ei K "twice_weight" Zbb f22 d22)
  (q23:Ei K "ring_told" Zd0 f23 d23)
  (q24:Ei K "_law_refused" Zb1 f24 d24)
  (q25:Ei K "_law_numbers" Zby f25 d25)
  (q26:Ei K "_law_put_right" Zan f26 d26)
  (q27:Ei K "_law_ring" Ze6 f27 d27)
  (q28:Ei K "_law_ring_weights" Jg f28 d28)
  (q29:Ei K "_law_rows" Zfl f29 d29)
  (q30:Ei K "_law_size" Zfu f30 d30)
  (q31:Ei K "_law_table" Zd7 f31 d31)
  (q32:Ei K "_law_twice" Zd9 f32 d32)
  (q33:Ei K "law" Zz1 f33 d33)
  (z0:Ql K XJ "ValueError"=some none)
  (z1:Ql K XJ "abs"=some none)
  (z2:Ql K XJ "bool"=some none)
  (z3:Ql K XJ "int"=some none)
  (z4:Ql K XJ "isinstance"=some none)
  (z5:Ql K XJ "len"=some none)
  (z6:Ql K XJ "list"=some none)
  (z7:Ql K XJ "range"=some none)
  (z8:Ql K XJ "sorted"=some none)
  (z9:Ql K XJ "str"=some none)
  (z10:Ql K XJ "tuple"=some none)
  (z11:Ql K XJ "zip"=some none)
  (cc_CutError:Ql K XJ "CutError"=some (some (.ref C_CutError)))
  (cc_NoCut:Ql K XJ "NoCut"=some (some (.ref C_NoCut)))
  (cc_NoName:Ql K XJ "NoName"=some (some (.ref C_NoName)))
  (cc_NoNumber:Ql K XJ "NoNumber"=some (some (.ref C_NoNumber)))
  (cc_NoOrder:Ql K XJ "NoOrder"=some (some (.ref C_NoOrder)))
  (cc_NoPoint:Ql K XJ "NoPoint"=some (some (.ref C_NoPoint)))
  (cc_NoRow:Ql K XJ "NoRow"=some (some (.ref C_NoRow)))
  (cc_NoTable:Ql K XJ "NoTable"=some (some (.ref C_NoTable)))
  (cc_NoText:Ql K XJ "NoText"=some (some (.ref C_NoText)))
  (cc_NoWeb:Ql K XJ "NoWeb"=some (some (.ref C_NoWeb)))
  (cc_TooMany:Ql K XJ "TooMany"=some (some (.ref C_TooMany)))
  (x_NoNumber:Zbz K C_NoNumber)
  (x_NoOrder:Zbz K C_NoOrder)
  (r_CutError:Zi6 K C_CutError)
  (r_NoNumber:Zi6 K C_NoNumber)
  (r_NoOrder:Zi6 K C_NoOrder)
  (u_NoNumber_CutError:Bj K (.ref C_NoNumber) (.ref C_CutError)=some true)
  (kt_NoNumber_NoOrder:Qm K (.ref C_NoNumber) (.ref C_NoOrder)=some false)
  (kt_NoNumber_ValueError:Qm K (.ref C_NoNumber) (.type "ValueError")=some true)
  (ka_NoNumber_0:Bx K (.ref C_NoNumber) [.ref C_NoCut,.ref C_NoName,.ref C_NoNumber,.ref C_NoPoint,.ref C_NoRow,.ref C_NoTable,.ref C_NoText,.ref C_NoWeb,.ref C_TooMany]=some true)
  (u_NoOrder_CutError:Bj K (.ref C_NoOrder) (.ref C_CutError)=some true)
  (kt_NoOrder_NoOrder:Qm K (.ref C_NoOrder) (.ref C_NoOrder)=some true)
  (kt_NoOrder_ValueError:Qm K (.ref C_NoOrder) (.type "ValueError")=some true)
  (ka_NoOrder_0:Bx K (.ref C_NoOrder) [.ref C_NoCut,.ref C_NoName,.ref C_NoNumber,.ref C_NoPoint,.ref C_NoRow,.ref C_NoTable,.ref C_NoText,.ref C_NoWeb,.ref C_TooMany]=some false)
  :∃fd:XC,(∀(s:Xf) (v:Xe),BindsTo s fd ⟨[v],[]⟩ [("script",v)])∧∀base:Heap,K.In base->base.Ns XJ mg->FnOk l.prog w K mg base CX0 8 fa fd ["script"] (spD K Z3j):=by
 have e:=hfa.symm.trans (PySem.W.mg_of X G q33.a)
 cases e
 have T:Txt K mg (λk=>[f1,f2,f3,f4,f5,f6,f7,f8,f9,f10,f11,f12,f13,f14,f15,f16,f17,f18,f19,f20,f21,f22,f23,f24,f25,f26,f27,f28,f29,f30,f31,f32,f33].getD k 0) (λk=>[d1,d2,d3,d4,d5,d6,d7,d8,d9,d10,d11,d12,d13,d14,d15,d16,d17,d18,d19,d20,d21,d22,d23,d24,d25,d26,d27,d28,d29,d30,d31,d32,d33].getD k d33) (λk=>[C_CutError,C_NoCut,C_NoName,C_NoNumber,C_NoOrder,C_NoPoint,C_NoRow,C_NoTable,C_NoText,C_NoWeb,C_TooMany].getD k 0):=⟨en2 X G q1,en2 X G q2,en2 X G q3,en2 X G q4,en5 X G q5,en1 X G q6,en1 X G q7,en2 X G q8,en3 X G q9,en3 X G q10,en1 X G q11,en2 X G q12,en2 X G q13,en2 X G q14,en2 X G q15,en2 X G q16,en1 X G q17,en1 X G q18,en1 X G q19,en2 X G q20,en2 X G q21,en4 X G q22,en2 X G q23,en2 X G q24,en2 X G q25,en1 X G q26,en2 X G q27,en4 X G q28,en3 X G q29,en4 X G q30,en2 X G q31,en4 X G q32,en1 X G q33,QJ X G z0,QJ X G z1,QJ X G z2,QJ X G z3,QJ X G z4,QJ X G z5,QJ X G z6,QJ X G z7,QJ X G z8,QJ X G z9,QJ X G z10,QJ X G z11,ec X G cc_CutError,ec X G cc_NoCut,ec X G cc_NoName,ec X G cc_NoNumber,ec X G cc_NoOrder,ec X G cc_NoPoint,ec X G cc_NoRow,ec X G cc_NoTable,ec X G cc_NoText,ec X G cc_NoWeb,ec X G cc_TooMany,x_NoNumber,x_NoOrder,r_CutError,r_NoNumber,r_NoOrder,u_NoNumber_CutError,kt_NoNumber_NoOrder,kt_NoNumber_ValueError,ka_NoNumber_0,u_NoOrder_CutError,kt_NoOrder_NoOrder,kt_NoOrder_ValueError,ka_NoOrder_0⟩
 refine⟨d33,λs v=>?_,λbase _ _=>Zzc (P:=l.prog) (w:=w) (base:=base) T⟩
 obtain⟨_,_,_,_,_,_,_,_,_,rfl,_,_⟩:=q33.F.ex
 exact .of_eq rfl
theorem walk{l:PySem.W.OpenLaw}{q:X6}{loose:List Str}{XP:(Str->Option Xe)->Heap->Prop}{YP:Qu->Heap->Prop}{d:DefRec}{K:Params->Xb}(hn:l.most=some 63)(hdf:d.params.defaults=[])
  (hY:∀(w:Qu) (h:Heap),YP w h->(K w.params).In h)
  (F:∀(w:Qu) (mg:Str->Option Xe) (fa:Addr) (h:Heap),(K w.params).In h->h.Ns XJ mg->mg d.name=some (.ref fa) ->
   ∃fd:XC,(∀(s:Xf) (u:Xe),BindsTo s fd ⟨[u],[]⟩ [("script",u)])∧∀base:Heap,(K w.params).In base->base.Ns XJ mg->FnOk l.prog w (K w.params) mg base CX0 8 fa fd ["script"] (spD (K w.params) Z3j)) :
  PySem.W.WalkO q loose XP YP l.row.toRowW d [] (λf vs=>PySem.call f vs) :=
 L2.Z1c (n:=63) (k:=8) (x :="script") (CX:=λ_=>CX0) (sp:=λw=>spD (K w.params) Z3j) hn (by decide) hdf ⟨rfl,by decide,by decide⟩ hY F (λ_ _ a ns hl _ hS=>Z46 hl hS) λ_ _ _ _ _ z=>z
end My
open PySem PySem.W PyProof.Rows
theorem PySem.W.Fast.tw13256468158110181167:True:=trivial
theorem PySem.W.Fast.tw12799281375233302317:True:=trivial
theorem PySem.W.Fast.tw14395633653356973317:True:=trivial
theorem PySem.W.Fast.tw14527055819030199193:True:=trivial
theorem PySem.W.Fast.tw16201545685855771411:True:=trivial
theorem PySem.W.Fast.tw11950275391753763092:True:=trivial
theorem PySem.W.Fast.tw17919366175211425152:True:=trivial
theorem PySem.W.Fast.tw10587047257432752952:True:=trivial
theorem PySem.W.Fast.tw7378786427706360165:True:=trivial
theorem PySem.W.Fast.tw2426687134221404275:True:=trivial
theorem PySem.W.Fast.tw592031709546820450:True:=trivial
theorem PySem.W.Fast.tw8442370140891525754:True:=trivial
theorem PySem.W.Fast.tw15571203561550764867:True:=trivial
theorem PySem.W.Fast.tw7467917533631847262:True:=trivial
theorem PySem.W.Fast.tw9871114110804891279:True:=trivial
theorem PySem.W.Fast.tw4257580093758144537:True:=trivial
theorem PySem.W.Fast.tw8177946967270762017:True:=trivial
theorem PySem.W.Fast.tw17300955452491795007:True:=trivial
theorem PySem.W.Fast.tw8622989913660521278:True:=trivial
theorem PySem.W.Fast.tw9605299762343594352:True:=trivial
theorem PySem.W.Fast.tw13411640867496575613:True:=trivial
theorem PySem.W.Fast.tw1464173861084971795:True:=trivial
theorem PySem.W.Fast.tw9080363437249855089:True:=trivial
theorem PySem.W.Fast.tw17170823955906581558:True:=trivial
theorem PySem.W.Fast.tw4289964203720431849:True:=trivial
theorem PySem.W.Fast.tw2602093181748001263:True:=trivial
theorem PySem.W.Fast.tw13291274077145302122:True:=trivial
theorem PySem.W.Fast.tw15148154542826920772:True:=trivial
theorem PySem.W.Fast.tw8464411689184312339:True:=trivial
theorem PySem.W.Fast.tw11794291045531861722:True:=trivial
theorem PySem.W.Fast.tw13900547125037534049:True:=trivial
theorem PySem.W.Fast.tw17126477655048774369:True:=trivial
theorem PySem.W.Fast.tw14487421132636477452:True:=trivial
theorem PySem.W.Fast.tw17269117886101996825:True:=trivial
theorem PySem.W.Fast.tw6754489400522748264:True:=trivial
theorem PySem.W.Fast.tw6955374063742965243:True:=trivial
theorem PySem.W.Fast.tw2368168822680429194:True:=trivial
theorem PySem.W.Fast.tw15757272918801703553:True:=trivial
theorem PySem.W.Fast.tw13931157972454268710:True:=trivial
theorem PySem.W.Fast.tw13568016754528259001:True:=trivial
set_option maxRecDepth 100000 in
set_option maxHeartbeats 0 in
theorem PySem.Challenge.cw_farcuts_k28_rings_told_holds : PySem.Challenge.rw_farcuts_k28_rings_told.Holds := by
 w_on;o_law;k_head;(case hw=>w_witness2)
 k_fill
 refine My.walk (l:=PySem.Challenge.rw_farcuts_k28_rings_told) rfl rfl (λw h Y=>PySem.W.kIn_of Y) ?F
 case F=>
  intro w mg fa h KX G hmg
  refine' My.Z26 KX G hmg ?_ ?_ ?_ ?_ ?_ ?_ ?_ ?_ ?_ ?_ ?_ ?_ ?_ ?_ ?_ ?_ ?_ ?_ ?_ ?_ ?_ ?_ ?_ ?_ ?_ ?_ ?_ ?_ ?_ ?_ ?_ ?_ ?_ ?_ ?_ ?_ ?_ ?_ ?_ ?_ ?_ ?_ ?_ ?_ ?_ ?_ ?_ ?_ ?_ ?_ ?_ ?_ ?_ ?_ ?_ ?_ ?_ ?_ ?_ ?_ ?_ ?_ ?_ ?_ ?_ ?_ ?_ ?_ ?_
  all_goals try (first|(refine' ⟨?a,L2.Z5k ?l ?c ?k⟩;(case a=>k_is);(case l=>k_is);(case c=>k_is);(case k=>k_is))|k_is|kit_is|(show PySem.W.excIn _ _ _ _=true;k_exc)|(refine' ⟨?_,?_,?_,?_,?_,?_,?_,?_,?_,?_,?_⟩<;>first|k_is|kit_is|(show PySem.W.isClsIn _ _=true;k_is)))
#print axioms PySem.Challenge.cw_farcuts_k28_rings_told_holds
