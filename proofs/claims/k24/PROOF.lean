import PyProof.Rows.All
import Wide.All
import OpenK.AllK
import Wide.FinOn
import PyProof.EqAt
import PyProof.EqKinds
import PyProof.TupleCall
import PyProof.P3In
import PyProof.ZipIter
import PyProof.ListRange
import PyProof.SetRoads
import PyProof.Rows.SetFrom
import PyProof.Rows.SeqMore2
import KE.RegKIsAll
import PyProof.StrWalks
import PyProof.EnumMake
import PyProof.Conv_int
import PyProof.Conv_int_bool
import PyProof.StrBlockI
import PyProof.Draws
import PySem.Challenge.RW_farcuts_k24_whole_trees_by_fours
set_option Elab.async false
set_option linter.all false
set_option maxRecDepth 100000
set_option genSizeOfSpec false
set_option genInjectivity false
/-! THE HAND LAYER, for ints, bools, texts, own classes, LISTS and tuples (index, slices, in, append, pop ..), calls, loops. Paste it whole ahead of your own text; what your proof does not reach may be deleted. -/
open Array renaming getElem?_toList->Vx,length_toList->V0
open Bool renaming false_ne_true->XC,and_eq_true->XN,false_eq_true->BJ,eq_false_iff->Vu,and_true->VL
open False renaming elim->Ve
open ForInStep renaming yield->Q9
open Int renaming toNat_natCast->QH,gcd->JH,zero_add->Bc,le_trans->Be,mul_nonpos_of_nonneg_of_nonpos->Bk,toNat_of_nonneg->Bv,mul_le_mul_of_nonneg_left->Bx,mul_add->By,gcd_eq_natAbs_gcd_natAbs->BW,mul_le_mul_of_nonneg_right->VH,min_eq_right->VJ,min_eq_left->V3,natAbs_natCast->Uj,natAbs_ediv_le_natAbs->Uu,mul_pos->Uz
open List renaming length_map->Xc,getD_eq_getElem?_getD->Xe,getElem?_eq_getElem->Xi,range->Xj,mem_range->Xm,getElem?_map->Xn,mem_cons->Xp,mem_singleton->Xq,getElem?_eq_some_iff->Xu,replicate->Xv,size_toArray->Xx,length_range->Xz,map_congr_left->XH,map_map->XJ,mem_map->XQ,length_append->XX,map_cons->Qe,map_append->Qh,mem_of_getElem?->Qi,mem_append_right->Qm,nodup_cons->Qp,mem_append->Qt,getElem?_eq_none_iff->Qu,getElem?_set_ne->Qv,exists_of_findSome?_eq_some->QB,Nodup->QC,lookup_cons->QG,getElem?_set_self->QJ,append_nil->QL,getElem_mem->QQ,mem_filter->QR,getElem?_range->QV,getElem?_eq_none->QZ,all_eq_true->Q5,getElem?_append_right->JF,replicate_succ->JG,eq_nil_of_length_eq_zero->JT,append_assoc->JV,filterMap_cons->Ba,length_drop->Bf,length_cons->Bg,length_replicate->Bh,length_set->Bo,getElem?_of_mem->Bp,getElem?_replicate->Bu,nodup_append->Va,mem_append_left->Vf,findSome?_eq_none_iff->Vg,getElem_of_mem->Vl,eq_of_mem_replicate->Vm,of_mem_zip->Vp,toArray->Vs,flatten_cons->Vt,length_singleton->Vy,length_filter_le->Vz,not_mem_nil->VB,mem_reverse->VD,mem_cons_of_mem->VN,length_zip->VR,flatMap_append->V2,mem_cons_self->V8,map_replicate->V9,forIn_nil->Ua,getElem?_zip_eq_some->Um,getElem?_append_left->Uo,getElem?_nil->Ut,set_eq_of_length_le->Ux,all_cons->Uy,take_length->UV,pairwise_singleton->UW,mem_flatMap->U0,length_take->U3,filter_cons_of_pos->U4,filter_cons_of_neg->U5
open Nat renaming ne_of_lt->Xy,ne_of_gt->XR,le_refl->Qa,lt_of_lt_of_le->Qc,le_trans->Ql,zero_le->Q7,lt_or_gt_of_ne->BP,not_lt_zero->BV,lt_succ_self->Vk,lt_irrefl->VM,pow_le_pow_right->VP,lt_trans->V7,succ_le_succ->U7,le_add_right->U8
open Ne renaming symm->BR
open Option renaming bind_some->Xf,some->JR,map_eq_some_iff->JZ,getD_some->Uw
open Option.some renaming inj->Qz
open Or renaming inr->Qj,inl->Qq
open PyProof.Rows renaming seqObj->JK,callWith_type1->JS,IntsAre->Bs,slot_tupleiter_next->Uk,IsTup->UT
open PySem renaming PyData->Xa,Value->Xd,Shared->Xg,wpAny_bind->Xh,starEach->Xo,sizeLine->Xr,FuncData->XD,bootBuiltins->X3,wpAny->X4,mainGlobals->X6,wpAny_pure->X7,Program->X8,model->Qd,sizeLine_eq->Qg,Around->Qo,World->Qs,wpAny_loadPart'->QS,backTo->QW,assignEach->Q3,compareOp->JB,mem_of_lookup->JD,foldedSetIterable->JL,cellsFrom->JM,sliceBounds->JW,NameKind->JX,IsPair->Bj,wpAny_field->Bl,pushCells->Bm,wpAny_mono->Bw,wpAny_seqItems->BK,binaryOp->BL,wpAny_setField_rec->BX,wpAny_Call_Name_kw->BZ,wpAny_passesOwn->Vc,wpAny_truthy_bool->Vi,wpAny_call_entry->Vn,swapsWith->Vo,wpAny_callSpecial?_slot->Vv,Scope->Vw,wpAny_loadPart_at->VF,Keyword->VG,assign->V1,wpAny_holding->V4,behindInMarks->V5,attributeBase->V6,pushCells_keeps->Uc,letOwnedTupleGo->Ud,codeAny_builtin->Ue,IsZip->UL,wpAny_newObj_type->U9
open PySem.Builtin.Int renaming intBits->Q6,intTooBig->Uv
open PySem.Builtin.List renaming listTooLong->Vb
open PySem.Builtin.SmallTypes renaming nextOf->QD,ownedTupleIsFree->JP,ownedTupleHandOut->Ub
open PySem.F renaming args_tuple_add_2->Uh,plainAttrs_list->Ur,entry_tuple_add->Us,slot_tuple_add->UJ
open PySem.Heap renaming get?_push_of_some->Xl,lt_size->XF,get?_push_size->X5,size_push->Q0,SameBut->Vj
open PySem.NameKind renaming free->QF,cell->JN
open PySem.Obj renaming mapSeq->Q4
open PySem.PassesOwn renaming never->XM
open PySem.PyData renaming int->Xk,list->Qk,eqv->QM,canLayAll0->Q8,canLay0->JQ,strOk->Vq,none->Ui,eqvAll->Ul
open PySem.SeqAt renaming EqAt->JC,canLay_of_shaped->Vr,shaped->U6
open PySem.Value renaming ref->Qw,none->QT,builtin->Uq,int->UG
open PySem.W renaming Frag->Xb,mg_none_of->Qn,nsIn->Qy,kia_one->QK,Looks->QX,keepIn->Bb,kitOne->Bq,findIn->Br,fnOf->Vd
open Rat renaming divInt->Xw,divInt_eq_div->Qx,div_def->Vh,div_mul_cancel->Ug
namespace L2
open PySem PySem.Spec PyProof.Rows
noncomputable abbrev Key:=Sum Int Str
noncomputable def Z4q:Key->Xd->Bool
 | .inl k,v=>Xd.isInt k v
 | .inr x,v=>Xd.isStrOf x v
noncomputable def Ydo(w:Qs):Key->Int
 | .inl k=>hashInt k
 | .inr x=>hashStr w x
theorem Y8:∀{k:Key} {v:Xd},Z4q k v=true->(∃i t,k=Sum.inl i∧v=UG i t)∨(∃x t,k=Sum.inr x∧v=Value.str x t)
 | .inl i,v,h=>by
  obtain⟨t,e⟩:=Value.isInt_shape (k:=i) (v:=v) h
  exact .inl ⟨i,t,rfl,e⟩
 | .inr x,v,h=>by
  obtain⟨t,e⟩:=Xd.isStrOf_shape (x:=x) (v:=v) h
  exact .inr ⟨x,t,rfl,e⟩
theorem Z47(a b:Int):decide ((Sum.inl a:Key)=Sum.inl b)=(a==b):=by
 by_cases e:a=b
 ·subst e;simp
 ·have h:¬(Sum.inl a:Key)=Sum.inl b:=λq=>e (Sum.inl.inj q)
  rw[decide_eq_false h]
  exact(beq_eq_false_iff_ne.mpr e).symm
theorem Z5h(a b:Str):decide ((Sum.inr a:Key)=Sum.inr b)=decide (a=b):=by
 by_cases e:a=b
 ·subst e;simp
 ·have h:¬(Sum.inr a:Key)=Sum.inr b:=λq=>e (Sum.inr.inj q)
  rw[decide_eq_false h,decide_eq_false e]
theorem Z6d(a:Int)(b:Str):decide ((Sum.inl a:Key)=Sum.inr b)=false:=decide_eq_false (λq=>nomatch q)
theorem Z62(a:Str)(b:Int):decide ((Sum.inr a:Key)=Sum.inl b)=false:=decide_eq_false (λq=>nomatch q)
noncomputable def Zm3(prog:X8)(w:Qs):PySem.KeyKind prog w Key where
 is:=Z4q
 hash:=Ydo w
 inj:=λv a b ha hb=>by
  rcases Y8 ha with⟨i,t,rfl,rfl⟩|⟨x,t,rfl,rfl⟩
  ·rcases Y8 hb with⟨j,u,rfl,e⟩|⟨y,u,rfl,e⟩
   ·injection e with e1 _;rw[e1]
   ·exact nomatch e
  ·rcases Y8 hb with⟨j,u,rfl,e⟩|⟨y,u,rfl,e⟩
   ·exact nomatch e
   ·injection e with e1 _;rw[e1]
 byValue:=λk v h=>by
  rcases Y8 h with⟨i,t,rfl,rfl⟩|⟨x,t,rfl,rfl⟩<;>rfl
 pyHash:=λhv h=>by
  rcases Y8 hv with⟨i,t,rfl,rfl⟩|⟨x,t,rfl,rfl⟩
  ·exact wpAny_pyHash_int h
  ·exact wpAny_pyHash_str h
 eqBool:=λhu hv h=>by
  rcases Y8 hu with⟨i,t,rfl,rfl⟩|⟨x,t,rfl,rfl⟩
  ·rcases Y8 hv with⟨j,u,rfl,rfl⟩|⟨y,u,rfl,rfl⟩
   ·rw[Z47]at h;exact wpAny_eqBool_int h
   ·rw[Z6d]at h;exact SeqAt.EqAt.int_str i t y u _ _ _ _ h
  ·rcases Y8 hv with⟨j,u,rfl,rfl⟩|⟨y,u,rfl,rfl⟩
   ·rw[Z62]at h;exact SeqAt.EqAt.str_int x t j u _ _ _ _ h
   ·rw[Z5h]at h;exact wpAny_eqBool_str h
 «strs»:=λk x t v h=>by
  rcases Y8 h with⟨i,u,rfl,e⟩|⟨y,u,rfl,e⟩
  ·exact nomatch e
  ·injection e with e1 _
   subst e1
   cases v<;>rfl
inductive V where
 | non|bl (b:Bool)|int (i:Int)|str (x:Str)|byt (b:Array UInt8)|flt (b:UInt64)|ref (a:Addr)|ty (n:String)
 deriving DecidableEq
noncomputable def RelV:V->Xd->Prop
 | .non,u=>u=QT
 | .bl b,u=>u=Value.bool b
 | .int i,u=>∃t,u=UG i t
 | .str x,u=>∃t,u=Value.str x t
 | .byt b,u=>∃t,u=Xd.bytes b t
 | .flt b,u=>∃t,u=Xd.float b t
 | .ref a,u=>u=Qw a
 | .ty n,u=>u=Value.type n
noncomputable abbrev Vals:List V->List Xd->Prop:=Paired RelV
theorem Vals.length{xs:List V}{us:List Xd}(r:Vals xs us):xs.length=us.length:=Paired.length r
theorem Vals.get{xs:List V}{us:List Xd}{i:Nat}{x:V}(h:Vals xs us)(e:xs[i]? =some x):∃u,us[i]? =some u∧RelV x u:=by
 induction h generalizing i with
 | nil=>exact(Option.some_ne_none _ (e.symm.trans Ut)).elim
 | cons r t ih=>
  cases i with
  | zero=>exact⟨_,rfl,Qz e▸r⟩
  | succ i=>exact ih e
theorem Vals.set{x:V}{u:Xd}(r:RelV x u){xs:List V}{us:List Xd}(i:Nat)(h:Vals xs us):Vals (xs.set i x) (us.set i u):=by
 induction h generalizing i with
 | nil=>exact .nil
 | cons q t ih=>
  cases i with
  | zero=>exact .cons r t
  | succ i=>exact .cons q (ih i)
theorem Vals.append{xs ys:List V}{us ws:List Xd}(h:Vals xs us)(s:Vals ys ws):Vals (xs ++ ys) (us ++ ws):=by
 induction h with
 | nil=>exact s
 | cons r t ih=>exact .cons r ih
theorem Vals.take{xs:List V}{us:List Xd}(n:Nat)(h:Vals xs us):Vals (xs.take n) (us.take n):=by
 induction h generalizing n with
 | nil=>rw[List.take_nil,List.take_nil];exact .nil
 | cons r t ih=>
  cases n with
  | zero=>exact .nil
  | succ n=>exact .cons r (ih n)
theorem Vals.drop{xs:List V}{us:List Xd}(n:Nat)(h:Vals xs us):Vals (xs.drop n) (us.drop n):=by
 induction h generalizing n with
 | nil=>rw[List.drop_nil,List.drop_nil];exact .nil
 | cons r t ih=>
  cases n with
  | zero=>exact .cons r t
  | succ n=>exact ih n
noncomputable def RelO:Option V->Option Xd->Prop
 | some v,some u=>RelV v u
 | none,none=>True
 | _,_=>False
noncomputable def KV{κ:Type}:List (κ×V)->List (κ×Xd)->Prop:=Paired λ(p:κ×V) (q:κ×Xd)=>p.1=q.1∧RelV p.2 q.2
noncomputable def kV:Key->V
 | .inl i=>.int i
 | .inr x=>.str x
inductive HO where
  | lst (xs:List V)
  | tup (xs:List V)
  | dK (kvs:List (Key×V))|dT (kvs:List (List Key×V))
  | set (S:Int->Bool) (n:Nat)
  | ins (C dx:Addr) (fs:List (Str×V))
  | own (x:Addr)
  | xd (fs:List (Str×V))
  | met (f x:Addr)
  | rng (lo hi:Int)
  | frz (o:Obj) (u:HO)
  | tbl (ps:Array Xd)
  | ext (φ:Heap->Prop)
noncomputable abbrev Hp:=Addr->Option HO
noncomputable def upd(H:Hp)(a:Addr)(o:HO):Hp:=λb=>if b=a then some o else H b
theorem Z7{H:Hp}{a:Addr}{o:HO}:upd H a o a=some o:=by unfold upd;rw[if_pos rfl]
theorem Z3{H:Hp}{a b:Addr}{o:HO}(h:b≠a):upd H a o b=H b:=by unfold upd;rw[if_neg h]
theorem Y4{H:Hp}{a b:Addr}{o:HO}(h:H a=some o)(h':H b=none):a≠b:=by
 intro e;subst e;rw[h]at h';cases h'
section
variable (P:X8)(w:Qs)
noncomputable def ObjOk(H:Hp)(h:Heap)(a:Addr):HO->Prop
 | .lst xs=>xs.length≤Xr∧∃(its:List Xd) (n:Nat),Vals xs its∧h.get? a=some { cls:=.type "list",data:=.seq its.toArray n }
 | .tup xs=>xs.length≤Xr∧∃its:List Xd,Vals xs its∧UT h a its.toArray
 | .dK kvs=>kvs.length≤Xr∧(a==sysModules)=false∧∃vs,KV kvs vs∧h.DictOf (Zm3 P w) a vs
 | .dT kvs=>kvs.length≤Xr∧(a==sysModules)=false∧∃xs:List (List Key×Addr×Xd),
   Paired (λ(p:List Key×V) (q:List Key×Addr×Xd)=>p.1=q.1∧H q.2.1=some (.tup (p.1.map kV))∧RelV p.2 q.2.2) kvs xs∧
   ∃o es ep,h.get? a=some o∧o.ExactDict∧o.data= .dict es ep∧es.toList=xs.map (entryOfKey (tupleKind (Zm3 P w)))∧(xs.map (·.1)).Nodup
 | .set S n=>h.SetOf (intKind P w) a S n
 | .ins C dx fs=>H dx=some (.own a)∧fs.length≤1000∧dx≠a∧h.get? a=some (PySem.W.instObj C dx)∧
   ∃mA,h.Ns1 dx mA∧(∀f,RelO (fs.lookup f) (mA f))∧PySem.Within mA (fs.map (·.1))
 | .own _=>∃o,h.get? a=some o
 | .xd fs=>∃mA,h.Ns1 a mA∧∀f,RelO (fs.lookup f) (mA f)
 | .rng lo hi=>∃t u v,h.get? a=some { cls:=.type "range",data:=.fields #[.int lo t,.int hi u,.int 1 v] }
 | .frz o u=>h.get? a=some o∧ObjOk H h a u
 | .tbl ps=>h.get? a=some { cls:=.none,data:=.fields ps }
 | .met f x=>h.get? a=some (PySem.W.methodObj (.ref f) (.ref x))
 | .ext φ=>φ h∧(∃o,h.get? a=some o)∧∀h1 h2:Heap,φ h1->(∀o,h1.get? a=some o->h2.get? a=some o)->φ h2
noncomputable def HOk(H:Hp)(h:Heap):Prop:=∀a o,H a=some o->ObjOk P w H h a o
end
section
variable {P:X8}{w:Qs}{H H':Hp}{h h':Heap}{a:Addr}{o:HO}
theorem ObjOk.lt(x:ObjOk P w H h a o):a<h.objs.size:=by
 cases o with
 | lst xs=>obtain⟨_,_,_,_,e⟩:=x;exact XF e
 | tup xs=>obtain⟨_,_,_,p⟩:=x;exact p.lt
 | dK kvs=>obtain⟨_,_,_,_,o,_,_,e,_⟩:=x;exact XF e
 | dT kvs=>obtain⟨_,_,_,_,o,_,_,e,_⟩:=x;exact XF e
 | set S n=>obtain⟨o,_,_,_,e,_⟩:=x;exact XF e
 | ins C dx fs=>obtain⟨_,_,_,e,_⟩:=x;exact XF e
 | own y=>obtain⟨_,e⟩:=x;exact XF e
 | xd fs=>obtain⟨_,⟨_,_,_,e,_⟩,_⟩:=x;exact XF e
 | rng lo hi=>obtain⟨_,_,_,e⟩:=x;exact XF e
 | frz ob u=>obtain⟨e,_⟩:=x;exact XF e
 | tbl ps=>exact XF (show h.get? a=some _ from x)
 | met f y=>exact XF (show h.get? a=some _ from x)
 | ext φ=>obtain⟨_,⟨_,e⟩,_⟩:=x;exact XF e
theorem Paired.mapP{α β:Type}{F G:α->β->Prop}{l₁:List α}{l₂:List β}(h:Paired F l₁ l₂)(f:∀a b,F a b->G a b):Paired G l₁ l₂:=by
 induction h with
 | nil=>exact .nil
 | cons r t ih=>exact .cons (f _ _ r) ih
theorem ObjOk.stay(x:ObjOk P w H h a o)(k:∀b u,(b=a∨H b=some (.own a))->h.get? b=some u->h'.get? b=some u)
  (ho:∀b,H b=some (.own a)->H' b=some (.own a)) (ht:∀b xs,H b=some (.tup xs)->H' b=some (.tup xs)):ObjOk P w H' h' a o:=by
 induction o with
 | lst xs=>obtain⟨z,its,n,r,e⟩:=x;exact⟨z,its,n,r,k _ _ (.inl rfl) e⟩
 | tup xs=>obtain⟨z,its,r,ob,e,c⟩:=x;exact⟨z,its,r,ob,k _ _ (.inl rfl) e,c⟩
 | dK kvs=>obtain⟨z,y,vs,r,ob,es,ep,e,c⟩:=x;exact⟨z,y,vs,r,ob,es,ep,k _ _ (.inl rfl) e,c⟩
 | dT kvs=>
  obtain⟨z,y,xs,r,ob,es,ep,e,c⟩:=x
  exact⟨z,y,xs,Paired.mapP r λp q z=>⟨z.1,ht _ _ z.2.1,z.2.2⟩,ob,es,ep,k _ _ (.inl rfl) e,c⟩
 | set S n=>obtain⟨ob,es,ep,t,e,c⟩:=x;exact⟨ob,es,ep,t,k _ _ (.inl rfl) e,c⟩
 | ins C dx fs=>
  obtain⟨d,z,ne,e,mA,⟨od,es,ep,e2,c⟩,r⟩:=x
  exact⟨ho _ d,z,ne,k _ _ (.inl rfl) e,mA,⟨od,es,ep,k _ _ (.inr d) e2,c⟩,r⟩
 | own y=>obtain⟨ob,e⟩:=x;exact⟨ob,k _ _ (.inl rfl) e⟩
 | xd fs=>obtain⟨mA,⟨od,es,ep,e,c⟩,r⟩:=x;exact⟨mA,⟨od,es,ep,k _ _ (.inl rfl) e,c⟩,r⟩
 | rng lo hi=>obtain⟨t,u,v,e⟩:=x;exact⟨t,u,v,k _ _ (.inl rfl) e⟩
 | frz ob u ih=>obtain⟨e,q⟩:=x;exact⟨k _ _ (.inl rfl) e,ih q⟩
 | tbl ps=>
  have e:h.get? a=some { cls:=.none,data:=.fields ps }:=x
  show h'.get? a=some { cls:=.none,data:=.fields ps }
  exact k a _ (.inl rfl) e
 | met f y=>
  have e:h.get? a=some (PySem.W.methodObj (.ref f) (.ref y)):=x
  show h'.get? a=some (PySem.W.methodObj (.ref f) (.ref y))
  exact k a _ (.inl rfl) e
 | ext φ=>obtain⟨p,⟨o,e⟩,st⟩:=x;exact⟨st _ _ p λo q=>k _ _ (.inl rfl) q,⟨o,k _ _ (.inl rfl) e⟩,st⟩
theorem HOk.lt(x:HOk P w H h)(e:H a=some o):a<h.objs.size:=(x a o e).lt
theorem HOk.fresh(x:HOk P w H h)(e:h.objs.size≤a):H a=none:=by
 cases q:H a with
 | none=>rfl
 | some u=>exact absurd (Qc (x.lt q) e) (VM _)
theorem HOk.kept(x:HOk P w H h)(k:∀b u,h.get? b=some u->h'.get? b=some u):HOk P w H h':=λa o e=>
 (x a o e).stay (λb u _ q=>k b u q) (λ_ q=>q) λ_ _ q=>q
theorem HOk.laid(x:HOk P w H h)(k:∀b u,h.get? b=some u->h'.get? b=some u)(hp:h.objs.size≤a)(new:ObjOk P w (upd H a o) h' a o):HOk P w (upd H a o) h':=λb u e=>by
 have hn:=x.fresh hp
 by_cases hb:b=a
 ·subst hb;rw[Z7]at e;cases e;exact new
 ·rw[Z3 hb]at e
  exact(x b u e).stay (λc v _ q=>k c v q) (λc q=>by rw[Z3 (Y4 q hn)];exact q) λc xs q=>by rw[Z3 (Y4 q hn)];exact q
end
noncomputable def Rd(H:Hp)(a:Addr)(u:HO):Prop:=H a=some u∨∃o,H a=some (.frz o u)
theorem Rd.ok{P:X8}{w:Qs}{H:Hp}{h:Heap}{a:Addr}{u:HO}(r:Rd H a u)(x:HOk P w H h):ObjOk P w H h a u:=by
 rcases r with r|⟨o,r⟩
 ·exact x a u r
 ·obtain⟨_,q⟩:=x a _ r
  exact q
noncomputable def Mut:Option HO->Prop
 | some (.lst _)=>True
 | some (.dK _)=>True
 | some (.dT _)=>True
 | some (.set _ _)=>True
 | some (.ins _ _ _)=>True
 | some (.ext _)=>True
 | _=>False
section
variable {P:X8}{w:Qs}{H:Hp}{h h':Heap}{x e:Addr}{o':HO}
theorem HOk.write(ok:HOk P w H h)(mu:Mut (H x))(he:e=x∨H e=some (.own x))(k:∀b u,b≠e->h.get? b=some u->h'.get? b=some u)(heo:∃u,h'.get? e=some u)
  (new:ObjOk P w (upd H x o') h' x o'):HOk P w (upd H x o') h':=λb u q=>by
 have nown:∀c y,H c=some (.own y)->c≠x:=λc y r z=>by subst z;rw[r]at mu;exact mu
 have ntup:∀c xs,H c=some (.tup xs)->c≠x:=λc xs r z=>by subst z;rw[r]at mu;exact mu
 by_cases hb:b=x
 ·subst hb;rw[Z7]at q;cases q;exact new
 ·rw[Z3 hb]at q
  by_cases hbe:b=e
  ·have q':H b=some (.own x):=by
    rcases he with z|z
    ·exact absurd (hbe.trans z) hb
    ·rw[hbe];exact z
   rw[q]at q';cases q'
   obtain⟨v,hv⟩:=heo
   exact⟨v,by rw[hbe];exact hv⟩
  ·refine(ok b u q).stay (λc v hc r=>k c v ?_ r) (λc r=>by rw[Z3 (nown c b r)];exact r) λc xs r=>by rw[Z3 (ntup c xs r)];exact r
   rcases hc with rfl|hc
   ·exact hbe
   ·rintro rfl
    rcases he with z|z
    ·exact nown c b hc z
    ·rw[hc]at z;cases z;exact hb rfl
end
structure Un(fs ex:List Addr)(H H':Hp)(h h':Heap):Prop where
 keep:∀b o,h.get? b=some o->H b=none->b∉fs->b∉ex->h'.get? b=some o
 slot:∀b o,h.get? b=some o->H b=none->b∈fs->b∉ex->∃sl,h'.get? b=some { o with slots:=sl }
 free:∀b o,h.get? b=some o->H b=none->b∉ex->H' b=none
 there:∀b o,h.get? b=some o->b∉ex->∃o',h'.get? b=some o'
 tups:∀b xs,H b=some (.tup xs)->H' b=some (.tup xs)
 frzs:∀b o u,H b=some (.frz o u)->H' b=some (.frz o u)
 tbls:∀b ps,H b=some (.tbl ps)->∃more,H' b=some (.tbl (ps ++ more))
section
variable {fs fs' ex ex':List Addr}{H H1 H2:Hp}{h h1 h2 h':Heap}{a x e:Addr}{o:HO}
theorem Un.any(u:Un fs ex H H1 h h1){b:Addr}{ob:Obj}(q:h.get? b=some ob)(n:H b=none)(hx:b∉ex):∃sl,h1.get? b=some { ob with slots:=sl }:=by
 by_cases hb:b∈fs
 ·exact u.slot b ob q n hb hx
 ·exact⟨ob.slots,u.keep b ob q n hb hx⟩
theorem Un.kept(k:∀b u,h.get? b=some u->h'.get? b=some u):Un fs ex H H h h' :=
 ⟨λb ob q _ _ _=>k b ob q,λb ob q _ _ _=>⟨ob.slots,k b ob q⟩,λ_ _ _ n _=>n,λb ob q _=>⟨ob,k b ob q⟩,λ_ _ q=>q,λ_ _ _ q=>q,λ_ ps q=>⟨#[],by rw[q];simp⟩⟩
theorem Un.refl:Un fs ex H H h h:=Un.kept λ_ _ q=>q
theorem Un.laid(k:∀b u,h.get? b=some u->h'.get? b=some u)(hp:h.objs.size≤a)(hn:H a=none):Un fs ex H (upd H a o) h h' where
 keep:=λb u q _ _ _=>k b u q
 slot:=λb u q _ _ _=>⟨u.slots,k b u q⟩
 free:=λb u q n _=>by rw[Z3 (Xy (Qc (XF q) hp))];exact n
 there:=λb u q _=>⟨u,k b u q⟩
 tups:=λb xs q=>by rw[Z3 (Y4 q hn)];exact q
 frzs:=λb u xs q=>by rw[Z3 (Y4 q hn)];exact q
 tbls:=λb ps q=>⟨#[],by rw[Z3 (Y4 q hn),q];simp⟩
theorem Un.write(mu:Mut (H x))(he:e=x∨H e=some (.own x))(k:∀b u,b≠e->h.get? b=some u->h'.get? b=some u)(heo:∃u,h'.get? e=some u):Un fs ex H (upd H x o) h h':=by
 have hx:∀b,H b=none->b≠x:=λb n z=>by subst z;rw[n]at mu;exact mu
 have hb:∀b,H b=none->b≠e:=λb n z=>by
  subst z
  rcases he with r|r
  ·exact hx b n r
  ·rw[n]at r;cases r
 have hm:∀b u,H b=some u->¬Mut (some u)->b≠x:=λb u q nm z=>by subst z;rw[q]at mu;exact nm mu
 refine⟨λb u q n _ _=>k b u (hb b n) q,λb u q n _ _=>⟨u.slots,k b u (hb b n) q⟩,λb u q n _=>by rw[Z3 (hx b n)];exact n,λb u q _=>?_,
  λb xs q=>by rw[Z3 (hm b _ q λz=>z)];exact q,λb u xs q=>by rw[Z3 (hm b _ q λz=>z)];exact q,λb ps q=>⟨#[],by rw[Z3 (hm b _ q λz=>z),q];simp⟩⟩
 by_cases hbe:b=e
 ·subst hbe;exact heo
 ·exact⟨u,k b u hbe q⟩
end
noncomputable def trk(h:Heap)(H:Hp):List Addr:=(Xj h.objs.size).filter λa=>(H a).isSome
noncomputable def Zw3(h:Heap)(H:Hp):Heap:=PySem.W.hideAll h (trk h H)
theorem Zsg(h:Heap)(H:Hp):(Zw3 h H).objs.size=h.objs.size:=PySem.W.hideAll_size _ _
theorem Zw9{h:Heap}{H:Hp}{b:Addr}{o:Obj}(e:h.get? b=some o)(n:H b=none):(Zw3 h H).get? b=some o :=
 PySem.W.hideAll_get _ e λhm=>by
  have q:(H b).isSome=true:=(QR.mp hm).2
  rw[n]at q;simp at q
theorem Z14{h:Heap}{H:Hp}{b:Addr}{o:Obj}(e:(Zw3 h H).get? b=some o):h.get? b=some o∧H b=none:=by
 have e':h.get? b=some o:=PySem.W.of_hideAll (trk h H) e
 refine⟨e',?_⟩
 cases q:H b with
 | none=>rfl
 | some x=>
  have hm:b∈trk h H:=QR.mpr ⟨Xm.mpr (XF e'),by simp[q]⟩
  have z:(Zw3 h H).get? b=none:=PySem.W.hideAll_none (trk h H) hm
  rw[z]at e;cases e
noncomputable def Z1g(g h:Heap)(L:Addr):List (Addr×Obj):=(Xj h.objs.size).filterMap λa=>if a=L∨(g.get? a).isSome=true then none else(h.get? a).map λo=>(a,o)
noncomputable def rest(g h:Heap)(L d:Addr):List (Addr×Obj):=(Z1g g h L).filter λp=>decide (p.1≠d)
structure Mod(K:Xb)(mg:Str->Option Xd)(base:Heap):Prop where
 kin:K.In base
 glob:base.Ns X6 mg
 blt:∃mb,base.Ns builtinsNs mb∧∀x:Str,x≠"__name__" ->mb x=X3 x
 nolimit:base.NoLimit
set_option genInjectivity false in
structure Cx where
 prog:X8
 w:Qs
 K:Xb
 mg:Str->Option Xd
 base:Heap
 A:Qo
 N:List Str
 s₀:Xg
 H₀:Hp
 env:Env
 outer:List Env
 stack:List Env
 ex:List Addr
 fn:Str->Bool
 calm:Bool
 pn:List (Addr×Obj)
 xe:Xd->Xg->Prop
noncomputable def frs(l:List Env):List Addr:=l.filterMap (·.frame)
noncomputable abbrev Cx.fs(X:Cx):List Addr:=frs X.outer
noncomputable def Vis(sc:Vw)(x:Str):Prop:=sc.names.lookup x=some .local∨sc.names.lookup x=some .cell∨sc.names.lookup x=some .free
noncomputable def Loc(sc:Vw)(x:Str):Prop:=sc.names.lookup x=some .local∨sc.names.lookup x=some .cell
noncomputable def Look(env:Env)(h:Heap)(m:Str->Option Xd)(x:Str)(u:Xd):Prop :=
 (env.kindOf x=some .local∧m x=some u)∨((env.kindOf x=some .cell∨env.kindOf x=some .free)∧∃c,env.cells.lookup x=some c∧h.IsCell c (some u))
structure Cx.Ok(X:Cx):Prop where
 mod:Mod X.K X.mg X.base
 kind:X.env.scope.kind= .function
 glob:X.env.globals=X6
 blt:X.env.builtins=builtinsNs
 above:X.s₀.heap.objs.size≤X.env.locals
 inj:∀x y c,X.env.cells.lookup x=some c->X.env.cells.lookup y=some c->x=y
 has:∀x,(X.env.kindOf x=some .cell∨X.env.kindOf x=some .free)->∃c,X.env.cells.lookup x=some c
 cab:∀x c,X.fn x=true->X.env.cells.lookup x=some c->X.s₀.heap.objs.size≤c
 hd:X.calm=true->X.A.handled=none
 frames:X.A.frames=some X.stack
 stk:X.stack=X.outer∨(X.stack=X.env :: X.outer∧X.env.frame=some X.env.locals)
 exf:∀b∈X.ex,b≠X.env.locals∧∀x c,X.env.cells.lookup x=some c->c≠b
 bs:∀b o,X.base.get? b=some o->X.s₀.heap.get? b=some o∧X.H₀ b=none
 bsz:X.base.objs.size≤X.s₀.heap.objs.size
 noex:∀b o,X.base.get? b=some o->b∉X.ex
 exfs:∀b∈X.ex,b∉X.fs
 funs:X.s₀.heap.FunFrames X.base X.outer
 frf:∀b∈X.fs,X.H₀ b=none
structure Inv(X:Cx)(pins:List (Addr×Obj))(σ:List (Option V))(H:Hp)(s:Xg):Prop where
 ok:X.Ok
 os:s.os=X.s₀.os
 bare:AllBare s.gens
 base:Un X.fs X.ex X.H₀ H X.s₀.heap s.heap
 loc:∃m,s.heap.Ns X.env.locals m∧∀(i:Nat) (x:Str) (v:V),X.N[i]? =some x->σ[i]? =some (some v)->Vis X.env.scope x->∃u,RelV v u∧Look X.env s.heap m x u
 cell:∀x c,X.env.cells.lookup x=some c->∃v,s.heap.IsCell c v
 free:H X.env.locals=none
 freeC:∀x c,X.env.cells.lookup x=some c->H c=none
 pin:∀p∈X.pn ++ pins,s.heap.get? p.1=some p.2∧H p.1=none∧p.1≠X.env.locals∧p.1∉X.fs∧∀v,p.2.data≠ .cell v
 hok:HOk X.prog X.w H s.heap
 len:σ.length=X.N.length
section
variable {X:Cx}{pins:List (Addr×Obj)}{σ:List (Option V)}{H H':Hp}{s:Xg}{h':Heap}
theorem Cx.Ok.nofr(ok:X.Ok){b:Addr}{o:Obj}(e:X.base.get? b=some o):b∉X.fs:=λhb=>by
 have:=(ok.funs.mem hb).1
 rw[e]at this;cases this
theorem Inv.bs(I:Inv X pins σ H s):∀b o,X.base.get? b=some o->s.heap.get? b=some o∧H b=none:=λb o e=>
 ⟨I.base.keep b o (I.ok.bs b o e).1 (I.ok.bs b o e).2 (I.ok.nofr e) (I.ok.noex b o e),I.base.free b o (I.ok.bs b o e).1 (I.ok.bs b o e).2 (I.ok.noex b o e)⟩
theorem Inv.bk(I:Inv X pins σ H s):∀b o,X.base.get? b=some o->s.heap.get? b=some o:=λb o e=>(I.bs b o e).1
theorem Inv.mod(I:Inv X pins σ H s):Mod X.K X.mg X.base:=I.ok.mod
theorem Inv.kIn(I:Inv X pins σ H s):X.K.In s.heap:=I.ok.mod.kin.keeps I.bk
theorem Inv.lt(I:Inv X pins σ H s):X.env.locals<s.heap.objs.size:=let⟨_,hn,_⟩:=I.loc;hn.lt
theorem Inv.sz(I:Inv X pins σ H s):X.s₀.heap.objs.size≤s.heap.objs.size:=Ql I.ok.above (Nat.le_of_lt I.lt)
theorem Inv.nofs(I:Inv X pins σ H s){a:Addr}(h:s.heap.objs.size≤a):a∉X.fs:=λhb=>by
 obtain⟨_,o,ho,_⟩:=I.ok.funs.mem hb
 exact absurd (Qc (XF ho) (Ql I.sz h)) (VM _)
theorem Inv.cne(I:Inv X pins σ H s):∀x c,X.env.cells.lookup x=some c->c≠X.env.locals:=λx c e z=>by
 obtain⟨v,o,ho,hd⟩:=I.cell x c e
 obtain⟨m,⟨o',es,ep,ho',hd',_⟩,_⟩:=I.loc
 rw[z,ho']at ho;cases ho;rw[hd']at hd;cases hd
theorem Inv.funs(I:Inv X pins σ H s):s.heap.FunFrames X.base X.outer:=by
 have all:∀(l:List Env),(∀b∈frs l,b∈X.fs)->X.s₀.heap.FunFrames X.base l->s.heap.FunFrames X.base l:=by
  intro l
  induction l with
  | nil=>intro _ _;trivial
  | cons env r ih=>
   intro hs hl
   obtain⟨hk,⟨L,o,hf,hn,ho,hd⟩,hr⟩:=hl
   have hL:L∈X.fs:=hs L (by unfold frs;rw[Ba,hf];exact V8)
   obtain⟨sl,e⟩:=I.base.slot L o ho (I.ok.frf L hL) hL λz=>I.ok.exfs L z hL
   exact⟨hk,⟨L,_,hf,hn,e,hd⟩,ih (λb hb=>hs b (by unfold frs;rw[Ba,hf];exact VN _ hb)) hr⟩
 exact all X.outer (λ_ hb=>hb) I.ok.funs
theorem Inv.stack(I:Inv X pins σ H s):s.heap.FunFrames X.base X.stack:=by
 rcases I.ok.stk with e|⟨e,hf⟩
 ·rw[e];exact I.funs
 ·rw[e]
  obtain⟨m,hn,_⟩:=I.loc
  refine .cons (by rw[I.ok.kind];decide) hf hn ?_ I.funs
  exact Heap.get?_none_of_le (Ql I.ok.bsz I.ok.above)
theorem Inv.stkSub(I:Inv X pins σ H s):∀b∈frs X.stack,b∈X.env.locals :: X.fs:=λb hb=>by
 rcases I.ok.stk with e|⟨e,hf⟩
 ·rw[e]at hb;exact VN _ hb
 ·rw[e]at hb
  unfold frs at hb
  rw[Ba,hf]at hb
  exact hb
theorem Inv.stkFree(I:Inv X pins σ H s):∀b∈frs X.stack,H b=none:=λb hb=>by
 rcases Xp.mp (I.stkSub b hb)with e|hb
 ·rw[e];exact I.free
 ·obtain⟨_,o,ho,_⟩:=I.ok.funs.mem hb
  exact I.base.free b o ho (I.ok.frf b hb) λz=>I.ok.exfs b z hb
theorem Inv.step{g':Array GenState}{t':Nat}{d':Drawn}{ch:List Addr}(I:Inv X pins σ H s)
  (hch:∀b∈ch,(b∈X.ex∨X.s₀.heap.objs.size≤b)∧b≠X.env.locals∧(∀x c,X.env.cells.lookup x=some c->c≠b)∧∀p∈X.pn ++ pins,p.1≠b)
  (keep:∀b o,b≠X.env.locals->b∉X.fs->b∉ch->s.heap.get? b=some o->H b=none->h'.get? b=some o)
  (slot:∀b o,b≠X.env.locals->b∈X.fs->b∉ch->s.heap.get? b=some o->H b=none->∃sl,h'.get? b=some { o with slots:=sl }) (free:∀b o,b∉ch->s.heap.get? b=some o->H b=none->H' b=none)
  (there:∀b o,b∉ch->s.heap.get? b=some o->∃o',h'.get? b=some o')
  (tups:∀b xs,H b=some (.tup xs)->H' b=some (.tup xs)) (frzs:∀b o u,H b=some (.frz o u)->H' b=some (.frz o u)) (tbls:∀b ps,H b=some (.tbl ps)->∃more,H' b=some (.tbl (ps ++ more)))
  (ns:∀m,s.heap.Ns X.env.locals m->h'.Ns X.env.locals m) (hok:HOk X.prog X.w H' h') (hg:AllBare g') :
  Inv X pins σ H' { s with heap:=h',gens:=g',drawn:=d',toks:=t' }:=by
 have neL:∀b o,X.s₀.heap.get? b=some o->b≠X.env.locals:=λb o e=>Xy (Qc (XF e) I.ok.above)
 have neC:∀b o,X.s₀.heap.get? b=some o->b∉X.ex->b∉ch:=λb o e hx hb=>by
  rcases(hch b hb).1 with z|z
  ·exact hx z
  ·exact absurd (Qc (XF e) z) (VM _)
 have cellK:∀x c,X.env.cells.lookup x=some c->∀v,s.heap.IsCell c v->h'.IsCell c v:=λx c e v ⟨o,ho,hd⟩=>by
  have nch:c∉ch:=λz=>(hch c z).2.2.1 x c e rfl
  by_cases hc:c∈X.fs
  ·obtain⟨sl,q⟩:=slot c o (I.cne x c e) hc nch ho (I.freeC x c e)
   exact⟨_,q,hd⟩
  ·exact⟨o,keep c o (I.cne x c e) hc nch ho (I.freeC x c e),hd⟩
 refine⟨I.ok,I.os,hg,⟨λb o e n hb hx=>?_,λb o e n hb hx=>?_,λb o e n hx=>?_,λb o e hx=>?_,λb xs e=>tups b xs (I.base.tups b xs e),λb o xs e=>frzs b o xs (I.base.frzs b o xs e),λb ps e=>?_⟩,?_,λx c e=>?_,?_,λx c e=>?_,λp hp=>?_,hok,I.len⟩
 ·exact keep b o (neL b o e) hb (neC b o e hx) (I.base.keep b o e n hb hx) (I.base.free b o e n hx)
 ·obtain⟨sl,e1⟩:=I.base.slot b o e n hb hx
  obtain⟨sl',e2⟩:=slot b _ (neL b o e) hb (neC b o e hx) e1 (I.base.free b o e n hx)
  exact⟨sl',e2⟩
 ·obtain⟨o',e1⟩:=I.base.there b o e hx
  exact free b o' (neC b o e hx) e1 (I.base.free b o e n hx)
 ·obtain⟨o',e1⟩:=I.base.there b o e hx
  exact there b o' (neC b o e hx) e1
 ·obtain⟨m1,e1⟩:=I.base.tbls b ps e
  obtain⟨m2,e2⟩:=tbls b _ e1
  exact⟨m1 ++ m2,by rw[e2,Array.append_assoc]⟩
 ·obtain⟨m,hn,hl⟩:=I.loc
  refine⟨m,ns m hn,λi x v e1 e2 e3=>?_⟩
  obtain⟨u,r,l⟩:=hl i x v e1 e2 e3
  refine⟨u,r,?_⟩
  rcases l with l|⟨k,c,e,z⟩
  ·exact .inl l
  ·exact .inr ⟨k,c,e,cellK x c e _ z⟩
 ·obtain⟨v,z⟩:=I.cell x c e
  exact⟨v,cellK x c e v z⟩
 ·obtain⟨m,⟨o,_,_,ho,_⟩,_⟩:=I.loc
  exact free _ o (λz=>(hch _ z).2.1 rfl) ho I.free
 ·obtain⟨v,o,ho,hd⟩:=I.cell x c e
  exact free c o (λz=>(hch c z).2.2.1 x c e rfl) ho (I.freeC x c e)
 ·obtain⟨e,n,ne,nf,d⟩:=I.pin p hp
  have nch:p.1∉ch:=λz=>(hch p.1 z).2.2.2 p hp rfl
  exact⟨keep p.1 p.2 ne nf nch e n,free p.1 p.2 nch e n,ne,nf,d⟩
theorem Inv.un{t':Nat}(I:Inv X pins σ H s)(u:Un X.fs [] H H' s.heap h')(hok:HOk X.prog X.w H' h'):Inv X pins σ H' { s with heap:=h',toks:=t' }:=by
 obtain⟨m,⟨o,es,ep,ho,r⟩,_⟩:=id I.loc
 obtain⟨sl,hL⟩:=u.any ho I.free (by simp)
 exact I.step (g':=s.gens) (d':=s.drawn) (ch:=[]) (λ_ z=>nomatch z) (λb o _ hb _ e n=>u.keep b o e n hb (by simp)) (λb o _ hb _ e n=>u.slot b o e n hb (by simp)) (λb o _ e n=>u.free b o e n (by simp)) (λb o _ e=>u.there b o e (by simp)) u.tups u.frzs u.tbls (λm' hm=>by
  obtain⟨o',es',ep',ho',r'⟩:=hm
  rw[ho]at ho';cases ho'
  exact⟨_,es',ep',hL,r'⟩) hok I.bare
theorem Inv.call{g':Array GenState}{t':Nat}{d':Drawn}{ch:List Addr}(I:Inv X pins σ H s)(u:Un (frs X.stack) ch H H' s.heap h')(hok:HOk X.prog X.w H' h')(hg:AllBare g')
  (hch:∀b∈ch,(b∈X.ex∨X.s₀.heap.objs.size≤b)∧b≠X.env.locals∧(∀x c,X.env.cells.lookup x=some c->c≠b)∧∀p∈X.pn ++ pins,p.1≠b) :
  Inv X pins σ H' { s with heap:=h',gens:=g',drawn:=d',toks:=t' }:=by
 obtain⟨m,⟨o,es,ep,ho,r⟩,_⟩:=id I.loc
 obtain⟨sl,hL⟩:=u.any ho I.free λz=>(hch _ z).2.1 rfl
 exact I.step (ch:=ch) hch (λb o hL hb hc e n=>u.keep b o e n (λz=>(Xp.mp (I.stkSub b z)).elim hL hb) hc) (λb o _ _ hc e n=>u.any e n hc) (λb o hc e n=>u.free b o e n hc) (λb o hc e=>u.there b o e hc) u.tups u.frzs u.tbls (λm' hm=>by
  obtain⟨o',es',ep',ho',r'⟩:=hm
  rw[ho]at ho';cases ho'
  exact⟨_,es',ep',hL,r'⟩) hok hg
theorem Inv.turned{t':Nat}{it:Addr}(I:Inv X pins σ H s)(k:∀b o,b≠it->s.heap.get? b=some o->h'.get? b=some o)(hn:H it=none)(hL:it≠X.env.locals)
  (h1:it∈X.ex∨X.s₀.heap.objs.size≤it) (h2:∀x c,X.env.cells.lookup x=some c->c≠it) (h3:∀p∈X.pn ++ pins,p.1≠it):Inv X pins σ H { s with heap:=h',toks:=t' }:=by
 have nit:∀b u,H b=some u->b≠it:=λb u e z=>by rw[z,hn]at e;cases e
 refine I.step (g':=s.gens) (d':=s.drawn) (ch:=[it]) (λb hb=>?_) (λb o _ _ hc e _=>k b o (λz=>hc (by simp[z])) e) (λb o _ _ hc e _=>⟨o.slots,k b o (λz=>hc (by simp[z])) e⟩) (λ_ _ _ _ n=>n)
  (λb o hc e=>⟨o,k b o (λz=>hc (by simp[z])) e⟩) (λ_ _ e=>e) (λ_ _ _ e=>e) (λb ps e=>⟨#[],by rw[e];simp⟩) (λm hm=>?_) (λb u e=>?_) I.bare
 ·have e:b=it:=by simpa using hb
  subst e
  exact⟨h1,hL,h2,h3⟩
 ·obtain⟨o,es,ep,ho,r⟩:=hm
  exact⟨o,es,ep,k _ o (BR hL) ho,r⟩
 ·refine(I.hok b u e).stay (λc v hc q=>k c v ?_ q) (λ_ q=>q) λ_ _ q=>q
  rcases hc with z|z
  ·rw[z];exact nit b u e
  ·exact nit c _ z
theorem Inv.tok(I:Inv X pins σ H s)(t:Nat):Inv X pins σ H { s with toks:=t }:=I.un (h':=s.heap) (t':=t) Un.refl I.hok
theorem Inv.kept{t':Nat}(I:Inv X pins σ H s)(k:∀b u,s.heap.get? b=some u->h'.get? b=some u):Inv X pins σ H { s with heap:=h',toks:=t' }:=I.un (Un.kept k) (I.hok.kept k)
theorem Inv.laid{a:Addr}{o:HO}{t':Nat}(I:Inv X pins σ H s)(k:∀b u,s.heap.get? b=some u->h'.get? b=some u)(hp:s.heap.objs.size≤a)(new:ObjOk X.prog X.w (upd H a o) h' a o) :
  Inv X pins σ (upd H a o) { s with heap:=h',toks:=t' }:=I.un (Un.laid k hp (I.hok.fresh hp)) (I.hok.laid k hp new)
theorem Inv.write{x e:Addr}{o:HO}{t':Nat}(I:Inv X pins σ H s)(mu:Mut (H x))(he:e=x∨H e=some (.own x))(k:∀b u,b≠e->s.heap.get? b=some u->h'.get? b=some u)(heo:∃u,h'.get? e=some u)
  (new:ObjOk X.prog X.w (upd H x o) h' x o):Inv X pins σ (upd H x o) { s with heap:=h',toks:=t' }:=I.un (Un.write mu he k heo) (I.hok.write mu he k heo new)
theorem Inv.pins_of{pins':List (Addr×Obj)}(I:Inv X pins σ H s)(h:∀p∈pins',s.heap.get? p.1=some p.2∧H p.1=none∧p.1≠X.env.locals∧p.1∉X.fs∧∀v,p.2.data≠ .cell v):Inv X pins' σ H s :=
 ⟨I.ok,I.os,I.bare,I.base,I.loc,I.cell,I.free,I.freeC,λp hp=>(Qt.mp hp).elim (λz=>I.pin p (Vf _ z)) (h p),I.hok,I.len⟩
theorem Znq{N:List Str}(hN:N.Nodup){i j:Nat}{x:Str}(a:N[i]? =some x)(b:N[j]? =some x):i=j:=by
 obtain⟨h1,e1⟩:=Xu.mp a
 obtain⟨h2,e2⟩:=Xu.mp b
 exact(List.getElem_inj hN).mp (e1.trans e2.symm)
theorem Zli{M:Model}{A:Qo}{E:Xd->Xg->Prop}{i:Nat}{x:Str}{v:V}{u:Xd}{Q:Unit->Xg->Prop}(I:Inv X pins σ H s)(hN:X.N.Nodup)(hi:X.N[i]? =some x)(hx:Loc X.env.scope x)(r:RelV v u)
  (h:∀s',Inv X pins (σ.set i (some v)) H s'->(∃a,Vj a s.heap s'.heap∧(a=X.env.locals∨X.env.cells.lookup x=some a))->Q () s') (hf:X.fn x=true∨X.env.scope.names.lookup x=some .local:=by first|exact .inl rfl|exact .inr rfl|assumption):X4 M A (storeName X.env x u) Q E s:=by
 obtain⟨m,hn,hl⟩:=id I.loc
 have hcls:(X.env.scope.kind== .class||(X.env.scope.kind== .module&&X.env.locals !=X.env.globals))=false:=by rw[I.ok.kind];rfl
 have hiσ:i<σ.length:=by rw[I.len];exact(Xu.mp hi).1
 have cne:=I.cne
 have tracked:∀{a:Addr} {h':Heap},(∃o,s.heap.get? a=some o∧H a=none)->Vj a s.heap h'->HOk X.prog X.w H h':=fun{a h'} ha hs b ob e=>by
  obtain⟨_,_,hfree⟩:=ha
  refine(I.hok b ob e).stay (λc w' hc q=>(hs.2 c ?_).trans q) (λ_ q=>q) λ_ _ q=>q
  rintro rfl
  rcases hc with rfl|hc
  ·rw[hfree]at e;cases e
  ·rw[hfree]at hc;cases hc
 rcases hx with hk|hk
 ·refine wpAny_storeName_local hk hn (λh' hn' hs=>?_) hcls
  obtain⟨oL,_,_,hoL,_⟩:=id hn
  refine h _ ⟨I.ok,I.os,I.bare,⟨λb o e n hb hx=>?_,λb o e n hb hx=>?_,I.base.free,λb o e hx=>?_,I.base.tups,I.base.frzs,I.base.tbls⟩,⟨_,hn',λj y v' e1 e2 e3=>?_⟩,λy c e=>?_,I.free,I.freeC,λp hp=>?_,tracked ⟨oL,hoL,I.free⟩ hs,by simpa using I.len⟩ ⟨_,hs,.inl rfl⟩
  ·exact(hs.2 b (Xy (Qc (XF e) I.ok.above))).trans (I.base.keep b o e n hb hx)
  ·obtain⟨sl,e1⟩:=I.base.slot b o e n hb hx
   exact⟨sl,(hs.2 b (Xy (Qc (XF e) I.ok.above))).trans e1⟩
  ·obtain⟨o',e1⟩:=I.base.there b o e hx
   exact⟨o',(hs.2 b (Xy (Qc (XF e) I.ok.above))).trans e1⟩
  ·by_cases hj:j=i
   ·subst hj
    rw[hi]at e1;cases e1
    rw[QJ hiσ]at e2
    cases e2
    exact⟨u,r,.inl ⟨hk,by simp⟩⟩
   ·rw[Qv (BR hj)]at e2
    obtain⟨u',r',q⟩:=hl j y v' e1 e2 e3
    refine⟨u',r',?_⟩
    rcases q with⟨k,e⟩|⟨k,c,e,z⟩
    ·refine .inl ⟨k,?_⟩
     have:y≠x:=λe=>hj (Znq hN e1 (e▸hi))
     simp[this,e]
    ·exact .inr ⟨k,c,e,z.sameBut hs (cne y c e)⟩
  ·obtain⟨w',z⟩:=I.cell y c e
   exact⟨w',z.sameBut hs (cne y c e)⟩
  ·obtain⟨e,n,ne,nf,d⟩:=I.pin p hp
   exact⟨(hs.2 p.1 ne).trans e,n,ne,nf,d⟩
 ·have hfn:X.fn x=true:=by
   rcases hf with z|z
   ·exact z
   ·rw[z]at hk;cases hk
  obtain⟨c,hc⟩:=I.ok.has x (.inl hk)
  obtain⟨w',z⟩:=I.cell x c hc
  refine wpAny_storeName_cell I.ok.kind hk hc z (λh' hc' hs=>?_)
  obtain⟨oc,hoc,hocd⟩:=id z
  refine h { s with heap:=h' } ⟨I.ok,I.os,I.bare,⟨λb o e n hb hx=>?_,λb o e n hb hx=>?_,I.base.free,λb o e hx=>?_,I.base.tups,I.base.frzs,I.base.tbls⟩,⟨m,hn.sameBut hs (BR (cne x c hc)),λj y v' e1 e2 e3=>?_⟩,λy c' e=>?_,I.free,I.freeC,λp hp=>?_,tracked ⟨oc,hoc,I.freeC x c hc⟩ hs,by simpa using I.len⟩ ⟨c,hs,.inr hc⟩
  ·exact(hs.2 b (Xy (Qc (XF e) (I.ok.cab x c hfn hc)))).trans (I.base.keep b o e n hb hx)
  ·obtain⟨sl,e1⟩:=I.base.slot b o e n hb hx
   exact⟨sl,(hs.2 b (Xy (Qc (XF e) (I.ok.cab x c hfn hc)))).trans e1⟩
  ·obtain⟨o',e1⟩:=I.base.there b o e hx
   exact⟨o',(hs.2 b (Xy (Qc (XF e) (I.ok.cab x c hfn hc)))).trans e1⟩
  ·by_cases hj:j=i
   ·subst hj
    rw[hi]at e1;cases e1
    rw[QJ hiσ]at e2
    cases e2
    exact⟨u,r,.inr ⟨.inl hk,c,hc,hc'⟩⟩
   ·rw[Qv (BR hj)]at e2
    obtain⟨u',r',q⟩:=hl j y v' e1 e2 e3
    refine⟨u',r',?_⟩
    rcases q with q|⟨k,c',e,z'⟩
    ·exact .inl q
    ·refine .inr ⟨k,c',e,z'.sameBut hs ?_⟩
     rintro rfl
     exact hj (Znq hN e1 (I.ok.inj _ _ _ e hc▸hi))
  ·by_cases hcc:c'=c
   ·subst hcc;exact⟨_,hc'⟩
   ·obtain⟨w2,z2⟩:=I.cell y c' e
    exact⟨w2,z2.sameBut hs hcc⟩
  ·obtain⟨e,n,ne,nf,d⟩:=I.pin p hp
   refine⟨(hs.2 p.1 ?_).trans e,n,ne,nf,d⟩
   intro q
   rw[q,hoc]at e
   have q':oc=p.2:=Qz e
   exact d w' (by rw[←q'];exact hocd)
theorem Zoy{M:Model}{A:Qo}{E:Xd->Xg->Prop}{i:Nat}{x:Str}{v:V}{u:Xd}{Q:Unit->Xg->Prop}(I:Inv X pins σ H s)(hN:X.N.Nodup)(hi:X.N[i]? =some x)(hx:Loc X.env.scope x)(r:RelV v u)
  (h:∀s',Inv X pins (σ.set i (some v)) H s'->Q () s') (hf:X.fn x=true∨X.env.scope.names.lookup x=some .local:=by first|exact .inl rfl|exact .inr rfl|assumption):X4 M A (storeName X.env x u) Q E s :=
 Zli I hN hi hx r (λs' I' _=>h s' I') hf
theorem Inv.call'{s':Xg}{ch:List Addr}(I:Inv X pins σ H s)(ho:s'.os=s.os)(u:Un (frs X.stack) ch H H' s.heap s'.heap)(hok:HOk X.prog X.w H' s'.heap)(hg:AllBare s'.gens)
  (hch:∀b∈ch,(b∈X.ex∨X.s₀.heap.objs.size≤b)∧b≠X.env.locals∧(∀x c,X.env.cells.lookup x=some c->c≠b)∧∀p∈X.pn ++ pins,p.1≠b):Inv X pins σ H' s':=by
 obtain⟨h',g',d',t',o'⟩:=s'
 have e:o'=s.os:=ho
 subst e
 exact I.call (g':=g') (t':=t') (d':=d') u hok hg hch
end
noncomputable abbrev XK:=Xd->Option Addr->Hp->Prop
noncomputable abbrev St:=List (Option V)
noncomputable abbrev VK:=V->Hp->Prop
noncomputable abbrev TE:=St->Hp->VK->Prop
noncomputable abbrev TT:=St->Hp->(Bool->Hp->Prop)->Prop
noncomputable abbrev TA:=St->Hp->(List V->Hp->Prop)->Prop
set_option genInjectivity false in
structure Ends where
 nx:St->Hp->Prop
 rt:VK
 bk:St->Hp->Prop:=λ_ _=>False
 ct:St->Hp->Prop:=λ_ _=>False
noncomputable abbrev TS:=Ends->St->Hp->Prop
noncomputable def EP(X:Cx)(pins:List (Addr×Obj))(σ:St)(Q:VK)(u:Xd)(s':Xg):Prop:=∃v H',Inv X pins σ H' s'∧RelV v u∧Q v H'
noncomputable def TP(X:Cx)(pins:List (Addr×Obj))(σ:St)(Q:Bool->Hp->Prop)(b:Bool)(s':Xg):Prop:=∃H',Inv X pins σ H' s'∧Q b H'
noncomputable def AP(X:Cx)(pins:List (Addr×Obj))(σ:St)(Q:List V->Hp->Prop)(us:List Xd)(s':Xg):Prop:=∃vs H',Inv X pins σ H' s'∧Vals vs us∧Q vs H'
noncomputable def SP(X:Cx)(pins:List (Addr×Obj))(D:Ends)(f:Flow)(s':Xg):Prop :=
 match f with
 | .next=>∃σ' H',Inv X pins σ' H' s'∧D.nx σ' H'
 | .brk=>∃σ' H',Inv X pins σ' H' s'∧D.bk σ' H'
 | .cont=>∃σ' H',Inv X pins σ' H' s'∧D.ct σ' H'
 | .ret u=>∃v σ' H',Inv X pins σ' H' s'∧RelV v u∧D.rt v H'
noncomputable def PE(X:Cx)(e:Expr)(t:TE):Prop :=
 ∀(pins:List (Addr×Obj)) (s:Xg) (σ:St) (H:Hp) (Q:VK),Inv X pins σ H s->t σ H Q->X4 (Qd X.prog X.w) X.A (eval e X.env) (EP X pins σ Q) X.xe s
noncomputable def PT(X:Cx)(e:Expr)(t:TT):Prop :=
 ∀(pins:List (Addr×Obj)) (s:Xg) (σ:St) (H:Hp) (Q:Bool->Hp->Prop),Inv X pins σ H s->t σ H Q->X4 (Qd X.prog X.w) X.A (isTrue e X.env (eval e X.env)) (TP X pins σ Q) X.xe s
noncomputable def PW(X:Cx)(e:Expr)(t:TT):Prop :=
 ∀(whole:Sem Xd) (pins:List (Addr×Obj)) (s:Xg) (σ:St) (H:Hp) (Q:Bool->Hp->Prop),Inv X pins σ H s->t σ H Q->X4 (Qd X.prog X.w) X.A (isTrue e X.env whole) (TP X pins σ Q) X.xe s
theorem PW.pt{X:Cx}{e:Expr}{t:TT}(h:PW X e t):PT X e t:=h _
noncomputable def PA(X:Cx)(es:List Expr)(t:TA):Prop :=
 ∀(pos:Pos) (pins:List (Addr×Obj)) (s:Xg) (σ:St) (H:Hp) (Q:List V->Hp->Prop),Inv X pins σ H s->t σ H Q->X4 (Qd X.prog X.w) X.A (spliced (QW pos (Xo es X.env))) (AP X pins σ Q) X.xe s
noncomputable def PS(X:Cx)(st:Stmt)(t:TS):Prop :=
 ∀(pins:List (Addr×Obj)) (s:Xg) (σ:St) (H:Hp) (D:Ends),Inv X pins σ H s->t D σ H->X4 (Qd X.prog X.w) X.A (exec st X.env) (SP X pins D) X.xe s
noncomputable def PSs(X:Cx)(st:List Stmt)(t:TS):Prop :=
 ∀(pins:List (Addr×Obj)) (s:Xg) (σ:St) (H:Hp) (D:Ends),Inv X pins σ H s->t D σ H->X4 (Qd X.prog X.w) X.A (execs st X.env) (SP X pins D) X.xe s
theorem thn{α:Type}{t:Sem α}{Q Q':α->Xg->Prop}{M:Model}{A:Qo}{E:Xd->Xg->Prop}{s:Xg}(h:X4 M A t Q E s)(hQ:∀a s,Q a s->Q' a s):X4 M A t Q' E s:=Bw h hQ λ_ _ x=>x
section
variable {X:Cx}
noncomputable def Yb8(i:Nat):TE:=λσ H Q=>∃v,σ[i]? =some (some v)∧Q v H
noncomputable def tC(v:V):TE:=λ_ H Q=>Q v H
theorem Zyc{i:Nat}{x:Str}{pos:Pos}(hN:X.N[i]? =some x)(hv:Vis X.env.scope x)(hd:(x==("__debug__" : Str))=false:=by decide)(hcd:(x==("__classdict__" : Str))=false:=by decide):PE X (.Name x pos) (Yb8 i):=by
 intro pins s σ H Q I h
 obtain⟨v,e,h⟩:=h
 obtain⟨m,hn,hl⟩:=I.loc
 obtain⟨u,r,l⟩:=hl i x v hN e hv
 have fin:EP X pins σ Q u s:=⟨v,H,I,r,h⟩
 rcases l with⟨hk,hm⟩|⟨hk,c,hc,hcell⟩
 ·exact wpAny_Name (wpAny_loadName_local I.ok.kind hk hn hm fin) hd
 ·rcases hk with hk|hk
  ·exact wpAny_Name (wpAny_loadName_cell I.ok.kind hk hc hcell fin) hd
  ·exact wpAny_Name (wpAny_loadName_free I.ok.kind hk hc hcell fin hcd) hd
theorem Z29{i j pos}:PE X (.Constant (.int i) j pos) (tC (.int i)):=λ_ _ _ H _ I h=>wpAny_Constant_int ⟨.int i,H,I.tok _,⟨_,rfl⟩,h⟩
theorem Z83{b j pos}:PE X (.Constant (.bool b) j pos) (tC (.bl b)):=λ_ _ _ H _ I h=>Constant_bool ⟨.bl b,H,I,rfl,h⟩
theorem Z3i{j pos}:PE X (.Constant .none j pos) (tC .non):=λ_ _ _ H _ I h=>Constant_none ⟨.non,H,I,rfl,h⟩
theorem Z5a{x j pos}:PE X (.Constant (.str x) j pos) (tC (.str x)):=λ_ _ _ H _ I h=>Calls.Constant_str ⟨.str x,H,I.tok _,⟨_,rfl⟩,h⟩
noncomputable def Gl(X:Cx)(x:Str):Prop:=X.env.kindOf x=some .globalImplicit
theorem Zrp{E:Xd->Xg->Prop}{pins:List (Addr×Obj)}{s:Xg}{σ:St}{H:Hp}{x:Str}{u:Xd}{pos:Pos}{Q:Xd->Xg->Prop}(I:Inv X pins σ H s)(hg:Gl X x)(hm:X.mg x=some u)(h:Q u s)
  (hd:(x==("__debug__" : Str))=false:=by decide):X4 (Qd X.prog X.w) X.A (eval (.Name x pos) X.env) Q E s :=
 Calls.Name_function_global I.ok.kind hg (Calls.loadGlobal_global (by rw[I.ok.glob];exact I.mod.glob.keeps I.bk) hm h) hd
theorem Zhm{E:Xd->Xg->Prop}{pins:List (Addr×Obj)}{s:Xg}{σ:St}{H:Hp}{x:Str}{u:Xd}{pos:Pos}{Q:Xd->Xg->Prop}(I:Inv X pins σ H s)(hg:Gl X x)(hm:X.mg x=none)(hv:X3 x=some u)(h:Q u s)
  (hn:x≠"__name__" :=by decide) (hd:(x==("__debug__" : Str))=false:=by decide):X4 (Qd X.prog X.w) X.A (eval (.Name x pos) X.env) Q E s:=by
 obtain⟨mb,h1,h2⟩:=I.mod.blt
 exact Calls.Name_function_global I.ok.kind hg (Calls.loadGlobal_builtin (by rw[I.ok.glob];exact I.mod.glob.keeps I.bk) hm (by rw[I.ok.blt];exact h1.keeps I.bk) ((h2 x hn).trans hv) h) hd
theorem Z0d{x:Str}{v:V}{u:Xd}{pos:Pos}(hg:Gl X x)(hm:X.mg x=some u)(r:RelV v u)(hd:(x==("__debug__" : Str))=false:=by decide):PE X (.Name x pos) (tC v) :=
 λ_ _ _ H _ I h=>Zrp I hg hm ⟨v,H,I,r,h⟩ hd
theorem Z13{x:Str}{v:V}{u:Xd}{pos:Pos}(hg:Gl X x)(hm:X.mg x=none)(hv:X3 x=some u)(r:RelV v u)(hn:x≠"__name__" :=by decide)(hd:(x==("__debug__" : Str))=false:=by decide):PE X (.Name x pos) (tC v) :=
 λ_ _ _ H _ I h=>Zhm I hg hm hv ⟨v,H,I,r,h⟩ hn hd
noncomputable def t2I(ta tb:TE)(k:Int->Int->Hp->Prop):St->Hp->Prop:=λσ H=>ta σ H λx H1=>tb σ H1 λy H2=>∃i j,x= .int i∧y= .int j∧k i j H2
variable {a b:Expr}{ta tb:TE}{pos:Pos}
noncomputable def Z2s(p:Int->Int->Bool)(ta tb:TE):TE:=λσ H Q=>t2I ta tb (λi j H2=>Q (.bl (p i j)) H2) σ H
noncomputable abbrev tLt:TE->TE->TE:=Z2s λi j=>decide (i<j)
noncomputable abbrev tLe:TE->TE->TE:=Z2s λi j=>decide (i≤j)
noncomputable abbrev tGt:TE->TE->TE:=Z2s λi j=>decide (j<i)
noncomputable abbrev tGe:TE->TE->TE:=Z2s λi j=>decide (j≤i)
noncomputable abbrev Yek:TE->TE->TE:=Z2s λi j=>decide (i=j)
noncomputable abbrev Yej:TE->TE->TE:=Z2s λi j=>!decide (i=j)
noncomputable def tB(t:TE):TT:=λσ H Q=>t σ H λx H1=>∃c,x= .bl c∧Q c H1
variable {tA tB':TT}{rest:List Expr}
noncomputable def tOr(t u:TT):TT:=λσ H Q=>t σ H λc H1=>if c=true then Q true H1 else u σ H1 Q
noncomputable def Yde(t:TT):TT:=λσ H Q=>t σ H λc H1=>Q (!c) H1
theorem Z6t(ha:PT X a tA):PW X (.BoolOp .Or [a] pos) tA:=by
 intro wh pins s σ H Q I h
 refine isTrue_or (thn (ha pins s σ H Q I h) λc s1 e=>?_)
 cases c with
 | false=>exact isTrue_or_nil e
 | true=>exact e
theorem Z82(ha:PT X a tA)(hb:PW X (.BoolOp .Or (b :: rest) pos) tB'):PW X (.BoolOp .Or (a :: b :: rest) pos) (tOr tA tB'):=by
 intro wh pins s σ H Q I h
 refine isTrue_or (thn (ha pins s σ H _ I h) λc s1 qz9=>?_)
 obtain⟨H1,I1,q1⟩:=qz9
 cases c with
 | true=>exact⟨H1,I1,q1⟩
 | false=>exact hb wh pins s1 σ H1 Q I1 q1
theorem Z6c(ha:PT X a tA):PT X (.UnaryOp .Not a pos) (Yde tA):=by
 intro pins s σ H Q I h
 exact isTrue_not (ha pins s σ H (λc H1=>Q (!c) H1) I h)
noncomputable def Z9c(ta tb:TE):TE:=λσ H Q=>ta σ H λx H1=>∃c,x= .bl c∧if c=true then tb σ H1 Q else Q (.bl false) H1
noncomputable def Z8e(ta:TE):TE:=λσ H Q=>ta σ H λx H1=>∃c,x= .bl c∧Q (.bl (!c)) H1
theorem Z3b{op}{t:TE}(h:PE X a t):PE X (.BoolOp op [a] pos) t:=λpins s σ H Q I hw=>BoolOp_one (h pins s σ H Q I hw)
theorem Z5w(ha:PE X a ta)(hb:PE X (.BoolOp .And (b :: rest) pos) tb):PE X (.BoolOp .And (a :: b :: rest) pos) (Z9c ta tb):=by
 intro pins s σ H Q I h
 refine BoolOp_and (thn (ha pins s σ H _ I h) λv s1 qz9=>?_)
 obtain⟨x,H1,I1,r1,q1⟩:=qz9
 obtain⟨c,rfl,q1⟩:=q1
 cases r1
 refine Vi ?_
 cases c with
 | true=>exact hb pins s1 σ H1 Q I1 q1
 | false=>exact⟨.bl false,H1,I1,rfl,q1⟩
theorem Z32(ha:PE X a ta):PE X (.UnaryOp .Not a pos) (Z8e ta):=by
 intro pins s σ H Q I h
 refine UnaryOp_ (thn (ha pins s σ H _ I h) λv s1 qz9=>?_)
 obtain⟨x,H1,I1,r1,q1⟩:=qz9
 obtain⟨c,rfl,q1⟩:=q1
 cases r1
 exact not_of (Vi ⟨.bl (!c),H1,I1,rfl,q1⟩)
noncomputable def tIf(t:TT)(ta tb:TE):TE:=λσ H Q=>t σ H λc H1=>if c=true then ta σ H1 Q else tb σ H1 Q
theorem Zvp{c:Expr}(hc:PT X c tA)(ha:PE X a ta)(hb:PE X b tb):PE X (.IfExp c a b pos) (tIf tA ta tb):=by
 intro pins s σ H Q I h
 refine wpAny_IfExp (thn (hc pins s σ H _ I h) λd s1 qz9=>?_)
 obtain⟨H1,I1,q1⟩:=qz9
 cases d with
 | true=>exact ha pins s1 σ H1 Q I1 q1
 | false=>exact hb pins s1 σ H1 Q I1 q1
end
noncomputable def SqL(K:Xb)(H:Hp)(a:Addr)(xs:List V):Prop :=
 Rd H a (.lst xs)∨
  ∃(o:Obj) (its:Array Xd) (n:Nat),K.lookup a=some o∧o.cls= .type "list"∧o.dict=none∧o.data= .seq its n∧its.size≤Xr∧Vals xs its.toList
noncomputable def SqT(K:Xb)(H:Hp)(a:Addr)(xs:List V):Prop :=
 Rd H a (.tup xs)∨
  ∃(o:Obj) (its:Array Xd) (n:Nat),K.lookup a=some o∧o.cls= .type "tuple"∧o.data= .seq its n∧its.size≤Xr∧Vals xs its.toList
noncomputable def Ydf:Xd->Option V
 | .none=>some .non
 | .bool b=>some (.bl b)
 | .int i _=>some (.int i)
 | .str x _=>some (.str x)
 | .bytes b _=>some (.byt b)
 | .float b _=>some (.flt b)
 | .ref a=>some (.ref a)
 | .type n=>some (.ty n)
 | _=>none
theorem RelV.abs{x:V}{u:Xd}(r:RelV x u):Ydf u=some x:=by
 cases x with
 | non=>cases r;rfl
 | bl _=>cases r;rfl
 | int _=>obtain⟨t,rfl⟩:=r;rfl
 | str _=>obtain⟨t,rfl⟩:=r;rfl
 | byt _=>obtain⟨t,rfl⟩:=r;rfl
 | flt _=>obtain⟨t,rfl⟩:=r;rfl
 | ref _=>cases r;rfl
 | ty _=>cases r;rfl
theorem RelV.inj{x y:V}{u:Xd}(r:RelV x u)(q:RelV y u):x=y:=Qz (r.abs.symm.trans q.abs)
theorem Vals.inj{xs ys:List V}{us:List Xd}(h:Vals xs us)(k:Vals ys us):xs=ys:=by
 induction h generalizing ys with
 | nil=>cases k;rfl
 | cons r t ih=>
  cases k with
  | cons r' t'=>rw[r.inj r',ih t']
section
variable {X:Cx}{pins:List (Addr×Obj)}{σ:St}{H:Hp}{s:Xg}{a:Addr}{xs ys:List V}
theorem Inv.list(I:Inv X pins σ H s)(h:SqL X.K H a xs):∃its:List Xd,Vals xs its∧PlainL s.heap a its.toArray∧xs.length≤Xr:=by
 rcases h with h|⟨o,its,n,hk,hc,hd,hs,hz,r⟩
 ·obtain⟨z,its,n,r,e⟩:=h.ok I.hok
  exact⟨its,r,⟨_,n,e,rfl,rfl,rfl⟩,z⟩
 ·refine⟨its.toList,r,⟨o,n,I.kIn a o hk,hc,hd,by simpa using hs⟩,?_⟩
  have e:=r.length
  simp only[V0]at e
  omega
theorem Inv.tuple(I:Inv X pins σ H s)(h:SqT X.K H a xs):∃its:List Xd,Vals xs its∧UT s.heap a its.toArray∧xs.length≤Xr:=by
 rcases h with h|⟨o,its,n,hk,hc,hs,hz,r⟩
 ·obtain⟨z,its,r,p⟩:=h.ok I.hok
  exact⟨its,r,p,z⟩
 ·refine⟨its.toList,r,⟨o,I.kIn a o hk,hc,n,by simpa using hs⟩,?_⟩
  have e:=r.length
  simp only[V0]at e
  omega
theorem Inv.list_inj(I:Inv X pins σ H s)(h:SqL X.K H a xs)(h':SqL X.K H a ys):xs=ys:=by
 obtain⟨its,r,⟨o,n,e,_,_,d⟩,_⟩:=I.list h
 obtain⟨its',r',⟨o',n',e',_,_,d'⟩,_⟩:=I.list h'
 rw[e]at e';cases e'
 rw[d]at d'
 injection d' with d1 _
 have:its=its':=by simpa using congrArg Array.toList d1
 subst this
 exact r.inj r'
end
noncomputable abbrev Cx.wish(X:Cx)(E:Xd->Xg->Prop):Cx:={ X with xe:=E }
noncomputable abbrev Cx.nox(X:Cx):Cx:=X.wish λ_ _=>False
theorem Cx.Ok.wish{X:Cx}(ok:X.Ok)(E:Xd->Xg->Prop):(X.wish E).Ok :=
 ⟨ok.mod,ok.kind,ok.glob,ok.blt,ok.above,ok.inj,ok.has,ok.cab,ok.hd,ok.frames,ok.stk,ok.exf,ok.bs,ok.bsz,ok.noex,ok.exfs,ok.funs,ok.frf⟩
theorem Cx.Ok.unwish{X:Cx}{E:Xd->Xg->Prop}(ok:(X.wish E).Ok):X.Ok :=
 ⟨ok.mod,ok.kind,ok.glob,ok.blt,ok.above,ok.inj,ok.has,ok.cab,ok.hd,ok.frames,ok.stk,ok.exf,ok.bs,ok.bsz,ok.noex,ok.exfs,ok.funs,ok.frf⟩
section
variable {X:Cx}{pins:List (Addr×Obj)}{σ:St}{H:Hp}{s:Xg}{E:Xd->Xg->Prop}
theorem Inv.wish(I:Inv X pins σ H s)(E:Xd->Xg->Prop):Inv (X.wish E) pins σ H s:=⟨I.ok.wish E,I.os,I.bare,I.base,I.loc,I.cell,I.free,I.freeC,I.pin,I.hok,I.len⟩
theorem Inv.unwish(I:Inv (X.wish E) pins σ H s):Inv X pins σ H s:=⟨I.ok.unwish,I.os,I.bare,I.base,I.loc,I.cell,I.free,I.freeC,I.pin,I.hok,I.len⟩
theorem SP.unwish{D:Ends}{f:Flow}{s':Xg}(h:SP (X.wish E) pins D f s'):SP X pins D f s':=by
 cases f with
 | next=>obtain⟨σ',H',I,q⟩:=h;exact⟨σ',H',I.unwish,q⟩
 | brk=>obtain⟨σ',H',I,q⟩:=h;exact⟨σ',H',I.unwish,q⟩
 | cont=>obtain⟨σ',H',I,q⟩:=h;exact⟨σ',H',I.unwish,q⟩
 | ret u=>obtain⟨v,σ',H',I,r,q⟩:=h;exact⟨v,σ',H',I.unwish,r,q⟩
theorem PSs.nox{st:List Stmt}{t:TS}(h:PSs X.nox st t):PSs X st t:=λpins s σ H D I hw=>
 Bw (h pins s σ H D (I.wish _) hw) (λ_ _ q=>q.unwish) λ_ _ z=>Ve z
end
section
variable {X:Cx}{st:Stmt}{rest:List Stmt}{t u:TS}{e:Expr}{te:TE}{pos:Pos}
noncomputable def Yaj:TS:=λD σ H=>D.nx σ H
noncomputable def Ycy(t u:TS):TS:=λD σ H=>t { D with nx:=u D } σ H
theorem Z02:PSs X [] Yaj:=λ_ _ σ H _ I h=>wpAny_execs_nil ⟨σ,H,I,h⟩
theorem Zvt(h1:PS X st t)(h2:PSs X rest u):PSs X (st :: rest) (Ycy t u):=by
 intro pins s σ H D I h
 refine wpAny_execs_cons (thn (h1 pins s σ H { D with nx:=u D } I h) λf s1 q=>?_)
 cases f with
 | next=>
  obtain⟨σ',H',I',q⟩:=q
  exact h2 pins s1 σ' H' D I' q
 | ret v=>exact q
 | brk=>exact q
 | cont=>exact q
theorem Z1m(h1:PS X st t):PSs X [st] t:=by
 intro pins s σ H D I h
 refine wpAny_execs_cons (thn (h1 pins s σ H D I h) λf s1 q=>?_)
 cases f with
 | next=>exact wpAny_execs_nil q
 | ret v=>exact q
 | brk=>exact q
 | cont=>exact q
theorem Inv.quiet{pins:List (Addr×Obj)}{σ:St}{H:Hp}{s:Xg}(I:Inv X pins σ H s):interactive X.env=false:=by simp[interactive,I.ok.kind]
noncomputable def Z8g(te:TE):TS:=λD σ H=>te σ H λ_ H1=>D.nx σ H1
theorem Zst(he:PE X e te)(hs:Vo e none pos.line X.env=pure false:=by rfl):PS X (.Expr e pos) (Z8g te):=by
 intro pins s σ H D I h
 refine wpAny_Expr_any (thn (he pins s σ H _ I h) λv s1 qz9=>?_) I.quiet hs
 obtain⟨x,H1,I1,r1,q1⟩:=qz9
 exact⟨σ,H1,I1,q1⟩
noncomputable def Ydn(te:TE):TS:=λD σ H=>te σ H D.rt
theorem Zxq(he:PE X e te):PS X (.Return (some e) pos) (Ydn te):=by
 intro pins s σ H D I h
 refine wpAny_Return_some (thn (he pins s σ H _ I h) λv s1 qz9=>?_)
 obtain⟨x,H1,I1,r1,q1⟩:=qz9
 exact⟨x,σ,H1,I1,r1,q1⟩
noncomputable def Ydq(c:TT)(t u:TS):TS:=λD σ H=>c σ H λb H1=>if b=true then t D σ H1 else u D σ H1
theorem Yac{c:Expr}{a b:List Stmt}{tc:TT}(hc:PT X c tc)(ha:PSs X a t)(hb:PSs X b u):PS X (.If c a b pos) (Ydq tc t u):=by
 intro pins s σ H D I h
 refine wpAny_If (thn (hc pins s σ H _ I h) λd s1 qz9=>?_)
 obtain⟨H1,I1,q1⟩:=qz9
 cases d with
 | true=>exact ha pins s1 σ H1 D I1 q1
 | false=>exact hb pins s1 σ H1 D I1 q1
noncomputable def Z3r:TS:=λ_ _ _=>False
theorem Zwo:PS X st Z3r:=λ_ _ _ _ _ _ h=>h.elim
end
noncomputable abbrev TG:=V->St->Hp->(St->Hp->Prop)->Prop
noncomputable abbrev TGs:=List V->St->Hp->(St->Hp->Prop)->Prop
noncomputable def PG(X:Cx)(target:Expr)(t:TG):Prop :=
 ∀(pins:List (Addr×Obj)) (s:Xg) (σ:St) (H:Hp) (v:V) (u:Xd) (Q:St->Hp->Prop),Inv X pins σ H s->RelV v u->t v σ H Q ->
  X4 (Qd X.prog X.w) X.A (V1 target X.env u) (λ_ s'=>∃σ' H',Inv X pins σ' H' s'∧Q σ' H') X.xe s
noncomputable def PGs(X:Cx)(ts:List Expr)(t:TGs):Prop :=
 ∀(pins:List (Addr×Obj)) (s:Xg) (σ:St) (H:Hp) (vs:List V) (us:List Xd) (Q:St->Hp->Prop),Inv X pins σ H s->Vals vs us->t vs σ H Q ->
  X4 (Qd X.prog X.w) X.A (assignInOrder ((Q3 ts X.env).map (·.2)) us) (λ_ s'=>∃σ' H',Inv X pins σ' H' s'∧Q σ' H') X.xe s
noncomputable abbrev Z91:=V->V->V->Hp->(Hp->Prop)->Prop
noncomputable def Yct(X:Cx)(t:Z91):Prop :=
 ∀(pins:List (Addr×Obj)) (s:Xg) (σ:St) (H:Hp) (o i v:V) (ov iv u:Xd) (Q:Hp->Prop),Inv X pins σ H s->RelV o ov->RelV i iv->RelV v u->t o i v H Q ->
  X4 (Qd X.prog X.w) X.A (setItem ov iv u) (λ_ s'=>∃H',Inv X pins σ H' s'∧Q H') X.xe s
noncomputable abbrev TIp:=V->V->Hp->VK->Prop
section
variable {X:Cx}{pos:Pos}
noncomputable def Zs6(i:Nat):TG:=λv σ H Q=>Q (σ.set i (some v)) H
theorem Z0y{i:Nat}{x:Str}(hN:X.N.Nodup)(hi:X.N[i]? =some x)(hx:Loc X.env.scope x)(hf:X.fn x=true∨X.env.scope.names.lookup x=some .local:=by first|exact .inl rfl|exact .inr rfl|assumption):PG X (.Name x pos) (Zs6 i):=by
 intro pins s σ H v u Q I r h
 exact wpAny_assign_Name (Zoy I hN hi hx r (λs' I'=>⟨_,H,I',h⟩) hf)
noncomputable def Yeg:TGs:=λvs σ H Q=>vs=[]∧Q σ H
noncomputable def Z92(t:TG)(u:TGs):TGs:=λvs σ H Q=>∃v r,vs=v :: r∧t v σ H λσ' H'=>u r σ' H' Q
theorem Z04:PGs X [] Yeg:=by
 intro pins s σ H vs us Q I r h
 obtain⟨e,h⟩:=h
 subst e
 cases r
 exact assignInOrder_nil ⟨σ,H,I,h⟩
theorem Zww{e:Expr}{es:List Expr}{t:TG}{u:TGs}(h1:PG X e t)(h2:PGs X es u)
  (hs:(Q3 (e :: es) X.env).map (·.2)=V1 e X.env :: (Q3 es X.env).map (·.2):=by rfl):PGs X (e :: es) (Z92 t u):=by
 intro pins s σ H vs us Q I r h
 obtain⟨v,vr,e1,h⟩:=h
 subst e1
 cases r with
 | cons r rr=>
  rw[hs]
  refine assignInOrder_cons (thn (h1 pins s σ H _ _ _ I r h) λ_ s1 qz9=>?_)
  obtain⟨σ1,H1,I1,q1⟩:=qz9
  exact h2 pins s1 σ1 H1 _ _ Q I1 rr q1
noncomputable def Yc1(K:Xb)(n:Nat)(t:TGs):TG:=λv σ H Q=>∃a xs,v= .ref a∧SqT K H a xs∧xs.length=n∧t xs σ H Q
theorem Z6l{es:List Expr}{k:Nat}{t:TGs}{n:Nat}(hc:X.calm=true)(h:PGs X es t)
  (hn:(Q3 es X.env).length=n:=by rfl) (hst:(Q3 es X.env).findIdx? (·.1)=none:=by rfl):PG X (.Tuple es k pos) (Yc1 X.K n t):=by
 intro pins s σ H v u Q I r hw
 obtain⟨a,xs,e1,hq,hl,hw⟩:=hw
 subst e1
 cases r
 obtain⟨its,rv,ht,hz⟩:=I.tuple hq
 refine assign_Tuple_tuple (I.ok.hd hc) ht (by simp[hn,←hl,rv.length]) hst λh' hx=>?_
 have I1:Inv X pins σ H { s with heap:=h' }:=I.kept (t':=s.toks) λb o e=>hx b o (Xy (XF e)) e
 exact h pins _ σ H xs _ Q I1 (by simpa using rv) hw
noncomputable def Ybm(to ti:TE)(t:Z91):TG:=λv σ H Q=>to σ H λo H1=>ti σ H1 λi H2=>t o i v H2 λH3=>Q σ H3
theorem Z6i{o i:Expr}{to ti:TE}{t:Z91}(ho:PE X o to)(hi:PE X i ti)(hs:Yct X t)
  (ha:∀v,V1 (.Subscript o i pos) X.env v=(do
   let ov←holding [v] (eval o X.env)
   let iv←holding [v,ov] (eval i X.env)
   standAt pos
   holding [v,ov,iv] (setItem ov iv v)
   release [v,ov,iv] []):=by intro _;rfl):PG X (.Subscript o i pos) (Ybm to ti t):=by
 intro pins s σ H v u Q I r h
 rw[ha]
 refine Xh (V4 (thn (ho pins s σ H _ I h) λov s1 qz9=>?_))
 obtain⟨x,H1,I1,r1,q1⟩:=qz9
 refine Xh (V4 (thn (hi pins s1 σ H1 _ I1 q1) λiv s2 qz9=>?_))
 obtain⟨y,H2,I2,r2,q2⟩:=qz9
 refine Xh (wpAny_standAt (Xh (V4 (thn (hs pins s2 σ H2 x y v ov iv u _ I2 r1 r2 r q2) λ_ s3 qz9=>?_))))
 obtain⟨H3,I3,q3⟩:=qz9
 exact wpAny_release ⟨σ,H3,I3,q3⟩
noncomputable def Z33(te:TE)(g:TG):TS:=λD σ H=>te σ H λx H1=>g x σ H1 D.nx
theorem Zxr{tg e:Expr}{te:TE}{g:TG}(he:PE X e te)(hg:PG X tg g)(hs:swapsWithSole [tg] e pos.line X.env=pure false:=by rfl)(hw:swappedStores [tg] e X.env=pure none:=by rfl)
  (h1:(Q3 [tg] X.env).map (·.2)=[V1 tg X.env]:=by rfl):PS X (.Assign [tg] e pos) (Z33 te g):=by
 intro pins s σ H D I h
 refine wpAny_Assign_stores (thn (he pins s σ H _ I h) λv s1 qz9=>?_) hs hw
 obtain⟨x,H1,I1,r1,q1⟩:=qz9
 rw[h1]
 exact thn (hg pins s1 σ H1 x v _ I1 r1 q1) λ_ s2 q=>q
theorem Zya{i:Nat}{x:Str}{e:Expr}{te:TE}{pos':Pos}(hN:X.N.Nodup)(hi:X.N[i]? =some x)(hx:Loc X.env.scope x)(he:PE X e te)(hs:Vo e (some (.Name x pos')) pos.line X.env=pure false:=by rfl)(hf:X.fn x=true∨X.env.scope.names.lookup x=some .local:=by first|exact .inl rfl|exact .inr rfl|assumption) :
  PS X (.Assign [.Name x pos'] e pos) (Z33 te (Zs6 i)):=by
 intro pins s σ H D I h
 refine wpAny_Assign_Name (thn (he pins s σ H _ I h) λv s1 qz9=>?_) hs
 obtain⟨y,H1,I1,r1,q1⟩:=qz9
 exact Zoy I1 hN hi hx r1 (λs2 I2=>⟨_,H1,I2,q1⟩) hf
end
section
variable {X:Cx}{pos:Pos}
noncomputable def Z5n(c:TT)(tb:TS):TS:=λD σ H=>∃W:Nat->St->Hp->Prop,(∃m,W m σ H)∧∀m σ H,W m σ H ->
 c σ H λb H1=>if b=true then∃N:St->Hp->Prop,(∀σ' H',N σ' H'->∃m',m'<m∧W m' σ' H')∧tb { D with nx:=N,ct:=N,bk:=D.nx } σ H1 else D.nx σ H1
theorem Zw1{c:Expr}{body:List Stmt}{tc:TT}{tb:TS}(hp:PassesOwn (Qd X.prog X.w) X.A X.env X.xe)(hc:PT X c tc)(hb:PSs X body tb):PS X (.While c body [] pos) (Z5n tc tb):=by
 intro pins s σ H D I h
 obtain⟨W,⟨m0,w0⟩,turn⟩:=h
 refine wpAny_While (codeAny_whileLoop (λn s'=>∃σ' H',Inv X pins σ' H' s'∧W n σ' H') ?_ m0 ⟨σ,H,I,w0⟩)
 rintro n s1 ⟨σ1,H1,I1,w1⟩
 refine Vc hp (thn (hc pins s1 σ1 H1 _ I1 (turn n σ1 H1 w1)) λb s2 qz9=>?_)
 obtain⟨H2,I2,q2⟩:=qz9
 cases b with
 | true=>
  obtain⟨N,hN,q2⟩:=q2
  rw[if_pos rfl]
  refine Vc hp (thn (hb pins s2 σ1 H2 _ I2 q2) λf s3 q3=>?_)
  cases f with
  | next=>
   obtain⟨σ3,H3,I3,n3⟩:=q3
   obtain⟨m',hm,w3⟩:=hN σ3 H3 n3
   exact⟨m',hm,σ3,H3,I3,w3⟩
  | cont=>
   obtain⟨σ3,H3,I3,n3⟩:=q3
   obtain⟨m',hm,w3⟩:=hN σ3 H3 n3
   exact⟨m',hm,σ3,H3,I3,w3⟩
  | brk=>exact q3
  | ret v=>exact q3
 | false=>
  rw[if_neg XC]
  exact wpAny_execs_nil ⟨σ1,H2,I2,q2⟩
end
set_option genInjectivity false in
structure It where
 go:Nat->Hp->Prop
 yld:Nat->Hp->V->Hp->Prop
 stop:Nat->Hp->Prop
noncomputable def Zjo(X:Cx)(pins:List (Addr×Obj))(H:Hp)(b:Addr):Prop :=
 H b=none∧b≠X.env.locals∧b∉X.fs∧(b∈X.ex∨X.s₀.heap.objs.size≤b)∧(∀x c,X.env.cells.lookup x=some c->c≠b)∧∀p∈X.pn ++ pins,p.1≠b
theorem Inv.fpOk{X:Cx}{pins:List (Addr×Obj)}{σ:St}{H H':Hp}{s:Xg}{b:Addr}(I:Inv X pins σ H s)(hb:s.heap.objs.size≤b)(hn:H' b=none):Zjo X pins H' b:=by
 refine⟨hn,XR (Qc I.lt hb),I.nofs hb,.inr (Ql I.sz hb),λx c e z=>?_,λp hp z=>?_⟩
 ·obtain⟨v,q⟩:=I.cell x c e
  exact absurd (Qc q.lt (by rw[z];exact hb)) (VM _)
 ·exact absurd (Qc (XF (I.pin p hp).1) (by rw[z];exact hb)) (VM _)
structure Turn(P:X8)(w:Qs)(K:Xb)(tg:Expr)(J:It)(fp:List Addr)(it:Addr)(tn:Nat->Heap->Prop):Prop where
 mem:it∈fp
 obj:∀i h,tn i h->∀b∈fp,∃o,h.get? b=some o∧∀v,o.data≠ .cell v
 keep:∀i h h',tn i h->(∀b∈fp,∀o,h.get? b=some o->h'.get? b=some o)->tn i h'
 item:∀(X:Cx),X.prog=P->X.w=w->X.K=K->X.calm=true->∀(i:Nat) (pins:List (Addr×Obj)) (s:Xg) (σ:St) (H:Hp) (E:Xd->Xg->Prop),Inv X pins σ H s->(∀b∈fp,Zjo X pins H b)->tn i s.heap->J.go i H ->
  X4 (Qd P w) X.A (pyNext (.ref it)) (λr s1=>∃u,r=some u∧
   X4 (Qd P w) X.A (Ud tg (.ref it) u) (λ_ s2=>∃x H',Inv X pins σ H' s2∧RelV x u∧J.yld i H x H'∧tn (i+1) s2.heap∧∀b∈fp,H' b=none) E s1) E s
 done:∀(X:Cx),X.prog=P->X.w=w->X.K=K->X.calm=true->∀(i:Nat) (pins:List (Addr×Obj)) (s:Xg) (σ:St) (H:Hp) (E:Xd->Xg->Prop),Inv X pins σ H s->(∀b∈fp,Zjo X pins H b)->tn i s.heap->J.stop i H ->
  X4 (Qd P w) X.A (pyNext (.ref it)) (λr s1=>r=none∧Inv X pins σ H s1) E s
 self:∀(A:Qo) (i:Nat) (s:Xg) (Q:Xd->Xg->Prop) (E:Xd->Xg->Prop),tn i s.heap->Q (.ref it) s->X4 (Qd P w) A (pyIter (.ref it)) Q E s
noncomputable abbrev TI:=St->Hp->(It->Hp->Prop)->Prop
noncomputable def PIE(X:Cx)(pins:List (Addr×Obj))(σ:St)(tg:Expr)(R:It->Hp->Prop)(itv:Xd)(s2:Xg):Prop :=
 ∃(it:Addr) (fp:List Addr) (tn:Nat->Heap->Prop) (J:It) (H':Hp),itv= .ref it∧Inv X pins σ H' s2∧Turn X.prog X.w X.K tg J fp it tn∧tn 0 s2.heap∧(∀b∈fp,Zjo X pins H' b)∧R J H'
noncomputable def PI(X:Cx)(tg iter:Expr)(wi:TI):Prop :=
 ∀(pins:List (Addr×Obj)) (s:Xg) (σ:St) (H:Hp) (R:It->Hp->Prop),Inv X pins σ H s->wi σ H R ->
  X4 (Qd X.prog X.w) X.A (eval iter X.env) (λv s1=>X4 (Qd X.prog X.w) X.A (pyIter v) (PIE X pins σ tg R) X.xe s1) X.xe s
theorem Z6n{M:Model}{A:Qo}{E:Xd->Xg->Prop}{s:Xg}{tg:Expr}{it:Addr}{u:Xd}{o:Obj}{n:String}{vs:Array Xd}{Q:Unit->Xg->Prop}(ho:s.heap.get? it=some o)(hc:o.cls= .type n)(hd:o.data= .fields vs)
  (hn:["enumerate","zip","dict_itemiterator","dict_reverseitemiterator","odict_iterator","itertools.zip_longest","itertools.pairwise"].contains n=false) (hQ:Q () s):X4 M A (Ud tg (.ref it) u) Q E s:=by
 unfold Ud
 cases tg<;>first
  | exact X7 hQ
  | (cases u<;>first
    | exact X7 hQ
    | (refine Xh (wpAny_load ho ?_)
       rw[hc,hd]
       show X4 M A (if(["enumerate","zip","dict_itemiterator","dict_reverseitemiterator","odict_iterator","itertools.zip_longest","itertools.pairwise"].contains n&&vs[0]? ==some (rawInt _))=true then _ else _) Q E s
       rw[if_neg (by intro h;rw[hn,Bool.false_and]at h;cases h)]
       exact X7 hQ))
noncomputable def Itl(K:Xb)(a:Addr):It :=
 ⟨λi H=>∃xs x,SqL K H a xs∧xs[i]? =some x,λi H x H'=>H'=H∧∀xs,SqL K H a xs->xs[i]? =some x,λi H=>∃xs,SqL K H a xs∧xs.length≤i⟩
noncomputable def Itr(lo:Int)(n:Nat):It:=⟨λi _=>i<n,λi H x H'=>H'=H∧x= .int (lo+i),λi _=>n≤i⟩
theorem Zq4{P:X8}{w:Qs}{K:Xb}{tg:Expr}(a it:Addr):Turn P w K tg (Itl K a) [it] it (λi h=>h.IsListIter it a i) where
 mem:=by simp
 obj:=λi h st b hb=>by
  have e:b=it:=by simpa using hb
  subst e
  obtain⟨o,e,c,d⟩:=st
  exact⟨o,e,λv z=>by rw[d]at z;cases z⟩
 keep:=λi h h' st k=>st.at λo e=>k it (by simp) o e
 item:=by
  intro X hP hw hK hc i pins s σ H E I hf st hg
  subst hP hw hK
  obtain⟨xs,x,hq,hx⟩:=hg
  obtain⟨its,rv,p,hz⟩:=I.list hq
  obtain⟨u,hu,ru⟩:=rv.get hx
  obtain⟨f0,f1,f2,f3,f4,f5⟩:=hf it (by simp)
  refine wpAny_pyNext_list_item st p.isList (x:=u) (by simpa using hu) λh' st' sb=>?_
  have I1:Inv X pins σ H { s with heap:=h' }:=I.turned (t':=s.toks) (λb o hb e=>(sb.2 b hb).trans e) f0 f1 f3 f4 f5
  obtain⟨o,e,c,d⟩:=id st'
  exact⟨u,rfl,Z6n (s:={ s with heap:=h' }) e c d (by decide) ⟨x,H,I1,ru,⟨rfl,λys hy=>by rw[I.list_inj hy hq];exact hx⟩,st',λb hb=>(hf b hb).1⟩⟩
 done:=by
  intro X hP hw hK hc i pins s σ H E I hf st hg
  subst hP hw hK
  obtain⟨xs,hq,hx⟩:=hg
  obtain⟨its,rv,p,hz⟩:=I.list hq
  obtain⟨f0,f1,f2,f3,f4,f5⟩:=hf it (by simp)
  have hl:=rv.length
  exact wpAny_pyNext_list_end (I.ok.hd hc) st p.isList (by simp;omega) λh' eb=>⟨rfl,I.turned (t':=s.toks) (λb o hb e=>eb b o hb e) f0 f1 f3 f4 f5⟩
 self:=λ_ _ _ _ _ st h=>wpAny_pyIter_listiter st h
theorem Zpq{P:X8}{w:Qs}{K:Xb}{tg:Expr}(it:Addr)(lo:Int)(n:Nat):Turn P w K tg (Itr lo n) [it] it (λi h=>IsRangeIter h it (lo+(i:Nat)*1) ((n:Int)-(i:Nat)) 1) where
 mem:=by simp
 obj:=λi h st b hb=>by
  have e:b=it:=by simpa using hb
  subst e
  exact⟨_,st,λv z=>by
   have z':Data.fields _=Data.cell v:=z
   cases z'⟩
 keep:=λi h h' st k=>k it (by simp) _ st
 item:=by
  intro X hP hw hK hc i pins s σ H E I hf st hg
  subst hP hw hK
  obtain⟨f0,f1,f2,f3,f4,f5⟩:=hf it (by simp)
  have W:=Walks.range (prog:=X.prog) (w:=X.w) (I.ok.hd hc) it lo 1 n
  refine W.item i s _ _ hg st λv h' tk hv st' kk=>?_
  obtain⟨t,rfl⟩:=hv
  have I1:Inv X pins σ H { s with heap:=h',toks:=tk }:=I.turned (λb o hb e=>kk b o (by simpa using hb) e) f0 f1 f3 f4 f5
  refine⟨_,rfl,Z6n (s:={ s with heap:=h',toks:=tk }) (n :="range_iterator") st' rfl rfl (by decide) ⟨.int (lo+i),H,I1,⟨t,?_⟩,⟨rfl,rfl⟩,st',λb hb=>(hf b hb).1⟩⟩
  rw[Int.mul_one]
 done:=by
  intro X hP hw hK hc i pins s σ H E I hf st hg
  subst hP hw hK
  obtain⟨f0,f1,f2,f3,f4,f5⟩:=hf it (by simp)
  exact wpAny_pyNext_range_end (I.ok.hd hc) st (by have:n≤i:=hg;omega) λh' eb=>⟨rfl,I.turned (t':=s.toks) (λb o hb e=>eb b o hb e) f0 f1 f3 f4 f5⟩
 self:=λ_ _ _ _ _ st h=>wpAny_pyIter_rangeiter st h
section
variable {X:Cx}{tg:Expr}
noncomputable def Z5i(K:Xb)(tl:TE):TI:=λσ H R=>tl σ H λx H1=>∃a,x= .ref a∧(∃xs,SqL K H1 a xs)∧R (Itl K a) H1
theorem Z2a{l:Expr}{tl:TE}(hl:PE X l tl):PI X tg l (Z5i X.K tl):=by
 intro pins s σ H R I h
 refine thn (hl pins s σ H _ I h) λv s1 qz9=>?_
 obtain⟨x,H1,I1,r1,q1⟩:=qz9
 obtain⟨a,e,⟨xs,hq⟩,q⟩:=q1
 subst e
 cases r1
 obtain⟨its,rv,p,hz⟩:=I1.list hq
 refine wpAny_pyIter_list p.isList ?_
 refine⟨s1.heap.objs.size,[s1.heap.objs.size],_,_,H1,rfl,I1.kept (t':=s1.toks) λb o e=>Xl _ e,Zq4 a _,⟨_,X5 _ rfl,rfl,rfl⟩,λb hb=>?_,q⟩
 have e:b=s1.heap.objs.size:=by simpa using hb
 subst e
 exact I1.fpOk (Qa _) (I1.hok.fresh (Qa _))
theorem Zou{pins:List (Addr×Obj)}{σ:St}{H:Hp}{s:Xg}{R:It->Hp->Prop}{E:Xd->Xg->Prop}{lo hi:Int}{t u v:Tok}{tk:Nat}(I:Inv X pins σ H s)(h1:-(2^62)≤lo)(h2:lo<2^62)(h3:-(2^62)≤hi)(h4:hi<2^62)
  (q:R (Itr lo (hi-lo).toNat) H):X4 (Qd X.prog X.w) X.A (pyIter (.ref s.heap.objs.size)) (PIE X pins σ tg R) E { s with heap:=s.heap.push { cls:=.type "range",data:=.fields #[.int lo t,.int hi u,.int 1 v] },toks:=tk }:=by
 refine wpAny_pyIter_range (IsRange.new ..) (small_one h1 h2 h3 h4) ?_
 have I1:Inv X pins σ H { s with heap:=s.heap.push { cls:=.type "range",data:=.fields #[.int lo t,.int hi u,.int 1 v] },toks:=tk }:=I.kept λb o e=>Xl _ e
 refine⟨(s.heap.push { cls:=.type "range",data:=.fields #[.int lo t,.int hi u,.int 1 v] }).objs.size,[(s.heap.push { cls:=.type "range",data:=.fields #[.int lo t,.int hi u,.int 1 v] }).objs.size],_,_,H,rfl,
  I1.kept (t':=tk) λb o e=>Xl _ e,Zpq _ lo (hi-lo).toNat,?_,λb hb=>?_,q⟩
 ·have e1:lo+((0:Nat):Int)*1=lo:=by simp
  have e2:(((hi-lo).toNat:Nat):Int)-((0:Nat):Int)=Builtin.Range.rangeSize lo hi 1:=by rw[rangeSize_one];split<;>omega
  show IsRangeIter _ _ (lo+((0:Nat):Int)*1) ((((hi-lo).toNat:Nat):Int)-((0:Nat):Int)) 1
  rw[e1,e2]
  exact X5 _ rfl
 ·have e:b=(s.heap.push { cls:=.type "range",data:=.fields #[.int lo t,.int hi u,.int 1 v] }).objs.size:=by simpa using hb
  subst e
  exact I1.fpOk (Qa _) (I1.hok.fresh (Qa _))
noncomputable def Z8d(ta:TA):TI:=λσ H R=>ta σ H λvs H1=>∃j:Int,vs=[.int j]∧-(2^62)≤j∧j<2^62∧R (Itr 0 j.toNat) H1
noncomputable def Z9l(ta:TA):TI:=λσ H R=>ta σ H λvs H1=>∃i j:Int,vs=[.int i,.int j]∧(-(2^62)≤i∧i<2^62∧-(2^62)≤j∧j<2^62)∧R (Itr i (j-i).toNat) H1
theorem Zqr{a:Expr}{ta:TA}{p pos:Pos}(hg:Gl X "range")(hm:X.mg "range"=none)(ha:PA X [a] ta)(hs:Xo [a] X.env=[(false,eval a X.env)]:=by rfl):PI X tg (.Call (.Name "range" p) [a] [] pos) (Z8d ta):=by
 intro pins s σ H R I h
 refine Call_ (Zhm I hg hm boot_range (JS (thn (ha pos pins s σ H _ I h) λus s1 qz9=>?_) hs rfl))
 obtain⟨vs,H1,I1,r1,q1⟩:=qz9
 obtain⟨j,e,q1,q2,q⟩:=q1
 subst e
 cases r1 with
 | cons r rr=>
  cases rr
  obtain⟨t,rfl⟩:=r
  exact call_range_1 (Zou I1 (by omega) (by omega) q1 q2 (by simpa using q))
theorem Ztc{a b:Expr}{ta:TA}{p pos:Pos}(hg:Gl X "range")(hm:X.mg "range"=none)(ha:PA X [a,b] ta)(hs:Xo [a,b] X.env=[(false,eval a X.env),(false,eval b X.env)]:=by rfl)(hs2:Xo [b] X.env=[(false,eval b X.env)]:=by rfl) :
  PI X tg (.Call (.Name "range" p) [a,b] [] pos) (Z9l ta):=by
 intro pins s σ H R I h
 refine Call_ (Zhm I hg hm boot_range (JS (thn (ha pos pins s σ H _ I h) λus s1 ⟨vs,H1,I1,r1,q1⟩=>?_) (by rw[hs,hs2]) (by rw[hs2];rfl)))
 obtain⟨i,j,e,⟨q1,q2,q3,q4⟩,q⟩:=q1
 subst e
 cases r1 with
 | cons r rr=>
  cases rr with
  | cons r' rr=>
   cases rr
   obtain⟨t,rfl⟩:=r
   obtain⟨t',rfl⟩:=r'
   exact call_range_2 (Zou I1 q1 q2 q3 q4 q)
noncomputable def Ydx(wi:TI)(g:TG)(tb:TS):TS:=λD σ H=>wi σ H λJ H1=>∃W:Nat->Nat->St->Hp->Prop,(∃m,W 0 m σ H1)∧∀i m σ H,W i m σ H ->
 (J.stop i H∧D.nx σ H)∨(J.go i H∧∃N:St->Hp->Prop,(∀σ' H',N σ' H'->∃m',m'<m∧W (i+1) m' σ' H')∧∀x H',J.yld i H x H'->g x σ H' λσ2 H2=>tb { D with nx:=N,ct:=N,bk:=D.nx } σ2 H2)
noncomputable def Zlw(fp:List Addr)(h:Heap):List (Addr×Obj):=fp.filterMap λb=>(h.get? b).map λo=>(b,o)
theorem Zdo{fp:List Addr}{h:Heap}{b:Addr}{o:Obj}(hb:b∈fp)(e:h.get? b=some o):(b,o)∈Zlw fp h:=List.mem_filterMap.mpr ⟨b,hb,by rw[e];rfl⟩
theorem Zse{fp:List Addr}{h:Heap}{p:Addr×Obj}(hp:p∈Zlw fp h):p.1∈fp∧h.get? p.1=some p.2:=by
 obtain⟨b,hb,e⟩:=List.mem_filterMap.mp hp
 cases q:h.get? b with
 | none=>rw[q]at e;cases e
 | some o=>
  rw[q]at e
  have e':(b,o)=p:=Qz e
  subst e'
  exact⟨hb,q⟩
theorem Inv.pinned{pins:List (Addr×Obj)}{σ:St}{H:Hp}{s:Xg}{fp:List Addr}(I:Inv X pins σ H s)(hf:∀b∈fp,Zjo X pins H b)(ho:∀b∈fp,∃o,s.heap.get? b=some o∧∀v,o.data≠ .cell v):Inv X (pins ++ Zlw fp s.heap) σ H s :=
 I.pins_of λp hp=>(Qt.mp hp).elim (λz=>I.pin p (Qm _ z)) λz=>by
  obtain⟨hb,e⟩:=Zse z
  obtain⟨f0,f1,f2,_⟩:=hf p.1 hb
  obtain⟨o,e',d⟩:=ho p.1 hb
  rw[e]at e';cases e'
  exact⟨e,f0,f1,f2,d⟩
theorem Inv.unpinned{pins pl:List (Addr×Obj)}{σ:St}{H:Hp}{s:Xg}(I:Inv X (pins ++ pl) σ H s):Inv X pins σ H s:=I.pins_of λp hp=>I.pin p (Qm _ (Vf _ hp))
theorem Z6r{iter:Expr}{body:List Stmt}{wi:TI}{g:TG}{tb:TS}{pos:Pos}(hp:PassesOwn (Qd X.prog X.w) X.A X.env X.xe)(hc:X.calm=true)(hi:PI X tg iter wi)(hg:PG X tg g)(hb:PSs X body tb)
  (hs:∀x,JL iter X.env x=pure x:=by intro _;rfl):PS X (.For tg iter body [] pos) (Ydx wi g tb):=by
 intro pins s σ H D I h
 refine wpAny_For (thn (hi pins s σ H _ I h) λv s1 h1=>thn h1 λitv s2 h2=>?_) hs
 obtain⟨it,fp,tn,J,H2,e,I2,T,st2,f2,W,⟨m0,w0⟩,turn⟩:=h2
 subst e
 -- what stays true of the iterator's objects through the loop
 have stat:∀{H':Hp},(∀b∈fp,H' b=none)->∀b∈fp,Zjo X pins H' b:=λhn b hb=>⟨hn b hb,(f2 b hb).2⟩
 refine codeAny_forLoop_any (λn s'=>∃i σ' H',Inv X pins σ' H' s'∧tn i s'.heap∧(∀b∈fp,H' b=none)∧W i n σ' H') ?_ m0 ⟨0,σ,H2,I2,st2,λb hb=>(f2 b hb).1,w0⟩
 rintro n s3 ⟨i,σ3,H3,I3,st3,fr3,w3⟩
 rcases turn i n σ3 H3 w3 with⟨stop,qn⟩|⟨go,N,hN,step⟩
 ·refine Vc hp (thn (T.done X rfl rfl rfl hc i pins s3 σ3 H3 X.xe I3 (stat fr3) st3 stop) λr s4 qz9=>?_)
  obtain⟨hr,I4⟩:=qz9
  subst hr
  exact wpAny_execs_nil ⟨σ3,H3,I4,qn⟩
 ·refine Vc hp (thn (T.item X rfl rfl rfl hc i pins s3 σ3 H3 X.xe I3 (stat fr3) st3 go) λr s4 qz9=>?_)
  obtain⟨u,hr,h4⟩:=qz9
  subst hr
  refine Vc hp (thn h4 λ_ s5 qz9=>?_)
  obtain⟨x,H5,I5,r5,y5,st5,fr5⟩:=qz9
  have I5':=I5.pinned (stat fr5) (T.obj _ _ st5)
  refine Vc hp (thn (hg _ s5 σ3 H5 x u _ I5' r5 (step x H5 y5)) λ_ s6 qz9=>?_)
  obtain⟨σ6,H6,I6,q6⟩:=qz9
  refine Vc hp (thn (hb _ s6 σ6 H6 _ I6 q6) λf s7 q7=>?_)
  have again:∀{σ7:St} {H7:Hp},Inv X (pins ++ Zlw fp s5.heap) σ7 H7 s7->N σ7 H7->∃m,m<n∧∃i σ' H',Inv X pins σ' H' s7∧tn i s7.heap∧(∀b∈fp,H' b=none)∧W i m σ' H':=fun{σ7 H7} I7 n7=>by
   obtain⟨m',hm,w7⟩:=hN σ7 H7 n7
   refine⟨m',hm,i+1,σ7,H7,I7.unpinned,T.keep _ _ _ st5 λb hb o e=>(I7.pin (b,o) (Qm _ (Qm _ (Zdo hb e)))).1,λb hb=>?_,w7⟩
   obtain⟨o,e,d⟩:=T.obj _ _ st5 b hb
   exact(I7.pin (b,o) (Qm _ (Qm _ (Zdo hb e)))).2.1
  cases f with
  | next=>obtain⟨σ7,H7,I7,n7⟩:=q7;exact again I7 n7
  | cont=>obtain⟨σ7,H7,I7,n7⟩:=q7;exact again I7 n7
  | brk=>obtain⟨σ7,H7,I7,q7⟩:=q7;exact⟨σ7,H7,I7.unpinned,q7⟩
  | ret v=>obtain⟨x7,σ7,H7,I7,r7,q7⟩:=q7;exact⟨x7,σ7,H7,I7.unpinned,r7,q7⟩
end
noncomputable abbrev R2:=V->V->Hp->VK->Prop
noncomputable def OpR(X:Cx)(f:Xd->Xd->Sem Xd)(r:R2):Prop :=
 ∀(pins:List (Addr×Obj)) (s:Xg) (σ:St) (H:Hp) (x y:V) (v u:Xd) (Q:VK),Inv X pins σ H s->RelV x v->RelV y u->r x y H Q ->
  X4 (Qd X.prog X.w) X.A (f v u) (EP X pins σ Q) X.xe s
noncomputable def UnR(X:Cx)(f:Xd->Sem Xd)(r:V->Hp->VK->Prop):Prop :=
 ∀(pins:List (Addr×Obj)) (s:Xg) (σ:St) (H:Hp) (x:V) (v:Xd) (Q:VK),Inv X pins σ H s->RelV x v->r x H Q ->
  X4 (Qd X.prog X.w) X.A (f v) (EP X pins σ Q) X.xe s
noncomputable def Zbt(X:Cx)(f:Xd)(r:List V->Hp->VK->Prop):Prop :=
 ∀(pins:List (Addr×Obj)) (s:Xg) (σ:St) (H:Hp) (xs:List V) (us:List Xd) (Q:VK),Inv X pins σ H s->Vals xs us->r xs H Q ->
  X4 (Qd X.prog X.w) X.A (call f us) (EP X pins σ Q) X.xe s
noncomputable def Yd9(X:Cx)(r:V->Hp->(Bool->Hp->Prop)->Prop):Prop :=
 ∀(pins:List (Addr×Obj)) (s:Xg) (σ:St) (H:Hp) (x:V) (v:Xd) (Q:Bool->Hp->Prop),Inv X pins σ H s->RelV x v->r x H Q ->
  X4 (Qd X.prog X.w) X.A (truthy v) (TP X pins σ Q) X.xe s
noncomputable def tOp(r:R2)(ta tb:TE):TE:=λσ H Q=>ta σ H λx H1=>tb σ H1 λy H2=>r x y H2 Q
noncomputable def tUn(r:V->Hp->VK->Prop)(ta:TE):TE:=λσ H Q=>ta σ H λx H1=>r x H1 Q
noncomputable def rI(C:Int->Int->Prop)(g:Int->Int->V):R2:=λx y H Q=>∃i j,x= .int i∧y= .int j∧C i j∧Q (g i j) H
noncomputable def rI0(g:Int->Int->V):R2:=λx y H Q=>∃i j,x= .int i∧y= .int j∧Q (g i j) H
noncomputable def rU(g:Int->V):V->Hp->VK->Prop:=λx H Q=>∃i,x= .int i∧Q (g i) H
section
variable {X:Cx}{a b c:Expr}{ta tb tc:TE}{pos:Pos}
theorem Z79(ha:PE X a ta)(hb:PE X b tb){pins:List (Addr×Obj)}{s:Xg}{σ:St}{H:Hp}{R:V->V->Hp->Prop}(I:Inv X pins σ H s)
  (h:ta σ H λx H1=>tb σ H1 λy H2=>R x y H2) {Q:Xd->Xg->Prop} {f:Xd->Xd->Sem Xd}
  (hf:∀v u s2 x y H2,Inv X pins σ H2 s2->RelV x v->RelV y u->R x y H2->X4 (Qd X.prog X.w) X.A (f v u) Q X.xe s2) :
  X4 (Qd X.prog X.w) X.A (eval a X.env) (λv s₁=>X4 (Qd X.prog X.w) X.A (eval b X.env) (λu s₂=>X4 (Qd X.prog X.w) X.A (f v u) Q X.xe s₂) X.xe s₁) X.xe s:=by
 refine thn (ha pins s σ H _ I h) λv s1 qz9=>?_
 obtain⟨x,H1,I1,r1,q1⟩:=qz9
 refine thn (hb pins s1 σ H1 _ I1 q1) λu s2 qz9=>?_
 obtain⟨y,H2,I2,r2,q2⟩:=qz9
 exact hf v u s2 x y H2 I2 r1 r2 q2
theorem Zz6{op:Operator}{r:R2}(ho:OpR X (BL op) r)(ha:PE X a ta)(hb:PE X b tb):PE X (.BinOp a op b pos) (tOp r ta tb):=by
 intro pins s σ H Q I h
 exact wpAny_BinOp (Z79 ha hb I h λv u s2 x y H2 I2 rx ry q=>ho pins s2 σ H2 x y v u Q I2 rx ry q)
theorem Z9u{op:UnaryOp}{r:V->Hp->VK->Prop}(ho:UnR X (unaryOp op) r)(ha:PE X a ta):PE X (.UnaryOp op a pos) (tUn r ta):=by
 intro pins s σ H Q I h
 refine UnaryOp_ (thn (ha pins s σ H _ I h) λv s1 qz9=>?_)
 obtain⟨x,H1,I1,r1,q1⟩:=qz9
 exact ho pins s1 σ H1 x v Q I1 r1 q1
theorem opI{f:Xd->Xd->Sem Xd}{C:Int->Int->Prop}{g:Int->Int->Int}
  (rule:∀(i j:Int) (t u:Tok) (s:Xg) (Q:Xd->Xg->Prop) (E:Xd->Xg->Prop),C i j->Q (.int (g i j) s.toks) { s with toks:=s.toks+1 }->X4 (Qd X.prog X.w) X.A (f (.int i t) (.int j u)) Q E s) :
  OpR X f (rI C λi j=>.int (g i j)):=by
 intro pins s σ H x y v u Q I rx ry h
 obtain⟨i,j,rfl,rfl,hc,q⟩:=h
 obtain⟨t,rfl⟩:=rx
 obtain⟨t',rfl⟩:=ry
 exact rule i j t t' s _ _ hc ⟨.int (g i j),H,I.tok _,⟨_,rfl⟩,q⟩
theorem Ybl{f:Xd->Xd->Sem Xd}{g:Int->Int->Int}
  (rule:∀(i j:Int) (t u:Tok) (s:Xg) (Q:Xd->Xg->Prop) (E:Xd->Xg->Prop),Q (.int (g i j) s.toks) { s with toks:=s.toks+1 }->X4 (Qd X.prog X.w) X.A (f (.int i t) (.int j u)) Q E s) :
  OpR X f (rI0 λi j=>.int (g i j)):=by
 intro pins s σ H x y v u Q I rx ry h
 obtain⟨i,j,rfl,rfl,q⟩:=h
 obtain⟨t,rfl⟩:=rx
 obtain⟨t',rfl⟩:=ry
 exact rule i j t t' s _ _ ⟨.int (g i j),H,I.tok _,⟨_,rfl⟩,q⟩
theorem Z7j{f:Xd->Xd->Sem Xd}{g:Int->Int->Bool}
  (rule:∀(i j:Int) (t u:Tok) (s:Xg) (Q:Xd->Xg->Prop) (E:Xd->Xg->Prop),Q (.bool (g i j)) s->X4 (Qd X.prog X.w) X.A (f (.int i t) (.int j u)) Q E s) :
  OpR X f (rI0 λi j=>.bl (g i j)):=by
 intro pins s σ H x y v u Q I rx ry h
 obtain⟨i,j,rfl,rfl,q⟩:=h
 obtain⟨t,rfl⟩:=rx
 obtain⟨t',rfl⟩:=ry
 exact rule i j t t' s _ _ ⟨.bl (g i j),H,I,rfl,q⟩
noncomputable def Z7y(i j:Int):Prop:=0≤j∧j≤1000000∧i.natAbs<2^64
noncomputable def CMul(i j:Int):Prop:=(-(2^64)<i∧i<2^64)∨(-(2^64)<j∧j<2^64)
theorem CMul.ok{i j:Int}(h:CMul i j):IntMulOk i j:=by
 rcases h with⟨h1,h2⟩|⟨h1,h2⟩
 ·exact .of_left (intBits_le_64 h1 h2)
 ·exact .of_right (intBits_le_64 h1 h2)
theorem Z7e:OpR X (BL .Add) (rI0 λi j=>.int (i+j)):=Ybl λ_ _ _ _ _ _ _ q=>add_int q
theorem Z37:OpR X (BL .Sub) (rI0 λi j=>.int (i-j)):=Ybl λ_ _ _ _ _ _ _ q=>sub_int q
theorem Z1e:OpR X (BL .Mod) (rI (λ_ j=>j≠0) λi j=>.int (i.fmod j)):=opI λ_ _ _ _ _ _ _ hc q=>mod_int' hc q
theorem Z4w:OpR X (BL .Pow) (rI Z7y λi j=>.int (i^j.toNat)):=opI λ_ _ _ _ _ _ _ hc q=>pow_int_small hc.1 hc.2.1 hc.2.2 q
theorem unI{f:Xd->Sem Xd}{g:Int->Int}
  (rule:∀(i:Int) (t:Tok) (s:Xg) (Q:Xd->Xg->Prop) (E:Xd->Xg->Prop),Q (.int (g i) s.toks) { s with toks:=s.toks+1 }->X4 (Qd X.prog X.w) X.A (f (.int i t)) Q E s) :
  UnR X f (rU λi=>.int (g i)):=by
 intro pins s σ H x v Q I rx h
 obtain⟨i,rfl,q⟩:=h
 obtain⟨t,rfl⟩:=rx
 exact rule i t s _ _ ⟨.int (g i),H,I.tok _,⟨_,rfl⟩,q⟩
theorem Z24:UnR X (unaryOp .USub) (rU λi=>.int (-i)):=unI λ_ _ _ _ _ q=>neg_int q
end
section
variable {X:Cx}{a b c:Expr}{ta tb tc:TE}{pos:Pos}
theorem Z3f{pins:List (Addr×Obj)}{σ:St}{H:Hp}{s:Xg}{Q:VK}{k k':Bool}(I:Inv X pins σ H s)(q:Q (.bl k) H)(e:k=k'):EP X pins σ Q (.bool k') s:=by
 subst e
 exact⟨.bl k,H,I,rfl,q⟩
theorem Zv9:OpR X (JB .Lt) (rI0 λi j=>.bl (decide (i<j))):=Z7j λ_ _ _ _ _ _ _ q=>lt_int q
theorem Z4r:OpR X (JB .LtE) (rI0 λi j=>.bl (decide (i≤j))):=Z7j λ_ _ _ _ _ _ _ q=>le_int q
theorem Z6v:OpR X (JB .Gt) (rI0 λi j=>.bl (decide (j<i))):=Z7j λ_ _ _ _ _ _ _ q=>gt_int q
theorem Z9q:OpR X (JB .GtE) (rI0 λi j=>.bl (decide (j≤i))):=Z7j λ_ _ _ _ _ _ _ q=>ge_int q
theorem Zt7:OpR X (JB .IsNot) (λx y H Q=>y= .non∧Q (.bl (!decide (x= .non))) H):=by
 intro pins s σ H x y v u Q I rx ry h
 obtain⟨rfl,q⟩:=h
 cases ry
 refine isnot_none_gen (Z3f I q ?_)
 cases x<;>first
  | (cases rx;rfl)
  | (obtain⟨t,rfl⟩:=rx;rfl)
theorem Wy(b:Expr){op:CmpOp}(h:op≠ .In:=by decide)(h2:op≠ .NotIn:=by decide):V5 op b=false:=by
 have e1:(op==CmpOp.In)=false:=by cases op<;>first|rfl|exact absurd rfl h
 have e2:(op==CmpOp.NotIn)=false:=by cases op<;>first|rfl|exact absurd rfl h2
 cases b<;>simp[V5,e1,e2]
theorem Zy4{op:CmpOp}{r:R2}(ho:OpR X (JB op) r)(ha:PE X a ta)(hb:PE X b tb)(hm:V5 op b=false):PE X (.Compare a [op] [b] pos) (tOp r ta tb):=by
 intro pins s σ H Q I h
 exact wpAny_Compare1 (Z79 ha hb I h λv u s2 x y H2 I2 rx ry q=>ho pins s2 σ H2 x y v u Q I2 rx ry q) hm
noncomputable def Z5e(t:TE):TT:=λσ H Q=>t σ H λx H'=>∃k,x= .bl k∧Q k H'
theorem Zz9{op:CmpOp}{r:R2}(ho:OpR X (JB op) r)(ha:PE X a ta)(hb:PE X b tb)(hm:V5 op b=false):PT X (.Compare a [op] [b] pos) (Z5e (tOp r ta tb)):=by
 intro pins s σ H Q I h
 refine wpAny_isTrue_Compare1 (thn (ha pins s σ H _ I h) λv s1 ⟨x,H1,I1,r1,q1⟩=>thn (hb pins s1 σ H1 _ I1 q1) λu s2 ⟨y,H2,I2,r2,q2⟩=>
  thn (ho pins s2 σ H2 x y v u _ I2 r1 r2 q2) λc s3 ⟨z,H3,I3,r3,k,e,q3⟩=>?_) hm
 subst e
 cases r3
 exact Vi ⟨H3,I3,q3⟩
noncomputable def Zx2(r r':R2)(ta tb tc:TE):TE:=λσ H Q=>ta σ H λx H1=>tb σ H1 λy H2=>r x y H2 λz H3=>∃k,z= .bl k∧
 (if k=true then tc σ H3 λw' H4=>r' y w' H4 Q else Q (.bl false) H3)
theorem Zvu{op op':CmpOp}{r r':R2}(ho:OpR X (JB op) r)(ho':OpR X (JB op') r')(ha:PE X a ta)(hb:PE X b tb)(hc:PE X c tc)
  (hm:lastMarks [op,op'] [b,c]=false:=by with_unfolding_all rfl):PE X (.Compare a [op,op'] [b,c] pos) (Zx2 r r' ta tb tc):=by
 intro pins s σ H Q I h
 refine Compare_chain (thn (ha pins s σ H _ I h) λv s1 ⟨x,H1,I1,r1,q1⟩=>chain_link (thn (hb pins s1 σ H1 _ I1 q1) λu s2 ⟨y,H2,I2,r2,q2⟩=>
  thn (ho pins s2 σ H2 x y v u _ I2 r1 r2 q2) λd s3 ⟨z,H3,I3,r3,k,e,q3⟩=>?_)) hm
 subst e
 cases r3
 refine Vi ?_
 cases k with
 | false=>exact ite_ff ⟨.bl false,H3,I3,rfl,q3⟩
 | true=>exact ite_tt (chain_last (thn (hc pins s3 σ H3 _ I3 q3) λw' s4 ⟨z',H4,I4,r4,q4⟩=>ho' pins s4 σ H4 y z' u w' Q I4 r2 r4 q4))
noncomputable def Z9i(K:Xb)(x:V)(H:Hp)(k:Bool):Prop :=
 match x with
 | .non=>k=false
 | .bl b=>k=b
 | .int i=>k=(i !=0)
 | .str y=>y.length≤Xr∧k=((y.length:Int) !=0)
 | .byt y=>y.size≤Xr∧k=((y.size:Int) !=0)
 | .ref p=>(∃xs,SqL K H p xs∧k= !xs.isEmpty)∨(∃xs,SqT K H p xs∧k= !xs.isEmpty)∨∃kvs,H p=some (.dK kvs)∧k= !kvs.isEmpty
 | _=>False
theorem Zp0{κ:Type}{kvs:List (κ×V)}{vs:List (κ×Xd)}(r:KV kvs vs):(!vs.isEmpty)= !kvs.isEmpty:=by
 cases r<;>rfl
theorem Zie{xs:List V}{its:List Xd}(r:Vals xs its):(!its.toArray.isEmpty)= !xs.isEmpty:=by
 cases r<;>simp
theorem Ziv:(Xr:Nat)<2^63:=by rw[Qg];decide
theorem Z3x:Yd9 X (λx H Q=>∃k,Z9i X.K x H k∧Q k H):=by
 intro pins s σ H x v Q I rx h
 obtain⟨k,e,q⟩:=h
 have hl:=Ziv
 have hs:Xr=16777216:=Qg
 cases x with
 | non=>
  cases rx
  have e':k=false:=e
  subst e'
  exact truthy_none ⟨H,I,q⟩
 | bl b=>
  cases rx
  have e':k=b:=e
  subst e'
  exact Vi ⟨H,I,q⟩
 | int i=>
  obtain⟨t,rfl⟩:=rx
  have e':k=(i !=0):=e
  subst e'
  exact PySem.P.truthy_int ⟨H,I,q⟩
 | str y=>
  obtain⟨t,rfl⟩:=rx
  obtain⟨hy,e'⟩:y.length≤Xr∧k=((y.length:Int) !=0):=e
  subst e'
  exact PySem.P.truthy_str (by omega) ⟨H,I.tok _,q⟩
 | byt y=>
  obtain⟨t,rfl⟩:=rx
  obtain⟨hy,e'⟩:y.size≤Xr∧k=((y.size:Int) !=0):=e
  subst e'
  exact PySem.W.truthy_bytes (by omega) ⟨H,I.tok _,q⟩
 | ref p=>
  cases rx
  have e':(∃xs,SqL X.K H p xs∧k= !xs.isEmpty)∨(∃xs,SqT X.K H p xs∧k= !xs.isEmpty)∨∃kvs,H p=some (.dK kvs)∧k= !kvs.isEmpty:=e
  rcases e' with⟨xs,hx,e'⟩|⟨xs,hx,e'⟩|⟨kvs,hx,e'⟩
  ·subst e'
   obtain⟨its,r,pl,hz⟩:=I.list hx
   have hlen:=r.length
   exact wpAny_truthy_list pl.isList (by simp only[Xx];omega) ⟨H,I.tok _,by rw[Zie r];exact q⟩
  ·subst e'
   obtain⟨its,r,pl,hz⟩:=I.tuple hx
   have hlen:=r.length
   exact truthy_tuple pl (by simp only[Xx];omega) ⟨H,I.tok _,by rw[Zie r];exact q⟩
  ·subst e'
   obtain⟨hz,hS,vs,r,m⟩:kvs.length≤Xr∧(p==sysModules)=false∧∃vs,KV kvs vs∧s.heap.DictOf (Zm3 X.prog X.w) p vs:=I.hok p _ hx
   have hlen:kvs.length=vs.length:=Paired.length r
   exact wpAny_truthy_dict hS m (by omega) ⟨H,I.tok _,by rw[Zp0 r];exact q⟩
 | _=>exact(show False from e).elim
theorem Zve(ha:PE X a ta)(he:∀whole,isTrue a X.env whole=(do let v←whole;standAt a.pos;holding [v] (truthy v))) :
  PT X a (λσ H Q=>ta σ H λx H'=>∃k,Z9i X.K x H' k∧Q k H'):=by
 intro pins s σ H Q I h
 refine isTrue_plain (thn (ha pins s σ H _ I h) λv s1 qz9=>?_) (he _)
 obtain⟨x,H1,I1,r1,q1⟩:=qz9
 exact Z3x pins s1 σ H1 x v Q I1 r1 q1
theorem vals1{x:V}{us:List Xd}(r:Vals [x] us):∃u,us=[u]∧RelV x u:=by
 cases r with
 | cons r1 r2=>cases r2;exact⟨_,rfl,r1⟩
theorem vals2{x y:V}{us:List Xd}(r:Vals [x,y] us):∃u w',us=[u,w']∧RelV x u∧RelV y w':=by
 cases r with
 | cons r1 r2=>
  cases r2 with
  | cons r3 r4=>cases r4;exact⟨_,_,rfl,r1,r3⟩
theorem Zjs:Zbt X (.builtin "abs") (λxs H Q=>∃i,xs=[.int i]∧Q (.int (if i<0 then -i else i)) H):=by
 intro pins s σ H xs us Q I r h
 obtain⟨i,rfl,q⟩:=h
 obtain⟨u,rfl,t,rfl⟩:=vals1 r
 exact call_abs_int λu tk=>⟨.int (if i<0 then -i else i),H,I.tok _,⟨_,rfl⟩,q⟩
theorem Zqu(hc:X.calm=true):Zbt X (.builtin "max") (λxs H Q=>∃i j,xs=[.int i,.int j]∧Q (.int (if j>i then j else i)) H):=by
 intro pins s σ H xs us Q I r h
 obtain⟨i,j,rfl,q⟩:=h
 obtain⟨u,w',rfl,⟨t,rfl⟩,⟨t',rfl⟩⟩:=vals2 r
 refine max_two_ints (I.ok.hd hc) λh' tk k=>⟨_,H,I.kept k,?_,q⟩
 by_cases hj:j>i
 ·rw[if_pos hj,if_pos hj];exact⟨_,rfl⟩
 ·rw[if_neg hj,if_neg hj];exact⟨_,rfl⟩
theorem Zlx(hc:X.calm=true):Zbt X (.builtin "min") (λxs H Q=>∃i j,xs=[.int i,.int j]∧Q (.int (if j<i then j else i)) H):=by
 intro pins s σ H xs us Q I r h
 obtain⟨i,j,rfl,q⟩:=h
 obtain⟨u,w',rfl,⟨t,rfl⟩,⟨t',rfl⟩⟩:=vals2 r
 refine min_two_ints (I.ok.hd hc) λh' tk k=>⟨_,H,I.kept k,?_,q⟩
 by_cases hj:j<i
 ·rw[if_pos hj,if_pos hj];exact⟨_,rfl⟩
 ·rw[if_neg hj,if_neg hj];exact⟨_,rfl⟩
end
structure ObjM(h:Heap)(x dx C:Addr)(mA:Str->Option Xd):Prop where
 obj:h.get? x=some (PySem.W.instObj C dx)
 ns:h.Ns1 dx mA
 ne:dx≠x
theorem Zss{h:Heap}{dx:Addr}{mA:Str->Option Xd}(n:h.Ns1 dx mA):∃od,h.get? dx=some od∧∀name,PySem.W.lookIn name od=some (mA name):=by
 obtain⟨o,es,ep,ho,hd,hk,_,hm⟩:=n
 refine⟨o,ho,λname=>?_⟩
 have e:=hm name
 unfold nsFind findBy at e
 rw[←Array.find?_toList]at e
 unfold PySem.W.lookIn
 rw[hd]
 dsimp only
 split
 ·rename_i y q
  rw[q]at e
  exact congrArg some e
 ·rename_i q
  rw[q]at e
  have a:es.toList.any (·.refKey)=false:=by
   rw[List.any_eq_false]
   intro y hy
   obtain⟨z,t,hkey⟩:=hk y (Array.mem_toList_iff.mp hy)
   simp[DictEntry.refKey,hkey]
  have a':¬es.toList.any (·.refKey)=true:=by rw[a];exact XC
  rw[if_neg a']
  exact congrArg some e
theorem ObjM.look{h:Heap}{x dx C:Addr}{mA:Str->Option Xd}(I:ObjM h x dx C mA):∃od,PySem.W.InstAt h x (PySem.W.instObj C dx) C (some od)∧∀name,PySem.W.lookIn name od=some (mA name) :=
 let⟨od,ho,hl⟩:=Zss I.ns
 ⟨od,⟨I.obj,rfl,rfl,ho⟩,hl⟩
section
variable {prog:X8}{w:Qs}{A:Qo}{E:Xd->Xg->Prop}{s:Xg}{K:Xb}{x dx C f:Addr}{mA:Str->Option Xd}{name:Str}{v:Xd}
end
section
variable {P:X8}{w:Qs}{H H':Hp}{h h':Heap}{a C dx:Addr}{fs fs':List (Str×V)}
theorem Z10(hok:HOk P w H h)(e:H a=some (.ins C dx fs)):∃mA,ObjM h a dx C mA∧(∀f,RelO (fs.lookup f) (mA f))∧PySem.Within mA (fs.map (·.1))∧fs.length≤1000∧H dx=some (.own a):=by
 obtain⟨d,z,ne,ob,mA,n,r,q⟩:=(show ObjOk P w H h a (.ins C dx fs)from hok a _ e)
 exact⟨mA,⟨ob,n,ne⟩,r,q,z,d⟩
end
structure Cls(K:Xb)(C:Addr):Prop where
 pg:PySem.W.plainGet K C Str.empty=true
 hd:PySem.W.hasDictIn K C=true
 po:PySem.W.plainOver K C=true
 sa:Br K (.ref C) "__setattr__"=some (some (.builtin "object.__setattr__"))
theorem Cls.get{K:Xb}{C:Addr}(c:Cls K C)(f:Str):PySem.W.plainGet K C f=true:=c.pg
structure Con(K:Xb)(C:Addr)(f:Str)(v:V)(u:Xd):Prop where
 at_:Br K (.ref C) f=some (some u)
 rel:RelV v u
 get:PySem.W.specialIn K u "__get__"=some none
 cp:PySem.W.copiedNames.contains f=false
structure Meth(K:Xb)(C:Addr)(m:Str)(f:Addr):Prop where
 at_:Br K (.ref C) m=some (some (.ref f))
 fn:PySem.W.isFn K (.ref f)=true
 kp:Bb K (.ref f)=true
section
variable {X:Cx}{pins:List (Addr×Obj)}{σ:St}{H:Hp}{s:Xg}{a C dx:Addr}{fs:List (Str×V)}{f:Str}{v:V}{A:Qo}{E:Xd->Xg->Prop}
end
section
variable {X:Cx}{o e value:Expr}{f:Str}{pos pos' tpos:Pos}{ta tv:TE}
end
section
variable {X:Cx}{pins:List (Addr×Obj)}{σ:St}{H:Hp}{s:Xg}{A:Qo}{E:Xd->Xg->Prop}{Q:Xd->Xg->Prop}{c:Xd}{b:Bool}
inductive Zqp(K:Xb)(H:Hp):V->Xd->Prop where
 | non:Zqp K H .non (.type "NoneType")
 | bl (x:Bool):Zqp K H (.bl x) (.type "bool")
 | int (i:Int):Zqp K H (.int i) (.type "int")
 | str (x:Str):Zqp K H (.str x) (.type "str")
 | flt (x:UInt64):Zqp K H (.flt x) (.type "float")
 | lst {a:Addr} {xs:List V} (e:H a=some (.lst xs)):Zqp K H (.ref a) (.type "list")
 | frz {a:Addr} {o:Obj} {xs:List V} (e:H a=some (.frz o (.lst xs))):Zqp K H (.ref a) (.type "list")
 | tup {a:Addr} {xs:List V} (e:H a=some (.tup xs)):Zqp K H (.ref a) (.type "tuple")
 | dK {a:Addr} {kvs:List (Key×V)} (e:H a=some (.dK kvs)):Zqp K H (.ref a) (.type "dict")
 | dT {a:Addr} {kvs:List (List Key×V)} (e:H a=some (.dT kvs)):Zqp K H (.ref a) (.type "dict")
 | ins {a C dx:Addr} {fs:List (Str×V)} (e:H a=some (.ins C dx fs)) (cl:Cls K C) (ha:Br K (.ref C) "__class__"=some (some (.builtin "object.__class__")))
   (hn:PySem.W.specialIn K (.builtin "object.__class__") "__get__"=some (some (.builtin "getset_descriptor.__get__"))) (htk:PySem.W.takesIn K (.builtin "object.__class__")=some true)
   (hm:PySem.W.mroIn K C (.type "object")=some true):Zqp K H (.ref a) (.ref C)
theorem Zap{x:V}{u t:Xd}(I:Inv X pins σ H s)(rx:RelV x u)(ty:Zqp X.K H x t)(e:Bq X.K t c=some b)(h:∀tk,Q (.bool b) { s with toks:=tk }) :
  X4 (Qd X.prog X.w) A (call (.builtin "isinstance") [u,c]) Q E s:=by
 cases ty with
 | non=>cases(show u=QT from rx);exact QK PySem.W.kitx_none I.kIn True.intro e (λz=>nomatch z) h
 | bl y=>cases(show u=Value.bool y from rx);exact QK PySem.W.kitx_bool I.kIn True.intro e (λz=>nomatch z) h
 | int i=>obtain⟨t,q⟩:=(show∃t,u=UG i t from rx);cases q;exact QK PySem.W.kitx_int I.kIn True.intro e (λz=>nomatch z) h
 | str y=>obtain⟨t,q⟩:=(show∃t,u=Value.str y t from rx);cases q;exact QK PySem.W.kitx_str I.kIn True.intro e (λz=>nomatch z) h
 | flt y=>obtain⟨t,q⟩:=(show∃t,u=Xd.float y t from rx);cases q;exact QK PySem.W.kitx_float I.kIn True.intro e (λz=>nomatch z) h
 | @lst a xs ea=>
  cases(show u=Qw a from rx)
  obtain⟨_,_,n,_,h1⟩:=(show ObjOk X.prog X.w H s.heap a (.lst xs)from I.hok a _ ea)
  exact QK PySem.W.kitx_list I.kIn ⟨_,h1,rfl⟩ e (λz=>nomatch z) h
 | @frz a ob xs ea=>
  cases(show u=Qw a from rx)
  obtain⟨_,_,_,n,_,h1⟩:=(show ObjOk X.prog X.w H s.heap a (.frz ob (.lst xs))from I.hok a _ ea)
  exact QK PySem.W.kitx_list I.kIn ⟨_,h1,rfl⟩ e (λz=>nomatch z) h
 | @tup a xs ea=>
  cases(show u=Qw a from rx)
  obtain⟨_,_,_,p⟩:=(show ObjOk X.prog X.w H s.heap a (.tup xs)from I.hok a _ ea)
  obtain⟨o,h1,h2,_⟩:=p
  exact QK PySem.W.kitx_tuple I.kIn ⟨o,h1,h2⟩ e (λz=>nomatch z) h
 | @dK a kvs ea=>
  cases(show u=Qw a from rx)
  obtain⟨_,_,vs,_,p⟩:=(show ObjOk X.prog X.w H s.heap a (.dK kvs)from I.hok a _ ea)
  obtain⟨o,es,ep,h1,h2,_⟩:=p
  exact QK PySem.W.kitx_dict I.kIn ⟨o,h1,h2.1⟩ e (λz=>nomatch z) h
 | @dT a kvs ea=>
  cases(show u=Qw a from rx)
  obtain⟨_,_,xs,_,o,es,ep,h1,h2,_⟩:=(show ObjOk X.prog X.w H s.heap a (.dT kvs)from I.hok a _ ea)
  exact QK PySem.W.kitx_dict I.kIn ⟨o,h1,h2.1⟩ e (λz=>nomatch z) h
 | @ins a C dx fs ea cl ha hn htk hm=>
  cases(show u=Qw a from rx)
  obtain⟨mA,O,_⟩:=Z10 I.hok ea
  obtain⟨od,J,_⟩:=O.look
  exact QK (PySem.W.kitx_own (cl.get _) cl.hd ha hn htk hm) I.kIn J e (λz=>nomatch z) h
end
structure Room(k:Nat)(A:Qo):Prop where
 hd:A.handled=none
 dp:A.depth+3*k+5<recursionLimit
 un:A.units+16*k+200<cLine
theorem Room.mono{j k:Nat}{A:Qo}(r:Room k A)(h:j≤k):Room j A:=⟨r.hd,by have:=r.dp;omega,by have:=r.un;omega⟩
theorem Room.deeper{k:Nat}{A:Qo}(r:Room (k+1) A)(env:Env):Room k (A.deeper env) :=
 ⟨r.hd,by have:=r.dp;show A.depth+1+3*k+5<_;omega,by have:=r.un;show A.units+3+16*k+200<_;omega⟩
theorem Room.depth{k:Nat}{A:Qo}(r:Room k A):A.depth<recursionLimit:=by have:=r.dp;omega
theorem Room.units{k:Nat}{A:Qo}(r:Room k A):A.units+64<cLine:=by have:=r.un;omega
noncomputable def Ydy:TA:=λ_ H Q=>Q [] H
noncomputable def Z8r(ta:TE)(tr:TA):TA:=λσ H Q=>ta σ H λx H1=>tr σ H1 λxs H2=>Q (x :: xs) H2
section
variable {X:Cx}{e:Expr}{es:List Expr}{te:TE}{t:TA}{pos:Pos}
theorem Zen:PA X [] Ydy:=λ_ _ _ _ H Q I h=>Calls.spliced_nil ⟨[],H,I,.nil,h⟩
theorem Zbl(ha:PE X e te)(hr:PA X es t)(hs:Xo (e :: es) X.env=(false,eval e X.env) :: Xo es X.env:=by rfl):PA X (e :: es) (Z8r te t):=by
 intro pos pins s σ H Q I h
 rw[hs]
 show X4 _ _ (spliced ((false,eval e X.env) :: QW pos (Xo es X.env))) _ _ s
 refine Calls.spliced_cons (thn (ha pins s σ H _ I h) λu s1 qz9=>?_)
 obtain⟨x,H1,I1,r1,q1⟩:=qz9
 refine thn (hr pos pins s1 σ H1 _ I1 q1) λus s2 qz9=>?_
 obtain⟨xs,H2,I2,r2,q2⟩:=qz9
 exact⟨x :: xs,H2,I2,.cons r1 r2,q2⟩
noncomputable def Ydw(t:TA):TE:=λσ H Q=>t σ H λxs H1=>xs.length≤Xr∧∀p,H1 p=none->Q (.ref p) (upd H1 p (.tup xs))
noncomputable def Ydd(t:TA):TE:=λσ H Q=>t σ H λxs H1=>xs.length≤Xr∧∀p,H1 p=none->Q (.ref p) (upd H1 p (.lst xs))
theorem Z65{x1}(h:PA X es t):PE X (.Tuple es x1 pos) (Ydw t):=by
 intro pins s σ H Q I hq
 refine wpAny_Tuple_spliced (thn (h pos pins s σ H _ I hq) λus s1 ⟨xs,H1,I1,r,z,q⟩=>⟨by rw[←r.length];exact z,?_⟩)
 have hf:H1 s1.heap.objs.size=none:=I1.hok.fresh (Qa _)
 refine⟨.ref s1.heap.objs.size,upd H1 s1.heap.objs.size (.tup xs),I1.laid (t':=s1.toks) (λb u e=>Xl _ e) (Qa _) ?_,rfl,q _ hf⟩
 exact⟨z,us,r,⟨_,X5 _ rfl,rfl,_,rfl⟩⟩
theorem Zxm(h:PA X es t):PE X (.List es pos) (Ydd t):=by
 intro pins s σ H Q I hq
 refine wpAny_List_spliced (thn (h pos pins s σ H _ I hq) λus s1 ⟨xs,H1,I1,r,z,q⟩=>⟨by rw[←r.length];exact z,?_⟩)
 have hf:H1 s1.heap.objs.size=none:=I1.hok.fresh (Qa _)
 refine⟨.ref s1.heap.objs.size,upd H1 s1.heap.objs.size (.lst xs),I1.laid (t':=s1.toks) (λb u e=>Xl _ e) (Qa _) ?_,rfl,q _ hf⟩
 exact⟨z,us,0,r,X5 _ rfl⟩
end
noncomputable abbrev Sp:=List V->Hp->VK->XK->Prop
noncomputable abbrev CXT:=List Env->Hp->Xg->XK->Xd->Xg->Prop
structure Z70(P:X8)(w:Qs)(K:Xb)(mg:Str->Option Xd)(base:Heap)(A:Qo)(outer:List Env)(s:Xg)(H:Hp):Prop where
 frames:A.frames=some outer
 mod:Mod K mg base
 bs:∀b o,base.get? b=some o->s.heap.get? b=some o∧H b=none
 bsz:base.objs.size≤s.heap.objs.size
 funs:s.heap.FunFrames base outer
 frf:∀b∈frs outer,H b=none
 hok:HOk P w H s.heap
 bare:AllBare s.gens
noncomputable def CE(outer:List Env)(P:X8)(w:Qs)(H:Hp)(s:Xg)(Q:VK)(u:Xd)(s':Xg):Prop :=
 ∃v H',s'.os=s.os∧AllBare s'.gens∧Un (frs outer) [] H H' s.heap s'.heap∧HOk P w H' s'.heap∧RelV v u∧Q v H'
noncomputable def CR(CX:CXT)(outer:List Env)(P:X8)(w:Qs)(H:Hp)(s:Xg)(Q:VK)(E:XK)(r:Result)(s':Xg):Prop :=
 match r with
 | .ok (.ret u)=>CE outer P w H s Q u s'
 | .ok _=>False
 | .error e=>CX outer H s E e s'
structure FnOk(P:X8)(w:Qs)(K:Xb)(mg:Str->Option Xd)(base:Heap)(CX:CXT)(k:Nat)(f:Addr)(fd:XD)(ps:List Str)(sp:Sp):Prop where
 len:∀vs H Q E,sp vs H Q E->vs.length=ps.length
 run:∀(A:Qo) (outer:List Env) (s:Xg) (H:Hp) (args:Args) (us:List Xd) (vs:List V) (Q:VK) (E:XK),Room k A->Z70 P w K mg base A outer s H->BindsTo s fd args (ps.zip us)->Vals vs us->sp vs H Q E ->
  codeAny (Qd P w) A (.call (.ref f) args) (CR CX outer P w H s Q E) s
theorem FnOk.imp{P:X8}{w:Qs}{K:Xb}{mg:Str->Option Xd}{base:Heap}{CX:CXT}{k:Nat}{f:Addr}{fd:XD}{ps:List Str}{sp sp':Sp}(F:FnOk P w K mg base CX k f fd ps sp)
  (h:∀vs H Q E,sp' vs H Q E->sp vs H Q E):FnOk P w K mg base CX k f fd ps sp' :=
 ⟨λvs H Q E q=>F.len vs H Q E (h _ _ _ _ q),λA outer s H args us vs Q E hr he hb hv hs=>F.run A outer s H args us vs Q E hr he hb hv (h _ _ _ _ hs)⟩
section
variable {X:Cx}{pins:List (Addr×Obj)}{σ:St}{H:Hp}{s s':Xg}
theorem Inv.env0(I:Inv X pins σ H s):Z70 X.prog X.w X.K X.mg X.base X.A X.stack s H :=
 ⟨I.ok.frames,I.ok.mod,I.bs,Ql I.ok.bsz I.sz,I.stack,I.stkFree,I.hok,I.bare⟩
theorem Inv.after{Q:VK}{u:Xd}(I:Inv X pins σ H s)(h:CE X.stack X.prog X.w H s Q u s'):EP X pins σ Q u s':=by
 obtain⟨v,H',os,bare,un,hok,r,q⟩:=h
 obtain⟨hh,g,d,t,os'⟩:=s'
 obtain rfl:os'=s.os:=os
 exact⟨v,H',I.call (h':=hh) (g':=g) (d':=d) (t':=t) (ch:=[]) un hok bare (λb z=>absurd z (by simp)),r,q⟩
end
noncomputable def Z1n(sp:Sp)(dvs:List V)(E:XK)(t:TA):TE:=λσ H Q=>t σ H λvs H1=>sp (vs ++ dvs) H1 Q E
noncomputable def Binds(K:Xb)(fd:XD)(ps:List Str)(ds:List Xd):Prop :=
 ∀(s:Xg) (us:List Xd),K.In s.heap->(us ++ ds).length=ps.length->BindsTo s fd ⟨us,[]⟩ (ps.zip (us ++ ds))
theorem Binds.all{K:Xb}{fd:XD}{ps:List Str}(h:∀us:List Xd,us.length=ps.length->bindArgs fd ⟨us,[]⟩=pure (ps.zip us)):Binds K fd ps []:=λs us _ hl=>by
 rw[QL]at hl⊢
 exact .of_eq (h us hl)
noncomputable def Zin(CX:CXT)(X:Cx)(E:XK):Prop:=∀(pins:List (Addr×Obj)) (σ:St) (H:Hp) (s:Xg) (e:Xd) (s':Xg),Inv X pins σ H s->CX X.stack H s E e s'->X.xe e s'
section
variable {X:Cx}{CX:CXT}{k:Nat}{f C:Addr}{fd:XD}{ps:List Str}{sp:Sp}{dvs:List V}{ds:List Xd}{E:XK}{x m:Str}{p pos apos:Pos}{e o:Expr}{es:List Expr}{ta:TE}{t:TA}
theorem Zyz{pins:List (Addr×Obj)}{σ:St}{H:Hp}{s:Xg}{Q:VK}{us:List Xd}{vs:List V}(F:FnOk X.prog X.w X.K X.mg X.base CX k f fd ps sp)(hr:Room k X.A)(hb:Binds X.K fd ps ds)(hd:Vals dvs ds)(hx:Zin CX X E)
  (I:Inv X pins σ H s) (r:Vals vs us) (h:sp (vs ++ dvs) H Q E):X4 (Qd X.prog X.w) X.A (call (.ref f) us) (EP X pins σ Q) X.xe s:=by
 have r2:Vals (vs ++ dvs) (us ++ ds):=r.append hd
 have hl:(us ++ ds).length=ps.length:=by rw[←r2.length];exact F.len _ _ _ _ h
 refine wpAny_call (codeAny_mono (F.run X.A X.stack s H ⟨us,[]⟩ (us ++ ds) (vs ++ dvs) Q E hr I.env0 (hb s us I.kIn hl) r2 h) λr s' hq=>?_)
 cases r with
 | error e=>exact hx pins σ H s e s' I hq
 | ok fl=>
  cases fl with
  | ret u=>exact I.after hq
  | next=>exact Ve hq
  | brk=>exact Ve hq
  | cont=>exact Ve hq
theorem Zzz(F:FnOk X.prog X.w X.K X.mg X.base CX k f fd ps sp)(hr:Room k X.A)(hg:Gl X x)(hm:X.mg x=some (.ref f))(hk:Bb X.K (.ref f)=true)(hb:Binds X.K fd ps ds)(hd:Vals dvs ds)(hx:Zin CX X E)
  (ha:PA X (e :: es) t) (hdb:(x==("__debug__" : Str))=false:=by decide) (he:Xo (e :: es) X.env=(false,eval e X.env) :: Xo es X.env:=by rfl) (hpl:(QW pos (Xo es X.env)).any (·.1)=false:=by rfl) :
  PE X (.Call (.Name x p) (e :: es) [] pos) (Z1n sp dvs E t):=by
 intro pins s σ H Q I h
 refine BZ (Zrp I hg hm ?_ hdb)
 refine PySem.W.callWith_K (h₀:=X.base) I.ok.mod.kin hk (thn (ha pos pins s σ H _ I h) λus s1 qz9=>?_) he hpl
 obtain⟨vs,H1,I1,r,q⟩:=qz9
 refine⟨I1.kIn,?_⟩
 exact Zyz F hr hb hd hx I1 r q
structure Mk(K:Xb)(C f:Addr):Prop where
 makes:PySem.W.makesIn K C=true
 init:Br K (.ref C) "__init__"=some (some (.ref f))
 fn:PySem.W.isFn K (.ref f)=true
 kp:Bb K (.ref C)=true
end
section
variable {X:Cx}{CX:CXT}{k:Nat}{f C:Addr}{fd:XD}{ps ks:List Str}{sp:Sp}{E:XK}{x m:Str}{p pos apos kpos:Pos}{e o:Expr}{es:List Expr}{kws:List VG}{te ta:TE}{t tk:TA}{nm:Option Str}
structure Ya3(K:Xb)(fd:XD)(ps ks:List Str)(g:List Xd->List Xd->List Xd)(gV:List V->List V->List V):Prop where
 to:∀(s:Xg) (us ws:List Xd),K.In s.heap->(g us ws).length=ps.length->BindsTo s fd ⟨us,ks.zip ws⟩ (ps.zip (g us ws))
 rel:∀{vs:List V} {us:List Xd} {zs:List V} {ws:List Xd},Vals vs us->Vals zs ws->Vals (gV vs zs) (g us ws)
variable {g:List Xd->List Xd->List Xd}{gV:List V->List V->List V}
end
structure Zu(N P:List Str)(sc:Vw):Prop where
 kind:sc.kind= .function
 co:sc.isCoroutine=false
 gen:sc.isGenerator=false
 nd:N.Nodup
 pre:N.take P.length=P
 par:∀x∈P,sc.names.lookup x=some .local∨sc.names.lookup x=some .cell
 nofree:∀y∈sc.names,y.2≠ .free
theorem Zlp{kindOf:Str->Option JX}{x:Str}:∀{binds:List (Str×Xd)} {m:Str->Option Xd},(∀v,(x,v)∉binds)->bindL kindOf binds m x=m x
 | [],_,_=>rfl
 | (n,v) :: r,m,h=>by
  unfold bindL
  rw[Zlp λw hw=>h w (VN _ hw)]
  split
  ·have:x≠n:=by rintro rfl;exact h v V8
   simp[this]
  ·rfl
theorem Zl5{kindOf:Str->Option JX}{x:Str}:∀{binds:List (Str×Xd)} {m:Str->Option Xd},(∀v,(x,v)∉binds)->bindC kindOf binds m x=m x
 | [],_,_=>rfl
 | (n,v) :: r,m,h=>by
  unfold bindC
  rw[Zl5 λw hw=>h w (VN _ hw)]
  split
  ·rfl
  ·have:x≠n:=by rintro rfl;exact h v V8
   simp[this]
theorem Zlo{kindOf:Str->Option JX}{x:Str}{v:Xd}:∀{P:List Str} {vs:List Xd} {i:Nat} {m:Str->Option Xd},P.Nodup->P[i]? =some x->vs[i]? =some v->kindOf x=some .local ->
  bindL kindOf (P.zip vs) m x=some v
 | [],_,_,_,_,h,_,_=>by simp at h
 | _ :: _,[],_,_,_,_,h,_=>by simp at h
 | p :: P,w :: vs,0,m,nd,h1,h2,hk=>by
  simp at h1 h2;subst h1;subst h2
  show bindL kindOf ((p,w) :: P.zip vs) m p=_
  unfold bindL
  rw[Zlp λv hv=>(Qp.mp nd).1 (Vp hv).1,if_pos hk]
  simp
 | p :: P,w :: vs,i+1,m,nd,h1,h2,hk=>by
  show bindL kindOf ((p,w) :: P.zip vs) m x=_
  unfold bindL
  exact Zlo (i:=i) (Qp.mp nd).2 (by simpa using h1) (by simpa using h2) hk
theorem Zl8{kindOf:Str->Option JX}{x:Str}{v:Xd}:∀{P:List Str} {vs:List Xd} {i:Nat} {m:Str->Option Xd},P.Nodup->P[i]? =some x->vs[i]? =some v->kindOf x≠some .local ->
  bindC kindOf (P.zip vs) m x=some v
 | [],_,_,_,_,h,_,_=>by simp at h
 | _ :: _,[],_,_,_,_,h,_=>by simp at h
 | p :: P,w :: vs,0,m,nd,h1,h2,hk=>by
  simp at h1 h2;subst h1;subst h2
  show bindC kindOf ((p,w) :: P.zip vs) m p=_
  unfold bindC
  rw[Zl5 λv hv=>(Qp.mp nd).1 (Vp hv).1,if_neg hk]
  simp
 | p :: P,w :: vs,i+1,m,nd,h1,h2,hk=>by
  show bindC kindOf ((p,w) :: P.zip vs) m x=_
  unfold bindC
  exact Zl8 (i:=i) (Qp.mp nd).2 (by simpa using h1) (by simpa using h2) hk
noncomputable def start(N:List Str)(vs:List V):St:=vs.map some ++ Xv (N.length-vs.length) none
noncomputable def Zx7(CX:CXT)(P:X8)(w:Qs)(K:Xb)(mg:Str->Option Xd)(base:Heap)(N:List Str)(qual:Str)(scope:Vw)(f:Addr)(cd:Xd)(A:Qo)(outer:List Env)(s:Xg)(H:Hp)(E:XK):Cx where
 prog:=P
 w:=w
 K:=K
 mg:=mg
 base:=base
 A:=A.deeper (envOfC qual scope s.heap.objs.size f cd)
 N:=N
 s₀:=s
 H₀:=H
 env:=envOfC qual scope s.heap.objs.size f cd
 outer:=outer
 stack:=envOfC qual scope s.heap.objs.size f cd :: outer
 ex:=[]
 calm:=true
 fn:=λ_=>true
 pn:=[]
 xe:=λe s'=>X4 (Qd P w) (A.deeper (envOfC qual scope s.heap.objs.size f cd)) (leaving (envOfC qual scope s.heap.objs.size f cd) e) (λ_ s''=>CX outer H s E e s'') (λe' s''=>CX outer H s E e' s'') s'
theorem Zol{sc:Vw}{n:Nat}{x:Str}(h:sc.names.lookup x=some .cell):∃c,(JM n sc.names []).lookup x=some c:=by
 have q:=PySem.W.cellsFrom_some sc.names n [] (.inl h)
 exact Option.isSome_iff_exists.mp q
theorem Zq9{CX:CXT}{P:X8}{w:Qs}{K:Xb}{mg:Str->Option Xd}{base:Heap}{N ps:List Str}{qual:Str}{scope:Vw}{f:Addr}{cd:Xd}{A:Qo}{outer:List Env}{s s1:Xg}{H:Hp}{E:XK}{us:List Xd}{vs:List V}
  (S:Zu N ps scope) (hd:A.handled=none) (e0:Z70 P w K mg base A outer s H) (hl:vs.length=ps.length) (r:Vals vs us)
  (x:InCallC s s.heap.objs.size (bindL (envOfC qual scope s.heap.objs.size f cd).kindOf (ps.zip us) λ_=>none) (JM (s.heap.objs.size+1) scope.names []) (bindC (envOfC qual scope s.heap.objs.size f cd).kindOf (ps.zip us) λ_=>none) s1) :
  Inv (Zx7 CX P w K mg base N qual scope f cd A outer s H E) [] (start N vs) H s1:=by
 have hpl:ps.length≤N.length:=by have:=congrArg List.length S.pre;rw[U3]at this;omega
 obtain⟨h1,tk,rfl,hk⟩:=x.done
 have noA:∀b:Addr,b∉(Zx7 CX P w K mg base N qual scope f cd A outer s H E).ex:=λb z=>absurd (show b∈([]:List Addr)from z) (by simp)
 refine⟨⟨e0.mod,S.kind,rfl,rfl,Qa _,λy z c h1 h2=>?_,λy hy=>?_,λy c _ h=>?_,λ_=>hd,Qo.frames_deeper e0.frames,.inr ⟨rfl,rfl⟩,λb z=>absurd z (noA b),e0.bs,e0.bsz,λb _ _=>noA b,λb z=>absurd z (noA b),e0.funs,e0.frf⟩,
  rfl,e0.bare,Un.kept hk,⟨_,x.toInCall.ns,λi y v h1 h2 h3=>?_⟩,λy c h=>⟨_,x.cell y c h⟩,e0.hok.fresh (Qa _),λy c h=>?_,λp hp=>absurd (show p∈([]:List (Addr×Obj))from hp) (by simp),e0.hok.kept hk,?_⟩
 ·exact name_of_addr x.apart (JD h1) (JD h2)
 ·have hy:scope.names.lookup y=some .cell∨scope.names.lookup y=some .free:=hy
  rcases hy with hy|hy
  ·exact Zol hy
  ·exact absurd rfl (S.nofree _ (JD hy))
 ·exact Nat.le_of_lt (x.above y c (JD h))
 ·have hi:i<vs.length:=by
   unfold start at h2
   by_cases hi:i<vs.length
   ·exact hi
   ·rw[JF (by simpa using hi)]at h2
    rw[Bu]at h2
    split at h2<;>cases h2
  have ha:vs[i]? =some v:=by
   unfold start at h2
   rw[Uo (by simpa using hi),Xn]at h2
   cases e:vs[i]? with
   | none=>rw[e]at h2;cases h2
   | some a=>rw[e]at h2;cases h2;rfl
  obtain⟨u,hu,rv⟩:=r.get ha
  have hp:ps[i]? =some y:=by
   rw[←S.pre,List.getElem?_take_of_lt (by omega)];exact h1
  have ndP:ps.Nodup:=by rw[←S.pre];exact S.nd.sublist (List.take_sublist _ _)
  refine⟨u,rv,?_⟩
  rcases S.par y (Qi hp)with k|k
  ·exact .inl ⟨k,Zlo ndP hp hu k⟩
  ·obtain⟨c,e⟩:=Zol (n:=s.heap.objs.size+1) k
   refine .inr ⟨.inl k,c,e,?_⟩
   have q:=x.cell y c e
   rw[Zl8 ndP hp hu (by show scope.names.lookup y≠_;rw[k];decide)]at q
   exact q
 ·exact e0.hok.fresh (Nat.le_of_lt (x.above y c (JD h)))
 ·unfold start
  show _=N.length
  rw[XX,Xc,Bh]
  omega
theorem Z80{CX:CXT}{P:X8}{w:Qs}{K:Xb}{mg:Str->Option Xd}{base:Heap}{k:Nat}{f:Addr}{name qual:Str}{params:Arguments}{body:List Stmt}{scope:Vw}{dV kV doc pm cdv ct oc:Xd}{an od:Option Addr}
  {osl:Array (Option Xd)} {N ps:List Str} {sp:Sp} (lk:K.lookup f=some ⟨oc,od,.func (Vd name qual params body scope dV kV doc pm an cdv ct),osl⟩) (hcd:PySem.W.codeIn K cdv qual=true) (S:Zu N ps scope)
  (len:∀vs H Q E,sp vs H Q E->vs.length=ps.length)
  (hbody:∀(A:Qo) (outer:List Env) (s:Xg) (H:Hp) (vs:List V) (Q:VK) (E:XK),Room k (A.deeper (envOfC qual scope s.heap.objs.size f cdv))->sp vs H Q E ->
   ∃t,PSs (Zx7 CX P w K mg base N qual scope f cdv A outer s H E) body t∧t { nx:=λ_ H'=>Q .non H',rt:=Q } (start N vs) H) :
  FnOk P w K mg base CX (k+1) f (Vd name qual params body scope dV kV doc pm an cdv ct) ps sp:=by
 refine⟨len,λA outer s H args us vs Q E hr e0 hb r hsp=>?_⟩
 have hl:=len _ _ _ _ hsp
 have KX:K.In s.heap:=e0.mod.kin.keeps λb o e=>(e0.bs b o e).1
 have lim:s.heap.NoLimit:=e0.mod.nolimit.keeps λb o e=>(e0.bs b o e).1
 have hkind:∀y∈ps.zip us,scope.names.lookup y.1=some .local∨(scope.names.lookup y.1=some .cell∧((JM (s.heap.objs.size+1) scope.names []).lookup y.1).isSome=true):=λ⟨n,v⟩ hy=>by
  rcases S.par n (Vp hy).1 with q|q
  ·exact .inl q
  ·exact .inr ⟨q,PySem.W.cellsFrom_some _ _ _ (.inl q)⟩
 refine codeAny_call_function hr.depth (KX _ _ lk) rfl S.co S.gen rfl (PySem.W.codeRec_of KX hcd) (hb _ _ _ _ ?_)
 refine wpAny_newFunctionEnv_cells S.kind hkind λenv he s1 x=>?_
 subst he
 refine⟨lim.keeps x.toInCall.keep,codeAny_func ?_⟩
 obtain⟨t,ht,hq⟩:=hbody A outer s H vs Q E (hr.deeper _) hsp
 have I:Inv (Zx7 CX P w K mg base N qual scope f cdv A outer s H E) [] (start N vs) H s1:=Zq9 S hr.hd e0 hl r x
 refine Bw (ht [] s1 (start N vs) H _ I hq) (λfl s' hs=>?_) λe s' hs=>hs
 have fin:∀{σ':St} {H':Hp} {v:V} {u:Xd},Inv (Zx7 CX P w K mg base N qual scope f cdv A outer s H E) [] σ' H' s'->RelV v u->Q v H'->CE outer P w H s Q u s' :=
  fun{σ' H' v u} J rv q=>⟨v,H',J.os,J.bare,J.base,J.hok,rv,q⟩
 cases fl with
 | ret u=>
  obtain⟨v,σ',H',J,rv,q⟩:=hs
  exact fin J rv q
 | next=>
  obtain⟨σ',H',J,q⟩:=hs
  exact fin (v:=V.non) (u:=QT) J rfl q
 | brk=>
  obtain⟨_,_,_,q⟩:=hs
  exact Ve q
 | cont=>
  obtain⟨_,_,_,q⟩:=hs
  exact Ve q
section
variable {X:Cx}{x:Str}{p pos:Pos}{e:Expr}{es:List Expr}{t:TA}{id T:String}{r:List V->Hp->VK->Prop}
noncomputable def tCB(r:List V->Hp->VK->Prop)(t:TA):TE:=λσ H Q=>t σ H λvs H1=>r vs H1 Q
theorem Zgh(hc:Zbt X (.builtin id) r)(hg:Gl X x)(hm:X.mg x=none)(hv:X3 x=some (.builtin id))(ha:PA X (e :: es) t)(hn:x≠"__name__" :=by decide)(hdb:(x==("__debug__" : Str))=false:=by decide)
  (he:Xo (e :: es) X.env=(false,eval e X.env) :: Xo es X.env:=by rfl) (hpl:(QW pos (Xo es X.env)).any (·.1)=false:=by rfl):PE X (.Call (.Name x p) (e :: es) [] pos) (tCB r t):=by
 intro pins s σ H Q I h
 refine BZ (Zhm I hg hm hv ?_ hn hdb)
 refine PyProof.Rows.callWith_builtin1 (thn (ha pos pins s σ H _ I h) λus s1 qz9=>?_) he hpl
 obtain⟨vs,H1,I1,r1,q1⟩:=qz9
 exact hc pins s1 σ H1 vs us Q I1 r1 q1
theorem Zcr(hc:Zbt X (.type T) r)(hg:Gl X x)(hm:X.mg x=none)(hv:X3 x=some (.type T))(ha:PA X (e :: es) t)(hn:x≠"__name__" :=by decide)(hdb:(x==("__debug__" : Str))=false:=by decide)
  (he:Xo (e :: es) X.env=(false,eval e X.env) :: Xo es X.env:=by rfl) (hpl:(QW pos (Xo es X.env)).any (·.1)=false:=by rfl):PE X (.Call (.Name x p) (e :: es) [] pos) (tCB r t):=by
 intro pins s σ H Q I h
 refine BZ (Zhm I hg hm hv ?_ hn hdb)
 refine JS (thn (ha pos pins s σ H _ I h) λus s1 qz9=>?_) he hpl
 obtain⟨vs,H1,I1,r1,q1⟩:=qz9
 exact hc pins s1 σ H1 vs us Q I1 r1 q1
end
end L2
namespace HT
open PySem PyProof.Rows
section
open PySem.SeqAt
open PySem.AutoSeq1 (wpAny_loadPart')
open PySem.MeetsSeq PySem.MeetsSeq2 PySem.MeetsSeq3
end
section
variable {prog:X8}{w:Qs}{A:Qo}{E:Xd->Xg->Prop}{s:Xg}
theorem cat_tup{t b:Addr}{vs ws:List Xd}{Q:Xd->Xg->Prop}(ht:UT s.heap t vs.toArray)(hb:UT s.heap b ws.toArray)(hv:vs≠[])
  (h1:ws=[]->Q (.ref t) s) (h2:ws≠[]->Q (.ref s.heap.objs.size) { s with heap:=s.heap.push { cls:=.type "tuple",data:=.seq (vs ++ ws).toArray } })
  (hsz:vs.length+ws.length≤Xr):X4 (Qd prog w) A (BL .Add (.ref t) (.ref b)) Q E s:=by
 obtain⟨⟨cls,dd,data,sl⟩,ho,hc,n,hd⟩:=id ht
 obtain⟨⟨cls2,dd2,data2,sl2⟩,ho2,hc2,n2,hd2⟩:=id hb
 simp only at hc hd hc2 hd2
 subst hc hd hc2 hd2
 have e:vs.toArray ++ ws.toArray=(vs ++ ws).toArray:=by simp
 by_cases hw:ws=[]
 ·exact concat_meets ⟨_,ho,rfl⟩ ⟨_,ho2,rfl⟩ noFill_tuple_add seq_tuple_add UJ Us (Uh _ _)
   (tuple_addW1 t b vs.toArray ws.toArray n n2 dd dd2 sl sl2 (by simpa using hv) (by simp[hw])) ⟨ho,ho2,h1 hw⟩
 ·refine concat_meets ⟨_,ho,rfl⟩ ⟨_,ho2,rfl⟩ noFill_tuple_add seq_tuple_add UJ Us (Uh _ _)
   (tuple_addW2 t b vs.toArray ws.toArray n n2 dd dd2 sl sl2 (by simpa using hv) (by simpa using hw) (by rw[Xx,Xx];exact hsz)) ⟨ho,ho2,?_⟩
  rw[e]
  exact h2 hw
noncomputable def sIx(n d:Nat):Option Int->Nat
 | none=>d
 | some v=>if v<0 then(v+(n:Int)).toNat else min v.toNat n
theorem sIx_none(n d:Nat):sIx n d none=d:=rfl
theorem sIx_nat(n d k:Nat):sIx n d (some (k:Int))=min k n:=by
 show(if(k:Int)<0 then((k:Int)+(n:Int)).toNat else min (k:Int).toNat n)=min k n
 rw[if_neg (by omega),QH]
end
end HT
namespace L2
open PySem PySem.Spec PyProof.Rows
noncomputable abbrev TO:=St->Hp->(Option Int->Hp->Prop)->Prop
noncomputable def PO(X:Cx)(e:Option Expr)(t:TO):Prop :=
 ∀(pins:List (Addr×Obj)) (s:Xg) (σ:St) (H:Hp) (Q:Option Int->Hp->Prop),Inv X pins σ H s->t σ H Q ->
  X4 (Qd X.prog X.w) X.A (evalPart e X.env) (λu s'=>∃o H',Inv X pins σ H' s'∧IsPart u o∧Q o H') X.xe s
noncomputable def Z06:TO:=λ_ H Q=>Q none H
noncomputable def Yai(t:TE):TO:=λσ H Q=>t σ H λx H1=>∃i,x= .int i∧Q (some i) H1
section
variable {X:Cx}{e:Expr}{te:TE}{lo hi:Option Expr}{tl th:TO}{pos p2:Pos}
theorem Z1h:PO X none Z06:=by
 intro pins s σ H Q I h
 rw[evalPart_none]
 exact X7 ⟨none,H,I,.none,h⟩
theorem Z2r(h:PE X e te):PO X (some e) (Yai te):=by
 intro pins s σ H Q I hw
 rw[evalPart_some]
 refine thn (h pins s σ H _ I hw) λu s1 qz9=>?_
 obtain⟨x,H1,I1,r1,q1⟩:=qz9
 obtain⟨i,rfl,q⟩:=q1
 obtain⟨t,rfl⟩:=r1
 exact⟨some i,H1,I1,.int i t,q⟩
noncomputable def SlR(X:Cx)(r:V->Option Int->Option Int->Hp->VK->Prop):Prop :=
 ∀(pins:List (Addr×Obj)) (s:Xg) (σ:St) (H:Hp) (x:V) (v vl vu:Xd) (lo hi:Option Int) (sl:Addr) (Q:VK),Inv X pins σ H s->RelV x v->s.heap.IsSliceOf sl vl vu .none->IsPart vl lo->IsPart vu hi->r x lo hi H Q ->
  ∃T id,typeLookup (.type T) "__getitem__"=pure (some (.builtin id))∧s.TypeIs v T∧X4 (Qd X.prog X.w) X.A (getItem v (.ref sl)) (EP X pins σ Q) X.xe s
noncomputable def tSl(r:V->Option Int->Option Int->Hp->VK->Prop)(te:TE)(tl th:TO):TE:=λσ H Q=>te σ H λx H1=>tl σ H1 λl H2=>th σ H2 λu H3=>r x l u H3 Q
theorem Zuy{r:V->Option Int->Option Int->Hp->VK->Prop}(hr:SlR X r)(he:PE X e te)(hl:PO X lo tl)(hu:PO X hi th):PE X (.Subscript e (.Slice lo hi none p2) pos) (tSl r te tl th):=by
 intro pins s σ H Q I h
 refine Subscript_ (thn (he pins s σ H _ I h) λv s1 qz9=>?_)
 obtain⟨x,H1,I1,r1,q1⟩:=qz9
 refine wpAny_Slice (thn (hl pins s1 σ H1 _ I1 q1) λvl s2 qz9=>?_)
 obtain⟨l,H2,I2,pl,q2⟩:=qz9
 refine thn (hu pins s2 σ H2 _ I2 q2) λvu s3 qz9=>?_
 obtain⟨u,H3,I3,pu,q3⟩:=qz9
 rw[evalPart_none]
 refine X7 ?_
 have I4:Inv X pins σ H3 { s3 with heap:=s3.heap.push { cls:=.type "slice",data:=.fields #[vl,vu,.none] } }:=I3.kept (t':=s3.toks) λb ob q=>Xl _ q
 obtain⟨T,id,hT,ht,hg⟩:=hr pins { s3 with heap:=s3.heap.push { cls:=.type "slice",data:=.fields #[vl,vu,.none] } } σ H3 x v vl vu l u s3.heap.objs.size Q I4 r1 (Heap.IsSliceOf.new ..) pl pu q3
 show X4 (Qd X.prog X.w) X.A (subscriptTail e (.Slice lo hi none p2) v (.ref s3.heap.objs.size)) (EP X pins σ Q) X.xe { s3 with heap:=s3.heap.push { cls:=.type "slice",data:=.fields #[vl,vu,.none] } }
 exact tail_any (ops:=[.ref s3.heap.objs.size,v]) ht hT hg (by with_unfolding_all rfl)
noncomputable def Z2y(xs:List V)(lo hi:Option Int):List V:=(xs.drop (HT.sIx xs.length 0 lo)).take (HT.sIx xs.length xs.length hi-HT.sIx xs.length 0 lo)
theorem Znj(xs:List V)(lo hi:Option Int):(Z2y xs lo hi).length≤xs.length:=by
 unfold Z2y
 rw[U3,Bf]
 omega
noncomputable def Z7a(K:Xb):R2:=λx y H Q=>∃a b xs ys,x= .ref a∧y= .ref b∧SqT K H a xs∧SqT K H b ys∧xs≠[]∧xs.length+ys.length≤Xr∧
 (ys=[]->Q (.ref a) H)∧(ys≠[]->∀p,H p=none->Q (.ref p) (upd H p (.tup (xs ++ ys))))
theorem Vals.nil_iff{xs:List V}{us:List Xd}(r:Vals xs us):us=[]↔xs=[]:=by
 cases r with
 | nil=>simp
 | cons _ _=>simp
theorem Z1i:OpR X (BL .Add) (Z7a X.K):=by
 intro pins s σ H x y v u Q I rx ry h
 obtain⟨a,b,xs,ys,rfl,rfl,ha,hb,hx,hz,q1,q2⟩:=h
 cases rx
 cases ry
 obtain⟨its,r1,p1,_⟩:=I.tuple ha
 obtain⟨its2,r2,p2,_⟩:=I.tuple hb
 refine HT.cat_tup p1 p2 (λz=>hx (r1.nil_iff.mp z)) (λz=>⟨.ref a,H,I,rfl,q1 (r2.nil_iff.mp z)⟩) (λz=>?_) (by rw[←r1.length,←r2.length];exact hz)
 refine⟨.ref s.heap.objs.size,_,I.laid (t':=s.toks) (o:=.tup (xs ++ ys)) (λb ob q=>Xl _ q) (Qa _) ?_,rfl,q2 (λw=>z (r2.nil_iff.mpr w)) _ (I.hok.fresh (Qa _))⟩
 exact⟨by rw[XX];exact hz,_,r1.append r2,UT.new _ _⟩
end
noncomputable def ixN(n:Nat)(i:Int):Option Nat:=if 0≤i then(if i<n then some i.toNat else none)else if -(n:Int)≤i then some (i+n).toNat else none
noncomputable def atI{α:Type}(xs:List α)(i:Int):Option α:=(ixN xs.length i).bind λj=>xs[j]?
theorem Zmw{n:Nat}{i:Int}{j:Nat}(h:ixN n i=some j):seqIndex? i n=some j∧j<n∧-(n:Int)≤i∧i<n:=by
 unfold ixN at h
 by_cases h0:0≤i
 ·rw[if_pos h0]at h
  by_cases h1:i<n
  ·rw[if_pos h1]at h
   have e:i.toNat=j:=Qz h
   exact⟨by rw[seqIndex_of h0 h1,e],by omega,by omega,h1⟩
  ·rw[if_neg h1]at h;cases h
 ·rw[if_neg h0]at h
  by_cases h1:-(n:Int)≤i
  ·rw[if_pos h1]at h
   have e:(i+n).toNat=j:=Qz h
   exact⟨by rw[seqIndex_neg (by omega) h1,e],by omega,h1,by omega⟩
  ·rw[if_neg h1]at h;cases h
theorem Zmn{α:Type}{xs:List α}{i:Int}{v:α}(h:atI xs i=some v):∃j,seqIndex? i xs.length=some j∧xs[j]? =some v∧j<xs.length∧-(xs.length:Int)≤i∧i<xs.length:=by
 unfold atI at h
 cases e:ixN xs.length i with
 | none=>rw[e]at h;cases h
 | some j=>
  rw[e]at h
  obtain⟨h1,h2,h3,h4⟩:=Zmw e
  exact⟨j,h1,h,h2,h3,h4⟩
theorem Z19{α:Type}{xs:List α}{j:Nat}{v:α}(h:xs[j]? =some v):atI xs (j:Int)=some v:=by
 have hj:j<xs.length:=(Xu.mp h).1
 have e:ixN xs.length (j:Int)=some j:=by
  unfold ixN
  rw[if_pos (by omega),if_pos (by omega)];simp
 unfold atI;rw[e];exact h
theorem Zvq{α:Type}(xs:List α)(v:α):atI (xs ++ [v]) (-1)=some v:=by
 have hl:(xs ++ [v]).length=xs.length+1:=by simp
 have e:ixN (xs ++ [v]).length (-1)=some xs.length:=by
  unfold ixN
  rw[hl,if_neg (by decide),if_pos (by omega)]
  congr 1
  omega
 unfold atI
 rw[e]
 show(xs ++ [v])[xs.length]? =some v
 simp
noncomputable def Zhv(b:Expr):Prop:=∀o i,subscripted b false o i=operate [o,i] (getItem o i)
noncomputable def IxR(X:Cx)(r:R2):Prop :=
 ∀(value slice:Expr) (pins:List (Addr×Obj)) (s:Xg) (σ:St) (H:Hp) (x y:V) (v u:Xd) (Q:VK),Inv X pins σ H s->RelV x v->RelV y u->r x y H Q ->
  subscripted slice false v u=operate [v,u] (getItem v u)->X4 (Qd X.prog X.w) X.A (subscriptTail value slice v u) (EP X pins σ Q) X.xe s
noncomputable def MtR(X:Cx)(id:String)(r:V->List V->Hp->VK->Prop):Prop :=
 ∀(pins:List (Addr×Obj)) (s:Xg) (σ:St) (H:Hp) (x:V) (xs:List V) (v:Xd) (us:List Xd) (Q:VK),Inv X pins σ H s->RelV x v->Vals xs us->r x xs H Q ->
  X4 (Qd X.prog X.w) X.A (call (.builtin id) (v :: us)) (EP X pins σ Q) X.xe s
section
variable {X:Cx}{a b:Expr}{ta tb:TE}{pos:Pos}
theorem IxR.or{r r':R2}(h:IxR X r)(h':IxR X r'):IxR X (λx y H Q=>r x y H Q∨r' x y H Q):=by
 intro value slice pins s σ H x y v u Q I rx ry q hs
 rcases q with q|q
 ·exact h value slice pins s σ H x y v u Q I rx ry q hs
 ·exact h' value slice pins s σ H x y v u Q I rx ry q hs
theorem Zz7{r:R2}(hr:IxR X r)(ha:PE X a ta)(hb:PE X b tb)(hs:Zhv b):PE X (.Subscript a b pos) (tOp r ta tb):=by
 intro pins s σ H Q I h
 exact Subscript_ (Z79 ha hb I h λv u s2 x y H2 I2 rx ry q=>hr a b pins s2 σ H2 x y v u Q I2 rx ry q (hs _ _))
noncomputable def Yal(K:Xb):R2:=λx y H Q=>∃p xs i v,x= .ref p∧y= .int i∧SqL K H p xs∧atI xs i=some v∧Q v H
noncomputable def Ybo(K:Xb):R2:=λx y H Q=>∃p xs i v,x= .ref p∧y= .int i∧SqT K H p xs∧atI xs i=some v∧Q v H
noncomputable def Ybe:R2:=λx y H Q=>∃z i c,x= .str z∧y= .int i∧z.length≤Xr∧atI z.cps.toList i=some c∧Q (.str ⟨#[c]⟩) H
theorem Ztl:IxR X (Yal X.K):=by
 intro value slice pins s σ H x y v u Q I rx ry h hs
 obtain⟨p,xs,i,z,rfl,rfl,hq,he,q⟩:=h
 cases rx
 obtain⟨t,rfl⟩:=ry
 obtain⟨its,r,pl,hz⟩:=I.list hq
 obtain⟨j,h1,h2,h3,h4,h5⟩:=Zmn he
 obtain⟨w,ew,rw'⟩:=r.get h2
 have hl:=r.length
 have hn:=Ziv
 have fin:EP X pins σ Q w s:=⟨z,H,I,rw',q⟩
 by_cases h0:0≤i
 ·have hj:i.toNat=j:=by
   rw[seqIndex_of h0 h5]at h1
   exact Qz h1
  exact item_listR pl.isList h0 (by omega) (by rw[hj];simpa using ew) fin hs
 ·have hj:(i+(its.toArray.size:Int)).toNat=j:=by
   rw[seqIndex_neg (by omega) h4]at h1
   rw[Xx,←hl]
   exact Qz h1
  exact subscriptTail_builtinR (x:=w) pl.isList.typeIs slot_list_getitem.lookup
   (wpAny_getItem_list_neg (Q:=λr s'=>r=w∧EP X pins σ Q r s') pl.isList (by omega) (by rw[Xx]<;>omega) (by omega) (by rw[hj];simpa using ew) ⟨rfl,fin⟩) hs
theorem Z4s:IxR X (Ybo X.K):=by
 intro value slice pins s σ H x y v u Q I rx ry h hs
 obtain⟨p,xs,i,z,rfl,rfl,hq,he,q⟩:=h
 cases rx
 obtain⟨t,rfl⟩:=ry
 obtain⟨its,r,pl,hz⟩:=I.tuple hq
 obtain⟨j,h1,h2,h3,h4,h5⟩:=Zmn he
 obtain⟨w,ew,rw'⟩:=r.get h2
 have hl:=r.length
 have hn:=Ziv
 have fin:EP X pins σ Q w s:=⟨z,H,I,rw',q⟩
 exact subscriptTail_builtinR (x:=w) pl.typeIs slot_tuple_getitem.lookup
  (getItem_tuple (j:=j) (Q:=λr s'=>r=w∧EP X pins σ Q r s') pl (by omega) (by omega) (by rw[Xx,←hl];exact h1) (by simpa using ew) ⟨rfl,fin⟩) hs
theorem Z3y:IxR X Ybe:=by
 intro value slice pins s σ H x y v u Q I rx ry h hs
 obtain⟨z,i,c,rfl,rfl,hz,he,q⟩:=h
 obtain⟨t,rfl⟩:=rx
 obtain⟨t',rfl⟩:=ry
 obtain⟨j,h1,h2,h3,h4,h5⟩:=Zmn he
 have hl:z.cps.toList.length=z.length:=by simp[Str.length]
 rw[hl]at h1 h4 h5
 have hn:=Ziv
 exact tail_any (typeIs_str s z t) slot_str_getitem.lookup (getItem_str (c:=c) (by
  have e1:decide (i< -(2^63:Int))=false:=decide_eq_false (by omega)
  have e2:decide (i≥2^63)=false:=decide_eq_false (by omega)
  rw[e1,e2,Bool.or_false]) (by rw[h1];simpa using h2) ⟨.str ⟨#[c]⟩,H,I.tok _,⟨_,rfl⟩,q⟩) hs
noncomputable def rIx(K:Xb):R2:=λx y H Q=>Yal K x y H Q∨Ybo K x y H Q∨Ybe x y H Q
theorem Z4h:IxR X (rIx X.K):=Ztl.or (Z4s.or Z3y)
theorem Zph(its:List Xd)(n j:Nat)(u:Xd):Q4 (·.setIfInBounds j u) { cls:=.type "list",data:=.seq its.toArray n }={ cls:=.type "list",data:=.seq (its.set j u).toArray n }:=by
 simp[Q4]
theorem Inv.lst{pins:List (Addr×Obj)}{σ:St}{H:Hp}{s:Xg}{p:Addr}{xs:List V}(I:Inv X pins σ H s)(h:H p=some (.lst xs)) :
  ∃(its:List Xd) (n:Nat),Vals xs its∧s.heap.get? p=some { cls:=.type "list",data:=.seq its.toArray n }∧xs.length≤Xr:=by
 obtain⟨z,its,n,r,e⟩:=I.hok p _ h
 exact⟨its,n,r,e,z⟩
theorem Inv.lstUpd{pins:List (Addr×Obj)}{σ:St}{H:Hp}{s:Xg}{p:Addr}{xs ys:List V}{its its':List Xd}{n n':Nat}{f:Obj->Obj}(I:Inv X pins σ H s)(h:H p=some (.lst xs))
  (ho:s.heap.get? p=some { cls:=.type "list",data:=.seq its.toArray n }) (hf:f { cls:=.type "list",data:=.seq its.toArray n }={ cls:=.type "list",data:=.seq its'.toArray n' }) (r:Vals ys its') (hz:ys.length≤Xr) (t:Nat) :
  Inv X pins σ (upd H p (.lst ys)) { s with heap:=s.heap.update p f,toks:=t }:=by
 have e:(s.heap.update p f).get? p=some { cls:=.type "list",data:=.seq its'.toArray n' }:=by
  rw[Heap.get?_update_self f ho (by rw[hf]<;>rfl),hf]
 refine I.write (x:=p) (e:=p) (by rw[h];trivial) (.inl rfl) (λb u hb q=>(Heap.get?_update_other _ _ (BR hb)).trans q) ⟨_,e⟩ ?_
 exact⟨hz,its',n',r,e⟩
noncomputable def Z39:V->V->V->Hp->(Hp->Prop)->Prop:=λo i v H Q=>∃p xs k j,o= .ref p∧i= .int k∧H p=some (.lst xs)∧ixN xs.length k=some j∧Q (upd H p (.lst (xs.set j v)))
theorem set_list:Yct X Z39:=by
 intro pins s σ H o i v ov iv u Q I ro ri rv h
 obtain⟨p,xs,k,j,rfl,rfl,hp,hj,q⟩:=h
 cases ro
 obtain⟨t,rfl⟩:=ri
 obtain⟨its,n,r,ho,hz⟩:=I.lst hp
 obtain⟨h1,h2,h3,h4⟩:=Zmw hj
 have hl:=r.length
 have hn:=Ziv
 have I':Inv X pins σ (upd H p (.lst (xs.set j v))) { s with heap:=s.heap.update p (Q4 (·.setIfInBounds j u)) } :=
  I.lstUpd hp ho (Zph its n j u) (r.set rv j) (by rw[Bo];exact hz) s.toks
 by_cases h0:0≤k
 ·have hk:k.toNat=j:=by
   rw[seqIndex_of h0 h4]at h1
   exact Qz h1
  exact PySem.W.ki_setAt ho h0 (by omega) (by rw[Xx,←hl];exact h4) (by rw[hk];exact⟨_,I',q⟩)
 ·have hk:(k+(its.toArray.size:Int)).toNat=j:=by
   rw[seqIndex_neg (by omega) h3]at h1
   rw[Xx,←hl]
   exact Qz h1
  exact PySem.W.ki_setBack ho (by omega) (by rw[Xx,←hl];exact h3) (by omega) (by rw[hk];exact⟨_,I',q⟩)
theorem Zlj(lo hi:Option Int)(n:Nat):(JW lo hi none n).1=((HT.sIx n 0 lo:Nat):Int)∧(JW lo hi none n).2.1=((HT.sIx n n hi:Nat):Int)∧(JW lo hi none n).2.2=1:=by
 refine⟨?_,?_,rfl⟩
 ·cases lo with
  | none=>simp[JW,HT.sIx]
  | some i=>
   simp only[JW,HT.sIx,Option.getD_none,show(1:Int)>0 by decide,if_true]
   by_cases h:i<0
   ·simp only[h,if_true]<;>omega
   ·simp only[h,if_false]<;>omega
 ·cases hi with
  | none=>simp[JW,HT.sIx]
  | some i=>
   simp only[JW,HT.sIx,Option.getD_none,show(1:Int)>0 by decide,if_true]
   by_cases h:i<0
   ·simp only[h,if_true]<;>omega
   ·simp only[h,if_false]<;>omega
theorem Zjf(its:List Xd)(lo hi:Option Int):slicePick its.toArray lo hi none=((its.drop (HT.sIx its.length 0 lo)).take (HT.sIx its.length its.length hi-HT.sIx its.length 0 lo)).toArray:=by
 obtain⟨h1,h2,h3⟩:=Zlj lo hi its.toArray.size
 unfold slicePick
 rw[h1,h2,h3]
 simp only[sliceRange_one,pick_run,Xx]<;>rfl
noncomputable def Ya8(K:Xb):V->Option Int->Option Int->Hp->VK->Prop:=λx lo hi H Q=>∃a xs,x= .ref a∧SqL K H a xs∧∀p,H p=none->Q (.ref p) (upd H p (.lst (Z2y xs lo hi)))
theorem Z0h:SlR X (Ya8 X.K):=by
 intro pins s σ H x v vl vu lo hi sl Q I rx hs pl pu h
 obtain⟨a,xs,rfl,hx,q⟩:=h
 cases rx
 obtain⟨its,r,ht,hz⟩:=I.list hx
 have hlen:=r.length
 refine⟨"list",_,slot_list_getitem.lookup,ht.isList.typeIs,?_⟩
 refine wpAny_getItem_list_slice ht.isList hs pl pu .none (by simp) ?_ (by rw[Xx]<;>omega)
 rw[Zjf,←hlen]
 refine⟨.ref s.heap.objs.size,_,I.laid (t':=s.toks) (o:=.lst (Z2y xs lo hi)) (λb ob q=>Xl _ q) (Qa _) ?_,rfl,q _ (I.hok.fresh (Qa _))⟩
 exact⟨Ql (Znj xs lo hi) hz,_,0,(r.drop (HT.sIx xs.length 0 lo)).take (HT.sIx xs.length xs.length hi-HT.sIx xs.length 0 lo),X5 _ rfl⟩
noncomputable def Zhe:V->Bool
 | .non=>true
 | .bl _=>true
 | .int _=>true
 | .str _=>true
 | _=>false
noncomputable def eqV:V->V->Bool
 | .non,.non=>true
 | .bl a,.bl b=>a==b
 | .bl a,.int b=>(if a then 1 else 0)==b
 | .int a,.bl b=>a==(if b then 1 else 0)
 | .int a,.int b=>a==b
 | .str a,.str b=>a==b
 | _,_=>false
theorem Z5d{A:Qo}{s:Xg}{y x:V}{u v:Xd}(ry:RelV y u)(rx:RelV x v)(fy:Zhe y=true)(fx:Zhe x=true):JC A s u v (eqV y x):=by
 cases y with
 | non=>
  cases ry
  cases x with
  | non=>cases rx;exact JC.same _
  | bl b=>cases rx;exact JC.none_bool b
  | int b=>obtain⟨t,rfl⟩:=rx;exact JC.none_int b t
  | str b=>obtain⟨t,rfl⟩:=rx;exact JC.none_str b t
  | _=>exact absurd (show false=true from fx) XC
 | bl a=>
  cases ry
  cases x with
  | non=>cases rx;exact JC.bool_none a
  | bl b=>cases rx;exact JC.bool_bool a b
  | int b=>obtain⟨t,rfl⟩:=rx;exact JC.bool_int a b t
  | str b=>obtain⟨t,rfl⟩:=rx;exact JC.bool_str a b t
  | _=>exact absurd (show false=true from fx) XC
 | int a=>
  obtain⟨t',rfl⟩:=ry
  cases x with
  | non=>cases rx;exact JC.int_none a t'
  | bl b=>cases rx;exact JC.int_bool a t' b
  | int b=>obtain⟨t,rfl⟩:=rx;exact JC.int_int a t' b t
  | str b=>obtain⟨t,rfl⟩:=rx;exact SeqAt.EqAt.int_str a t' b t
  | _=>exact absurd (show false=true from fx) XC
 | str a=>
  obtain⟨t',rfl⟩:=ry
  cases x with
  | non=>cases rx;exact JC.str_none a t'
  | bl b=>cases rx;exact JC.str_bool a t' b
  | int b=>obtain⟨t,rfl⟩:=rx;exact SeqAt.EqAt.str_int a t' b t
  | str b=>obtain⟨t,rfl⟩:=rx;exact JC.str_str a t' b t
  | _=>exact absurd (show false=true from fx) XC
 | _=>exact absurd (show false=true from fy) XC
noncomputable def eqU(x:V)(u:Xd):Bool:=match u with
 | .none=>eqV .non x
 | .bool b=>eqV (.bl b) x
 | .int i _=>eqV (.int i) x
 | .str z _=>eqV (.str z) x
 | _=>false
theorem Zxs{x y:V}{u:Xd}(r:RelV y u)(f:Zhe y=true):eqU x u=eqV y x:=by
 cases y with
 | non=>cases r;rfl
 | bl b=>cases r;rfl
 | int i=>obtain⟨t,rfl⟩:=r;rfl
 | str z=>obtain⟨t,rfl⟩:=r;rfl
 | _=>exact absurd (show false=true from f) XC
theorem Zj4{x:V}{xs:List V}{us:List Xd}(h:Vals xs us)(f:xs.all Zhe=true):us.any (eqU x)=xs.any λy=>eqV y x:=by
 induction h with
 | nil=>rfl
 | cons r t ih=>
  rw[Uy,XN]at f
  rw[List.any_cons,List.any_cons,Zxs r f.1,ih f.2]
theorem Zgj{A:Qo}{s:Xg}{x:V}{v:Xd}(rx:RelV x v)(fx:Zhe x=true){xs:List V}{us:List Xd}(h:Vals xs us)(f:xs.all Zhe=true):∀u∈us,JC A s u v (eqU x u):=by
 induction h with
 | nil=>intro u hu;cases hu
 | cons r t ih=>
  intro u' hu
  rw[Uy,XN]at f
  rcases Xp.mp hu with rfl|hu
  ·rw[Zxs r f.1];exact Z5d r rx f.1 fx
  ·exact ih f.2 u' hu
noncomputable def inV(x:V)(xs:List V):Bool:=xs.any λy=>eqV y x
noncomputable def rIn(K:Xb)(neg:Bool):R2:=λx y H Q=>∃p xs,y= .ref p∧(SqL K H p xs∨SqT K H p xs)∧Zhe x=true∧xs.all Zhe=true∧Q (.bl (if neg then !inV x xs else inV x xs)) H
theorem Zso:OpR X (JB .In) (rIn X.K false):=by
 intro pins s σ H x y v u Q I rx ry h
 obtain⟨p,xs,rfl,hq,fx,fs,q⟩:=h
 cases ry
 rcases hq with hq|hq
 ·obtain⟨its,r,pl,hz⟩:=I.list hq
  refine SeqAt.in_listAt (eqU x) pl.isList (λw hw=>Zgj rx fx r fs w (by simpa using hw)) ⟨.bl _,H,I,rfl,?_⟩
  rw[show its.toArray.any (eqU x)=its.any (eqU x) by simp,Zj4 r fs]
  exact q
 ·obtain⟨its,r,pl,hz⟩:=I.tuple hq
  refine SeqAt.in_tupleAt (eqU x) pl (λw hw=>Zgj rx fx r fs w (by simpa using hw)) ⟨.bl _,H,I,rfl,?_⟩
  rw[show its.toArray.any (eqU x)=its.any (eqU x) by simp,Zj4 r fs]
  exact q
theorem Zlr:OpR X (JB .NotIn) (rIn X.K true):=by
 intro pins s σ H x y v u Q I rx ry h
 obtain⟨p,xs,rfl,hq,fx,fs,q⟩:=h
 cases ry
 rcases hq with hq|hq
 ·obtain⟨its,r,pl,hz⟩:=I.list hq
  refine SeqAt.notIn_listAt (eqU x) pl.isList (λw hw=>Zgj rx fx r fs w (by simpa using hw)) ⟨.bl _,H,I,rfl,?_⟩
  rw[show its.toArray.any (eqU x)=its.any (eqU x) by simp,Zj4 r fs]
  exact q
 ·obtain⟨its,r,pl,hz⟩:=I.tuple hq
  refine SeqAt.notIn_tupleAt (eqU x) pl (λw hw=>Zgj rx fx r fs w (by simpa using hw)) ⟨.bl _,H,I,rfl,?_⟩
  rw[show its.toArray.any (eqU x)=its.any (eqU x) by simp,Zj4 r fs]
  exact q
theorem Zkw:Zbt X (.builtin "len") (λxs H Q=>∃p ys,xs=[.ref p]∧(SqL X.K H p ys∨SqT X.K H p ys)∧Q (.int ys.length) H):=by
 intro pins s σ H xs us Q I r h
 obtain⟨p,ys,rfl,hq,q⟩:=h
 obtain⟨u,rfl,rx⟩:=vals1 r
 cases rx
 have hn:=Ziv
 rcases hq with hq|hq
 ·obtain⟨its,r',pl,hz⟩:=I.list hq
  have hlen:=r'.length
  exact Calls.call_len_list pl.isList (by simp only[Xx]<;>omega) ⟨.int ys.length,H,I.tok _,⟨s.toks+1,by rw[Xx,hlen]⟩,q⟩
 ·obtain⟨its,r',pl,hz⟩:=I.tuple hq
  have hlen:=r'.length
  exact len_tuple pl (by simp only[Xx]<;>omega) ⟨.int ys.length,H,I.tok _,⟨s.toks+1,by rw[Xx,hlen]⟩,q⟩
theorem Zld:Zbt X (.type "list") (λxs H Q=>∃p ys,xs=[.ref p]∧(SqL X.K H p ys∨SqT X.K H p ys)∧∀l,H l=none->Q (.ref l) (upd H l (.lst ys))):=by
 intro pins s σ H xs us Q I r h
 obtain⟨p,ys,rfl,hq,q⟩:=h
 obtain⟨u,rfl,rx⟩:=vals1 r
 cases rx
 have fin:∀(its:List Xd),Vals ys its->ys.length≤Xr->∀(h':Heap) (c':Nat),(∀b o',s.heap.get? b=some o'->h'.get? b=some o') ->
   h'.get? s.heap.objs.size=some { cls:=.type "list",dict:=none,data:=.seq its.toArray c',slots:=#[] }->EP X pins σ Q (.ref s.heap.objs.size) { s with heap:=h' }:=λits r' hz h' c' kp e=>
  ⟨.ref s.heap.objs.size,_,I.laid (t':=s.toks) kp (Qa _) (show ObjOk X.prog X.w _ h' _ (.lst ys)from⟨hz,its,c',r',e⟩),rfl,q _ (I.hok.fresh (Qa _))⟩
 rcases hq with hq|hq
 ·obtain⟨its,r',pl,hz⟩:=I.list hq
  have hlen:=r'.length
  obtain⟨o,ho,hc,n,hd⟩:=pl.isList
  exact call_list_seq p (.inl rfl) ho hc hd (λh' c' kp e=>fin its r' hz h' c' kp e) (by simp only[Xx]<;>omega)
 ·obtain⟨its,r',pl,hz⟩:=I.tuple hq
  have hlen:=r'.length
  obtain⟨o,ho,hc,n,hd⟩:=pl
  exact call_list_seq p (.inr rfl) ho hc hd (λh' c' kp e=>fin its r' hz h' c' kp e) (by simp only[Xx]<;>omega)
noncomputable def tyV(K:Xb)(T:String)(x:V)(H:Hp):Prop:=match x with
 | .str _=>T="str"
 | .int _=>T="int"
 | .ref p=>(T="list"∧∃xs,SqL K H p xs)∨(T="tuple"∧∃o,K.lookup p=some o∧o.cls= .type "tuple"∧o.dict=none)∨
   (T="dict"∧((∃kvs,H p=some (.dK kvs))∨∃kvs,H p=some (.dT kvs)))∨(T="set"∧∃S n,H p=some (.set S n))
 | _=>False
theorem Z4e{pins:List (Addr×Obj)}{σ:St}{H:Hp}{s:Xg}{T:String}{x:V}{v:Xd}(I:Inv X pins σ H s)(r:RelV x v)(ty:tyV X.K T x H) :
  s.TypeIs v T∧∀a,v= .ref a->∃ob,s.heap.get? a=some ob∧ob.dict=none:=by
 cases x with
 | str z=>
  obtain⟨t,rfl⟩:=r
  cases(show T="str"from ty)
  exact⟨typeIs_str s z t,λ_ e=>nomatch e⟩
 | int i=>
  obtain⟨t,rfl⟩:=r
  cases(show T="int"from ty)
  exact⟨typeIs_int s i t,λ_ e=>nomatch e⟩
 | ref p=>
  cases r
  rcases ty with⟨rfl,xs,hq⟩|⟨rfl,o,hk,hc,hd⟩|⟨rfl,hk⟩|⟨rfl,S,n,hk⟩
  ·obtain⟨its,_,pl,_⟩:=I.list hq
   refine⟨pl.isList.typeIs,λa e=>?_⟩
   cases e
   obtain⟨o,n,e,c,hd,_⟩:=pl
   exact⟨o,e,hd⟩
  ·refine⟨⟨o,I.kIn p o hk,hc⟩,λa e=>?_⟩
   cases e
   exact⟨o,I.kIn _ o hk,hd⟩
  ·have z:∃o,s.heap.get? p=some o∧o.ExactDict:=by
    rcases hk with⟨kvs,hk⟩|⟨kvs,hk⟩
    ·obtain⟨_,_,_,_,o,_,_,e,ex,_⟩:=I.hok p _ hk
     exact⟨o,e,ex⟩
    ·obtain⟨_,_,_,_,o,_,_,e,ex,_⟩:=I.hok p _ hk
     exact⟨o,e,ex⟩
   obtain⟨o,e,ex⟩:=z
   refine⟨⟨o,e,ex.1⟩,λa e2=>?_⟩
   cases e2
   exact⟨o,e,ex.2.1⟩
  ·obtain⟨o,_,_,_,e,ex,_⟩:=I.hok p _ hk
   refine⟨⟨o,e,ex.1⟩,λa e2=>?_⟩
   cases e2
   exact⟨o,e,ex.2.1⟩
 | _=>exact Ve ty
noncomputable def tBM(K:Xb)(T:String)(r:V->List V->Hp->VK->Prop)(to:TE)(t:TA):TE:=λσ H Q=>to σ H λx H1=>tyV K T x H1∧t σ H1 λxs H2=>r x xs H2 Q
variable {o e:Expr}{es:List Expr}{to:TE}{t:TA}{name:Str}{apos cpos:Pos}{T id:String}{r:V->List V->Hp->VK->Prop}
theorem Zz3(pa:PlainAttrs T)(slot:Slot T name id)(hty:typeOf (.builtin id)=pure (.type "method_descriptor"))(hm:MtR X id r)(ho:PE X o to)(ha:PA X (e :: es) t)
  (hbase:V6 o name X.env (eval o X.env)=eval o X.env:=by rfl)
  (hfew:((QW cpos (Xo (e :: es) X.env)).all (λx=>!x.1)&&(backToKw cpos (keywordEach [] X.env)).all (λx=>x.1.isSome)
   &&decide ((e :: es).length+([]:List VG).length+(if([]:List VG).isEmpty then 0 else 1)<30))=true:=by rfl)
  (hline:(apos.endLine==cpos.line)=true:=by rfl) (hs:Xo (e :: es) X.env=(false,eval e X.env) :: Xo es X.env:=by rfl) (hplain:(QW cpos (Xo es X.env)).any (·.1)=false:=by rfl) :
  PE X (.Call (.Attribute o name apos) (e :: es) [] cpos) (tBM X.K T r to t):=by
 intro pins s σ H Q I h
 refine wpAny_Call_method_late hbase hfew hline rfl (thn (ho pins s σ H _ I h) λv s1 qz9=>?_)
 obtain⟨x,H1,I1,r1,ty,q1⟩:=qz9
 obtain⟨h1,h2⟩:=Z4e I1 r1 ty
 refine⟨T,id,pa,slot,hty,h1,h2,?_⟩
 have hA:=ha cpos pins s1 σ H1 _ I1 q1
 rw[hs]at hA⊢
 refine Calls.callWith_builtin (by show(false||(QW cpos (Xo es X.env)).any (·.1))=false;rw[hplain]<;>rfl) (Calls.evalArgs_plain ?_)
 refine thn hA λus s2 qz9=>?_
 obtain⟨vs,H2,I2,r2,q2⟩:=qz9
 exact hm pins s2 σ H2 x vs v us Q I2 r1 r2 q2
end
noncomputable def MtM(X:Cx)(id:String)(r:V->List V->Hp->VK->Prop):Prop :=
 ∀(pins:List (Addr×Obj)) (s:Xg) (σ:St) (H:Hp) (x:V) (xs:List V) (v:Xd) (us:List Xd) (Q:VK),Inv X pins σ H s->RelV x v->Vals xs us->r x xs H Q ->
  X4 (Qd X.prog X.w) X.A (call (.builtin id) (v :: us)) (EP X pins σ Q) X.xe s
theorem Vals.one{x:V}{us:List Xd}(h:Vals [x] us):∃u,us=[u]∧RelV x u:=by
 cases h with
 | cons r t=>cases t;exact⟨_,rfl,r⟩
theorem Vals.zero:∀{us:List Xd},Vals [] us->us=[]
 | _,.nil=>rfl
theorem Vals.eraseIdx:∀{xs:List V} {us:List Xd} (i:Nat),Vals xs us->Vals (xs.eraseIdx i) (us.eraseIdx i)
 | _,_,_,.nil=>.nil
 | _,_,0,.cons _ t=>t
 | _,_,i+1,.cons r t=>.cons r (Vals.eraseIdx i t)
theorem Vals.rep{xs:List V}{us:List Xd}(h:Vals xs us):∀k:Nat,Vals (Xv k xs).flatten (Xv k us).flatten
 | 0=>.nil
 | k+1=>by
  rw[JG,JG,Vt,Vt]
  exact Vals.append h (Vals.rep h k)
theorem Zkv{α:Type}:∀(l:List α) (i:Nat),(l.eraseIdx i).length≤l.length
 | [],_=>Qa _
 | _ :: _,0=>Nat.le_succ _
 | _ :: r,i+1=>U7 (Zkv r i)
theorem foldl_rep(its:List Xd):∀(k:Nat) (acc:List Xd),
  List.foldl (λx1 x2=>x1 ++ x2) acc.toArray (Xv k its.toArray)=(acc ++ (Xv k its).flatten).toArray
 | 0,acc=>by simp
 | k+1,acc=>by
  have e:acc.toArray ++ its.toArray=(acc ++ its).toArray:=by simp
  have e2:(acc ++ its) ++ (Xv k its).flatten=acc ++ (Xv (k+1) its).flatten:=by
   rw[JG,Vt,JV]
  rw[←e2,←foldl_rep its k (acc ++ its),←e,JG,List.foldl_cons]
section
variable {X:Cx}{pins:List (Addr×Obj)}{σ:St}{H:Hp}{s:Xg}{l b:Addr}{xs ys zs:List V}
theorem Inv.lset{its its':List Xd}{n:Nat}{f:Array Xd->Array Xd}{t':Nat}(I:Inv X pins σ H s)(hH:H l=some (.lst xs))
  (e:s.heap.get? l=some { cls:=.type "list",data:=.seq its.toArray n }) (hf:f its.toArray=its'.toArray) (hv:Vals ys its') (hz:ys.length≤Xr) :
  Inv X pins σ (upd H l (.lst ys)) { s with heap:=s.heap.update l (Q4 f),toks:=t' }:=by
 have q:=PySem.IsL.update e f
 rw[hf]at q
 refine I.write (x:=l) (e:=l) (by rw[hH];exact trivial) (.inl rfl) (λb' u hb hu=>(Heap.get?_update_other s.heap (Q4 f) (BR hb)).trans hu) ⟨_,q⟩ ?_
 exact⟨hz,its',_,hv,q⟩
theorem Inv.lnew{its:List Xd}{t':Nat}(I:Inv X pins σ H s)(hv:Vals ys its)(hz:ys.length≤Xr) :
  Inv X pins σ (upd H s.heap.objs.size (.lst ys)) { s with heap:=s.heap.push { cls:=.type "list",data:=.seq its.toArray },toks:=t' } :=
 I.laid (λ_ _ q=>Xl _ q) (Qa _) ⟨hz,its,0,hv,X5 _ rfl⟩
theorem Inv.fresh(I:Inv X pins σ H s):H s.heap.objs.size=none:=I.hok.fresh (Qa _)
theorem Inv.lstM(I:Inv X pins σ H s)(hH:H l=some (.lst xs)):xs.length≤Xr∧∃(its:List Xd) (n:Nat),Vals xs its∧xs.length=its.length∧s.heap.get? l=some { cls:=.type "list",data:=.seq its.toArray n }:=by
 obtain⟨z,its,n,r,e⟩:=I.hok l _ hH
 exact⟨z,its,n,r,r.length,e⟩
theorem Znt{n:Nat}(h:n≤Xr):Vb n=false:=by
 unfold Vb
 exact decide_eq_false (by omega)
end
section
variable {X:Cx}
noncomputable def Zza:V->List V->Hp->VK->Prop:=λx vs H Q=>∃l xs y,x= .ref l∧vs=[y]∧H l=some (.lst xs)∧xs.length<Xr∧Q .non (upd H l (.lst (xs ++ [y])))
theorem Zla:MtM X "list.append" Zza:=by
 intro pins s σ H x vs v us Q I rx rv h
 obtain⟨l,xs,y,rfl,rfl,hH,hz,q⟩:=h
 cases rx
 obtain⟨u,rfl,ru⟩:=rv.one
 obtain⟨z,its,n,r,hl,e⟩:=I.lstM hH
 refine call_meets F.slot_list_append ⟨_,e,rfl⟩ F.entry_list_append (F.args_list_append_2 _ _) (PySem.list_append l its.toArray n u (by rw[Xx];omega)) ⟨e,?_⟩
 refine⟨.non,_,I.lset (its':=its ++ [u]) hH e (by simp) (r.append (.cons ru .nil)) ?_,rfl,q⟩
 rw[XX,Vy]
 omega
noncomputable def Z1w:V->List V->Hp->VK->Prop:=λx vs H Q=>∃l b xs zs,x= .ref l∧vs=[.ref b]∧H l=some (.lst xs)∧H b=some (.lst zs)∧xs.length+zs.length≤Xr∧Q .non (upd H l (.lst (xs ++ zs)))
theorem Zrl:MtM X "list.extend" Z1w:=by
 intro pins s σ H x vs v us Q I rx rv h
 obtain⟨l,b,xs,zs,rfl,rfl,hH,hB,hz,q⟩:=h
 cases rx
 obtain⟨u,rfl,ru⟩:=rv.one
 cases ru
 obtain⟨z,its,n,r,hl,e⟩:=I.lstM hH
 obtain⟨z2,its2,n2,r2,hl2,e2⟩:=I.lstM hB
 have hsz:its.toArray.size+its2.toArray.size≤Xr:=by rw[Xx,Xx];omega
 have hlong:¬(!its.toArray.isEmpty&&Vb (its.toArray.size+its2.toArray.size))=true:=by
  rw[Znt hsz,Bool.and_false]
  exact XC
 refine call_meets F.slot_list_extend ⟨_,e,rfl⟩ F.entry_list_extend (F.args_list_extend_2 _ _)
  (AutoSeq1.list_extend_list_list_0 l its.toArray n b its2.toArray n2 hlong (by rw[Xx];omega) (by omega)) ⟨e,e2,?_⟩
 refine⟨.non,_,I.lset (its':=its ++ its2) hH e (by simp) (r.append r2) ?_,rfl,q⟩
 rw[XX]
 omega
noncomputable def Z4b:V->List V->Hp->VK->Prop:=λx vs H Q=>∃l xs i k y,x= .ref l∧vs=[.int i]∧H l=some (.lst xs)∧-(2^63)≤i∧i<2^63∧seqIndex? i xs.length=some k∧xs[k]? =some y∧Q y (upd H l (.lst (xs.eraseIdx k)))
theorem Zwq:MtM X "list.pop" Z4b:=by
 intro pins s σ H x vs v us Q I rx rv h
 obtain⟨l,xs,i,k,y,rfl,rfl,hH,h1,h2,hk,hy,q⟩:=h
 cases rx
 obtain⟨u,rfl,ru⟩:=rv.one
 obtain⟨t,rfl⟩:=ru
 obtain⟨z,its,n,r,hl,e⟩:=I.lstM hH
 obtain⟨w,hw,rw'⟩:=r.get hy
 refine call_meets F.slot_list_pop ⟨_,e,rfl⟩ F.entry_list_pop (F.args_list_pop_2 _ _)
  (MeetsSeq.list_pop_at l its.toArray n i t k w (fitsIndex_both h1 h2) (by rw[Xx,←hl];exact hk) (by rw[←Vx];exact hw) (by rw[Xx];omega)) ⟨e,?_⟩
 refine⟨y,_,I.lset (its':=its.eraseIdx k) hH e ?_ (r.eraseIdx k) ?_,rw',q⟩
 ·show its.toArray.eraseIdxIfInBounds k=(its.eraseIdx k).toArray
  rw[List.eraseIdxIfInBounds_toArray]
 ·have:=Zkv xs k
  omega
noncomputable def Yd0:R2:=λx y H Q=>∃l k xs,x= .ref l∧y= .int k∧H l=some (.lst xs)∧-(2^63)≤k∧k<2^63∧xs.length*k.toNat≤Xr∧
 ∀p,H p=none->Q (.ref p) (upd H p (.lst (Xv k.toNat xs).flatten))
theorem len_rep{α:Type}(xs:List α)(k:Nat):(Xv k xs).flatten.length=k*xs.length:=by
 induction k with
 | zero=>simp
 | succ k ih=>rw[JG,Vt,XX,ih,Nat.succ_mul,Nat.add_comm]
theorem Z3c:OpR X (BL .Mult) Yd0:=by
 intro pins s σ H x y v u Q I rx ry h
 obtain⟨l,k,xs,rfl,rfl,hH,h1,h2,hz,q⟩:=h
 cases rx
 obtain⟨t,rfl⟩:=ry
 obtain⟨z,its,n,r,hl,e⟩:=I.lstM hH
 have hlen:its.toArray.size*k.toNat≤Xr:=by rw[Xx,←hl];exact hz
 have hcap:¬its.toArray.size*k.toNat>(2^63-1)/8:=by
  have:(Xr:Nat)≤(2^63-1)/8:=by decide
  omega
 have hfit:¬(!Builtin.List.listFitsIndex k)=true:=by
  rw[fitsIndex_both h1 h2]
  exact XC
 have hlong:¬Vb (its.toArray.size*k.toNat)=true:=by
  rw[Znt hlen]
  exact XC
 have hnew:List.foldl (λx1 x2=>x1 ++ x2) #[] (Xv (if its.toArray.isEmpty=true then 0 else k.toNat) its.toArray)=(Xv k.toNat its).flatten.toArray:=by
  have f0:∀m:Nat,List.foldl (λx1 x2=>x1 ++ x2) #[] (Xv m its.toArray)=(Xv m its).flatten.toArray:=λm=>by
   have:=foldl_rep its m []
   rw[List.nil_append]at this
   exact this
  rw[f0]
  cases its with
  | nil=>simp
  | cons a r'=>rw[if_neg (by simp)]
 refine wpAny_binaryOp_repeat_ref (T :="list") (U :="int") (by decide) ⟨_,e,rfl⟩ (λs'=>typeIs_int s' k t) noFill_list_mul F.fills_int_mul F.slot_int_rmul repeat_list F.slot_int_index.lookup
  (call_meets F.slot_int_rmul (typeIs_int s k t) F.entry_int_rmul (F.args_int_rmul_2 _ _) (int___rmul___int_list k t l its.toArray n)
   ⟨e,rfl,⟨_,e,rfl⟩,call_meets F.slot_list_mul ⟨_,e,rfl⟩ F.entry_list_mul (F.args_list_mul_2 _ _) (AutoListH.list___mul___list_int_3 l its.toArray n k t hfit hcap hlong) ⟨e,?_⟩⟩)
 rw[hnew]
 exact⟨.ref _,_,I.lnew (t':=s.toks) (r.rep k.toNat) (by rw[len_rep,Nat.mul_comm];exact hz),rfl,q _ I.fresh⟩
end
section
variable {prog:X8}{w:Qs}{A:Qo}{E:Xd->Xg->Prop}{s:Xg}
end
section
variable {X:Cx}
end
end L2
namespace Att
open PySem PySem.W PySem.Calls PyProof.Rows
theorem Zgw{P:Params}{h:Heap}:∀(ns:List Int) (vs:List Xd),WellAll P h vs (ns.map WData.int)->Bs vs ns:=by
 intro ns
 induction ns with
 | nil=>
  intro vs w
  rw[List.map_nil]at w
  cases w
  exact .nil
 | cons n ns ih=>
  intro vs w
  rw[Qe]at w
  cases w with
  | cons a b=>
   cases a
   exact .cons _ _ (ih _ b)
theorem Zrc{l:OpenLaw}{n:Nat}(hn:l.most=some n){P:Params}{h:Heap}{args:List WData}{vals:List Xd}
  (hpre:l.row.toRowW.claim.pre args=true) (hwl:WellAll P h vals args) :
  ∃a vs ns,vals=[Qw a]∧args=[WData.list (ns.map WData.int)]∧h.get? a=some { cls:=.type "list",data:=.seq vs.toArray }∧Bs vs ns∧ns.length≤n:=by
 have hsh:WShape.hasAll [] args [.list .int]=true:=(pre_splitW hpre).1
 have hc:l.pre.holds [] { args:=args }=true:=(pre_splitW hpre).2
 obtain⟨d,r,rfl,h1,h2⟩:=hasAllW_cons hsh
 obtain rfl:=hasAllW_nil h2
 obtain⟨xs,rfl,h3⟩:=hasW_list h1
 obtain⟨ns,rfl⟩:=items_int h3
 have hlen:ns.length≤n:=by
  unfold OpenLaw.pre at hc
  have h4:(WTm.not (.lt (.lit (.int (n:Int))) (.len (.arg 0)))).holds [] { args:=[.list (ns.map .int)] }=true:=by
   have h4:=(holds_andW hc).1
   rw[hn]at h4
   exact h4
  have h5:=condW_of h4 (w_not (w_lt w_lit (w_len_list (w_arg rfl))))
  rw[Xc]at h5
  refine Nat.le_of_not_lt λq=>?_
  have q':(n:Int)<((ns.length:Nat):Int):=by omega
  first
   | (rw[decide_eq_true q']at h5;exact absurd h5 (by decide))
   | (simp at h5;omega)
 cases hwl with
 | cons w1 w2=>
  cases w2
  cases w1 with
  | list ho hall=>exact⟨_,_,ns,rfl,rfl,ho,Zgw ns _ hall,hlen⟩
theorem Zsu(l:OpenLaw)(args:List WData):l.row.toRowW.claim.post args (.bool true) args=true :=
 postW_of (r:=l.row.toRowW) (X:=(true==true))
  (show WShape.has [] (.bool true) .bool=true by first|rfl|decide|simp[WShape.has,WShape.arms,WShape.armsAll])
  (show(WTm.eq .res (.lit (.bool true))).value [] { args:=args,res:=some (.bool true),after:=args }=some (.bool (true==true))from w_eq_bool (w_res rfl) w_lit) rfl
theorem attach_call{l:OpenLaw}{n:Nat}{q:X8}{loose:List Str}{XP:(Str->Option Xd)->Heap->Prop}{YP:Qs->Heap->Prop}{d:DefRec}
  (hn:l.most=some n) (hdf:d.params.defaults=[])
  (call:∀(w:Qs) (s₀ s₁:Xg) (mg mb:Str->Option Xd) (fa:Addr) (o:Obj) (pm cd doc:Xd) (a:Addr) (vs:List Xd) (ns:List Int),
   Ground q loose [] XP w s₀ mg mb s₁.heap->YP w s₁.heap ->
   s₁.heap.get? fa=some o->o.data= .func (docDef d.name d.params d.body d.scope pm cd doc)->s₁.heap.CodeRec cd d.name->mg d.name=some (.ref fa) ->
   s₁.heap.get? a=some { cls:=.type "list",data:=.seq vs.toArray }->Bs vs ns->ns.length≤n->s₁.gens=#[] ->
   codeAny (Qd l.prog w) callerA (.call (.ref fa) ⟨[.ref a],[]⟩) (λr s'=>r= .ok (.ret (.bool true))∧OldK s₁.heap s'.heap∧s'.os=s₁.os∧AllBare s'.gens) s₁) :
  WalkO q loose XP YP l.row.toRowW d [] (λf vs=>PySem.call f vs):=by
 intro w s₀ s₁ mg mb G Y fa o pm cd doc dV kV ho hd hcd hD hmg hg args vals as hpre hlay hrd hwl hlo
 obtain rfl:dV= .none:=Dflts.none hD hdf
 obtain rfl:kV= .none:=Dflts.noKw hD
 obtain⟨a,vs,ns,rfl,rfl,hobj,hints,hlen⟩:=Zrc hn hpre hwl
 refine enter_call (codeAny_mono (call w s₀ s₁ mg mb fa o pm cd doc a vs ns G Y ho (fd_plain hd) hcd hmg hobj hints hlen hg) λr s' hq=>?_)
 obtain⟨rfl,h2,h3,h4⟩:=hq
 exact⟨.inl ⟨.bool true,.bool true,[],rfl,λ_=>rfl,.bool true,Zsu l _,λ_=>⟨List.Pairwise.nil,λ_ hm=>(nomatch hm)⟩⟩,h2,h3,h4⟩
section
variable {prog:X8}{w:Qs}{A:Qo}{E:Xd->Xg->Prop}{s:Xg}{K:Frag}
end
end Att
namespace L2
open PySem PySem.Spec PyProof.Rows
theorem Zr9{vs:List Xd}{ns:List Int}(h:Bs vs ns):Vals (ns.map V.int) vs:=by
 induction h with
 | nil=>exact .nil
 | cons n t h ih=>exact .cons ⟨t,rfl⟩ ih
noncomputable def Only(H:Hp):Prop:=∀b,H b=none∨∃o xs,H b=some (.frz o (.lst xs))
theorem Zv8{P:X8}{w:Qs}{K:Xb}{mg mb:Str->Option Xd}{CX:CXT}{k:Nat}{fa a:Addr}{fd:XD}{x:Str}{sp:Sp}{s₁:Xg}{vs:List Xd}{ns:List Int}
  (KX:K.In s₁.heap) (hns:s₁.heap.Ns X6 mg) (hb:s₁.heap.Ns builtinsNs mb) (hbb:∀x:Str,x≠"__name__" ->mb x=X3 x) (hlim:s₁.heap.NoLimit) (hg:s₁.gens=#[])
  (ha:s₁.heap.get? a=some { cls:=.type "list",data:=.seq vs.toArray }) (hi:Bs vs ns) (hl:ns.length≤Xr) (hr:Room k callerA)
  (F:∀base:Heap,K.In base->base.Ns X6 mg->FnOk P w K mg base CX k fa fd [x] sp) (hbind:∀(s:Xg) (u:Xd),BindsTo s fd ⟨[u],[]⟩ [(x,u)])
  (hsp:∀H:Hp,Only H->SqL K H a (ns.map V.int)->sp [.ref a] H (λv _=>v= .bl true) λ_ _ _=>False)
  (hCX:∀H e s',CX [] H s₁ (λ_ _ _=>False) e s'->False) :
  codeAny (Qd P w) callerA (.call (.ref fa) ⟨[.ref a],[]⟩) (λr s'=>r= .ok (.ret (.bool true))∧OldK s₁.heap s'.heap∧s'.os=s₁.os∧AllBare s'.gens) s₁:=by
 have rv:=Zr9 hi
 have lenV:=hi.length
 -- from an abstract heap in which nothing but the script may be tracked
 have core:∀H:Hp,Only H->SqL K H a (ns.map V.int)->HOk P w H s₁.heap->(∀b,H b≠none->b=a)->(H a≠none->K.lookup a=none) ->
   codeAny (Qd P w) callerA (.call (.ref fa) ⟨[.ref a],[]⟩) (λr s'=>r= .ok (.ret (.bool true))∧OldK s₁.heap s'.heap∧s'.os=s₁.os∧AllBare s'.gens) s₁:=by
  intro H hO hS hok hA hK
  have base_of:∀{b:Addr} {o:Obj},s₁.heap.get? b=some o->H b=none->(Zw3 s₁.heap H).get? b=some o:=λe n=>Zw9 e n
  have noA:∀{b:Addr} {o:Obj} {es:Array DictEntry} {ep:Nat},s₁.heap.get? b=some o->o.data= .dict es ep->H b=none:=fun{b o es ep} e d=>by
   cases q:H b with
   | none=>rfl
   | some u=>
    have e':b=a:=hA b (by rw[q];simp)
    subst e'
    rw[ha]at e;cases e
    have d':Data.seq vs.toArray _=Data.dict es ep:=d
    cases d'
  have nsK:∀{b:Addr} {m:Str->Option Xd},s₁.heap.Ns b m->(Zw3 s₁.heap H).Ns b m:=fun{b m} ⟨o,es,ep,e,d,r⟩=>⟨o,es,ep,base_of e (noA e d),d,r⟩
  have hKb:K.In (Zw3 s₁.heap H):=λb o e=>base_of (KX b o e) (by
   cases q:H b with
   | none=>rfl
   | some u=>
    have e':b=a:=hA b (by rw[q];simp)
    subst e'
    rw[hK (by rw[q];simp)]at e;cases e)
  have hM:Mod K mg (Zw3 s₁.heap H):=⟨hKb,nsK hns,⟨mb,nsK hb,hbb⟩,let⟨mc,h1,h2⟩:=hlim;⟨mc,nsK h1,h2⟩⟩
  have e0:Z70 P w K mg (Zw3 s₁.heap H) callerA [] s₁ H:=⟨rfl,hM,λb o e=>Z14 e,Nat.le_of_eq (Zsg _ _),trivial,λb hb=>absurd (show b∈([]:List Addr)from hb) (by simp),hok,.of_eq hg⟩
  refine codeAny_mono ((F _ hKb (nsK hns)).run callerA [] s₁ H ⟨[.ref a],[]⟩ [.ref a] [.ref a] _ _ hr e0 (hbind s₁ (.ref a)) (.cons rfl .nil) (hsp H hO hS)) λr s' h=>?_
  cases r with
  | error e=>exact(hCX H e s' h).elim
  | ok fl=>
   cases fl with
   | next=>exact Ve h
   | brk=>exact Ve h
   | cont=>exact Ve h
   | ret u=>
    obtain⟨v,H',os,bare,un,hok',r',q⟩:=h
    have q':v= .bl true:=q
    subst q'
    obtain rfl:u=Value.bool true:=r'
    refine⟨rfl,OldK.of_keep λb o e=>?_,os,bare⟩
    cases q:H b with
    | none=>exact un.keep b o e q (by intro z;exact absurd (show b∈([]:List Addr)from z) (by simp)) (by simp)
    | some u=>
     rcases hO b with z|⟨ob,xs,z⟩
     ·rw[q]at z;cases z
     ·have z2:=un.frzs b ob _ z
      obtain⟨e1,_⟩:=hok b _ z
      obtain⟨e2,_⟩:=hok' b _ z2
      rw[e]at e1;cases e1
      exact e2
 cases hk:K.lookup a with
 | some o=>
  -- the script is one of the module's own objects
  have e:=KX a o hk
  rw[ha]at e
  cases e
  refine core (λ_=>none) (λ_=>.inl rfl) (.inr ⟨_,vs.toArray,_,hk,rfl,rfl,rfl,by rw[Xx,lenV];exact hl,by simpa using rv⟩) (λb u z=>by have z':(none:Option HO)=some u:=z;cases z') (λb z=>absurd rfl z) λz=>absurd rfl z
 | none=>
  refine core (λb=>if b=a then some (.frz { cls:=.type "list",data:=.seq vs.toArray } (.lst (ns.map V.int)))else none) (λb=>?_) (.inl (.inr ⟨{ cls:=.type "list",data:=.seq vs.toArray },if_pos rfl⟩)) (λb u z=>?_) (λb z=>?_) λ_=>hk
  ·by_cases hb:b=a
   ·exact .inr ⟨_,_,if_pos hb⟩
   ·exact .inl (if_neg hb)
  ·by_cases hb:b=a
   ·have z':=(if_pos hb).symm.trans z
    cases z'
    subst hb
    exact⟨ha,by rw[Xc];exact hl,vs,_,rv,ha⟩
   ·have z':=(if_neg hb).symm.trans z
    cases z'
  ·by_cases hb:b=a
   ·exact hb
   ·exact absurd (if_neg hb) z
noncomputable abbrev KOf{K:Xb}{h:Heap}(_:K.In h):Xb:=K
theorem Z1a{l:PySem.W.OpenLaw}{n k:Nat}{q:X8}{loose:List Str}{XP:(Str->Option Xd)->Heap->Prop}{YP:Qs->Heap->Prop}{d:DefRec}{K:Params->Xb}{CX:Qs->CXT}{sp:Qs->Sp}{x:Str}
  (hn:l.most=some n) (hn2:n≤Xr) (hdf:d.params.defaults=[]) (hr:Room k callerA)
  (hY:∀(w:Qs) (h:Heap),YP w h->(K w.params).In h)
  (F:∀(w:Qs) (mg:Str->Option Xd) (fa:Addr) (h:Heap),(K w.params).In h->h.Ns X6 mg->mg d.name=some (.ref fa) ->
   ∃fd:XD,(∀(s:Xg) (u:Xd),BindsTo s fd ⟨[u],[]⟩ [(x,u)])∧
    ∀base:Heap,(K w.params).In base->base.Ns X6 mg->FnOk l.prog w (K w.params) mg base (CX w) k fa fd [x] (sp w))
  (hsp:∀(w:Qs) (H:Hp) (a:Addr) (ns:List Int),ns.length≤n->Only H->SqL (K w.params) H a (ns.map V.int)->sp w [.ref a] H (λv _=>v= .bl true) λ_ _ _=>False)
  (hCX:∀(w:Qs) (H:Hp) (s:Xg) (e:Xd) (s':Xg),CX w [] H s (λ_ _ _=>False) e s'->False) :
  PySem.W.WalkO q loose XP YP l.row.toRowW d [] (λf vs=>PySem.call f vs):=by
 refine Att.attach_call hn hdf λw s₀ s₁ mg mb fa o pm cd doc a vs ns G Y ho hd hcd hmg hobj hints hlen hg=>?_
 have KX:=hY w _ Y
 obtain⟨fd,hb,hF⟩:=F w mg fa _ KX G.T.g hmg
 exact Zv8 KX G.T.g G.T.b G.T.builtins G.T.nolimit hg hobj hints (Ql hlen hn2) hr hF hb (λH hO hS=>hsp w H a ns hlen hO hS) λH e s'=>hCX w H s₁ e s'
noncomputable def Ze9(s:Stmt):Arguments:=match s with
 | .FunctionDef _ a _ _ _ _ _ _ _ _=>a
 | _=>{ posonlyargs:=[],args:=[],vararg:=none,kwonlyargs:=[],kw_defaults:=[],kwarg:=none,defaults:=[] }
noncomputable def Zbx(s:Stmt):List Stmt:=match s with
 | .FunctionDef _ _ b _ _ _ _ _ _ _=>b
 | _=>[]
noncomputable def Zm(s:Stmt):Vw:=match s with
 | .FunctionDef _ _ _ _ _ _ sc _ _ _=>sc
 | _=>{ kind:=.function,names:=[],isGenerator:=false,isCoroutine:=false }
noncomputable abbrev CX0:CXT:=λ_ _ _ _ _ _=>False
noncomputable abbrev E0:XK:=λ_ _ _=>False
theorem Zut{X:Cx}:Zin CX0 X E0:=λ_ _ _ _ _ _ _ h=>h.elim
structure Fun(K:Xb)(x qual:Str)(st:Stmt)(f:Addr)(fd:XD):Prop where
 ex:∃(oc:Xd) (od:Option Addr) (kV doc pm:Xd) (an:Option Addr) (cdv ct:Xd) (osl:Array (Option Xd)),
  fd=Vd x qual (Ze9 st) (Zbx st) (Zm st) .none kV doc pm an cdv ct∧K.lookup f=some ⟨oc,od,.func fd,osl⟩∧PySem.W.codeIn K cdv qual=true
 kp:Bb K (.ref f)=true
section
variable {P:X8}{w:Qs}{K:Xb}{mg:Str->Option Xd}{base:Heap}
theorem Fun.ok{x qual:Str}{st:Stmt}{f:Addr}{fd:XD}{N ps:List Str}{k:Nat}{sp:Sp}(F:Fun K x qual st f fd)(S:Zu N ps (Zm st))(len:∀vs H Q E,sp vs H Q E->vs.length=ps.length)
  (hbody:∀(cdv:Xd) (A:Qo) (outer:List Env) (s:Xg) (H:Hp) (vs:List V) (Q:VK) (E:XK),Room k (A.deeper (envOfC qual (Zm st) s.heap.objs.size f cdv))->sp vs H Q E ->
   ∃t,PSs (Zx7 CX0 P w K mg base N qual (Zm st) f cdv A outer s H E).nox (Zbx st) t∧t { nx:=λ_ H'=>Q .non H',rt:=Q } (start N vs) H):FnOk P w K mg base CX0 (k+1) f fd ps sp:=by
 obtain⟨oc,od,kV,doc,pm,an,cdv,ct,osl,rfl,lk,hcd⟩:=F.ex
 refine Z80 lk hcd S len λA outer s H vs Q E hr hsp=>?_
 obtain⟨t,h,q⟩:=hbody cdv A outer s H vs Q E hr hsp
 exact⟨t,h.nox,q⟩
theorem Fun.binds{x qual:Str}{st:Stmt}{f:Addr}{fd:XD}{ps:List Str}(F:Fun K x qual st f fd)
  (h:∀(kV doc pm:Xd) (an:Option Addr) (cdv ct:Xd) (us:List Xd),us.length=ps.length->bindArgs (Vd x qual (Ze9 st) (Zbx st) (Zm st) .none kV doc pm an cdv ct) ⟨us,[]⟩=pure (ps.zip us)):Binds K fd ps []:=by
 obtain⟨oc,od,kV,doc,pm,an,cdv,ct,osl,rfl,lk,hcd⟩:=F.ex
 exact .all (h kV doc pm an cdv ct)
theorem Z61{x qual:Str}{st:Stmt}{f:Addr}{oc:Xd}{od an:Option Addr}{osl:Array (Option Xd)}{kV doc pm cdv ct:Xd}(l:K.lookup f=some ⟨oc,od,.func (Vd x qual (Ze9 st) (Zbx st) (Zm st) .none kV doc pm an cdv ct),osl⟩)
  (c:PySem.W.codeIn K cdv qual=true) (k:Bb K (.ref f)=true):Fun K x qual st f (Vd x qual (Ze9 st) (Zbx st) (Zm st) .none kV doc pm an cdv ct):=⟨⟨oc,od,kV,doc,pm,an,cdv,ct,osl,rfl,l,c⟩,k⟩
end
section
variable {X:Cx}
theorem pv(i:Nat){x:Str}{pos:Pos}(hN:X.N[i]? =some x:=by rfl)(hv:Vis X.env.scope x:=by first|exact Qq rfl|exact Qj (Qq rfl)|exact Qj (Qj rfl))(hd:(x==("__debug__" : Str))=false:=by decide)
  (hcd:(x==("__classdict__" : Str))=false:=by decide):PE X (.Name x pos) (Yb8 i):=Zyc hN hv hd hcd
end
noncomputable def Same(H H':Hp):Prop:=∀b o,H b=some o->H' b=some o
theorem Same.refl(H:Hp):Same H H:=λ_ _ h=>h
theorem Same.trans{H H1 H2:Hp}(a:Same H H1)(b:Same H1 H2):Same H H2:=λc o h=>b c o (a c o h)
theorem Same.free{H H':Hp}(e:Same H H'){l:Addr}(h:H' l=Option.none):H l=Option.none:=by
 cases q:H l with
 | none=>rfl
 | some o=>
  rw[e l o q]at h
  cases h
end L2
set_option maxHeartbeats 4000000
namespace L2
open PySem PySem.Spec PyProof.Rows
noncomputable def Bt(n:Nat)(x:Int):Prop:=x.natAbs<2^n
theorem Bt.mono{m n:Nat}{x:Int}(h:Bt m x)(hn:m≤n):Bt n x:=Qc h (VP (by decide) hn)
theorem Bt.mul{m n:Nat}{x y:Int}(h:Bt m x)(k:Bt n y):Bt (m+n) (x*y):=by
 unfold Bt at*
 rw[Int.natAbs_mul,Nat.pow_add]
 exact Nat.mul_lt_mul'' h k
theorem Bt.neg{m:Nat}{x:Int}(h:Bt m x):Bt m (-x):=by
 unfold Bt at*
 rw[Int.natAbs_neg]
 exact h
theorem Bt.add{m n:Nat}{x y:Int}(h:Bt m x)(k:Bt n y):Bt (m+n+1) (x+y):=by
 unfold Bt at*
 have h1:2^m≤2^(m+n):=VP (by decide) (by omega)
 have h2:2^n≤2^(m+n):=VP (by decide) (by omega)
 have h3:2^(m+n+1)=2*2^(m+n):=by rw[Nat.pow_succ];omega
 have h4:=Int.natAbs_add_le x y
 omega
theorem Bt.of_le{m:Nat}{x y:Int}(h:Bt m x)(k:y.natAbs≤x.natAbs):Bt m y:=Nat.lt_of_le_of_lt k h
theorem Bt.of_lt{m:Nat}{x:Int}(h1:-(2^m)<x)(h2:x<2^m):Bt m x:=by
 unfold Bt
 have e:((2^m:Nat):Int)=2^m:=by simp
 omega
theorem Bt.bits{m:Nat}{x:Int}(h:Bt m x):Q6 x≤m:=by
 unfold Q6
 split
 ·exact Q7 _
 ·rename_i hx
  have hp:x.natAbs≠0:=by
   intro e
   apply hx
   have:x=0:=by omega
   subst this
   rfl
  have:=(Nat.log2_lt hp).mpr h
  omega
theorem Bt.mulOk{m n:Nat}{x y:Int}(h:Bt m x)(k:Bt n y)(hmn:m+n≤100000000:=by decide):IntMulOk x y:=by
 have h1:=h.bits
 have h2:=k.bits
 have h3:Uv (Q6 x+Q6 y)=false:=by
  unfold Uv bitsLine
  exact decide_eq_false (by omega)
 unfold IntMulOk
 rw[h3]
 simp
noncomputable def DivOk(_ j:Int):Prop:=j≠0∧j.natAbs.log2<9000
theorem DivOk.of{i j:Int}{n:Nat}(h0:j≠0)(h:Bt n j)(hn:n≤9000:=by decide):DivOk i j:=by
 refine⟨h0,?_⟩
 have hp:j.natAbs≠0:=by omega
 have:=(Nat.log2_lt hp).mpr h
 omega
section
variable {X:Cx}
theorem Z2i:OpR X (BL .Mult) (rI IntMulOk λi j=>.int (i*j)):=opI λ_ _ _ _ _ _ _ hc q=>mul_int q hc
theorem Zwu:OpR X (BL .FloorDiv) (rI DivOk λi j=>.int (i.fdiv j)):=opI λ_ _ _ _ _ _ _ hc q=>floordiv_int hc.1 q (.inl (PyProof.noPylong_of_log2 hc.2))
theorem Z0j:OpR X (BL .Pow) (rI Z7y λi j=>.int (i^j.toNat)):=Z4w
end
theorem Zic(elt target iter:Expr)(ifs:List Expr)(scope:Vw)(pos:Pos)(it acc:Xd)(env:Env) :
  compTurn (.ListComp elt [⟨target,iter,ifs,0⟩] scope pos) 0 it acc env=(standAt iter.pos>>= λ_=>pyNext it>>= λr=>match r with
   | none=>pure (.done .next)
   | some v=>Ud target it v>>= λ_=>V1 target env v>>= λ_=>
    (forIn ifs true λc r=>if r=true then do let ok←isTrue c env (eval c env);pure (Q9 ok)else pure (Q9 r))>>= λok=>
     if ok=true then((eval elt env>>= λx=>call (.builtin "list.append") [acc,x]>>= λ_=>pure ())>>= λ_=>
      again (.compLoop (.ListComp elt [⟨target,iter,ifs,0⟩] scope pos) 0 it acc env))
     else again (.compLoop (.ListComp elt [⟨target,iter,ifs,0⟩] scope pos) 0 it acc env)):=by rfl
theorem Zl4{prog:X8}{w:Qs}{A:Qo}{R:Result->Xg->Prop}{s:Xg}{elt target iter:Expr}{ifs:List Expr}{scope:Vw}{pos:Pos}{it acc:Xd}{env:Env}(I:Nat->Xg->Prop)
  (turn:∀n s,I n s->X4 (Qd prog w) A (pyNext it) (λr s₁=>match r with
   | none=>R (.ok .next) s₁
   | some v=>X4 (Qd prog w) A (Ud target it v) (λ_ s₁=>X4 (Qd prog w) A (V1 target env v) (λ_ s₂=>
     X4 (Qd prog w) A (forIn ifs true λc r=>if r=true then do let ok←isTrue c env (eval c env);pure (Q9 ok)else pure (Q9 r)) (λok s₃=>
      if ok=true then X4 (Qd prog w) A (eval elt env) (λx s₄=>
       X4 (Qd prog w) A (call (.builtin "list.append") [acc,x]) (λ_ s₅=>∃m,m<n∧I m s₅) (notedBy (Qd prog w) A env λe s'=>R (.error e) s') s₄) (notedBy (Qd prog w) A env λe s'=>R (.error e) s') s₃
      else∃m,m<n∧I m s₃) (notedBy (Qd prog w) A env λe s'=>R (.error e) s') s₂) (notedBy (Qd prog w) A env λe s'=>R (.error e) s') s₁) (notedBy (Qd prog w) A env λe s'=>R (.error e) s') s₁) (notedBy (Qd prog w) A env λe s'=>R (.error e) s') s)
  (n:Nat) (h:I n s) :
  codeAny (Qd prog w) A (.compLoop (.ListComp elt [⟨target,iter,ifs,0⟩] scope pos) 0 it acc env) R s:=by
 refine codeAny_loop rfl I (λn s hI=>?_) n h
 show X4 _ A ((compTurn (.ListComp elt [⟨target,iter,ifs,0⟩] scope pos) 0 it acc env).onRaise (λx=>do noteFrame x env;theTreesLotGoes x)) _ _ s
 refine wpAny_noted ?_
 rw[Zic]
 refine Xh (wpAny_standAt (Xh (Bw (turn n s hI) (λr s₁ h₁=>?_) λ_ _ h'=>h')))
 cases r with
 | none=>exact X7 h₁
 | some v=>
  refine Xh (Bw h₁ (λ_ s₂ h₂=>?_) λ_ _ h'=>h')
  refine Xh (Bw h₂ (λ_ s₂ h₂=>Xh (Bw h₂ (λok s₃ h₃=>?_) λ_ _ h'=>h')) λ_ _ h'=>h')
  cases ok with
  | false=>exact X7 ⟨rfl,h₃⟩
  | true=>
   exact Xh (Xh (Bw h₃ (λx s₄ h₄=>Xh (Bw h₄ (λ_ s₅ h₅=>X7 (X7 ⟨rfl,h₅⟩)) λ_ _ h'=>h')) λ_ _ h'=>h'))
noncomputable def Zhw(env:Env):List (Str×JX)->List (Str×Addr)->List (Str×Addr)
 | [],acc=>acc
 | (n,k) :: r,acc=>if k== .free then Zhw env r ((n,(env.cells.lookup n).getD 0) :: acc)else Zhw env r acc
theorem Zjb{env:Env}:∀(names:List (Str×JX)) (acc:List (Str×Addr)),(∀y∈names,y.2= .free->∃c,env.cells.lookup y.1=some c) ->
  (forIn names acc (λ(y:Str×JX) cs=>(if y.2== .free then(cellOf env y.1>>= λc=>pure (Q9 ((y.1,c) :: cs)))else pure (Q9 cs):Sem (ForInStep (List (Str×Addr))))))=pure (Zhw env names acc)
 | [],acc,_=>by rw[Ua];rfl
 | (n,k) :: r,acc,h=>by
  by_cases hk:k= .free
  ·subst hk
   obtain⟨c,hc⟩:=h (n,.free) (.head _) rfl
   have hc':env.cells.lookup n=some c:=hc
   have e:=Zjb (env:=env) r ((n,c) :: acc) λy hy=>h y (.tail _ hy)
   have ec:cellOf env n=pure c:=by
    unfold cellOf
    rw[hc']
   rw[List.forIn_cons]
   simp only[beq_self_eq_true,if_true]
   rw[ec]
   simp only[Zhw,beq_self_eq_true,if_true,hc',Uw]
   exact e
  ·have e:=Zjb (env:=env) r acc λy hy=>h y (.tail _ hy)
   have hb:(k==QF)=false:=by simpa using hk
   rw[List.forIn_cons]
   simp only[Zhw,hb,BJ,if_false]
   exact e
theorem Zdy{scope:Vw}{env:Env}(h:∀y∈scope.names,y.2= .free->∃c,env.cells.lookup y.1=some c):closureFor scope env=pure (Zhw env scope.names []):=by
 have e:=Zjb scope.names [] h
 have e':(forIn scope.names ([]:List (Str×Addr)) (λ(y:Str×JX) cs=>(match y with|(name,kind)=>do
   if kind== .free then do let a←cellOf env name;pure (Q9 ((name,a) :: cs))else pure (Q9 cs):Sem (ForInStep (List (Str×Addr))))))=pure (Zhw env scope.names []):=e
 exact congrArg (λ(m:Sem (List (Str×Addr)))=>m>>= λx=>pure x) e'
theorem Zjj{env:Env}:∀(names:List (Str×JX)) (acc:List (Str×Addr)),(∀y∈names,y.2= .free->∃c,env.cells.lookup y.1=some c) ->
  ∀n c,(n,c)∈Zhw env names acc->(n,c)∈acc∨((n,QF)∈names∧env.cells.lookup n=some c)
 | [],acc,_,n,c,h=>.inl h
 | (m,k) :: r,acc,h,n,c,hm=>by
  by_cases hk:k= .free
  ·subst hk
   obtain⟨d,hd⟩:=h (m,.free) (.head _) rfl
   have hd':env.cells.lookup m=some d:=hd
   simp only[Zhw,beq_self_eq_true,if_true,hd',Uw]at hm
   rcases Zjj r _ (λy hy=>h y (.tail _ hy)) n c hm with z|⟨z1,z2⟩
   ·rcases Xp.mp z with z|z
    ·cases z;exact .inr ⟨.head _,hd'⟩
    ·exact .inl z
   ·exact .inr ⟨.tail _ z1,z2⟩
  ·have hb:(k==QF)=false:=by simpa using hk
   simp only[Zhw,hb,BJ,if_false]at hm
   refine(Zjj r _ (λy hy=>h y (.tail _ hy)) n c hm).imp id λqz9=>?_
   obtain⟨z1,z2⟩:=qz9
   exact⟨.tail _ z1,z2⟩
theorem Zj2{env:Env}:∀(names:List (Str×JX)) (acc:List (Str×Addr)),∀p∈acc,p∈Zhw env names acc
 | [],_,_,h=>h
 | (m,k) :: r,acc,p,h=>by
  unfold Zhw
  split
  ·exact Zj2 r _ p (.tail _ h)
  ·exact Zj2 r _ p h
theorem Zj9{env:Env}:∀(names:List (Str×JX)) (acc:List (Str×Addr)) (n:Str),(n,QF)∈names->∃c,(n,c)∈Zhw env names acc
 | [],_,_,h=>nomatch h
 | (m,k) :: r,acc,n,h=>by
  rcases Xp.mp h with z|z
  ·cases z
   exact⟨_,by
    simp only[Zhw,beq_self_eq_true,if_true]
    exact Zj2 _ _ _ (.head _)⟩
  ·unfold Zhw
   split
   ·exact Zj9 r _ n z
   ·exact Zj9 r _ n z
theorem Ze6{env:Env}(inj:∀x y c,env.cells.lookup x=some c->env.cells.lookup y=some c->x=y):∀(names:List (Str×JX)) (acc:List (Str×Addr)),
  (∀ y∈names,y.2= .free->∃c,env.cells.lookup y.1=some c)->(names.map (·.1)).Nodup->(∀p∈acc,env.cells.lookup p.1=some p.2)->(∀p∈acc,p.1∉names.map (·.1))->(acc.Pairwise λx y=>x.2≠y.2) ->
  (Zhw env names acc).Pairwise λx y=>x.2≠y.2
 | [],_,_,_,_,_,h=>h
 | (m,k) :: r,acc,hf,hn,ha,hd,hp=>by
  rw[Qe,Qp]at hn
  have hf':∀y∈r,y.2= .free->∃c,env.cells.lookup y.1=some c:=λy hy=>hf y (.tail _ hy)
  have hd':∀p∈acc,p.1∉r.map (·.1):=λp hp z=>hd p hp (by rw[Qe];exact .tail _ z)
  by_cases hk:k= .free
  ·subst hk
   obtain⟨d,hd0⟩:=hf (m,.free) (.head _) rfl
   have hd1:env.cells.lookup m=some d:=hd0
   simp only[Zhw,beq_self_eq_true,if_true,hd1,Uw]
   refine Ze6 inj r _ hf' hn.2 (λp hp'=>?_) (λp hp'=>?_) (List.pairwise_cons.mpr ⟨λp hp' z=>?_,hp⟩)
   ·rcases Xp.mp hp' with rfl|hp'
    ·exact hd1
    ·exact ha p hp'
   ·rcases Xp.mp hp' with rfl|hp'
    ·exact hn.1
    ·exact hd' p hp'
   ·have e:m=p.1:=inj m p.1 d hd1 (by rw[ha p hp',←z])
    exact hd p hp' (by rw[Qe,←e];exact .head _)
  ·have hb:(k==QF)=false:=by simpa using hk
   simp only[Zhw,hb,BJ,if_false]
   exact Ze6 inj r _ hf' hn.2 ha hd' hp
structure Zpd(h:Heap)(lo:Nat)(names:List (Str×JX))(acc cs:List (Str×Addr)):Prop where
 mem:∀n c,(n,c)∈cs->(n,c)∈acc∨(h.IsCell c none∧lo≤c∧(n,JN)∈names)
 has:∀n,(n,JN)∈names->∃c,(n,c)∈cs
 old:∀p∈acc,p∈cs
theorem Zff:∀(names:List (Str×JX)) (h:Heap) (lo:Nat) (acc:List (Str×Addr)),lo≤h.objs.size->Zpd (Bm h names) lo names acc (JM h.objs.size names acc)
 | [],_,_,_,_=>⟨λ_ _ m=>.inl m,(λ_ m=>nomatch m),λ_ m=>m⟩
 | (name,kind) :: r,h,lo,acc,hlo=>by
  by_cases hk:(kind==JN)=true
  ·have ek:kind= .cell:=by simpa using hk
   subst ek
   have ih:=Zff r (h.push { cls:=.type "cell",data:=.cell none }) lo ((name,h.objs.size) :: acc) (by rw[Q0];omega)
   rw[Q0]at ih
   have e1:JM h.objs.size ((name,.cell) :: r) acc=JM (h.objs.size+1) r ((name,h.objs.size) :: acc):=by
    rw[JM,if_pos hk]
   have e2:Bm h ((name,.cell) :: r)=Bm (h.push { cls:=.type "cell",data:=.cell none }) r:=by
    rw[Bm,if_pos hk]
   rw[e1,e2]
   refine⟨λn c m=>?_,λn m=>?_,λp m=>ih.old p (.tail _ m)⟩
   ·rcases ih.mem n c m with z|⟨z1,z2,z3⟩
    ·rcases Xp.mp z with z|z
     ·cases z
      exact .inr ⟨⟨_,Uc _ _ _ _ (X5 _ rfl),rfl⟩,hlo,.head _⟩
     ·exact .inl z
    ·exact .inr ⟨z1,z2,.tail _ z3⟩
   ·rcases Xp.mp m with z|z
    ·cases z
     exact⟨_,ih.old _ (.head _)⟩
    ·exact ih.has n z
  ·have ih:=Zff r h lo acc hlo
   have e1:JM h.objs.size ((name,kind) :: r) acc=JM h.objs.size r acc:=by
    rw[JM,if_neg hk]
   have e2:Bm h ((name,kind) :: r)=Bm h r:=by
    rw[Bm,if_neg hk]
   rw[e1,e2]
   refine⟨λn c m=>(ih.mem n c m).imp id λ⟨z1,z2,z3⟩=>⟨z1,z2,.tail _ z3⟩,λn m=>?_,ih.old⟩
   rcases Xp.mp m with z|z
   ·cases z
    exact absurd rfl hk
   ·exact ih.has n z
theorem Zhr(names:List (Str×JX)):∀(h:Heap) (acc:List (Str×Addr)),(acc.Pairwise λx y=>x.2≠y.2)->(∀p∈acc,p.2<h.objs.size)->(JM h.objs.size names acc).Pairwise λx y=>x.2≠y.2:=by
 induction names with
 | nil=>intro h acc ha _;exact ha
 | cons y r ih=>
  intro h acc ha hb
  obtain⟨name,kind⟩:=y
  unfold JM
  split
  ·have:=ih (h.push { cls:=.type "cell",data:=.cell none }) ((name,h.objs.size) :: acc) (List.pairwise_cons.mpr ⟨λp hp=>XR (hb p hp),ha⟩) (λp hp=>by
    rw[Q0]
    rcases Xp.mp hp with rfl|hp
    ·exact Vk _
    ·exact Nat.lt_succ_of_lt (hb p hp))
   rwa[Q0]at this
  ·exact ih h acc ha hb
theorem Zh0{M:Model}{A:Qo}{E:Xd->Xg->Prop}{s:Xg}{scope:Vw}{globals:Addr}{cl:List (Str×Addr)}{qual:Str}{env:Env}{Q:Env->Xg->Prop}
  (hQ:Q (newEnv scope s.heap.objs.size globals (JM (s.heap.objs.size+1) scope.names cl) qual none .none (some env) builtinsNs)
   { s with heap:=Bm (s.heap.push { cls:=.type "dict",data:=.dict #[] }) scope.names }) :
  X4 M A (newFunctionEnv scope globals cl [] qual none .none (some env)) Q E s:=by
 simp only[newFunctionEnv,Option.isSome_some,if_true]
 refine Xh (wpAny_alloc ?_)
 refine Xh (wpAny_layCells _ (λname kind cells=>by cases hkc:kind==JN<;>simp[hkc]) _ _ _ _ ?_)
 rw[show({ s with heap:=s.heap.push { cls:=.type "dict",data:=.dict #[] } }:Xg).heap.objs.size=s.heap.objs.size+1 from Q0 ..]
 rw[Ua]
 exact Xh (X7 (X7 hQ))
noncomputable def Yz(X:Cx)(N':List Str)(sc:Vw)(C:Addr)(cells:List (Str×Addr))(s₂:Xg)(H₂:Hp)(fp:List Addr):Cx :=
 { X with N:=N',s₀:=s₂,H₀:=H₂,env:=compEnvC sc cells C X.env,outer:=X.stack,stack:=X.stack,ex:=fp,fn:=λx=>sc.names.lookup x==some .cell,pn:=[],xe:=λ_ _=>False }
theorem Zdv{env:Env}:∀{names:List (Str×JX)} {x:Str} {k:JX},names.lookup x=some k ->
  (names.map λ(n,k)=>if(k==QF&&env.scope.kind== .function&&env.kindOf n==some .cell)then(n,JN)else(n,k)).lookup x=
   some (if(k==QF&&env.scope.kind== .function&&env.kindOf x==some .cell)then JN else k)
 | [],_,_,h=>by simp at h
 | (n,k') :: r,x,k,h=>by
  have ih:=@Zdv env r x k
  show List.lookup x ((if(k'==QF&&env.scope.kind== .function&&env.kindOf n==some .cell)=true then(n,JN)else(n,k')) :: _)=_
  cases hx:x==n with
  | true=>
   simp only[QG,hx]at h
   cases h
   have e:=beq_iff_eq.mp hx
   subst e
   split<;>simp[QG]
  | false=>
   simp only[QG,hx]at h
   split
   ·simp only[QG,hx];exact ih h
   ·simp only[QG,hx];exact ih h
theorem Zf3{env:Env}:∀{names:List (Str×JX)} {x:Str},names.lookup x=none ->
  (names.map λ(n,k)=>if(k==QF&&env.scope.kind== .function&&env.kindOf n==some .cell)then(n,JN)else(n,k)).lookup x=none
 | [],_,_=>rfl
 | (n,k') :: r,x,h=>by
  have ih:=@Zf3 env r x
  show List.lookup x ((if(k'==QF&&env.scope.kind== .function&&env.kindOf n==some .cell)=true then(n,JN)else(n,k')) :: _)=_
  cases hx:x==n with
  | true=>
   simp only[QG,hx]at h
   cases h
  | false=>
   simp only[QG,hx]at h
   split
   ·simp only[QG,hx];exact ih h
   ·simp only[QG,hx];exact ih h
theorem Zeq{α:Type}:∀{l:List (Str×α)} {n:Str} {c:α},(l.map (·.1)).Nodup->(n,c)∈l->l.lookup n=some c
 | (k,v) :: r,n,c,hd,h=>by
  rw[Qe,Qp]at hd
  rcases Xp.mp h with e|hr
  ·cases e
   simp[QG]
  ·have hne:(n==k)=false:=by
    refine Vu.mpr λz=>hd.1 ?_
    have e:n=k:=beq_iff_eq.mp z
    rw[←e]
    exact XQ.mpr ⟨(n,c),hr,rfl⟩
   rw[QG,hne]
   exact Zeq hd.2 hr
theorem Yt{α:Type}:∀{l:List (Str×α)} {n:Str} {c:α},(n,c)∈l->∃d,l.lookup n=some d∧(n,d)∈l
 | (k,v) :: r,n,c,h=>by
  by_cases e:n=k
  ·subst e
   exact⟨v,by simp[QG],V8⟩
  ·have hne:(n==k)=false:=by simpa using e
   rcases Xp.mp h with z|z
   ·cases z;exact absurd rfl e
   ·obtain⟨d,h1,h2⟩:=Yt z
    exact⟨d,by rw[QG,hne];exact h1,.tail _ h2⟩
structure CompScope(X:Cx)(own:List Str)(caps:List Nat)(N':List Str)(sc:Vw):Prop where
 kind:sc.kind= .function
 nd:N'.Nodup
 names:N'=own ++ caps.map λi=>X.N.getD i Str.empty
 nn:(sc.names.map (·.1)).Nodup
 free:(sc.names.all λy=>y.2 != .free||(X.env.kindOf y.1==some .cell||X.env.kindOf y.1==some .free))=true
 caps:(caps.all λi=>sc.names.lookup (X.N.getD i Str.empty)==some .free)=true
noncomputable def Zae(own:List Str)(caps:List Nat)(σ:St):St:=own.map (λ_=>none) ++ caps.map λi=>(σ[i]?).getD none
section
variable {X:Cx}{own:List Str}{caps:List Nat}{N':List Str}{sc:Vw}
theorem CompScope.lk(S:CompScope X own caps N' sc){n:Str}{k:JX}(h:(n,k)∈sc.names):sc.names.lookup n=some k:=Zeq S.nn h
theorem CompScope.fr(S:CompScope X own caps N' sc){n:Str}(h:(n,QF)∈sc.names):X.env.kindOf n=some .cell∨X.env.kindOf n=some .free:=by
 have:=Q5.mp S.free _ h
 simpa using this
theorem Zpc{pins:List (Addr×Obj)}{σ:St}{H:Hp}{s:Xg}{fp:List Addr}{cl:List (Str×Addr)}(S:CompScope X own caps N' sc)(I:Inv X pins σ H s)
  (f:∀b∈fp,Zjo X pins H b) (fo:∀b∈fp,∃o,s.heap.get? b=some o)
  (hcl:∀n c,(n,c)∈cl->(n,QF)∈sc.names∧X.env.cells.lookup n=some c) (hcl2:∀n,(n,QF)∈sc.names->∃c,(n,c)∈cl) (hapart:cl.Pairwise λx y=>x.2≠y.2) :
  Inv (Yz X N' sc (s.heap.objs.size+1) (JM (s.heap.objs.size+2) sc.names cl) s H fp) [] (Zae own caps σ) (upd H s.heap.objs.size (.lst []))
   { s with heap:=Bm ((s.heap.push { cls:=.type "list",data:=.seq #[] }).push { cls:=.type "dict",data:=.dict #[] }) sc.names }:=by
 generalize hh1:s.heap.push { cls:=.type "list",data:=.seq #[] }=h1
 have z1:h1.objs.size=s.heap.objs.size+1:=by rw[←hh1,Q0]
 generalize hh2:h1.push { cls:=.type "dict",data:=.dict #[] }=h2
 have z2:h2.objs.size=s.heap.objs.size+2:=by rw[←hh2,Q0,z1]
 have BC:=Zff sc.names h2 (s.heap.objs.size+2) cl (by omega)
 have AP:=Zhr sc.names h2 cl hapart (λp hp=>by
  obtain⟨v,hv⟩:=I.cell p.1 p.2 (hcl p.1 p.2 hp).2
  exact Qc hv.lt (by omega))
 rw[z2]at BC AP
 have keep:∀b o,s.heap.get? b=some o->(Bm h2 sc.names).get? b=some o:=λb o e=>Uc _ _ _ _ (by
  rw[←hh2]
  refine Xl _ ?_
  rw[←hh1]
  exact Xl _ e)
 have hD:(Bm h2 sc.names).get? s.heap.objs.size=some { cls:=.type "list",data:=.seq #[] }:=Uc _ _ _ _ (by
  rw[←hh2]
  refine Xl _ ?_
  rw[←hh1]
  exact X5 _ rfl)
 have hC:(Bm h2 sc.names).Ns (s.heap.objs.size+1) (λ_=>none):=by
  refine Heap.Ns.keeps ?_ (Uc _ _)
  have:=Heap.Ns.new h1 (.type "dict")
  rw[hh2,z1]at this
  exact this
 have cellOld:∀n c,X.env.cells.lookup n=some c->c<s.heap.objs.size:=λn c e=>by
  obtain⟨v,hv⟩:=I.cell n c e
  exact hv.lt
 have lk':∀n c,(JM (s.heap.objs.size+2) sc.names cl).lookup n=some c->(n,c)∈JM (s.heap.objs.size+2) sc.names cl:=λn c e=>JD e
 have hnD:H s.heap.objs.size=none:=I.fresh
 have fresh:∀c,s.heap.objs.size<c->upd H s.heap.objs.size (.lst []) c=none:=λc hc=>by
  rw[Z3 (XR hc)]
  exact I.hok.fresh (Nat.le_of_lt hc)
 have isc:∀n c,(n,c)∈JM (s.heap.objs.size+2) sc.names cl->∃v,(Bm h2 sc.names).IsCell c v:=λn c m=>by
  rcases BC.mem n c m with z|⟨z,_⟩
  ·obtain⟨v,hv⟩:=I.cell n c (hcl n c z).2
   exact⟨v,hv.keeps keep⟩
  ·exact⟨none,z⟩
 have okH:HOk X.prog X.w (upd H s.heap.objs.size (.lst [])) (Bm h2 sc.names):=by
  refine I.hok.laid keep (Qa _) ?_
  exact⟨Q7 _,[],0,.nil,hD⟩
 have kinds:∀x k,sc.names.lookup x=some k->(relabel sc X.env).names.lookup x=some (if(k==QF&&X.env.scope.kind== .function&&X.env.kindOf x==some .cell)then JN else k):=λx k e=>Zdv e
 have kindsR:∀x k,(relabel sc X.env).names.lookup x=some k->∃k',(x,k')∈sc.names∧k=(if(k'==QF&&X.env.scope.kind== .function&&X.env.kindOf x==some .cell)then JN else k'):=λx k e=>by
  cases q:sc.names.lookup x with
  | none=>
   have:=Zf3 (env:=X.env) q
   rw[show(relabel sc X.env).names.lookup x=_ from this]at e
   cases e
  | some k'=>
   refine⟨k',JD q,?_⟩
   rw[kinds x k' q]at e
   exact(Qz e).symm
 refine⟨⟨I.ok.mod,S.kind,I.ok.glob,I.ok.blt,?_,?_,?_,?_,I.ok.hd,I.ok.frames,.inl rfl,?_,?_,?_,?_,?_,?_,?_⟩,rfl,I.bare,?_,?_,?_,?_,?_,(λp hp=>nomatch hp),okH,?_⟩
 ·show s.heap.objs.size≤s.heap.objs.size+1;omega
 ·intro x y c e1 e2
  exact name_of_addr AP (lk' x c e1) (lk' y c e2)
 ·intro x hx
  rcases hx with hx|hx
  ·obtain⟨k',hm,hk'⟩:=kindsR x _ hx
   cases k' with
   | cell=>
    obtain⟨c,hc⟩:=BC.has x hm
    obtain⟨d,h1,_⟩:=Yt hc
    exact⟨d,h1⟩
   | free=>
    obtain⟨c,hc⟩:=hcl2 _ hm
    obtain⟨d,h1,_⟩:=Yt (BC.old _ hc)
    exact⟨d,h1⟩
   | _=>simp at hk'
  ·obtain⟨k',hm,hk'⟩:=kindsR x _ hx
   cases k' with
   | free=>
    obtain⟨c,hc⟩:=hcl2 _ hm
    obtain⟨d,h1,_⟩:=Yt (BC.old _ hc)
    exact⟨d,h1⟩
   | _=>simp at hk'
 ·intro x c hf e
  have hf':sc.names.lookup x=some .cell:=by simpa [Yz]using hf
  rcases BC.mem x c (lk' x c e)with z|⟨_,z,_⟩
  ·-- a free one and a cell at once: the name stands once
   exfalso
   have q:=S.lk (hcl x c z).1
   rw[hf']at q
   cases q
  ·show s.heap.objs.size≤c;omega
 ·intro b hb
  obtain⟨o,ho⟩:=fo b hb
  have hlt:=XF ho
  refine⟨Xy (V7 hlt (Vk _)),λx c e z=>?_⟩
  rcases BC.mem x c (lk' x c e)with q|⟨_,q,_⟩
  ·exact(f b hb).2.2.2.2.1 x c (hcl x c q).2 z
  ·subst z
   exact absurd hlt (Nat.not_lt.mpr (Ql (U8 _ 2) q))
 ·exact I.bs
 ·exact Ql I.ok.bsz I.sz
 ·intro b o e hb
  rcases(f b hb).2.2.2.1 with z|z
  ·exact I.ok.noex b o e z
  ·exact absurd (Qc (XF e) I.ok.bsz) (Nat.not_lt.mpr z)
 ·intro b hb z
  rcases Xp.mp (I.stkSub b z)with q|q
  ·exact(f b hb).2.1 q
  ·exact(f b hb).2.2.1 q
 ·exact I.stack
 ·exact I.stkFree
 ·exact Un.laid keep (Qa _) hnD
 ·refine⟨_,hC,λi x v e1 e2 e3=>?_⟩
  have e1':(own ++ caps.map λi=>X.N.getD i Str.empty)[i]? =some x:=by rw[←S.names];exact e1
  have e2':(own.map (λ_=>(none:Option V)) ++ caps.map λi=>(σ[i]?).getD none)[i]? =some (some v):=e2
  by_cases hi:i<own.length
  ·rw[Uo (by simpa using hi),Xn]at e2'
   cases q:own[i]? with
   | none=>rw[q]at e2';cases e2'
   | some y=>rw[q]at e2';cases e2'
  ·rw[JF (by simpa using hi),Xn]at e2'
   rw[JF (by omega),Xn]at e1'
   rw[Xc]at e2'
   cases q:caps[i-own.length]? with
   | none=>rw[q]at e2';cases e2'
   | some j=>
    rw[q]at e1' e2'
    have e1:X.N.getD j Str.empty=x:=Qz e1'
    have e2:(σ[j]?).getD none=some v:=Qz e2'
    have e4:σ[j]? =some (some v):=by
     cases r:σ[j]? with
     | none=>rw[r]at e2;cases e2
     | some o=>rw[r]at e2;exact congrArg some e2
    have hj:j<X.N.length:=by rw[←I.len];exact(Xu.mp e4).1
    have e5:X.N[j]? =some x:=by rw[←e1];simp[Xe,hj]
    have hc:=Q5.mp S.caps j (Qi q)
    have e6:sc.names.lookup x=some .free:=by rw[←e1];simpa using hc
    have hm:=JD e6
    have kx:=S.fr hm
    obtain⟨m,hn,hl⟩:=I.loc
    obtain⟨u,ru,lo⟩:=hl j x v e5 e4 (by rcases kx with z|z;exact .inr (.inl z);exact .inr (.inr z))
    refine⟨u,ru,.inr ⟨?_,?_⟩⟩
    ·have:=kinds x _ e6
     show(relabel sc X.env).names.lookup x=_∨(relabel sc X.env).names.lookup x=_
     rw[this]
     split
     ·exact .inl rfl
     ·exact .inr rfl
    ·rcases lo with⟨z,_⟩|⟨_,c,hc1,hc2⟩
     ·rcases kx with w|w<;>(rw[w]at z;cases z)
     ·obtain⟨d,hd⟩:=hcl2 x hm
      obtain⟨d',h1,h2⟩:=Yt (BC.old _ hd)
      refine⟨d',h1,?_⟩
      rcases BC.mem x d' h2 with w|⟨_,_,w⟩
      ·have w':=(hcl x d' w).2
       rw[hc1]at w'
       cases w'
       exact hc2.keeps keep
      ·have:=S.lk w
       rw[e6]at this
       cases this
 ·intro x c e
  exact isc x c (lk' x c e)
 ·exact fresh _ (Vk _)
 ·intro x c e
  rcases BC.mem x c (lk' x c e)with z|⟨_,z,_⟩
  ·have e':=(hcl x c z).2
   have hlt:=cellOld x c e'
   rw[Z3 (Xy hlt)]
   exact I.freeC x c e'
  ·exact fresh c (by omega)
 ·show(Zae own caps σ).length=N'.length
  rw[S.names]
  unfold Zae
  simp
end
noncomputable def Zzx(J:It)(g:TG)(tt:TT)(te:TE)(σ0:St)(D:Addr)(Q:Hp->Prop)(H1:Hp):Prop :=
 ∃W:Nat->Nat->St->Hp->Prop,(∃m,W 0 m σ0 (upd H1 D (.lst [])))∧∀i m σ' H',W i m σ' H' ->
  (J.stop i H'∧Q H')∨(J.go i H'∧∀x H2,J.yld i H' x H2->g x σ' H2 λσ2 H3=>tt σ2 H3 λb H4=>
   if b=true then te σ2 H4 λy H5=>∃ys,H5 D=some (.lst ys)∧ys.length<Xr∧∃m',m'<m∧W (i+1) m' σ2 (upd H5 D (.lst (ys ++ [y])))
   else∃m',m'<m∧W (i+1) m' σ2 H4)
noncomputable def Zzj(own:List Str)(caps:List Nat)(wi:TI)(g:TG)(tt:TT)(te:TE):TE:=λσ H Q=>wi σ H λJ H1=>∀D,H1 D=none->Zzx J g tt te (Zae own caps σ) D (Q (.ref D)) H1
noncomputable def Z8j:TT:=λ_ H Q=>Q true H
noncomputable def Zz8(X:Cx)(ifs:List Expr)(t:TT):Prop :=
 ∀(pins:List (Addr×Obj)) (s:Xg) (σ:St) (H:Hp) (Q:Bool->Hp->Prop),Inv X pins σ H s->t σ H Q ->
  X4 (Qd X.prog X.w) X.A (forIn ifs true λc r=>if r=true then do let ok←isTrue c X.env (eval c X.env);pure (Q9 ok)else pure (Q9 r)) (TP X pins σ Q) X.xe s
theorem Zzl{X:Cx}:Zz8 X [] Z8j:=λpins s σ H Q I h=>by
 rw[Ua]
 exact X7 ⟨H,I,h⟩
theorem Zzq{X:Cx}{c:Expr}{t:TT}(h:PT X c t):Zz8 X [c] t:=λpins s σ H Q I q=>wpAny_tests_one (h pins s σ H Q I q)
theorem Zzc{M:Model}{A:Qo}{α:Type}{t:Sem α}{Q Q':α->Xg->Prop}{E:Xd->Xg->Prop}{s:Xg}(h:X4 M A t Q (λ_ _=>False) s)(hQ:∀a s,Q a s->Q' a s):X4 M A t Q' E s :=
 Bw h hQ λ_ _ z=>z.elim
section
variable {X:Cx}{own:List Str}{caps:List Nat}{N':List Str}{sc:Vw}{tg elt iter:Expr}{ifs:List Expr}{pos:Pos}{wi:TI}{g:TG}{tt:TT}{te:TE}
theorem Zo8{pins p':List (Addr×Obj)}{σ σ':St}{H H':Hp}{s s':Xg}{fp:List Addr}{C:Addr}{cells:List (Str×Addr)}{h':Heap}(I:Inv X pins σ H s)(f:∀b∈fp,Zjo X pins H b)
  (I':Inv (Yz X N' sc C cells s H fp) p' σ' H' s') (hs:Vj C s'.heap h'):Inv X pins σ H' { s' with heap:=h' }:=by
 have hC:s.heap.objs.size≤C:=I'.ok.above
 have B:=I'.base
 have ne:∀b o,s.heap.get? b=some o->b≠C:=λb o e=>Xy (Qc (XF e) hC)
 obtain⟨m,⟨oC,_,_,hoC,_⟩,_⟩:=I'.loc
 refine I.call' (ch:=fp) (s':={ s' with heap:=h' }) I'.os ⟨λb o e n hb hx=>?_,λb o e n hb hx=>?_,B.free,λb o e hx=>?_,B.tups,B.frzs,B.tbls⟩ (λb ob e=>?_) I'.bare λb hb=>?_
 ·exact(hs.2 b (ne b o e)).trans (B.keep b o e n hb hx)
 ·obtain⟨sl,q⟩:=B.slot b o e n hb hx
  exact⟨sl,(hs.2 b (ne b o e)).trans q⟩
 ·obtain⟨o',q⟩:=B.there b o e hx
  exact⟨o',(hs.2 b (ne b o e)).trans q⟩
 ·have hfree:H' C=none:=I'.free
  refine(I'.hok b ob e).stay (λc w' hc q=>(hs.2 c ?_).trans q) (λ_ q=>q) λ_ _ q=>q
  rintro rfl
  rcases hc with rfl|hc
  ·rw[hfree]at e;cases e
  ·rw[hfree]at hc;cases hc
 ·obtain⟨_,f1,_,f3,f4,f5⟩:=f b hb
  exact⟨f3,f1,f4,f5⟩
theorem Zid{Qf:Result->Xg->Prop}(S:CompScope X own caps N' sc)(hc:X.calm=true)
  (hg:∀C cells s₂ H₂ fp,PG (Yz X N' sc C cells s₂ H₂ fp) tg g) (ht:∀C cells s₂ H₂ fp,Zz8 (Yz X N' sc C cells s₂ H₂ fp) ifs tt) (he:∀C cells s₂ H₂ fp,PE (Yz X N' sc C cells s₂ H₂ fp) elt te)
  {pins:List (Addr×Obj)} {σ:St} {H:Hp} {s:Xg} {fp:List Addr} {it:Addr} {tn:Nat->Heap->Prop} {J:It} {Q:Hp->Prop} (I:Inv X pins σ H s) (T:Turn X.prog X.w X.K tg J fp it tn) (st:tn 0 s.heap) (f:∀b∈fp,Zjo X pins H b)
  (h:Zzx J g tt te (Zae own caps σ) s.heap.objs.size Q H)
  (fin:∀s' σ' H' p' C cells,Inv (Yz X N' sc C cells s H fp) p' σ' H' s'->C=s.heap.objs.size+1->Q H'->Qf (.ok .next) s') :
  X4 (Qd X.prog X.w) X.A (newFunctionEnv sc X.env.globals (Zhw X.env sc.names []) [] X.env.qual none .none (some X.env)) (λcenv s₄=>
   cenv.locals=s.heap.objs.size+1∧codeAny (Qd X.prog X.w) X.A (.compStart (.ListComp elt [⟨tg,iter,ifs,0⟩] sc pos) 0 (.ref it) (.ref s.heap.objs.size) { cenv with scope:=relabel sc X.env }) Qf s₄) X.xe
    { s with heap:=s.heap.push { cls:=.type "list",data:=.seq #[] } }:=by
 have hf:∀y∈sc.names,y.2= .free->∃c,X.env.cells.lookup y.1=some c:=λy hy e=>by
  obtain⟨n,k⟩:=y
  have e':k= .free:=e
  subst e'
  exact I.ok.has n (S.fr hy)
 have hcl:∀n c,(n,c)∈Zhw X.env sc.names []->(n,QF)∈sc.names∧X.env.cells.lookup n=some c:=λn c m=>(Zjj sc.names [] hf n c m).elim (λz=>nomatch z) id
 have hap:=Ze6 I.ok.inj sc.names [] hf S.nn (λ_ z=>nomatch z) (λ_ z=>nomatch z) .nil
 have I0:=Zpc (cl:=Zhw X.env sc.names []) S I f (λb hb=>let⟨o,e,_⟩:=T.obj _ _ st b hb;⟨o,e⟩) hcl (λn m=>Zj9 sc.names [] n m) hap
 refine Zh0 ?_
 rw[show({ s with heap:=s.heap.push { cls:=.type "list",data:=.seq #[] } }:Xg).heap.objs.size=s.heap.objs.size+1 from Q0 ..]
 refine⟨rfl,?_⟩
 dsimp only
 generalize hs0:({ s with heap:=Bm ((s.heap.push { cls:=.type "list",data:=.seq #[] }).push { cls:=.type "dict",data:=.dict #[] }) sc.names }:Xg)=s0 at I0⊢
 have st0:tn 0 s0.heap:=T.keep _ _ _ st λb hb o e=>by
  rw[←hs0]
  exact Uc _ _ _ _ (Xl _ (Xl _ e))
 generalize hcells:JM (s.heap.objs.size+1+1) sc.names (Zhw X.env sc.names [])=cells at I0⊢
 -- the loop
 obtain⟨W,⟨m0,w0⟩,turn⟩:=h
 have loop:codeAny (Qd X.prog X.w) X.A (.compLoop (.ListComp elt [⟨tg,iter,ifs,0⟩] sc pos) 0 (.ref it) (.ref s.heap.objs.size) (Yz X N' sc (s.heap.objs.size+1) cells s H fp).env) Qf s0:=by
  generalize hX':Yz X N' sc (s.heap.objs.size+1) cells s H fp=X' at I0⊢
  have hg':=hg (s.heap.objs.size+1) cells s H fp
  have ht':=ht (s.heap.objs.size+1) cells s H fp
  have he':=he (s.heap.objs.size+1) cells s H fp
  have fin':=λs' σ' H' p' (z:Inv (Yz X N' sc (s.heap.objs.size+1) cells s H fp) p' σ' H' s')=>fin s' σ' H' p' _ _ z rfl
  rw[hX']at hg' ht' he' fin'
  have hxe:X'.xe= λ_ _=>False:=by rw[←hX'];rfl
  have hpr:X'.prog=X.prog:=by rw[←hX'];rfl
  have hw:X'.w=X.w:=by rw[←hX'];rfl
  have hK:X'.K=X.K:=by rw[←hX'];rfl
  have hA:X'.A=X.A:=by rw[←hX'];rfl
  have hcm:X'.calm=true:=by rw[←hX'];exact hc
  have hex:X'.ex=fp:=by rw[←hX'];rfl
  have hpn:X'.pn=[]:=by rw[←hX'];rfl
  have stat:∀{H':Hp},(∀b∈fp,H' b=none)->∀b∈fp,Zjo X' [] H' b:=λhn b hb=>by
   have e1:=I0.ok.exf b (by rw[hex];exact hb)
   have e2:=I0.ok.exfs b (by rw[hex];exact hb)
   exact⟨hn b hb,e1.1,e2,.inl (by rw[hex];exact hb),e1.2,λp hp=>by rw[hpn]at hp;exact nomatch hp⟩
  have frD:∀b∈fp,(upd H s.heap.objs.size (.lst [])) b=none:=λb hb=>by
   obtain⟨o,e,_⟩:=T.obj _ _ st b hb
   rw[Z3 (Xy (XF e))]
   exact(f b hb).1
  have T':Turn X'.prog X'.w X'.K tg J fp it tn:=by rw[hpr,hw,hK];exact T
  rw[←hpr,←hw,←hA]
  refine Zl4 (λn s'=>∃i σ' H',Inv X' [] σ' H' s'∧tn i s'.heap∧(∀b∈fp,H' b=none)∧W i n σ' H') ?_ m0 ⟨0,_,_,I0,st0,frD,w0⟩
  rintro n s3 ⟨i,σ3,H3,I3,st3,fr3,w3⟩
  rcases turn i n σ3 H3 w3 with⟨stop,qn⟩|⟨go,step⟩
  ·refine Zzc (T'.done X' rfl rfl rfl hcm i [] s3 σ3 H3 _ I3 (stat fr3) st3 stop) λr s4 qz9=>?_
   obtain⟨hr,I4⟩:=qz9
   subst hr
   exact fin' s4 σ3 H3 [] I4 qn
  ·refine Zzc (T'.item X' rfl rfl rfl hcm i [] s3 σ3 H3 _ I3 (stat fr3) st3 go) λr s4 qz9=>?_
   obtain⟨u,hr,h4⟩:=qz9
   subst hr
   refine Zzc h4 λ_ s5 qz9=>?_
   obtain⟨x,H5,I5,r5,y5,st5,fr5⟩:=qz9
   have I5':=I5.pinned (stat fr5) (T.obj _ _ st5)
   have hgg:=hg' _ s5 σ3 H5 x u _ I5' r5 (step x H5 y5)
   rw[hxe]at hgg
   refine Zzc hgg λ_ s6 qz9=>?_
   obtain⟨σ6,H6,I6,q6⟩:=qz9
   have htt:=ht' _ s6 σ6 H6 _ I6 q6
   rw[hxe]at htt
   refine Zzc htt λok s7 qz9=>?_
   obtain⟨H7,I7,q7⟩:=qz9
   have again:∀{σ7:St} {H7:Hp} {s7:Xg} {m:Nat},Inv X' ([] ++ Zlw fp s5.heap) σ7 H7 s7->W (i+1) m σ7 H7->m<n->∃m,m<n∧∃i σ' H',Inv X' [] σ' H' s7∧tn i s7.heap∧(∀b∈fp,H' b=none)∧W i m σ' H':=fun{σ7 H7 s7 m} I7 w7 hm=>by
    refine⟨m,hm,i+1,σ7,H7,I7.unpinned,T.keep _ _ _ st5 λb hb o e=>(I7.pin (b,o) (Qm _ (Qm _ (Zdo hb e)))).1,λb hb=>?_,w7⟩
    obtain⟨o,e,d⟩:=T.obj _ _ st5 b hb
    exact(I7.pin (b,o) (Qm _ (Qm _ (Zdo hb e)))).2.1
   cases ok with
   | false=>
    obtain⟨m',hm,w7⟩:=q7
    rw[if_neg XC]
    exact again I7 w7 hm
   | true=>
    rw[if_pos rfl]
    have hee:=he' _ s7 σ6 H7 _ I7 q7
    rw[hxe]at hee
    refine Zzc hee λy s8 qz9=>?_
    obtain⟨vy,H8,I8,r8,ys,hD,hlen,m',hm,w8⟩:=qz9
    have hap:=Zla (X:=X') _ s8 σ6 H8 (.ref s.heap.objs.size) [vy] (.ref s.heap.objs.size) [y] (λ_ H'=>W (i+1) m' σ6 H') I8 rfl (.cons r8 .nil) ⟨_,ys,vy,rfl,rfl,hD,hlen,w8⟩
    rw[hxe]at hap
    refine Zzc hap λz s9 qz9=>?_
    obtain⟨_,H9,I9,_,w9⟩:=qz9
    exact again I9 w9 hm
 exact codeAny_compStart_list loop (T.self _ 0 _ _ _ st0 loop)
theorem Z2h(S:CompScope X own caps N' sc)(hc:X.calm=true)(hi:PI X tg iter wi)
  (hg:∀C cells s₂ H₂ fp,PG (Yz X N' sc C cells s₂ H₂ fp) tg g) (ht:∀C cells s₂ H₂ fp,Zz8 (Yz X N' sc C cells s₂ H₂ fp) ifs tt) (he:∀C cells s₂ H₂ fp,PE (Yz X N' sc C cells s₂ H₂ fp) elt te)
  (hs:∀x,JL iter X.env x=pure x:=by intro _;rfl):PE X (.ListComp elt [⟨tg,iter,ifs,0⟩] sc pos) (Zzj own caps wi g tt te):=by
 intro pins s σ H Q I h
 rw[eval_ListComp]
 have hf:∀y∈sc.names,y.2= .free->∃c,X.env.cells.lookup y.1=some c:=λy hy e=>by
  obtain⟨n,k⟩:=y
  have e':k= .free:=e
  subst e'
  exact I.ok.has n (S.fr hy)
 refine wpAny_comprehension_free (use:=none) rfl hs (Zdy hf) S.kind (λy hy e=>by obtain⟨n,k⟩:=y;have e':k= .local:=e;subst e';exact S.lk hy) ?_
 refine thn (hi pins s σ H _ I h) λv s1 h1=>thn h1 λitv s2 h2=>?_
 obtain⟨it,fp,tn,J,H2,e,I2,T,st2,f2,q⟩:=h2
 subst e
 refine U9 ?_
 refine thn (Zid (iter:=iter) (pos:=pos) (Qf:=compPost (Qd X.prog X.w) X.A X.xe none (EP X pins σ Q) (.ref s2.heap.objs.size) (s2.heap.objs.size+1)) S hc hg ht he I2 T st2 f2 (q s2.heap.objs.size I2.fresh) ?_) λcenv s4 ⟨hl,hr⟩=>?_
 ·intro s' σ' H' p' C cells I' eC q'
  subst eC
  obtain⟨m,hn,_⟩:=id I'.loc
  exact⟨m,hn,λh' hs'=>⟨.ref s2.heap.objs.size,H',Zo8 I2 f2 I' hs',rfl,q'⟩⟩
 ·rw[←hl]at hr
  exact hr
end
section
variable {X:Cx}{own:List Str}{caps:List Nat}{N':List Str}{sc:Vw}{tg elt iter:Expr}{ifs:List Expr}{pos:Pos}{wi:TI}{g:TG}{tt:TT}{te:TE}
theorem Zif{i:Nat}{y:Str}{py spos:Pos}(hN:X.N.Nodup)(hy:X.N[i]? =some y)(hx:Loc X.env.scope y)(S:CompScope X own caps N' sc)(hc:X.calm=true)(hi:PI X tg iter wi)
  (hg:∀C cells s₂ H₂ fp,PG (Yz X N' sc C cells s₂ H₂ fp) tg g) (ht:∀C cells s₂ H₂ fp,Zz8 (Yz X N' sc C cells s₂ H₂ fp) ifs tt) (he:∀C cells s₂ H₂ fp,PE (Yz X N' sc C cells s₂ H₂ fp) elt te)
  (hsw:Vo (.ListComp elt [⟨tg,iter,ifs,0⟩] sc pos) (some (.Name y py)) spos.line X.env=pure true:=by rfl)
  (hs:∀x,JL iter X.env x=pure x:=by intro _;rfl) (hf:X.fn y=true∨X.env.scope.names.lookup y=some .local:=by first|exact .inl rfl|exact .inr rfl|assumption) :
  PS X (.Assign [.Name y py] (.ListComp elt [⟨tg,iter,ifs,0⟩] sc pos) spos) (Z33 (Zzj own caps wi g tt te) (Zs6 i)):=by
 intro pins s σ H D I h
 have hfr:∀y∈sc.names,y.2= .free->∃c,X.env.cells.lookup y.1=some c:=λy hy e=>by
  obtain⟨n,k⟩:=y
  have e':k= .free:=e
  subst e'
  exact I.ok.has n (S.fr hy)
 rw[exec_Assign_Name_used _ _ _ _ hsw]
 refine Xh (wpAny_standAt (Xh ?_))
 show X4 _ X.A (do let _←comprehension (.ListComp elt [⟨tg,iter,ifs,0⟩] sc pos) sc X.env _ (newList []) false (eval iter X.env) (some (V1 (.Name y py) X.env))) _ _ s
 refine Xh (Bw (wpAny_comprehension_free (use:=some (V1 (.Name y py) X.env)) (Q:=λ_ s'=>SP X pins D .next s') rfl hs (Zdy hfr) S.kind (λy hy e=>by obtain⟨n,k⟩:=y;have e':k= .local:=e;subst e';exact S.lk hy) ?_) (λ_ s' hq=>X7 (X7 hq)) λ_ _ e=>e)
 refine thn (hi pins s σ H _ I h) λv s1 h1=>thn h1 λitv s2 h2=>?_
 obtain⟨it,fp,tn,J,H2,e,I2,T,st2,f2,q⟩:=h2
 subst e
 refine U9 ?_
 refine thn (Zid (iter:=iter) (pos:=pos) (Qf:=compPost (Qd X.prog X.w) X.A X.xe (some (V1 (.Name y py) X.env)) (λ_ s'=>SP X pins D .next s') (.ref s2.heap.objs.size) (s2.heap.objs.size+1)) S hc hg ht he I2 T st2 f2 (q s2.heap.objs.size I2.fresh) ?_) λcenv s4 ⟨hl,hr⟩=>?_
 ·intro s' σ' H' p' C cells I' eC q'
  subst eC
  obtain⟨m,hn,_⟩:=id I'.loc
  have I3:Inv X pins σ H' s':=Zo8 I2 f2 I' (.refl ..)
  show X4 _ X.A (V1 (.Name y py) X.env (.ref s2.heap.objs.size)) _ _ s'
  refine wpAny_assign_Name (Zli (v:=.ref s2.heap.objs.size) I3 hN hy hx rfl (λs5 I5 hsb=>?_) hf)
  have hC:s2.heap.objs.size<s2.heap.objs.size+1:=Vk _
  have ltL:X.env.locals<s2.heap.objs.size:=I2.lt
  have ltC:∀x c,X.env.cells.lookup x=some c->c<s2.heap.objs.size:=λx c e=>by
   obtain⟨w',z⟩:=I2.cell x c e
   exact z.lt
  refine⟨m,?_,λh' hs'=>⟨σ.set i (some (.ref s2.heap.objs.size)),H',?_,q'⟩⟩
  ·obtain⟨a,hsa,ha⟩:=hsb
   refine hn.sameBut hsa ?_
   rcases ha with ha|ha
   ·rw[ha];exact XR (V7 ltL hC)
   ·exact XR (V7 (ltC _ _ ha) hC)
  ·refine I5.turned (t':=s5.toks) (it:=s2.heap.objs.size+1) (λb o hb e=>(hs'.2 b hb).trans e) I'.free (XR (V7 ltL hC)) (.inr (Ql I2.sz (Nat.le_of_lt hC))) (λx c e=>Xy (V7 (ltC x c e) hC)) λp hp=>?_
   obtain⟨e,_⟩:=I2.pin p hp
   exact Xy (V7 (XF e) hC)
 ·rw[←hl]at hr
  exact hr
end
section
variable (n:Nat)(D:Addr)(Pv:Nat->List V->St->Hp->Prop)
variable {n D Pv}
end
mutual
inductive Is(H:Hp)(L:Addr->Prop):V->Xa->Prop where
 | non:Is H L .non .none
 | bl (b:Bool):Is H L (.bl b) (.bool b)
 | int (i:Int):Is H L (.int i) (.int i)
 | str (x:Str):Is H L (.str x) (.str x)
 | lst {a:Addr} {xs:List V} {ds:List Xa}:L a->H a=some (.lst xs)->IsAll H L xs ds->Is H L (.ref a) (.list ds)
 | tup {a:Addr} {xs:List V} {ds:List Xa}:H a=some (.tup xs)->IsAll H L xs ds->Is H L (.ref a) (.tuple ds)
inductive IsAll(H:Hp)(L:Addr->Prop):List V->List Xa->Prop where
 | nil:IsAll H L [] []
 | cons {x:V} {xs:List V} {d:Xa} {ds:List Xa}:Is H L x d->IsAll H L xs ds->IsAll H L (x :: xs) (d :: ds)
end
section
variable {H H':Hp}{L L':Addr->Prop}
theorem IsAll.ind{Q:List V->List Xa->Prop}(n:Q [] [])(c:∀{x:V} {xs:List V} {d:Xa} {ds:List Xa},Is H L x d->IsAll H L xs ds->Q xs ds->Q (x :: xs) (d :: ds)):∀{xs ds},IsAll H L xs ds->Q xs ds:=λh=>
 IsAll.rec (motive_1:=λ_ _ _=>True) (motive_2:=λxs ds _=>Q xs ds) trivial (λ_=>trivial) (λ_=>trivial) (λ_=>trivial) (λ_ _ _ _=>trivial) (λ_ _ _=>trivial) n (λp q _ r=>c p q r) h
theorem IsAll.length{xs:List V}{ds:List Xa}(h:IsAll H L xs ds):xs.length=ds.length:=IsAll.ind (Q:=λxs ds=>xs.length=ds.length) rfl (λ_ _ r=>congrArg (·+1) r) h
theorem IsAll.set{xs:List V}{ds:List Xa}{x:V}{d:Xa}(i:Nat)(h:IsAll H L xs ds)(k:Is H L x d):IsAll H L (xs.set i x) (ds.set i d) :=
 IsAll.ind (Q:=λxs ds=>∀i,IsAll H L (xs.set i x) (ds.set i d)) (λ_=>.nil) (λh q r i=>Nat.casesOn i (.cons k q) λi=>.cons h (r i)) h i
end
section
variable {X:Cx}{pins:List (Addr×Obj)}{σ:St}{H:Hp}{s:Xg}{L L':Addr->Prop}
end
noncomputable abbrev Shp(d:Xa):Prop:=U6 d=true
section
variable {X:Cx}
end
mutual
noncomputable def Yr:Xa->Bool
 | .none=>true
 | .int _=>true
 | .str _=>true
 | .list ds=>Zar ds
 | .tuple ds=>Zar ds
 | _=>false
noncomputable def Zar:List Xa->Bool
 | []=>true
 | d :: ds=>Yr d&&Zar ds
end
mutual
theorem Zi8:∀(d e:Xa),Yr d=true->Yr e=true->(QM d e=true↔d=e)
 | .none,e,_,he=>by cases e<;>simp_all [QM,Yr]
 | .int i,e,_,he=>by cases e<;>simp_all [QM,Yr]
 | .str i,e,_,he=>by cases e<;>simp_all [QM,Yr]
 | .list ds,e,hd,he=>by
  cases e with
  | list es=>
   rw[Yr]at hd he
   rw[QM,Qk.injEq]
   exact Zfu ds es hd he
  | _=>simp_all [QM,Yr]
 | .tuple ds,e,hd,he=>by
  cases e with
  | tuple es=>
   rw[Yr]at hd he
   rw[QM,Xa.tuple.injEq]
   exact Zfu ds es hd he
  | _=>simp_all [QM,Yr]
 | .bool b,e,hd,_=>by simp[Yr]at hd
 | .dict b,e,hd,_=>by simp[Yr]at hd
theorem Zfu:∀(ds es:List Xa),Zar ds=true->Zar es=true->(Ul ds es=true↔ds=es)
 | [],[],_,_=>by simp[Ul]
 | [],_ :: _,_,_=>by simp[Ul]
 | _ :: _,[],_,_=>by simp[Ul]
 | d :: ds,e :: es,hd,he=>by
  rw[Zar,XN]at hd he
  rw[Ul,XN,Zi8 d e hd.1 he.1,Zfu ds es hd.2 he.2,List.cons.injEq]
end
theorem Z5c{d e:Xa}(h:Yr d=true)(k:Yr e=true)(q:d=e):QM d e=true:=(Zi8 d e h k).mpr q
theorem Z3s{d e:Xa}(h:Yr d=true)(k:Yr e=true)(q:d≠e):QM d e=false:=Vu.mpr λz=>q ((Zi8 d e h k).mp z)
noncomputable def fr(a b:Int):Xa:=.tuple [.int a,.int b]
theorem Zem{t b:Int}(hb:b≠0):0<(JH t b:Int):=by
 have:=Int.gcd_pos_of_ne_zero_right t hb
 omega
theorem Wk{t g:Int}(hg:0<g):t.fdiv g=t/g:=Int.fdiv_eq_ediv_of_nonneg t (by omega)
theorem Zc3{t g:Int}(hg:0<g)(h:g∣t):t.fdiv (-g)= -(t/g):=by
 obtain⟨k,rfl⟩:=h
 rw[Int.mul_ediv_cancel_left _ (by omega)]
 have e:g*k=(-k)*(-g):=by rw[Int.neg_mul_neg,Int.mul_comm]
 rw[e,Int.mul_fdiv_cancel _ (by omega)]
noncomputable def shr(t b:Int):Int:=if b<0 then -(JH t b:Int)else(JH t b:Int)
theorem Z2e{t b:Int}(hb:b≠0):t.fdiv (shr t b)=(Xw t b).num:=by
 have hg:=Zem (t:=t) hb
 have hd:(JH t b:Int)∣t:=Int.gcd_dvd_left ..
 rw[Rat.num_divInt,Int.gcd_comm b t]
 unfold shr
 by_cases h:b<0
 ·rw[if_pos h,Zc3 hg hd,Int.sign_eq_neg_one_of_neg h,Int.neg_one_mul,Int.neg_ediv_of_dvd hd]
 ·rw[if_neg h,Wk hg,Int.sign_eq_one_of_pos (by omega),Int.one_mul]
theorem Zzk{t b:Int}(hb:b≠0):b.fdiv (shr t b)=((Xw t b).den:Int):=by
 have hg:=Zem (t:=t) hb
 have hd:(JH t b:Int)∣b:=Int.gcd_dvd_right ..
 rw[Rat.den_divInt,if_neg hb,Int.gcd_comm b t]
 unfold shr
 by_cases h:b<0
 ·have e:(b.natAbs:Int)= -b:=by omega
  rw[if_pos h,Zc3 hg hd,Int.natCast_ediv,e,Int.neg_ediv_of_dvd hd]
 ·have e:(b.natAbs:Int)=b:=by omega
  rw[if_neg h,Wk hg,Int.natCast_ediv,e]
theorem Zyt{t b:Int}(hb:b≠0):shr t b≠0:=by
 have hg:=Zem (t:=t) hb
 unfold shr
 split<;>omega
theorem Zx4{n:Nat}{t b:Int}(hb:b≠0)(h:Bt n b):Bt n (shr t b):=by
 have h1:Bt n (JH t b:Int):=by
  refine Bt.of_le h ?_
  have:=Int.gcd_le_natAbs_right t hb
  omega
 unfold shr
 split
 ·exact h1.neg
 ·exact h1
theorem Zoh{n:Nat}{t b:Int}(hb:b≠0)(h:Bt n t):Bt n (Xw t b).num:=by
 rw[Rat.num_divInt]
 refine Bt.of_le h ?_
 refine Ql (Uu _ _) ?_
 rw[Int.natAbs_mul]
 have:b.sign.natAbs≤1:=by
  rw[Int.natAbs_sign]
  split<;>omega
 calc b.sign.natAbs*t.natAbs≤1*t.natAbs:=Nat.mul_le_mul_right _ this
  _=t.natAbs:=Nat.one_mul _
theorem Zrv{n:Nat}{t b:Int}(hb:b≠0)(h:Bt n b):Bt n ((Xw t b).den:Int):=by
 rw[Rat.den_divInt,if_neg hb]
 refine Bt.of_le h ?_
 show((b.natAbs/b.gcd t:Nat):Int).natAbs≤_
 rw[Uj]
 exact Nat.div_le_self _ _
theorem Zmb(q:Rat):(q.den:Int)≠0:=by
 have:=q.den_pos
 omega
theorem Jb(q:Rat):(0:Int)<(q.den:Int):=by
 have:=q.den_pos
 omega
theorem Zon(q r:Rat):Xw (q.num*(r.den:Int)+r.num*(q.den:Int)) ((q.den:Int)*(r.den:Int))=q+r:=by
 rw[Rat.add_def',←Int.natCast_mul,Rat.divInt_ofNat]
theorem Zkh(q r:Rat):Xw (q.num*r.num) ((q.den:Int)*(r.den:Int))=q*r:=by
 rw[Rat.mul_def',←Int.natCast_mul,Rat.divInt_ofNat]
theorem Zq2(q r:Rat):q.num*(r.den:Int)<r.num*(q.den:Int)↔q<r:=(Rat.lt_iff q r).symm
noncomputable def frD(q:Rat):Xa:=fr q.num (q.den:Int)
noncomputable def BQ(n:Nat)(q:Rat):Prop:=Bt n q.num∧Bt n (q.den:Int)
theorem BQ.mono{m n:Nat}{q:Rat}(h:BQ m q)(k:m≤n):BQ n q:=⟨h.1.mono k,h.2.mono k⟩
theorem BQ.div{n:Nat}{t b:Int}(hb:b≠0)(h:Bt n t)(k:Bt n b):BQ n (Xw t b):=⟨Zoh hb h,Zrv hb k⟩
theorem BQ.zero:BQ 1 0:=⟨by unfold Bt;decide,by unfold Bt;decide⟩
section
variable {X:Cx}{K:Xb}{a b o e:Expr}{ta tb tl to:TE}{pos:Pos}
theorem Zvd(hK:X.K=K):IxR X (Yal K):=hK▸Ztl
theorem Zrg(hK:X.K=K):IxR X (rIx K):=hK▸Z4h
theorem Zwl(hK:X.K=K):SlR X (Ya8 K):=hK▸Z0h
noncomputable def Yco(K:Xb):List V->Hp->VK->Prop:=λxs H Q=>∃p ys,xs=[.ref p]∧(SqL K H p ys∨SqT K H p ys)∧Q (.int ys.length) H
theorem Zg7(hK:X.K=K):Zbt X (.builtin "len") (Yco K):=by subst hK;exact Zkw
noncomputable def Ztv(K:Xb):List V->Hp->VK->Prop:=λxs H Q=>∃p ys,xs=[.ref p]∧(SqL K H p ys∨SqT K H p ys)∧∀l,H l=none->Q (.ref l) (upd H l (.lst ys))
theorem Zit(hK:X.K=K):Zbt X (.type "list") (Ztv K):=by subst hK;exact Zld
noncomputable def Ycw(K:Xb)(ta:TE):TT:=λσ H Q=>ta σ H λx H'=>∃k,Z9i K x H' k∧Q k H'
theorem Z2n(hK:X.K=K)(ha:PE X a ta)(he:∀whole,isTrue a X.env whole=(do let v←whole;standAt a.pos;holding [v] (truthy v))):PT X a (Ycw K ta):=by subst hK;exact Zve ha he
theorem Zuu{tg l:Expr}(hK:X.K=K)(hl:PE X l tl):PI X tg l (Z5i K tl):=by subst hK;exact Z2a hl
theorem Zys(hK:X.K=K):OpR X (JB .In) (rIn K false):=by subst hK;exact Zso
theorem Zk4(hK:X.K=K):OpR X (JB .NotIn) (rIn K true):=by subst hK;exact Zlr
end
theorem Z2{H:Hp}{p:Addr}(h:H p=none)(o:HO):Same H (upd H p o):=λb u q=>by rw[Z3 (Y4 q h)];exact q
noncomputable def But(p:Addr)(H H':Hp):Prop:=∀b o,b≠p->H b=some o->H' b=some o
theorem But.upd(p:Addr)(H:Hp)(o:HO):But p H (upd H p o):=λb u n e=>by rw[Z3 n];exact e
noncomputable def Pl(H:Hp)(p:Addr)(n:Nat):Prop:=∃a b c:Int,H p=some (.lst [.int a,.int b,.int c])∧0≤c∧c≤n
theorem Pl.at{H:Hp}{p:Addr}{n:Nat}(h:Pl H p n):∃xs,H p=some (.lst xs):=by
 obtain⟨a,b,c,e,h1,h2⟩:=h
 exact⟨_,e⟩
namespace B
theorem boot_abs:X3 "abs"=some (.builtin "abs"):=by decide +kernel
theorem boot_len:X3 "len"=some (.builtin "len"):=by decide +kernel
theorem boot_max:X3 "max"=some (.builtin "max"):=by decide +kernel
theorem boot_min:X3 "min"=some (.builtin "min"):=by decide +kernel
theorem boot_isinstance:X3 "isinstance"=some (.builtin "isinstance"):=by decide +kernel
theorem boot_sorted:X3 "sorted"=some (.builtin "sorted"):=by decide +kernel
theorem boot_int:X3 "int"=some (.type "int"):=by decide +kernel
theorem boot_bool:X3 "bool"=some (.type "bool"):=by decide +kernel
theorem boot_str:X3 "str"=some (.type "str"):=by decide +kernel
theorem boot_list:X3 "list"=some (.type "list"):=by decide +kernel
theorem boot_tuple:X3 "tuple"=some (.type "tuple"):=by decide +kernel
theorem boot_range:X3 "range"=some (.type "range"):=by decide +kernel
theorem boot_zip:X3 "zip"=some (.type "zip"):=by decide +kernel
theorem boot_enumerate:X3 "enumerate"=some (.type "enumerate"):=by decide +kernel
theorem boot_set:X3 "set"=some (.type "set"):=by decide +kernel
end B
theorem Zej{a b:Int}(hb:0<b):a.fmod b=a%b:=Int.fmod_eq_emod_of_nonneg a (by omega)
theorem Zxd{x y:Int}(hx:0≤x)(hy:0<y):JH y (x.fmod y)=JH x y:=by
 rw[Zej hy,Int.gcd_comm x y]
 have e:=Int.emod_add_mul_ediv x y
 conv=>rhs;rw[←e]
 rw[Int.gcd_add_mul_left_right]
theorem Zx9:(2:Nat)≤Xr:=by decide
theorem Zwm(q:Rat):Xw q.num (q.den:Int)=q:=Rat.num_divInt_den q
theorem BQ.n{n:Nat}{q:Rat}(h:BQ n q):Bt n q.num:=h.1
theorem BQ.d{n:Nat}{q:Rat}(h:BQ n q):Bt n (q.den:Int):=h.2
theorem Yd7(q:Rat):(((q.den:Int)):Rat)≠0:=by
 intro z
 exact Zmb q (Rat.intCast_eq_zero_iff.mp z)
theorem Yed(q:Rat):((q.num:Int):Rat)=q*(((q.den:Int)):Rat):=by
 have h:=Zwm q
 rw[Qx]at h
 have d:=Yd7 q
 conv=>rhs;lhs;rw[←h]
 grind
variable {G:Xb}
noncomputable def KS(G:Xb)(a:Addr)(ns:List Int):Prop:=∃(o:Obj) (its:Array Xd) (n:Nat),G.lookup a=some o∧o.cls= .type "list"∧o.dict=none∧o.data= .seq its n∧its.size≤Xr∧Vals (ns.map V.int) its.toList
theorem KS.sq{G:Xb}{H:Hp}{a:Addr}{ns:List Int}(h:KS G a ns):SqL G H a (ns.map V.int):=.inr h
noncomputable def exD(x:Str):Xa:=.dict [(.str x,.none)]
noncomputable def fnD(x:Str):Xa:=.dict [(.str x,.bool true)]
noncomputable def Zgp:Xa->Bool| .dict ((_,.bool _) :: _)=>true|_=>false
noncomputable def ClsAt(G:Xb)(x:Str)(C:Addr):Prop:=Qy G X6 x=some (some (.ref C))
structure Zfj(G:Xb)(C:Addr):Prop where
 ga:Br G (.ref C) "__getattribute__"=some (some (.builtin "BaseException.__getattribute__"))
 gt:Br G (.ref C) "__getattr__"=some none
 cl:Br G (.ref C) "__class__"=some (some (.builtin "object.__class__"))
 isB:PySem.W.subIn G (.ref C) (.type "BaseException")=some true
 isO:PySem.W.subIn G (.ref C) (.type "object")=some true
 isC:(PySem.W.clsIn G C).isSome=true
 k1:Bq G (.ref C) (.type "int")=some false
 k2:Bq G (.ref C) (.type "bool")=some false
 k3:Bq G (.ref C) (.type "str")=some false
 k4:Bq G (.ref C) (.type "list")=some false
 k5:Bq G (.ref C) (.type "tuple")=some false
noncomputable def ExO(C a:Addr)(h:Heap):Prop:=∃o vs,h.get? a=some o∧o.cls= .ref C∧o.data= .fields vs
inductive ImO where
 | tup (xs:List V)
 | ext (φ:Heap->Prop)
noncomputable def ImO.ho:ImO->HO
 | .tup xs=>.tup xs
 | .ext φ=>.ext φ
inductive MuO where
 | lst (xs:List V)
 | dK (kvs:List (Key×V))
 | dT (kvs:List (List Key×V))
noncomputable def MuO.ho:MuO->HO
 | .lst xs=>.lst xs
 | .dK kvs=>.dK kvs
 | .dT kvs=>.dT kvs
noncomputable def Ycd:Key->Xa
 | .inl i=>.int i
 | .inr x=>.str x
noncomputable def Ydj(ks:List Key):Xa:=.tuple (ks.map Ycd)
noncomputable abbrev KY:=Sum Key (List Key)
noncomputable def kyD:KY->Xa
 | .inl k=>Ycd k
 | .inr ks=>Ydj ks
noncomputable def MuO.dic(t:Bool)(ks:List KY)(xs:List V):MuO->Prop
 | .lst _=>False
 | .dK kvs=>t=false∧ks=kvs.map (λp=>.inl p.1)∧xs=kvs.map (·.2)
 | .dT kvs=>t=true∧ks=kvs.map (λp=>.inr p.1)∧xs=kvs.map (·.2)
noncomputable def dcD(t:Bool)(ks:List KY)(ds:List Xa):Xa:=.dict ((.none,.bool t) :: (ks.map kyD).zip ds)
theorem ImO.nm{H:Hp}{a:Addr}{x:ImO}{y:MuO}(h:H a=some x.ho)(h':H a=some y.ho):False:=by
 rw[h]at h'
 cases x<;>cases y<;>cases h'
theorem ImO.nl{H:Hp}{a:Addr}{x:ImO}{ys:List V}(h:H a=some x.ho)(h':H a=some (.lst ys)):False:=by
 rw[h]at h'
 cases x<;>cases h'
mutual
inductive Da(G:Xb)(H:Hp)(L:Addr->Prop):V->Xa->Prop where
 | non:Da G H L .non .none
 | bl (b:Bool):Da G H L (.bl b) (.bool b)
 | int (i:Int):Da G H L (.int i) (.int i)
 | str (x:Str):Da G H L (.str x) (.str x)
 | lst {a:Addr} {xs:List V} {ds:List Xa}:L a->Rd H a (.lst xs)->Das G H L xs ds->Da G H L (.ref a) (.list ds)
 | tup {a:Addr} {xs:List V} {ds:List Xa}:H a=some (.tup xs)->Das G H L xs ds->Da G H L (.ref a) (.tuple ds)
 | scr {a:Addr} {ns:List Int}:KS G a ns->Da G H L (.ref a) (.list (ns.map Xk))
 | exc {a C:Addr} {x:Str}:Zfj G C->ClsAt G x C->H a=some (.ext (ExO C a))->Da G H L (.ref a) (exD x)
 | fn {a:Addr} {x:Str}:ClsAt G x a->Da G H L (.ref a) (fnD x)
 | dic {a:Addr} {o:MuO} {t:Bool} {ks:List KY} {xs:List V} {ds:List Xa}:L a->Rd H a o.ho->o.dic t ks xs->Das G H L xs ds->Da G H L (.ref a) (dcD t ks ds)
inductive Das(G:Xb)(H:Hp)(L:Addr->Prop):List V->List Xa->Prop where
 | nil:Das G H L [] []
 | cons {x:V} {xs:List V} {d:Xa} {ds:List Xa}:Da G H L x d->Das G H L xs ds->Das G H L (x :: xs) (d :: ds)
end
section
variable {H H':Hp}{L L':Addr->Prop}
theorem Da.both{P:V->Xa->Prop}{Q:List V->List Xa->Prop}(c1:P .non .none)(c2:∀b,P (.bl b) (.bool b))(c3:∀i,P (.int i) (.int i))(c4:∀x,P (.str x) (.str x))
  (c5:∀{a:Addr} {xs:List V} {ds:List Xa},L a->Rd H a (.lst xs)->Q xs ds->P (.ref a) (.list ds)) (c6:∀{a:Addr} {xs:List V} {ds:List Xa},H a=some (.tup xs)->Q xs ds->P (.ref a) (.tuple ds))
  (c7:∀{a:Addr} {ns:List Int},KS G a ns->P (.ref a) (.list (ns.map Xk))) (c8:∀{a C:Addr} {x:Str},Zfj G C->ClsAt G x C->H a=some (.ext (ExO C a))->P (.ref a) (exD x)) (c9:∀{a:Addr} {x:Str},ClsAt G x a->P (.ref a) (fnD x))
  (c10:∀{a:Addr} {o:MuO} {t:Bool} {ks:List KY} {xs:List V} {ds:List Xa},L a->Rd H a o.ho->o.dic t ks xs->Q xs ds->P (.ref a) (dcD t ks ds)) (n:Q [] []) (c:∀{x:V} {xs:List V} {d:Xa} {ds:List Xa},P x d->Q xs ds->Q (x :: xs) (d :: ds)):(∀{v d},Da G H L v d->P v d)∧∀{xs ds},Das G H L xs ds->Q xs ds :=
 ⟨λh=>Da.rec (motive_1:=λv d _=>P v d) (motive_2:=λxs ds _=>Q xs ds) c1 c2 c3 c4 (λp e _ r=>c5 p e r) (λe _ r=>c6 e r) (λk=>c7 k) (λk l m=>c8 k l m) (λk=>c9 k) (λp e k _ r=>c10 p e k r) n (λ_ _ p q=>c p q) h,
   λh=>Das.rec (motive_1:=λv d _=>P v d) (motive_2:=λxs ds _=>Q xs ds) c1 c2 c3 c4 (λp e _ r=>c5 p e r) (λe _ r=>c6 e r) (λk=>c7 k) (λk l m=>c8 k l m) (λk=>c9 k) (λp e k _ r=>c10 p e k r) n (λ_ _ p q=>c p q) h⟩
theorem Das.ind{Q:List V->List Xa->Prop}(n:Q [] [])(c:∀{x:V} {xs:List V} {d:Xa} {ds:List Xa},Da G H L x d->Das G H L xs ds->Q xs ds->Q (x :: xs) (d :: ds)):∀{xs ds},Das G H L xs ds->Q xs ds:=λh=>
 Das.rec (motive_1:=λ_ _ _=>True) (motive_2:=λxs ds _=>Q xs ds) trivial (λ_=>trivial) (λ_=>trivial) (λ_=>trivial) (λ_ _ _ _=>trivial) (λ_ _ _=>trivial) (λ_=>trivial) (λ_ _ _=>trivial) (λ_=>trivial) (λ_ _ _ _ _=>trivial) n (λp q _ r=>c p q r) h
theorem Da.frame2(hl:∀a (xs:MuO),L a->Rd H a xs.ho->L' a∧Rd H' a xs.ho)(ht:∀a (xs:ImO),H a=some xs.ho->H' a=some xs.ho):(∀{v:V} {d:Xa},Da G H L v d->Da G H' L' v d)∧∀{xs:List V} {ds:List Xa},Das G H L xs ds->Das G H' L' xs ds :=
 Da.both .non .bl .int .str (fun{_ xs _} p e r=>.lst (hl _ (.lst xs) p e).1 (hl _ (.lst xs) p e).2 r) (fun{_ xs _} e r=>.tup (ht _ (.tup xs) e) r) .scr (λc n e=>.exc c n (ht _ (.ext _) e)) .fn (λp e k r=>.dic (hl _ _ p e).1 (hl _ _ p e).2 k r) .nil .cons
theorem Da.frame(hl:∀a (xs:MuO),L a->Rd H a xs.ho->L' a∧Rd H' a xs.ho)(ht:∀a (xs:ImO),H a=some xs.ho->H' a=some xs.ho){v:V}{d:Xa}(h:Da G H L v d):Da G H' L' v d:=(Da.frame2 hl ht).1 h
theorem Das.frame(hl:∀a (xs:MuO),L a->Rd H a xs.ho->L' a∧Rd H' a xs.ho)(ht:∀a (xs:ImO),H a=some xs.ho->H' a=some xs.ho){xs:List V}{ds:List Xa}(h:Das G H L xs ds):Das G H' L' xs ds:=(Da.frame2 hl ht).2 h
theorem Rd.same{a:Addr}{u:HO}(s:Same H H')(h:Rd H a u):Rd H' a u:=h.imp (s _ _) λ⟨o,h⟩=>⟨o,s _ _ h⟩
theorem Rd.some{a:Addr}{u:HO}(h:Rd H a u):H a≠Option.none:=by
 rcases h with h|⟨o,h⟩<;>rw[h]<;>intro z<;>cases z
theorem Da.same(h:Same H H'){v:V}{d:Xa}(x:Da G H L v d):Da G H' L v d:=x.frame (λa xs p e=>⟨p,e.same h⟩) λa xs e=>h _ _ e
theorem Das.same(h:Same H H'){v:List V}{d:List Xa}(x:Das G H L v d):Das G H' L v d:=x.frame (λa xs p e=>⟨p,e.same h⟩) λa xs e=>h _ _ e
theorem Da.wide(h:∀a,L a->H a≠none->L' a){v:V}{d:Xa}(x:Da G H L v d):Da G H L' v d:=x.frame (λa xs p e=>⟨h a p e.some,e⟩) λa xs e=>e
theorem Das.wide(h:∀a,L a->H a≠none->L' a){v:List V}{d:List Xa}(x:Das G H L v d):Das G H L' v d:=x.frame (λa xs p e=>⟨h a p e.some,e⟩) λa xs e=>e
theorem Das.length{xs:List V}{ds:List Xa}(h:Das G H L xs ds):xs.length=ds.length:=Das.ind (Q:=λxs ds=>xs.length=ds.length) rfl (λ_ _ r=>congrArg (·+1) r) h
theorem Das.append{xs ys:List V}{ds es:List Xa}(h:Das G H L xs ds)(k:Das G H L ys es):Das G H L (xs ++ ys) (ds ++ es):=Das.ind (Q:=λxs ds=>Das G H L (xs ++ ys) (ds ++ es)) k (λh _ r=>.cons h r) h
theorem Das.get{xs:List V}{ds:List Xa}{i:Nat}{d:Xa}(h:Das G H L xs ds):ds[i]? =some d->∃x,xs[i]? =some x∧Da G H L x d :=
 Das.ind (Q:=λxs ds=>∀i,ds[i]? =some d->∃x,xs[i]? =some x∧Da G H L x d) (λ_ e=>(Option.some_ne_none _ (e.symm.trans Ut)).elim) (fun{x _ _ _} h _ r i=>Nat.casesOn i (λe=>⟨x,rfl,Qz e▸h⟩) λi e=>r i e) h i
theorem Das.get'{xs:List V}{ds:List Xa}{i:Nat}{x:V}(h:Das G H L xs ds):xs[i]? =some x->∃d,ds[i]? =some d∧Da G H L x d :=
 Das.ind (Q:=λxs ds=>∀i,xs[i]? =some x->∃d,ds[i]? =some d∧Da G H L x d) (λ_ e=>(Option.some_ne_none _ (e.symm.trans Ut)).elim) (fun{_ _ d _} h _ r i=>Nat.casesOn i (λe=>⟨d,rfl,Qz e▸h⟩) λi e=>r i e) h i
theorem Das.take{xs:List V}{ds:List Xa}(n:Nat)(h:Das G H L xs ds):Das G H L (xs.take n) (ds.take n) :=
 Das.ind (Q:=λxs ds=>∀n,Das G H L (xs.take n) (ds.take n)) (λn=>by rw[List.take_nil,List.take_nil];exact .nil) (λh _ r n=>Nat.casesOn n .nil λn=>.cons h (r n)) h n
theorem Das.drop{xs:List V}{ds:List Xa}(n:Nat)(h:Das G H L xs ds):Das G H L (xs.drop n) (ds.drop n) :=
 Das.ind (Q:=λxs ds=>∀n,Das G H L (xs.drop n) (ds.drop n)) (λn=>by rw[List.drop_nil,List.drop_nil];exact .nil) (λh q r n=>Nat.casesOn n (.cons h q) λn=>r n) h n
theorem Das.ints(ns:List Int):Das G H L (ns.map V.int) (ns.map Xk):=by
 induction ns with
 | nil=>exact .nil
 | cons n ns ih=>exact .cons (.int n) ih
theorem Das.int_inv{xs:List V}{ns:List Int}(h:Das G H L xs (ns.map Xk)):xs=ns.map V.int:=by
 induction ns generalizing xs with
 | nil=>cases h;rfl
 | cons n ns ih=>
  rw[Qe]at h
  cases h with
  | cons h r=>cases h;rw[ih r];rfl
end
theorem Zpp{h:Heap}(ns:List Int){us:List Xd}(v:Vals (ns.map V.int) us):∃as,ReadsAll h us (ns.map Xk) as:=by
 induction ns generalizing us with
 | nil=>cases v;exact⟨_,.nil⟩
 | cons n ns ih=>
  rw[Qe]at v
  cases v with
  | cons r rs=>
   obtain⟨t,e⟩:=(show∃t,_=UG n t from r)
   subst e
   obtain⟨bs,k'⟩:=ih rs
   exact⟨_,.cons (.int n t) k'⟩
section
variable {X:Cx}{pins:List (Addr×Obj)}{σ:St}{H:Hp}{s:Xg}{L L':Addr->Prop}
theorem Da.reads2(hG:X.K=G)(I:Inv X pins σ H s):(∀{v:V} {d:Xa},Da G H L v d->∀u,RelV v u->d.canLay0=true->∃as,Reads s.heap u d as)∧∀{xs:List V} {ds:List Xa},Das G H L xs ds->∀us,Vals xs us->Q8 ds=true->∃as,ReadsAll s.heap us ds as:=by
 refine Da.both ?_ ?_ ?_ ?_ ?_ ?_ ?_ ?_ ?_ ?_ ?_ ?_
 ·intro u r _
  cases(show _=QT from r)
  exact⟨_,.none⟩
 ·intro b u r _
  cases(show _=Value.bool b from r)
  exact⟨_,.bool b⟩
 ·intro i u r _
  obtain⟨t,e⟩:=(show∃t,_=UG i t from r)
  subst e
  exact⟨_,.int i t⟩
 ·intro x u r _
  obtain⟨t,e⟩:=(show∃t,_=Value.str x t from r)
  subst e
  exact⟨_,.str x t⟩
 ·intro a xs ds _ e q u r hcl
  cases(show _=Qw a from r)
  obtain⟨_,its,n,vs,h1⟩:=(show ObjOk X.prog X.w H s.heap a (.lst xs)from e.ok I.hok)
  rw[JQ]at hcl
  obtain⟨as,k⟩:=q _ vs hcl
  exact⟨_,Reads.list h1 rfl rfl k⟩
 ·intro a xs ds e q u r hcl
  cases(show _=Qw a from r)
  obtain⟨_,its,vs,o,ho,hc,n,hd⟩:=(show ObjOk X.prog X.w H s.heap a (.tup xs)from I.hok a _ e)
  rw[JQ]at hcl
  obtain⟨as,k⟩:=q _ vs hcl
  exact⟨_,Reads.tuple ho hc hd k⟩
 ·intro a ns k u r _
  cases(show _=Qw a from r)
  subst hG
  obtain⟨its,vs,⟨o,n,ho,hc,hd,hs⟩,_⟩:=I.list (k.sq (H:=H))
  obtain⟨as,q⟩:=Zpp ns vs
  exact⟨_,Reads.list ho hc hs q⟩
 ·intro a C x _ _ e u r hc
  rw[exD,JQ]at hc
  cases hc
 ·intro a x _ u r hc
  rw[fnD,JQ]at hc
  cases hc
 ·intro a o t ks xs ds _ _ _ _ u r hc
  rw[dcD,JQ]at hc
  cases hc
 ·intro us v _
  cases v
  exact⟨_,.nil⟩
 ·intro x xs d ds h q us v hc
  cases v with
  | cons r rs=>
   rw[Q8,XN]at hc
   obtain⟨as,k⟩:=h _ r hc.1
   obtain⟨bs,k'⟩:=q _ rs hc.2
   exact⟨_,.cons k k'⟩
theorem Da.reads(hG:X.K=G)(I:Inv X pins σ H s){v:V}{d:Xa}{u:Xd}(h:Da G H L v d)(r:RelV v u)(c:d.canLay0=true):∃as,Reads s.heap u d as:=(Da.reads2 hG I).1 h u r c
theorem Das.reads(hG:X.K=G)(I:Inv X pins σ H s){xs:List V}{ds:List Xa}{us:List Xd}(h:Das G H L xs ds)(r:Vals xs us)(c:Q8 ds=true):∃as,ReadsAll s.heap us ds as:=(Da.reads2 hG I).2 h us r c
end
inductive OT where
 | fz (d:Xa)
 | nd (ts:List OT)
 | tp (ts:List OT)
 | dc (t:Bool) (ks:List KY) (ds:List Xa)
mutual
noncomputable def OT.data:OT->Xa
 | .fz d=>d
 | .nd ts=>.list (OT.datas ts)
 | .tp ts=>.tuple (OT.datas ts)
 | .dc t ks ds=>dcD t ks ds
noncomputable def OT.datas:List OT->List Xa
 | []=>[]
 | t :: ts=>t.data :: OT.datas ts
end
theorem OT.datas_map:∀(ts:List OT),OT.datas ts=ts.map OT.data
 | []=>rfl
 | t :: ts=>by rw[OT.datas,OT.datas_map ts];rfl
@[simp] theorem OT.data_fz(d:Xa):(OT.fz d).data=d:=by rw[OT.data]
@[simp] theorem OT.data_nd(ts:List OT):(OT.nd ts).data= .list (ts.map OT.data):=by rw[OT.data,OT.datas_map]
@[simp] theorem OT.data_tp(ts:List OT):(OT.tp ts).data= .tuple (ts.map OT.data):=by rw[OT.data,OT.datas_map]
theorem OT.data_dc(t:Bool)(ks:List KY)(ds:List Xa):(OT.dc t ks ds).data=dcD t ks ds:=by rw[OT.data]
@[simp] theorem OT.map_fz(ds:List Xa):(ds.map OT.fz).map OT.data=ds:=by
 rw[XJ]
 exact(XH λd _=>OT.data_fz d).trans (List.map_id _)
mutual
inductive Own(G:Xb)(H:Hp)(L:Addr->Prop):V->OT->List Addr->Prop where
 | fz {v:V} {d:Xa}:Da G H L v d->Own G H L v (.fz d) []
 | nd {a:Addr} {xs:List V} {ts:List OT} {bs:List Addr}:H a=some (.lst xs)->Owns G H L xs ts bs->Own G H L (.ref a) (.nd ts) (a :: bs)
 | tp {a:Addr} {xs:List V} {ts:List OT} {bs:List Addr}:H a=some (.tup xs)->Owns G H L xs ts bs->Own G H L (.ref a) (.tp ts) bs
 | dc {a:Addr} {o:MuO} {t:Bool} {ks:List KY} {xs:List V} {ds:List Xa}:H a=some o.ho->o.dic t ks xs->Das G H L xs ds->Own G H L (.ref a) (.dc t ks ds) [a]
inductive Owns(G:Xb)(H:Hp)(L:Addr->Prop):List V->List OT->List Addr->Prop where
 | nil:Owns G H L [] [] []
 | cons {x:V} {xs:List V} {t:OT} {ts:List OT} {as bs:List Addr}:Own G H L x t as->Owns G H L xs ts bs->Owns G H L (x :: xs) (t :: ts) (as ++ bs)
end
section
variable {H H':Hp}{L L':Addr->Prop}
theorem Own.both{P:V->OT->List Addr->Prop}{Q:List V->List OT->List Addr->Prop}(c1:∀{v:V} {d:Xa},Da G H L v d->P v (.fz d) [])(c2:∀{a:Addr} {xs:List V} {ts:List OT} {bs:List Addr},H a=some (.lst xs)->Q xs ts bs->P (.ref a) (.nd ts) (a :: bs))
  (c3:∀{a:Addr} {xs:List V} {ts:List OT} {bs:List Addr},H a=some (.tup xs)->Q xs ts bs->P (.ref a) (.tp ts) bs) (c4:∀{a:Addr} {o:MuO} {t:Bool} {ks:List KY} {xs:List V} {ds:List Xa},H a=some o.ho->o.dic t ks xs->Das G H L xs ds->P (.ref a) (.dc t ks ds) [a]) (n:Q [] [] []) (c:∀{x:V} {xs:List V} {t:OT} {ts:List OT} {as bs:List Addr},P x t as->Q xs ts bs->Q (x :: xs) (t :: ts) (as ++ bs)) :
  (∀ {v t as},Own G H L v t as->P v t as)∧∀{xs ts as},Owns G H L xs ts as->Q xs ts as :=
 ⟨λh=>Own.rec (motive_1:=λv t as _=>P v t as) (motive_2:=λxs ts as _=>Q xs ts as) c1 (λe _ r=>c2 e r) (λe _ r=>c3 e r) (λe k r=>c4 e k r) n (λ_ _ p q=>c p q) h,
   λh=>Owns.rec (motive_1:=λv t as _=>P v t as) (motive_2:=λxs ts as _=>Q xs ts as) c1 (λe _ r=>c2 e r) (λe _ r=>c3 e r) (λe k r=>c4 e k r) n (λ_ _ p q=>c p q) h⟩
theorem Own.frame2(hl:∀a (xs:MuO),L a->Rd H a xs.ho->L' a∧Rd H' a xs.ho)(ht:∀a (xs:ImO),H a=some xs.ho->H' a=some xs.ho) :
  (∀ {v:V} {t:OT} {as:List Addr},Own G H L v t as->(∀a∈as,∀xs:MuO,H a=some xs.ho->H' a=some xs.ho)->Own G H' L' v t as)∧∀{xs:List V} {ts:List OT} {as:List Addr},Owns G H L xs ts as->(∀a∈as,∀xs:MuO,H a=some xs.ho->H' a=some xs.ho)->Owns G H' L' xs ts as :=
 Own.both (λh _=>.fz (h.frame hl ht)) (fun{_ xs _ _} e r ha=>.nd (ha _ (.head _) (.lst xs) e) (r λa m=>ha a (.tail _ m))) (fun{_ xs _ _} e r ha=>.tp (ht _ (.tup xs) e) (r ha)) (λe k r ha=>.dc (ha _ (.head _) _ e) k (r.frame hl ht)) (λ_=>.nil) (λh r ha=>.cons (h λa m=>ha a (Vf _ m)) (r λa m=>ha a (Qm _ m)))
theorem Own.frame(hl:∀a (xs:MuO),L a->Rd H a xs.ho->L' a∧Rd H' a xs.ho)(ht:∀a (xs:ImO),H a=some xs.ho->H' a=some xs.ho){v:V}{t:OT}{as:List Addr}(ha:∀a∈as,∀xs:MuO,H a=some xs.ho->H' a=some xs.ho)(h:Own G H L v t as):Own G H' L' v t as:=(Own.frame2 hl ht).1 h ha
theorem Owns.frame(hl:∀a (xs:MuO),L a->Rd H a xs.ho->L' a∧Rd H' a xs.ho)(ht:∀a (xs:ImO),H a=some xs.ho->H' a=some xs.ho){xs:List V}{ts:List OT}{as:List Addr}(ha:∀a∈as,∀xs:MuO,H a=some xs.ho->H' a=some xs.ho)(h:Owns G H L xs ts as):Owns G H' L' xs ts as:=(Own.frame2 hl ht).2 h ha
theorem Own.same(h:Same H H'){v:V}{t:OT}{as:List Addr}(x:Own G H L v t as):Own G H' L v t as:=x.frame (λa xs p e=>⟨p,e.same h⟩) (λa xs e=>h _ _ e) λa _ xs e=>h _ _ e
theorem Own.wide(h:∀a,L a->H a≠none->L' a){v:V}{t:OT}{as:List Addr}(x:Own G H L v t as):Own G H L' v t as:=x.frame (λa xs p e=>⟨h a p e.some,e⟩) (λa xs e=>e) λa _ xs e=>e
theorem Owns.wide(h:∀a,L a->H a≠none->L' a){v:List V}{t:List OT}{as:List Addr}(x:Owns G H L v t as):Owns G H L' v t as:=x.frame (λa xs p e=>⟨h a p e.some,e⟩) (λa xs e=>e) λa _ xs e=>e
theorem Owns.same(h:Same H H'){v:List V}{t:List OT}{as:List Addr}(x:Owns G H L v t as):Owns G H' L v t as:=x.frame (λa xs p e=>⟨p,e.same h⟩) (λa xs e=>h _ _ e) λa _ xs e=>h _ _ e
theorem Own.da2(h:∀a,L a->H a≠none->L' a):(∀{v:V} {t:OT} {as:List Addr},Own G H L v t as->(∀a∈as,L' a)->Da G H L' v t.data)∧∀{v:List V} {t:List OT} {as:List Addr},Owns G H L v t as->(∀a∈as,L' a)->Das G H L' v (OT.datas t) :=
 Own.both (λk _=>by rw[OT.data_fz];exact k.wide h) (λe r ha=>by rw[OT.data];exact .lst (ha _ (.head _)) (.inl e) (r λa m=>ha a (.tail _ m))) (λe r ha=>by rw[OT.data];exact .tup e (r ha)) (λe k r ha=>by rw[OT.data];exact .dic (ha _ (.head _)) (.inl e) k (r.wide h)) (λ_=>.nil) (λk r ha=>.cons (k λa m=>ha a (Vf _ m)) (r λa m=>ha a (Qm _ m)))
theorem Own.da(h:∀a,L a->H a≠none->L' a){v:V}{t:OT}{as:List Addr}(ha:∀a∈as,L' a)(k:Own G H L v t as):Da G H L' v t.data:=(Own.da2 h).1 k ha
theorem Owns.das(h:∀a,L a->H a≠none->L' a){v:List V}{t:List OT}{as:List Addr}(ha:∀a∈as,L' a)(k:Owns G H L v t as):Das G H L' v (OT.datas t):=(Own.da2 h).2 k ha
theorem Own.some2:(∀{v:V} {t:OT} {as:List Addr},Own G H L v t as->∀a∈as,∃xs:MuO,H a=some xs.ho)∧∀{v:List V} {t:List OT} {as:List Addr},Owns G H L v t as->∀a∈as,∃xs:MuO,H a=some xs.ho :=
 Own.both (λ_ _ m=>nomatch m) (fun{_ xs _ _} e r a m=>(Xp.mp m).elim (λq=>⟨.lst xs,q▸e⟩) (r a)) (λ_ r=>r) (fun{_ o _ _ _ _} e _ _ a m=>⟨o,Xq.mp m▸e⟩) (λ_ m=>nomatch m) (λk r a m=>(Qt.mp m).elim (k a) (r a))
theorem Own.some{v:V}{t:OT}{as:List Addr}(h:Own G H L v t as):∀a∈as,∃xs:MuO,H a=some xs.ho:=Own.some2.1 h
theorem Owns.some{v:List V}{t:List OT}{as:List Addr}(h:Owns G H L v t as):∀a∈as,∃xs:MuO,H a=some xs.ho:=Own.some2.2 h
theorem Owns.length{xs:List V}{ts:List OT}{as:List Addr}(h:Owns G H L xs ts as):xs.length=ts.length:=(Own.both (P:=λ_ _ _=>True) (Q:=λxs ts _=>xs.length=ts.length) (λ_=>trivial) (λ_ _=>trivial) (λ_ _=>trivial) (λ_ _ _=>trivial) rfl (λ_ r=>congrArg (·+1) r)).2 h
theorem Das.owns{xs:List V}{ds:List Xa}(h:Das G H L xs ds):Owns G H L xs (ds.map OT.fz) []:=Das.ind (Q:=λxs ds=>Owns G H L xs (ds.map OT.fz) []) .nil (λh _ r=>.cons (.fz h) r) h
end
variable {G:Xb}
noncomputable abbrev Zi:=List (Option OT)
noncomputable abbrev Fp:=Nat->List Addr
set_option genInjectivity false in
structure MC(G:Xb) where
 H₀:Hp
 as₀:Addr->Prop
 L:Addr->Prop
 σ₀:St
noncomputable def Foot(fp:Fp)(a:Addr):Prop:=∃i,a∈fp i
noncomputable def Lf(C:MC G)(fp:Fp)(ex:Addr->Prop)(a:Addr):Prop:=¬Foot fp a∧¬ex a∧(C.L a∨C.H₀ a=none)
structure Rel(C:MC G)(io:List Nat)(H:Hp)(σ:St)(δ:Zi)(fp:Fp)(ex:Addr->Prop):Prop where
 len:σ.length=δ.length
 own:∀(i:Nat) (t:OT),δ[i]? =some (some t)->∃v,σ[i]? =some (some v)∧Own G H (Lf C fp ex) v t (fp i)
 emp:∀i:Nat,(∀t,δ[i]? ≠some (some t))->fp i=[]
 nd:∀i,(fp i).Nodup
 dj:∀i j a,a∈fp i->a∈fp j->i=j
 dx:∀i a,a∈fp i->¬ex a
 xa:∀a,ex a->H a≠none
 fr:∀b o,C.H₀ b=some o->¬C.as₀ b->H b=some o
 al:∀b,H b=none->C.H₀ b=none
 new:∀i a,a∈fp i->(i∈io∧C.as₀ a)∨C.H₀ a=none
 io:∀i∈io,σ[i]? =C.σ₀[i]?
structure Stp(p:Bool)(H:Hp)(δ:Zi)(fp:Fp)(H':Hp)(δ':Zi)(fp':Fp):Prop where
 keep:∀b o,H b=some o->(p=true∨¬Foot fp b)->H' b=some o
 env:p=true->δ'=δ∧fp'=fp
 grow:∀a,Foot fp' a->Foot fp a∨H a=none
 al:∀b,H' b=none->H b=none
section
variable {C:MC G}{io:List Nat}{H H' H'':Hp}{σ:St}{δ δ' δ'':Zi}{fp fp' fp'':Fp}{ex ex':Addr->Prop}{p p' c:Bool}{v:V}{d:Xa}{r:OT}{new:List Addr}
theorem Rel.foot(R:Rel C io H σ δ fp ex){a:Addr}(h:Foot fp a):∃xs:MuO,H a=some xs.ho:=by
 obtain⟨i,h⟩:=h
 by_cases q:∃t,δ[i]? =some (some t)
 ·obtain⟨t,q⟩:=q
  obtain⟨v,_,o⟩:=R.own i t q
  exact o.some a h
 ·rw[R.emp i (λt z=>q ⟨t,z⟩)]at h
  exact nomatch h
theorem Rel.footSome(R:Rel C io H σ δ fp ex){a:Addr}(h:H a=none):¬Foot fp a:=λz=>by
 obtain⟨xs,e⟩:=R.foot z
 rw[h]at e
 cases e
theorem Stp.refl(p:Bool)(H:Hp)(δ:Zi)(fp:Fp):Stp p H δ fp H δ fp:=⟨λ_ _ h _=>h,λ_=>⟨rfl,rfl⟩,λ_ h=>.inl h,λ_ h=>h⟩
theorem Stp.same(h:Same H H')(hn:∀b,H' b=none->H b=none):Stp p H δ fp H' δ fp:=⟨λ_ _ q _=>h _ _ q,λ_=>⟨rfl,rfl⟩,λ_ h=>.inl h,hn⟩
theorem Same.al(h:Same H H'):∀b,H' b=none->H b=none:=λ_ q=>h.free q
theorem Stp.trans(a:Stp p H δ fp H' δ' fp')(b:Stp p' H' δ' fp' H'' δ'' fp''):Stp (p&&p') H δ fp H'' δ'' fp'' where
 keep:=λx o e h=>by
  rcases h with h|h
  ·rw[XN]at h
   exact b.keep x o (a.keep x o e (.inl h.1)) (.inl h.2)
  ·refine b.keep x o (a.keep x o e (.inr h)) (.inr λz=>?_)
   rcases a.grow x z with z|z
   ·exact h z
   ·rw[e]at z;cases z
 env:=λh=>by
  rw[XN]at h
  obtain⟨e1,e2⟩:=a.env h.1
  obtain⟨e3,e4⟩:=b.env h.2
  exact⟨e3.trans e1,e4.trans e2⟩
 grow:=λx h=>by
  rcases b.grow x h with h|h
  ·exact a.grow x h
  ·exact .inr (a.al x h)
 al:=λx h=>a.al x (b.al x h)
theorem Rel.frameL(R:Rel C io H σ δ fp ex)(S:Stp p H δ fp H' δ' fp')(hc:p=true∨c=true)(hx:∀a,ex' a->ex a∨H a=none) :
  (∀ a (xs:MuO),(c=true->Lf C fp ex a)->Rd H a xs.ho->(c=true->Lf C fp' ex' a)∧Rd H' a xs.ho)∧(∀a (xs:ImO),H a=some xs.ho->H' a=some xs.ho):=by
 have nf:∀a,Foot fp a->∃xs:MuO,H a=some xs.ho:=λa h=>R.foot h
 refine⟨λa xs l q=>⟨λhc'=>?_,?_⟩,λa xs q=>S.keep a _ q (.inr λz=>?_)⟩
 ·obtain⟨l1,l2,l3⟩:=l hc'
  refine⟨λz=>?_,λz=>?_,l3⟩
  ·rcases S.grow a z with z|z
   ·exact l1 z
   ·exact q.some z
  ·rcases hx a z with z|z
   ·exact l2 z
   ·exact q.some z
 ·have hk:p=true∨¬Foot fp a:=by
   rcases hc with h|h
   ·exact .inl h
   ·exact .inr (l h).1
  rcases q with q|⟨o,q⟩
  ·exact .inl (S.keep a _ q hk)
  ·exact .inr ⟨o,S.keep a _ q hk⟩
 ·obtain⟨ys,e⟩:=nf a z
  exact ImO.nm q e
theorem Rel.own_step(R:Rel C io H σ δ fp ex)(S:Stp p H δ fp H' δ' fp')(hc:p=true∨c=true)(hx:∀a,ex' a->ex a∨H a=none)(hn:∀a∈new,ex a)
  (x:Own G H (λa=>c=true->Lf C fp ex a) v r new):Own G H' (λa=>c=true->Lf C fp' ex' a) v r new :=
 x.frame (R.frameL S hc hx).1 (R.frameL S hc hx).2 λa m xs e=>S.keep a _ e (.inr λ⟨i,z⟩=>R.dx i a z (hn a m))
theorem Rel.owns_step(R:Rel C io H σ δ fp ex)(S:Stp p H δ fp H' δ' fp')(hc:p=true∨c=true)(hx:∀a,ex' a->ex a∨H a=none)(hn:∀a∈new,ex a){vs:List V}{rs:List OT}
  (x:Owns G H (λa=>c=true->Lf C fp ex a) vs rs new):Owns G H' (λa=>c=true->Lf C fp' ex' a) vs rs new :=
 x.frame (R.frameL S hc hx).1 (R.frameL S hc hx).2 λa m xs e=>S.keep a _ e (.inr λ⟨i,z⟩=>R.dx i a z (hn a m))
theorem Rel.drop(R:Rel C io H σ δ fp ex)(h:∀a,ex' a->ex a):Rel C io H σ δ fp ex' :=
 ⟨R.len,λi t e=>by
  obtain⟨v,e1,o⟩:=R.own i t e
  exact⟨v,e1,o.wide λa l _=>⟨l.1,λz=>l.2.1 (h a z),l.2.2⟩⟩,R.emp,R.nd,R.dj,λi a m z=>R.dx i a m (h a z),λa z=>R.xa a (h a z),R.fr,R.al,R.new,R.io⟩
theorem Rel.made(R:Rel C io H σ δ fp ex)(s:Same H H')(hn:∀a∈new,H a=none∧H' a≠none):Rel C io H' σ δ fp (λa=>ex a∨a∈new) :=
 ⟨R.len,λi t e=>by
  obtain⟨v,e1,o⟩:=R.own i t e
  refine⟨v,e1,(o.wide λa l q=>⟨l.1,λz=>?_,l.2.2⟩).same s⟩
  rcases z with z|z
  ·exact l.2.1 z
  ·exact q (hn a z).1,R.emp,R.nd,R.dj,λi a m z=>by
   rcases z with z|z
   ·exact R.dx i a m z
   ·exact R.footSome (hn a z).1 ⟨i,m⟩,λa z=>by
   rcases z with z|z
   ·intro q;exact R.xa a z (s.free q)
   ·exact(hn a z).2,λb o e n=>s _ _ (R.fr b o e n),λb q=>R.al b (s.free q),R.new,R.io⟩
end
noncomputable abbrev MEt:=Zi->(OT->Zi->Prop)->Prop
noncomputable abbrev MAt:=Zi->(List OT->Zi->Prop)->Prop
noncomputable abbrev MTt:=Zi->(Bool->Zi->Prop)->Prop
noncomputable abbrev exu(ex:Addr->Prop)(new:List Addr):Addr->Prop:=λa=>ex a∨a∈new
structure RE(C:MC G)(io:List Nat)(p c:Bool)(H:Hp)(σ:St)(δ:Zi)(fp:Fp)(ex:Addr->Prop)(H':Hp)(v:V)(r:OT)(δ':Zi)(fp':Fp)(new:List Addr):Prop where
 rel:Rel C io H' σ δ' fp' (exu ex new)
 stp:Stp p H δ fp H' δ' fp'
 own:Own G H' (λa=>c=true->Lf C fp' (exu ex new) a) v r new
 nd:new.Nodup
 fresh:∀a∈new,H a=none
structure RA(C:MC G)(io:List Nat)(p c:Bool)(H:Hp)(σ:St)(δ:Zi)(fp:Fp)(ex:Addr->Prop)(H':Hp)(v:List V)(r:List OT)(δ':Zi)(fp':Fp)(new:List Addr):Prop where
 rel:Rel C io H' σ δ' fp' (exu ex new)
 stp:Stp p H δ fp H' δ' fp'
 own:Owns G H' (λa=>c=true->Lf C fp' (exu ex new) a) v r new
 nd:new.Nodup
 fresh:∀a∈new,H a=none
noncomputable def SE(G:Xb)(io:List Nat)(p c:Bool)(t:TE)(m:MEt):Prop:=∀(C:MC G) (H:Hp) (σ:St) (δ:Zi) (fp:Fp) (ex:Addr->Prop) (K:OT->Zi->Prop) (Q:VK),Rel C io H σ δ fp ex->m δ K ->
 (∀ H' v r δ' fp' new,RE C io p c H σ δ fp ex H' v r δ' fp' new->K r δ'->Q v H')->t σ H Q
noncomputable def SA(G:Xb)(io:List Nat)(p c:Bool)(t:TA)(m:MAt):Prop:=∀(C:MC G) (H:Hp) (σ:St) (δ:Zi) (fp:Fp) (ex:Addr->Prop) (K:List OT->Zi->Prop) (Q:List V->Hp->Prop),Rel C io H σ δ fp ex->m δ K ->
 (∀ H' v r δ' fp' new,RA C io p c H σ δ fp ex H' v r δ' fp' new->K r δ'->Q v H')->t σ H Q
noncomputable def STt(G:Xb)(io:List Nat)(p:Bool)(t:TT)(m:MTt):Prop:=∀(C:MC G) (H:Hp) (σ:St) (δ:Zi) (fp:Fp) (ex:Addr->Prop) (K:Bool->Zi->Prop) (Q:Bool->Hp->Prop),Rel C io H σ δ fp ex->m δ K ->
 (∀ H' b δ' fp',Rel C io H' σ δ' fp' ex->Stp p H δ fp H' δ' fp'->K b δ'->Q b H')->t σ H Q
noncomputable def ME(X:Cx)(io:List Nat)(p c:Bool)(e:Expr)(m:MEt):Prop:=∃t,PE X e t∧SE X.K io p c t m
noncomputable def MA(X:Cx)(io:List Nat)(p c:Bool)(e:List Expr)(m:MAt):Prop:=∃t,PA X e t∧SA X.K io p c t m
noncomputable def MT(X:Cx)(io:List Nat)(p:Bool)(e:Expr)(m:MTt):Prop:=∃t,PT X e t∧STt X.K io p t m
noncomputable def MW(X:Cx)(io:List Nat)(p:Bool)(e:Expr)(m:MTt):Prop:=∃t,PW X e t∧STt X.K io p t m
section
variable {C:MC G}{io:List Nat}{H H' H'':Hp}{σ:St}{δ δ' δ'':Zi}{fp fp' fp'':Fp}{ex ex':Addr->Prop}{p p' c:Bool}{v:V}{d:Xa}{r:OT}{vs:List V}{rs:List OT}{new:List Addr}
theorem Rel.newOk(R:Rel C io H σ δ fp ex){a:Addr}(h:H a=none):¬Foot fp a∧¬ex a∧C.H₀ a=none:=⟨R.footSome h,λz=>R.xa a z h,R.al a h⟩
theorem RE.da(R:RE C io p c H σ δ fp ex H' v r δ' fp' new)(R0:Rel C io H σ δ fp ex):Da G H' (λa=>c=true->Lf C fp' ex a) v r.data:=by
 refine R.own.da (λa l _ h=>?_) (λa m _=>?_)
 ·exact⟨(l h).1,λz=>(l h).2.1 (.inl z),(l h).2.2⟩
 ·refine⟨λqz9=>?_,(R0.newOk (R.fresh a m)).2.1,.inr (R0.newOk (R.fresh a m)).2.2⟩
  obtain⟨i,z⟩:=qz9
  exact R.rel.dx i a z (.inr m)
theorem RA.das(R:RA C io p c H σ δ fp ex H' vs rs δ' fp' new)(R0:Rel C io H σ δ fp ex):Das G H' (λa=>c=true->Lf C fp' ex a) vs (OT.datas rs):=by
 refine R.own.das (λa l _ h=>?_) (λa m _=>?_)
 ·exact⟨(l h).1,λz=>(l h).2.1 (.inl z),(l h).2.2⟩
 ·refine⟨λqz9=>?_,(R0.newOk (R.fresh a m)).2.1,.inr (R0.newOk (R.fresh a m)).2.2⟩
  obtain⟨i,z⟩:=qz9
  exact R.rel.dx i a z (.inr m)
theorem RE.base(R:RE C io p c H σ δ fp ex H' v r δ' fp' new):Rel C io H' σ δ' fp' ex:=R.rel.drop λa z=>.inl z
theorem RA.base(R:RA C io p c H σ δ fp ex H' vs rs δ' fp' new):Rel C io H' σ δ' fp' ex:=R.rel.drop λa z=>.inl z
theorem Zde{a:Addr}:exu ex [] a↔ex a:=by simp[exu]
theorem RE.fz(R:Rel C io H' σ δ' fp' ex)(S:Stp p H δ fp H' δ' fp')(h:Da G H' (λa=>c=true->Lf C fp' ex a) v d):RE C io p c H σ δ fp ex H' v (.fz d) δ' fp' [] :=
 ⟨R.drop λa z=>Zde.mp z,S,.fz (h.wide λa l _ hc=>⟨(l hc).1,λz=>(l hc).2.1 (Zde.mp z),(l hc).2.2⟩),.nil,λa m=>nomatch m⟩
theorem RE.tree{H1:Hp}(R0:Rel C io H σ δ fp ex)(R:Rel C io H1 σ δ' fp' ex)(S:Stp p H δ fp H1 δ' fp')(s:Same H1 H')(hn:∀a∈new,H1 a=none)(nd:new.Nodup)
  (o:Own G H' (λa=>((c=true->Lf C fp' ex a)∨H1 a=none)∧a∉new) v r new):RE C io p c H σ δ fp ex H' v r δ' fp' new:=by
 refine⟨R.made s λa m=>⟨hn a m,λz=>?_⟩,?_,o.wide λa l q hc=>?_,nd,λa m=>S.al a (hn a m)⟩
 ·obtain⟨xs,e⟩:=o.some a m
  rw[z]at e;cases e
 ·have:=S.trans (p':=true) (Stp.same (p:=true) (δ:=δ') (fp:=fp') s s.al)
  rwa[VL]at this
 ·rcases l.1 with l1|l1
  ·exact⟨(l1 hc).1,λz=>z.elim (l1 hc).2.1 l.2,(l1 hc).2.2⟩
  ·exact⟨R.footSome l1,λz=>z.elim (λz=>R.xa a z l1) l.2,.inr (R.al a l1)⟩
end
inductive ScD:V->Xa->Prop where
 | non:ScD .non .none
 | bl (b:Bool):ScD (.bl b) (.bool b)
 | int (i:Int):ScD (.int i) (.int i)
 | str (x:Str):ScD (.str x) (.str x)
theorem ScD.da{H:Hp}{L:Addr->Prop}{v:V}{d:Xa}(h:ScD v d):Da G H L v d:=by
 cases h
 ·exact .non
 ·exact .bl _
 ·exact .int _
 ·exact .str _
section
variable {X:Cx}{io:List Nat}{p p' c c':Bool}{e a b:Expr}{m ma mb:MEt}{es:List Expr}
noncomputable def Z7u(i:Nat):MEt:=λδ K=>match δ[i]? with|some (some (.fz d))=>K (.fz d) δ|_=>False
noncomputable def Z7i(i:Nat):MEt:=λδ K=>match δ[i]? with|some (some t)=>K (.fz t.data) δ|_=>False
noncomputable def mC(d:Xa):MEt:=λδ K=>K (.fz d) δ
theorem mv(i:Nat){x:Str}{pos:Pos}(hN:X.N[i]? =some x:=by rfl)(hv:Vis X.env.scope x:=by first|exact Qq rfl|exact Qj (Qq rfl)|exact Qj (Qj rfl))(hd:(x==("__debug__" : Str))=false:=by decide)
  (hcd:(x==("__classdict__" : Str))=false:=by decide):ME X io true true (.Name x pos) (Z7u i):=by
 refine⟨_,pv i hN hv hd hcd,λC H σ δ fp ex K Q R h k=>?_⟩
 unfold Z7u at h
 split at h
 ·rename_i d hd
  obtain⟨v,e,o⟩:=R.own i _ hd
  refine⟨v,e,k H v _ δ fp [] (.fz R (.refl _ _ _ _) ?_) h⟩
  generalize fp i=as at o
  cases o with
  | fz q=>exact q.wide λa l _ _=>l
 ·exact h.elim
theorem mo(i:Nat){x:Str}{pos:Pos}(hN:X.N[i]? =some x:=by rfl)(hv:Vis X.env.scope x:=by first|exact Qq rfl|exact Qj (Qq rfl)|exact Qj (Qj rfl))(hd:(x==("__debug__" : Str))=false:=by decide)
  (hcd:(x==("__classdict__" : Str))=false:=by decide):ME X io true false (.Name x pos) (Z7i i):=by
 refine⟨_,pv i hN hv hd hcd,λC H σ δ fp ex K Q R h k=>?_⟩
 unfold Z7i at h
 split at h
 ·rename_i d hd
  obtain⟨v,e,o⟩:=R.own i _ hd
  exact⟨v,e,k H v _ δ fp [] (.fz R (.refl _ _ _ _) (o.da (λa _ _ z=>(nomatch z)) λa _ z=>(nomatch z))) h⟩
 ·exact h.elim
theorem Zi6{t:V}{d:Xa}(h:PE X e (tC t))(s:ScD t d):ME X io true true e (mC d) :=
 ⟨_,h,λC H σ δ fp ex K Q R h k=>k H t _ δ fp [] (.fz R (.refl _ _ _ _) s.da) h⟩
theorem Z5p{i j pos}:ME X io true true (.Constant (.int i) j pos) (mC (.int i)):=Zi6 Z29 (.int i)
theorem Zml{b j pos}:ME X io true true (.Constant (.bool b) j pos) (mC (.bool b)):=Zi6 Z83 (.bl b)
theorem Zoq{j pos}:ME X io true true (.Constant .none j pos) (mC .none):=Zi6 Z3i .non
theorem Zep{x j pos}:ME X io true true (.Constant (.str x) j pos) (mC (.str x)):=Zi6 Z5a (.str x)
theorem SE.two{ta tb:TE}(ha:SE G io p c ta ma)(hb:SE G io p' c' tb mb)(hc:p'=true∨c=true){C:MC G}{H:Hp}{σ:St}{δ:Zi}{fp:Fp}{ex:Addr->Prop}{K:OT->OT->Zi->Prop}{Q:V->V->Hp->Prop}
  (R:Rel C io H σ δ fp ex) (h:ma δ λx δ1=>mb δ1 λy δ2=>K x y δ2)
  (k:∀H' x y u v δ' fp',Rel C io H' σ δ' fp' ex->Stp (p&&p') H δ fp H' δ' fp'->Da G H' (λa=>(c&&c')=true->Lf C fp' ex a) x u.data->Da G H' (λa=>(c&&c')=true->Lf C fp' ex a) y v.data->K u v δ'->Q x y H') :
  ta σ H λx H1=>tb σ H1 λy H2=>Q x y H2:=by
 refine ha C H σ δ fp ex _ _ R h λH1 x u δ1 fp1 new1 r1 h1=>?_
 refine hb C H1 σ δ1 fp1 (exu ex new1) _ _ r1.rel h1 λH2 y v δ2 fp2 new2 r2 h2=>?_
 have o1:=r1.rel.own_step (ex':=exu (exu ex new1) new2) r2.stp (c:=c) hc (λa z=>z.imp id λz=>r2.fresh a z) (λa m=>.inr m) r1.own
 have R2:Rel C io H2 σ δ2 fp2 ex:=r2.rel.drop λa z=>.inl (.inl z)
 have q1:Da G H2 (λa=>c=true->Lf C fp2 ex a) x u.data:=by
  refine o1.da (λa l _ z=>?_) (λa m z=>?_)
  ·exact⟨(l z).1,λw=>(l z).2.1 (.inl (.inl w)),(l z).2.2⟩
  ·have:=R.newOk (r1.fresh a m)
   refine⟨λqz9=>?_,this.2.1,.inr this.2.2⟩
   obtain⟨i,w⟩:=qz9
   exact r2.rel.dx i a w (.inl (.inr m))
 have q2:=r2.da r1.rel
 refine k H2 x y u v δ2 fp2 R2 (r1.stp.trans r2.stp) (q1.wide λa l _ z=>l (by rw[XN]at z;exact z.1)) (q2.wide λa l _ z=>?_) h2
 have l:=l (by rw[XN]at z;exact z.2)
 exact⟨l.1,λw=>l.2.1 (.inl w),l.2.2⟩
noncomputable def P2s(G:Xb)(r:R2)(rp:Xa->Xa->(Xa->Prop)->Prop):Prop:=∀(H:Hp) (L:Addr->Prop) (x y:V) (d e:Xa) (k:Xa->Prop) (Q:VK),Da G H L x d->Da G H L y e->rp d e k->(∀v d',ScD v d'->k d'->Q v H)->r x y H Q
noncomputable def P2(G:Xb)(r:R2)(rp:Xa->Xa->(OT->Prop)->Prop):Prop:=∀(H:Hp) (L:Addr->Prop) (x y:V) (d e:Xa) (k:OT->Prop) (Q:VK),Da G H L x d->Da G H L y e->rp d e k ->
 (∀ H' v o new,Same H H'->Own G H' (λa=>(L a∨H a=none)∧a∉new) v o new->new.Nodup->(∀a∈new,H a=none)->k o->Q v H')->r x y H Q
noncomputable def Znb(rp:Xa->Xa->(Xa->Prop)->Prop)(ma mb:MEt):MEt:=λδ K=>ma δ λx δ1=>mb δ1 λy δ2=>rp x.data y.data λd=>K (.fz d) δ2
noncomputable def Z73(rp:Xa->Xa->(OT->Prop)->Prop)(ma mb:MEt):MEt:=λδ K=>ma δ λx δ1=>mb δ1 λy δ2=>rp x.data y.data λd=>K d δ2
theorem Z0c{r:R2}{rp}{ta tb:TE}(P:P2s G r rp)(ha:SE G io p c ta ma)(hb:SE G io p' c' tb mb)(hc:p'=true∨c=true):SE G io (p&&p') true (tOp r ta tb) (Znb rp ma mb):=by
 intro C H σ δ fp ex K Q R h k
 refine SE.two (K:=λx y δ2=>rp x.data y.data λd=>K (.fz d) δ2) (Q:=λx y H2=>r x y H2 Q) ha hb hc R h λH' x y u v δ' fp' R' S q1 q2 h'=>?_
 exact P H' _ x y _ _ _ _ q1 q2 h' λw d' sc h''=>k H' w _ δ' fp' [] (.fz R' S sc.da) h''
theorem Ybi{r:R2}{rp}{ta tb:TE}(P:P2 G r rp)(ha:SE G io p c ta ma)(hb:SE G io p' c' tb mb)(hc:p'=true∨c=true):SE G io (p&&p') (c&&c') (tOp r ta tb) (Z73 rp ma mb):=by
 intro C H σ δ fp ex K Q R h k
 refine SE.two (K:=λx y δ2=>rp x.data y.data λd=>K d δ2) (Q:=λx y H2=>r x y H2 Q) ha hb hc R h λH' x y u v δ' fp' R' S q1 q2 h'=>?_
 exact P H' _ x y _ _ _ _ q1 q2 h' λH2 w o new s ow nd hn h''=>k H2 w o δ' fp' new (RE.tree R R' S s hn nd ow) h''
theorem Zpg{op:Operator}{r:R2}{rp}{pos:Pos}(ho:OpR X (BL op) r)(P:P2s X.K r rp)(ha:ME X io p c a ma)(hb:ME X io p' c' b mb)(hc:p'=true∨c=true:=by first|exact Qq rfl|exact Qj rfl):ME X io (p&&p') true (.BinOp a op b pos) (Znb rp ma mb):=by
 obtain⟨_,A,sa⟩:=ha
 obtain⟨_,B,sb⟩:=hb
 exact⟨_,Zz6 ho A B,Z0c P sa sb hc⟩
theorem Z3g{op:Operator}{r:R2}{rp}{pos:Pos}(ho:OpR X (BL op) r)(P:P2 X.K r rp)(ha:ME X io p c a ma)(hb:ME X io p' c' b mb)(hc:p'=true∨c=true:=by first|exact Qq rfl|exact Qj rfl):ME X io (p&&p') (c&&c') (.BinOp a op b pos) (Z73 rp ma mb):=by
 obtain⟨_,A,sa⟩:=ha
 obtain⟨_,B,sb⟩:=hb
 exact⟨_,Zz6 ho A B,Ybi P sa sb hc⟩
theorem Zgc{op:CmpOp}{r:R2}{rp}{pos:Pos}(ho:OpR X (JB op) r)(P:P2s X.K r rp)(ha:ME X io p c a ma)(hb:ME X io p' c' b mb)(hc:p'=true∨c=true:=by first|exact Qq rfl|exact Qj rfl)(hm:V5 op b=false):ME X io (p&&p') true (.Compare a [op] [b] pos) (Znb rp ma mb):=by
 obtain⟨_,A,sa⟩:=ha
 obtain⟨_,B,sb⟩:=hb
 exact⟨_,Zy4 ho A B hm,Z0c P sa sb hc⟩
theorem Yc4{r:R2}{rp}{pos:Pos}(ho:IxR X r)(P:P2 X.K r rp)(ha:ME X io p c a ma)(hb:ME X io p' c' b mb)(hc:p'=true∨c=true:=by first|exact Qq rfl|exact Qj rfl)(hs:Zhv b):ME X io (p&&p') (c&&c') (.Subscript a b pos) (Z73 rp ma mb):=by
 obtain⟨_,A,sa⟩:=ha
 obtain⟨_,B,sb⟩:=hb
 exact⟨_,Zz7 ho A B hs,Ybi P sa sb hc⟩
noncomputable def kB(K:Bool->Zi->Prop):OT->Zi->Prop:=λo δ=>match o with| .fz (.bool b)=>K b δ|_=>False
theorem Z9r{t:TE}(h:SE G io p c t m):STt G io p (Z5e t) (λδ K=>m δ (kB K)):=by
 intro C H σ δ fp ex K Q R h' k
 refine h C H σ δ fp ex _ _ R h' λH' v r δ' fp' new r1 h1=>?_
 cases r with
 | nd ts=>exact h1.elim
 | tp ts=>exact h1.elim
 | dc _ _ _=>exact h1.elim
 | fz d=>
  cases d with
  | bool b=>
   cases r1.own with
   | fz q=>
    cases q
    exact⟨b,rfl,k H' b δ' fp' r1.base r1.stp h1⟩
  | _=>exact h1.elim
theorem Zbn{op:CmpOp}{r:R2}{rp}{pos:Pos}(ho:OpR X (JB op) r)(P:P2s X.K r rp)(ha:ME X io p c a ma)(hb:ME X io p' c' b mb)(hc:p'=true∨c=true:=by first|exact Qq rfl|exact Qj rfl)(hm:V5 op b=false) :
  MT X io (p&&p') (.Compare a [op] [b] pos) (λδ K=>Znb rp ma mb δ (kB K)):=by
 obtain⟨_,A,sa⟩:=ha
 obtain⟨_,B,sb⟩:=hb
 exact⟨_,Zz9 ho A B hm,Z9r (Z0c P sa sb hc)⟩
end
variable {G:Xb}
section
variable {X:Cx}{io:List Nat}{p p' p'' c c':Bool}{e a b:Expr}{m ma mb:MEt}{es rest:List Expr}{ta tb:MTt}{pos:Pos}
noncomputable def Yb6(t:MTt):MTt:=λδ K=>t δ λb δ'=>K (!b) δ'
noncomputable def mOr(t u:MTt):MTt:=λδ K=>t δ λb δ'=>if b=true then K true δ' else u δ' K
theorem Zyw(h:MT X io p a ta):MT X io p (.UnaryOp .Not a pos) (Yb6 ta):=by
 obtain⟨_,A,sa⟩:=h
 exact⟨_,Z6c A,λC H σ δ fp ex K Q R h k=>sa C H σ δ fp ex _ _ R h λH' b δ' fp' R' S h'=>k H' (!b) δ' fp' R' S h'⟩
theorem Znu(h:MT X io p a ta):MW X io p (.BoolOp .Or [a] pos) ta:=by
 obtain⟨_,A,sa⟩:=h
 exact⟨_,Z6t A,sa⟩
theorem Stp.andL{H H':Hp}{δ δ':Zi}{fp fp':Fp}(S:Stp p H δ fp H' δ' fp'):Stp (p&&p') H δ fp H' δ' fp':=by
 have:=S.trans (Stp.refl p' H' δ' fp')
 exact this
theorem Zq6(h:MT X io p a ta)(g:MW X io p' (.BoolOp .Or (b :: rest) pos) tb):MW X io (p&&p') (.BoolOp .Or (a :: b :: rest) pos) (mOr ta tb):=by
 obtain⟨_,A,sa⟩:=h
 obtain⟨_,B,sb⟩:=g
 exact⟨_,Z82 A B,λC H σ δ fp ex K Q R h k=>sa C H σ δ fp ex _ _ R h λH' b δ' fp' R' S h'=>by
  cases b with
  | true=>
   rw[if_pos rfl]at h'⊢
   exact k H' true δ' fp' R' S.andL h'
  | false=>
   rw[if_neg XC]at h'⊢
   exact sb C H' σ δ' fp' ex _ _ R' h' λH2 b2 δ2 fp2 R2 S2 h2=>k H2 b2 δ2 fp2 R2 (S.trans S2) h2⟩
theorem MW.mt(h:MW X io p e ta):MT X io p e ta:=by
 obtain⟨_,A,sa⟩:=h
 exact⟨_,A.pt,sa⟩
noncomputable def Zuk:Xa->Option Bool
 | .none=>some false
 | .bool b=>some b
 | .int i=>some (i !=0)
 | .list ds=>some (!ds.isEmpty)
 | .tuple ds=>some (!ds.isEmpty)
 | _=>none
noncomputable def Yba(m:MEt):MTt:=λδ K=>m δ λr δ'=>match Zuk r.data with|some b=>K b δ'|none=>False
theorem Das.isEmpty{H:Hp}{L:Addr->Prop}{xs:List V}{ds:List Xa}(h:Das G H L xs ds):xs.isEmpty=ds.isEmpty:=by cases h<;>rfl
theorem Zdz(ha:ME X io p c a ma)(he:∀whole,isTrue a X.env whole=(do let v←whole;standAt a.pos;holding [v] (truthy v))):MT X io p a (Yba ma):=by
 obtain⟨_,A,sa⟩:=ha
 exact⟨_,Z2n rfl A he,λC H σ δ fp ex K' Q R h k=>sa C H σ δ fp ex _ _ R h λH' v r δ' fp' new r1 h1=>by
  have q:=r1.da R
  generalize r.data=d at q h1
  cases q with
  | non=>exact⟨_,rfl,k H' _ δ' fp' r1.base r1.stp h1⟩
  | bl b=>exact⟨_,rfl,k H' _ δ' fp' r1.base r1.stp h1⟩
  | int b=>exact⟨_,rfl,k H' _ δ' fp' r1.base r1.stp h1⟩
  | str x=>exact h1.elim
  | lst _ e q=>exact⟨_,.inl ⟨_,.inl e,rfl⟩,k H' _ δ' fp' r1.base r1.stp (by rw[q.isEmpty];exact h1)⟩
  | tup e q=>exact⟨_,.inr (.inl ⟨_,.inl (.inl e),rfl⟩),k H' _ δ' fp' r1.base r1.stp (by rw[q.isEmpty];exact h1)⟩
  | scr q=>exact⟨_,.inl ⟨_,q.sq,rfl⟩,k H' _ δ' fp' r1.base r1.stp (by simpa [Zuk]using h1)⟩
  | exc _ _ _=>exact h1.elim
  | fn _=>exact h1.elim
  | dic _ _ _ _=>exact h1.elim⟩
noncomputable def asB(d:Xa)(k:Bool->Prop):Prop:=match d with| .bool b=>k b|_=>False
noncomputable def Z5o(a b:MEt):MEt:=λδ K=>a δ λx δ1=>asB x.data λc=>if c=true then b δ1 K else K (.fz (.bool false)) δ1
noncomputable def Z23(a:MEt):MEt:=λδ K=>a δ λx δ1=>asB x.data λc=>K (.fz (.bool (!c))) δ1
noncomputable def mIf(t:MTt)(a b:MEt):MEt:=λδ K=>t δ λc δ1=>if c=true then a δ1 K else b δ1 K
theorem Da.boolInv{H:Hp}{L:Addr->Prop}{v:V}{d:Xa}{k:Bool->Prop}(q:Da G H L v d)(h:asB d k):∃b,v= .bl b∧k b:=by
 cases q with
 | bl b=>exact⟨b,rfl,h⟩
 | _=>exact h.elim
theorem RE.step{C:MC G}{H H1 H2:Hp}{σ:St}{δ δ1 δ2:Zi}{fp fp1 fp2:Fp}{ex:Addr->Prop}{v:V}{r:OT}{new:List Addr}(S:Stp p H δ fp H1 δ1 fp1)(R:RE C io p' c H1 σ δ1 fp1 ex H2 v r δ2 fp2 new) :
  RE C io (p&&p') c H σ δ fp ex H2 v r δ2 fp2 new:=⟨R.rel,S.trans R.stp,R.own,R.nd,λa m=>S.al a (R.fresh a m)⟩
theorem Zr1{op}(h:ME X io p c a ma):ME X io p c (.BoolOp op [a] pos) ma:=by
 obtain⟨_,A,sa⟩:=h
 exact⟨_,Z3b A,sa⟩
theorem Zqd(ha:ME X io p c a ma)(hb:ME X io p' c' (.BoolOp .And (b :: rest) pos) mb):ME X io (p&&p') c' (.BoolOp .And (a :: b :: rest) pos) (Z5o ma mb):=by
 obtain⟨_,A,sa⟩:=ha
 obtain⟨_,B,sb⟩:=hb
 exact⟨_,Z5w A B,λC H σ δ fp ex K Q R h k=>sa C H σ δ fp ex _ _ R h λH' v r δ' fp' new r1 h1=>by
  obtain⟨b,rfl,h1⟩:=(r1.da R).boolInv h1
  refine⟨b,rfl,?_⟩
  cases b with
  | true=>
   rw[if_pos rfl]at h1⊢
   exact sb C H' σ δ' fp' ex _ _ r1.base h1 λH2 w r2 δ2 fp2 new2 R2 h2=>k H2 w r2 δ2 fp2 new2 (R2.step r1.stp) h2
  | false=>
   rw[if_neg XC]at h1⊢
   exact k H' _ _ δ' fp' [] (RE.fz r1.base r1.stp.andL (.bl false)) h1⟩
theorem Z4j(ha:ME X io p c a ma):ME X io p true (.UnaryOp .Not a pos) (Z23 ma):=by
 obtain⟨_,A,sa⟩:=ha
 exact⟨_,Z32 A,λC H σ δ fp ex K Q R h k=>sa C H σ δ fp ex _ _ R h λH' v r δ' fp' new r1 h1=>by
  obtain⟨b,rfl,h1⟩:=(r1.da R).boolInv h1
  exact⟨b,rfl,k H' _ _ δ' fp' [] (RE.fz r1.base r1.stp (.bl _)) h1⟩⟩
theorem Stp.cast{p p':Bool}{H H':Hp}{δ δ':Zi}{fp fp':Fp}(h:p'=true->p=true)(S:Stp p H δ fp H' δ' fp'):Stp p' H δ fp H' δ' fp' :=
 ⟨λb o e q=>S.keep b o e (q.imp h id),λq=>S.env (h q),S.grow,S.al⟩
theorem RE.cast{C:MC G}{H H1:Hp}{σ:St}{δ δ1:Zi}{fp fp1:Fp}{ex:Addr->Prop}{v:V}{r:OT}{new:List Addr}(hp:p'=true->p=true)(hc:c'=true->c=true)(R:RE C io p c H σ δ fp ex H1 v r δ1 fp1 new) :
  RE C io p' c' H σ δ fp ex H1 v r δ1 fp1 new:=⟨R.rel,R.stp.cast hp,R.own.wide λa l _ z=>l (hc z),R.nd,R.fresh⟩
theorem Yc0{t:Expr}(ht:MT X io p t ta)(ha:ME X io p' c a ma)(hb:ME X io p'' c' b mb):ME X io (p&&(p'&&p'')) (c&&c') (.IfExp t a b pos) (mIf ta ma mb):=by
 obtain⟨_,T,st⟩:=ht
 obtain⟨_,A,sa⟩:=ha
 obtain⟨_,B,sb⟩:=hb
 exact⟨_,Zvp T A B,λC H σ δ fp ex K Q R h k=>st C H σ δ fp ex _ _ R h λH' b δ' fp' R' S h'=>by
  cases b with
  | true=>
   rw[if_pos rfl]at h'⊢
   exact sa C H' σ δ' fp' ex _ _ R' h' λH2 w r2 δ2 fp2 new2 R2 h2=>k H2 w r2 δ2 fp2 new2 ((R2.step S).cast (λz=>by simp at z;simp[z]) (λz=>by simp at z;exact z.1)) h2
  | false=>
   rw[if_neg XC]at h'⊢
   exact sb C H' σ δ' fp' ex _ _ R' h' λH2 w r2 δ2 fp2 new2 R2 h2=>k H2 w r2 δ2 fp2 new2 ((R2.step S).cast (λz=>by simp at z;simp[z]) (λz=>by simp at z;exact z.2)) h2⟩
end
section
variable {X:Cx}{io:List Nat}{p p' p'' c c':Bool}{e a b:Expr}{m ma mb:MEt}{es rest:List Expr}{mr:MAt}{pos:Pos}
noncomputable def Yb7:MAt:=λδ K=>K [] δ
noncomputable def Z59(m:MEt)(mr:MAt):MAt:=λδ K=>m δ λr δ1=>mr δ1 λrs δ2=>K (r :: rs) δ2
theorem Zkd:MA X io true true [] Yb7:=⟨_,Zen,λC H σ δ fp ex K Q R h k=>k H [] [] δ fp [] ⟨R.drop λa z=>Zde.mp z,.refl _ _ _ _,.nil,.nil,λa m=>nomatch m⟩ h⟩
theorem Z0r(ha:ME X io p c e m)(hr:MA X io p' c' es mr)(hc:p'=true∨c=true)(hs:Xo (e :: es) X.env=(false,eval e X.env) :: Xo es X.env:=by rfl):MA X io (p&&p') (c&&c') (e :: es) (Z59 m mr):=by
 obtain⟨tA,A,sa⟩:=ha
 obtain⟨tB,B,sb⟩:=hr
 refine⟨_,Zbl A B hs,λC H σ δ fp ex K Q R h k=>?_⟩
 refine sa C H σ δ fp ex _ _ R h λH1 x u δ1 fp1 new1 r1 h1=>?_
 refine sb C H1 σ δ1 fp1 (exu ex new1) _ _ r1.rel h1 λH2 ys us δ2 fp2 new2 r2 h2=>?_
 have o1:=r1.rel.own_step (ex':=exu (exu ex new1) new2) r2.stp (c:=c) hc (λa z=>z.imp id λz=>r2.fresh a z) (λa m=>.inr m) r1.own
 have eqx:∀a,exu ex (new1 ++ new2) a->exu (exu ex new1) new2 a:=λa z=>by
  rcases z with z|z
  ·exact .inl (.inl z)
  ·rcases Qt.mp z with z|z
   ·exact .inl (.inr z)
   ·exact .inr z
 refine k H2 (x :: ys) (u :: us) δ2 fp2 (new1 ++ new2) ⟨r2.rel.drop eqx,r1.stp.trans r2.stp,.cons (o1.wide λa l _ z=>?_) (r2.own.wide λa l _ z=>?_),?_,?_⟩ h2
 ·have l:=l (by rw[XN]at z;exact z.1)
  exact⟨l.1,λw=>l.2.1 (eqx a w),l.2.2⟩
 ·have l:=l (by rw[XN]at z;exact z.2)
  exact⟨l.1,λw=>l.2.1 (eqx a w),l.2.2⟩
 ·refine Va.mpr ⟨r1.nd,r2.nd,λa m b m' z=>?_⟩
  subst z
  obtain⟨xs,e⟩:=r1.own.some a m
  rw[r2.fresh a m']at e
  cases e
 ·intro a m
  rcases Qt.mp m with m|m
  ·exact r1.fresh a m
  ·exact r1.stp.al a (r2.fresh a m)
noncomputable def Ybd(m:MAt):MEt:=λδ K=>m δ λrs δ'=>rs.length≤Xr∧K (.fz (.tuple (OT.datas rs))) δ'
noncomputable def Ycb(m:MAt):MEt:=λδ K=>m δ λrs δ'=>rs.length≤Xr∧K (.nd rs) δ'
theorem Z8m{x1}(h:MA X io p c es mr):ME X io p c (.Tuple es x1 pos) (Ybd mr):=by
 obtain⟨tA,A,sa⟩:=h
 refine⟨_,Z65 A,λC H σ δ fp ex K Q R h k=>?_⟩
 refine sa C H σ δ fp ex _ _ R h λH1 vs rs δ1 fp1 new1 r1 h1=>⟨by rw[r1.own.length];exact h1.1,λq hq=>?_⟩
 have s:=Z2 hq (.tup vs)
 have R1:=r1.base
 have S:=r1.stp.trans (p':=true) (Stp.same (p:=true) (δ:=δ1) (fp:=fp1) s s.al)
 rw[VL]at S
 refine k _ _ _ δ1 fp1 [] (.fz ?_ S (.tup Z7 ((r1.das R).same s))) h1.2
 exact(R1.made (new:=[]) s λa m=>nomatch m).drop λa z=>.inl z
theorem Z8u(h:MA X io p c es mr):ME X io p c (.List es pos) (Ycb mr):=by
 obtain⟨tA,A,sa⟩:=h
 refine⟨_,Zxm A,λC H σ δ fp ex K Q R h k=>?_⟩
 refine sa C H σ δ fp ex _ _ R h λH1 vs rs δ1 fp1 new1 r1 h1=>⟨by rw[r1.own.length];exact h1.1,λq hq=>?_⟩
 have s:=Z2 hq (.lst vs)
 have S:=r1.stp.trans (p':=true) (Stp.same (p:=true) (δ:=δ1) (fp:=fp1) s s.al)
 rw[VL]at S
 have hqn:q∉new1:=λm=>by
  obtain⟨xs,e⟩:=r1.own.some q m
  rw[hq]at e;cases e
 have R2:=(r1.rel.made (new:=[q]) s λa m=>by
  rcases Xq.mp m with rfl
  exact⟨hq,by rw[Z7];intro z;cases z⟩)
 have eqx:∀a,exu ex (q :: new1) a->exu (exu ex new1) [q] a:=λa z=>by
  rcases z with z|z
  ·exact .inl (.inl z)
  ·rcases Xp.mp z with z|z
   ·exact .inr (Xq.mpr z)
   ·exact .inl (.inr z)
 refine k _ _ _ δ1 fp1 (q :: new1) ⟨R2.drop eqx,S,.nd Z7 ((r1.own.wide λa l w z=>?_).same s),Qp.mpr ⟨hqn,r1.nd⟩,λa m=>?_⟩ h1.2
 ·have l:=l z
  refine⟨l.1,λy=>?_,l.2.2⟩
  rcases eqx a y with y|y
  ·exact l.2.1 y
  ·rcases Xq.mp y with rfl
   exact w hq
 ·rcases Xp.mp m with rfl|m
  ·exact r1.stp.al _ hq
  ·exact r1.fresh a m
end
variable {G:Xb}
noncomputable def spD(G:Xb)(S:List Xa->(OT->Prop)->Prop):Sp:=λvs H Q _=>∃L ds k,Das G H L vs ds∧S ds k∧
 ∀r v H' new,k r->Same H H'->Own G H' (λa=>(L a∨H a=none)∧a∉new) v r new->new.Nodup->(∀a∈new,H a=none)->Q v H'
section
variable {X:Cx}{io:List Nat}{p p' p'' c c':Bool}{e a b:Expr}{m ma mb:MEt}{es rest:List Expr}{mr:MAt}{pos:Pos}
variable {CX:CXT}{k:Nat}{f:Addr}{fd:XD}{ps:List Str}{E:XK}{x:Str}{pp:Pos}
noncomputable def Zu6(S:List Xa->(OT->Prop)->Prop)(mr:MAt):MEt:=λδ K=>mr δ λrs δ1=>S (OT.datas rs) λr=>K r δ1
theorem Z67{S}{t:TA}(sa:SA G io p c t mr):SE G io p c (Z1n (spD G S) [] E t) (Zu6 S mr):=by
 intro C H σ δ fp ex K Q R h kk
 refine sa C H σ δ fp ex _ _ R h λH1 vs rs δ1 fp1 new1 r1 h1=>?_
 rw[QL]
 refine⟨_,_,_,r1.das R,h1,λr v H' new kr s o nd hn=>?_⟩
 exact kk H' v r δ1 fp1 new (RE.tree R r1.base r1.stp s hn nd o) kr
theorem Zyn{S}(F:FnOk X.prog X.w X.K X.mg X.base CX k f fd ps (spD X.K S))(hr:Room k X.A)(hg:Gl X x)(hm:X.mg x=some (.ref f))(hk:Bb X.K (.ref f)=true)(hb:Binds X.K fd ps [])(hx:Zin CX X E)
  (ha:MA X io p c (e :: es) mr) (hdb:(x==("__debug__" : Str))=false:=by decide) (he:Xo (e :: es) X.env=(false,eval e X.env) :: Xo es X.env:=by rfl) (hpl:(QW pos (Xo es X.env)).any (·.1)=false:=by rfl) :
  ME X io p c (.Call (.Name x pp) (e :: es) [] pos) (Zu6 S mr):=by
 obtain⟨_,A,sa⟩:=ha
 exact⟨_,Zzz F hr hg hm hk hb .nil hx A hdb he hpl,Z67 sa⟩
theorem Yd3(hg:Gl X x)(hm:X.mg x=some (.ref f))(hc:ClsAt X.K x f)(hdb:(x==("__debug__" : Str))=false:=by decide):ME X io true true (.Name x pos) (mC (fnD x)) :=
 ⟨_,Z0d (v:=.ref f) hg hm rfl hdb,λC H σ δ fp ex K Q R h k=>k H (.ref f) _ δ fp [] (.fz R (.refl _ _ _ _) (.fn hc)) h⟩
noncomputable def Z4z(i:Nat)(f:Addr)(sp:Sp)(E:XK)(t:TA):TE:=λσ H Q=>σ[i]? =some (some (.ref f))∧Z1n sp [] E t σ H Q
theorem Zvf{sp:Sp}{t:TA}{i:Nat}(F:FnOk X.prog X.w X.K X.mg X.base CX k f fd ps sp)(hr:Room k X.A)(hN:X.N[i]? =some x)(hv:Vis X.env.scope x)(hk:Bb X.K (.ref f)=true)(hb:Binds X.K fd ps [])(hx:Zin CX X E)
  (ha:PA X (e :: es) t) (hdb:(x==("__debug__" : Str))=false:=by decide) (hcd:(x==("__classdict__" : Str))=false:=by decide) (he:Xo (e :: es) X.env=(false,eval e X.env) :: Xo es X.env:=by rfl) (hpl:(QW pos (Xo es X.env)).any (·.1)=false:=by rfl) :
  PE X (.Call (.Name x pp) (e :: es) [] pos) (Z4z i f sp E t):=by
 intro pins s σ H Q I h
 obtain⟨e0,h⟩:=h
 refine BZ (thn (Zyc hN hv hdb hcd pins s σ H (λv H'=>v= .ref f∧H'=H) I ⟨_,e0,rfl,rfl⟩) λu s0 q=>?_)
 obtain⟨v,H0,I0,r0,e1,e2⟩:=q
 subst e1 e2
 cases(show u=Qw f from r0)
 refine PySem.W.callWith_K (h₀:=X.base) I0.ok.mod.kin hk (thn (ha pos pins s0 σ H0 _ I0 h) λus s1 q=>?_) he hpl
 obtain⟨vs,H1,I1,r,q⟩:=q
 exact⟨I1.kIn,Zyz F hr hb .nil hx I1 r q⟩
noncomputable def Zxw(i:Nat)(y:Str)(S:List Xa->(OT->Prop)->Prop)(mr:MAt):MEt:=λδ K=>δ[i]? =some (some (.fz (fnD y)))∧Zu6 S mr δ K
theorem Da.fnInv{H:Hp}{L:Addr->Prop}{v:V}{y:Str}{f:Addr}(q:Da G H L v (fnD y))(hf:ClsAt G y f):v= .ref f:=by
 generalize ed:fnD y=d at q
 cases q with
 | fn h=>
  unfold fnD at ed
  injection ed with ed
  injection ed with ed _
  injection ed with ed _
  injection ed with ed
  subst ed
  have:=h.symm.trans hf
  injection this with this
  injection this with this
  injection this with this
  rw[this]
 | exc _ _ _=>unfold fnD exD at ed;cases ed
 | _=>unfold fnD at ed;cases ed
theorem Zt9{S}{i:Nat}{y:Str}(F:FnOk X.prog X.w X.K X.mg X.base CX k f fd ps (spD X.K S))(hr:Room k X.A)(hc:ClsAt X.K y f)(hk:Bb X.K (.ref f)=true)(hb:Binds X.K fd ps [])(hx:Zin CX X E)
  (ha:MA X io p c (e :: es) mr) (hN:X.N[i]? =some x:=by rfl) (hv:Vis X.env.scope x:=by first|exact Qq rfl|exact Qj (Qq rfl)|exact Qj (Qj rfl)) (hdb:(x==("__debug__" : Str))=false:=by decide) (hcd:(x==("__classdict__" : Str))=false:=by decide)
  (he:Xo (e :: es) X.env=(false,eval e X.env) :: Xo es X.env:=by rfl) (hpl:(QW pos (Xo es X.env)).any (·.1)=false:=by rfl):ME X io p c (.Call (.Name x pp) (e :: es) [] pos) (Zxw i y S mr):=by
 obtain⟨_,A,sa⟩:=ha
 refine⟨_,Zvf F hr hN hv hk hb hx A hdb hcd he hpl,λC H σ δ fp ex K Q R h kk=>?_⟩
 obtain⟨h0,h⟩:=h
 obtain⟨v,e1,o⟩:=R.own i _ h0
 generalize fp i=as at o
 cases o with
 | fz q=>
  rw[q.fnInv hc]at e1
  exact⟨e1,Z67 sa C H σ δ fp ex K Q R h kk⟩
noncomputable def fpu(fp:Fp)(i:Nat)(as:List Addr):Fp:=λj=>if j=i then as else fp j
theorem Ym{fp:Fp}{i:Nat}{as:List Addr}:fpu fp i as i=as:=if_pos rfl
theorem Wb{fp:Fp}{i j:Nat}{as:List Addr}(h:j≠i):fpu fp i as j=fp j:=if_neg h
theorem Foot.of_u{fp:Fp}{i:Nat}{as:List Addr}{a:Addr}(h:Foot (fpu fp i as) a):a∈as∨∃j,j≠i∧a∈fp j:=by
 obtain⟨j,h⟩:=h
 by_cases e:j=i
 ·subst e;rw[Ym]at h;exact .inl h
 ·rw[Wb e]at h;exact .inr ⟨j,e,h⟩
theorem Rel.change{C:MC G}{H H':Hp}{σ:St}{δ:Zi}{fp:Fp}{ex:Addr->Prop}{i:Nat}{t t':OT}{v:V}{as' new:List Addr}(R:Rel C io H σ δ fp ex)(hi:δ[i]? =some (some t))(hv:σ[i]? =some (some v))
  (keep:∀b o,H b=some o->b∉fp i->H' b=some o) (al:∀b,H' b=none->H b=none) (o:Own G H' (Lf C (fpu fp i as') (exu ex new)) v t' as') (nd:as'.Nodup) (new':∀a∈as',a∈fp i∨H a=none)
  (hn:∀a∈new,H a=none∧H' a≠none∧a∉as') :
  Rel C io H' σ (δ.set i (some t')) (fpu fp i as') (exu ex new)∧Stp false H δ fp H' (δ.set i (some t')) (fpu fp i as'):=by
 have hil:i<δ.length:=(Xu.mp hi).1
 have apart:∀j a,j≠i->a∈fp j->a∉as':=λj a e m z=>by
  rcases new' a z with z|z
  ·exact e (R.dj j i a m z)
  ·exact R.footSome z ⟨j,m⟩
 constructor
 ·refine⟨by rw[Bo];exact R.len,λj t'' e=>?_,λj h=>?_,λj=>?_,λj k a h1 h2=>?_,λj a h z=>?_,λa z w=>z.elim (λz=>R.xa a z (al a w)) (λz=>(hn a z).2.1 w),λb ob e n=>?_,λb z=>R.al b (al b z),λj a h=>?_,R.io⟩
  ·by_cases ej:j=i
   ·subst ej
    rw[QJ hil]at e
    cases e
    exact⟨v,hv,by rw[Ym];exact o⟩
   ·rw[Qv (BR ej)]at e
    obtain⟨w,e1,o1⟩:=R.own j t'' e
    refine⟨w,e1,?_⟩
    rw[Wb ej]
    refine o1.frame (λa xs l q=>?_) (λa xs q=>keep a _ q λz=>?_) λa m xs q=>keep a _ q λz=>ej (R.dj j i a m z)
    ·have na:a∉fp i:=λz=>l.1 ⟨i,z⟩
     refine⟨⟨λz=>?_,λz=>z.elim l.2.1 λz=>q.some (hn a z).1,l.2.2⟩,?_⟩
     ·rcases z.of_u with z|⟨k,_,z⟩
      ·rcases new' a z with z|z
       ·exact na z
       ·exact q.some z
      ·exact l.1 ⟨k,z⟩
     ·rcases q with q|⟨u,q⟩
      ·exact .inl (keep a _ q na)
      ·exact .inr ⟨u,keep a _ q na⟩
    ·obtain⟨ys,e⟩:=R.foot ⟨i,z⟩
     exact ImO.nm q e
  ·by_cases ej:j=i
   ·subst ej
    exact absurd (QJ hil) (h t')
   ·rw[Wb ej]
    refine R.emp j λt'' z=>h t'' ?_
    rw[Qv (BR ej)]
    exact z
  ·by_cases ej:j=i
   ·subst ej;rw[Ym];exact nd
   ·rw[Wb ej];exact R.nd j
  ·by_cases ej:j=i
   ·subst ej
    rw[Ym]at h1
    by_cases ek:k=j
    ·exact ek.symm
    ·rw[Wb ek]at h2
     exact absurd h1 (apart k a ek h2)
   ·rw[Wb ej]at h1
    by_cases ek:k=i
    ·subst ek
     rw[Ym]at h2
     exact absurd h2 (apart j a ej h1)
    ·rw[Wb ek]at h2
     exact R.dj j k a h1 h2
  ·by_cases ej:j=i
   ·subst ej
    rw[Ym]at h
    rcases z with z|z
    ·rcases new' a h with w|w
     ·exact R.dx _ a w z
     ·exact R.xa a z w
    ·exact(hn a z).2.2 h
   ·rw[Wb ej]at h
    rcases z with z|z
    ·exact R.dx j a h z
    ·exact R.footSome (hn a z).1 ⟨j,h⟩
  ·refine keep b ob (R.fr b ob e n) λz=>?_
   rcases R.new i b z with w|w
   ·exact n w.2
   ·rw[e]at w;cases w
  ·by_cases ej:j=i
   ·subst ej
    rw[Ym]at h
    rcases new' a h with w|w
    ·exact R.new _ a w
    ·exact .inr (R.al a w)
   ·rw[Wb ej]at h
    exact R.new j a h
 ·refine⟨λb ob e q=>keep b ob e λz=>(q.resolve_left (by decide)) ⟨i,z⟩,λz=>(nomatch z),λa z=>?_,al⟩
  rcases z.of_u with z|⟨j,_,z⟩
  ·exact(new' a z).imp (λw=>⟨i,w⟩) id
  ·exact .inl ⟨j,z⟩
noncomputable def PNs(G:Xb)(r:List V->Hp->VK->Prop)(rp:List Xa->(Xa->Prop)->Prop):Prop:=∀(H:Hp) (L:Addr->Prop) (xs:List V) (ds:List Xa) (k:Xa->Prop) (Q:VK),Das G H L xs ds->rp ds k->(∀v d',ScD v d'->k d'->Q v H)->r xs H Q
noncomputable def PN(G:Xb)(r:List V->Hp->VK->Prop)(rp:List Xa->(OT->Prop)->Prop):Prop:=∀(H:Hp) (L:Addr->Prop) (xs:List V) (ds:List Xa) (k:OT->Prop) (Q:VK),Das G H L xs ds->rp ds k ->
 (∀ H' v o new,Same H H'->Own G H' (λa=>(L a∨H a=none)∧a∉new) v o new->new.Nodup->(∀a∈new,H a=none)->k o->Q v H')->r xs H Q
noncomputable def Z9t(rp:List Xa->(Xa->Prop)->Prop)(mr:MAt):MEt:=λδ K=>mr δ λrs δ1=>rp (OT.datas rs) λd=>K (.fz d) δ1
noncomputable def mBl(rp:List Xa->(OT->Prop)->Prop)(mr:MAt):MEt:=λδ K=>mr δ λrs δ1=>rp (OT.datas rs) λo=>K o δ1
theorem Ydc{r rp}{t:TA}(P:PNs G r rp)(sa:SA G io p c t mr):SE G io p true (tCB r t) (Z9t rp mr):=λC H σ δ fp ex K Q R h kk=>
 sa C H σ δ fp ex _ _ R h λH1 vs rs δ1 fp1 new1 r1 h1=>P H1 _ vs _ _ _ (r1.das R) h1 λv d' sc h2=>kk H1 v _ δ1 fp1 [] (.fz r1.base r1.stp sc.da) h2
theorem sBl{r rp}{t:TA}(P:PN G r rp)(sa:SA G io p c t mr):SE G io p c (tCB r t) (mBl rp mr):=λC H σ δ fp ex K Q R h kk=>
 sa C H σ δ fp ex _ _ R h λH1 vs rs δ1 fp1 new1 r1 h1=>P H1 _ vs _ _ _ (r1.das R) h1 λH' v o new s ow nd hn h2=>kk H' v o δ1 fp1 new (RE.tree R r1.base r1.stp s hn nd ow) h2
variable {id T:String}{r:List V->Hp->VK->Prop}
theorem Zjy{rp}(P:PNs X.K r rp)(hc:Zbt X (.builtin id) r)(hg:Gl X x)(hm:X.mg x=none)(hv:X3 x=some (.builtin id))(ha:MA X io p c (e :: es) mr)(hn:x≠"__name__" :=by decide)(hdb:(x==("__debug__" : Str))=false:=by decide)
  (he:Xo (e :: es) X.env=(false,eval e X.env) :: Xo es X.env:=by rfl) (hpl:(QW pos (Xo es X.env)).any (·.1)=false:=by rfl):ME X io p true (.Call (.Name x pp) (e :: es) [] pos) (Z9t rp mr):=by
 obtain⟨_,A,sa⟩:=ha
 exact⟨_,Zgh hc hg hm hv A hn hdb he hpl,Ydc P sa⟩
theorem Z9y{rp}(P:PN X.K r rp)(hc:Zbt X (.builtin id) r)(hg:Gl X x)(hm:X.mg x=none)(hv:X3 x=some (.builtin id))(ha:MA X io p c (e :: es) mr)(hn:x≠"__name__" :=by decide)(hdb:(x==("__debug__" : Str))=false:=by decide)
  (he:Xo (e :: es) X.env=(false,eval e X.env) :: Xo es X.env:=by rfl) (hpl:(QW pos (Xo es X.env)).any (·.1)=false:=by rfl):ME X io p c (.Call (.Name x pp) (e :: es) [] pos) (mBl rp mr):=by
 obtain⟨_,A,sa⟩:=ha
 exact⟨_,Zgh hc hg hm hv A hn hdb he hpl,sBl P sa⟩
theorem Ydk{rp}(P:PN X.K r rp)(hc:Zbt X (.type T) r)(hg:Gl X x)(hm:X.mg x=none)(hv:X3 x=some (.type T))(ha:MA X io p c (e :: es) mr)(hn:x≠"__name__" :=by decide)(hdb:(x==("__debug__" : Str))=false:=by decide)
  (he:Xo (e :: es) X.env=(false,eval e X.env) :: Xo es X.env:=by rfl) (hpl:(QW pos (Xo es X.env)).any (·.1)=false:=by rfl):ME X io p c (.Call (.Name x pp) (e :: es) [] pos) (mBl rp mr):=by
 obtain⟨_,A,sa⟩:=ha
 exact⟨_,Zcr hc hg hm hv A hn hdb he hpl,sBl P sa⟩
end
variable {G:Xb}
mutual
noncomputable def Zbh:Xa->Bool
 | .none=>true
 | .bool _=>true
 | .int _=>true
 | .str _=>true
 | .tuple ds=>Zlt ds
 | .list _=>false
 | .dict _=>false
noncomputable def Zlt:List Xa->Bool
 | []=>true
 | d :: ds=>Zbh d&&Zlt ds
end
theorem Da.flat2{H:Hp}{L L':Addr->Prop}:(∀{v:V} {d:Xa},Da G H L v d->Zbh d=true->Da G H L' v d)∧∀{v:List V} {d:List Xa},Das G H L v d->Zlt d=true->Das G H L' v d :=
 Da.both (λ_=>.non) (λb _=>.bl b) (λi _=>.int i) (λx _=>.str x) (λ_ _ _ h=>by rw[Zbh]at h;cases h) (λe r h=>.tup e (r (by rw[Zbh]at h;exact h))) (λk _=>.scr k) (λc n e _=>.exc c n e) (λk _=>.fn k) (λ_ _ _ _ h=>by rw[dcD,Zbh]at h;cases h) (λ_=>.nil)
  (λk r h=>by rw[Zlt,XN]at h;exact .cons (k h.1) (r h.2))
theorem Da.flat{H:Hp}{L L':Addr->Prop}{v:V}{d:Xa}(h:Da G H L v d)(f:Zbh d=true):Da G H L' v d:=Da.flat2.1 h f
set_option genInjectivity false in
structure Zia where
 nx:Zi->Prop
 rt:OT->Zi->Prop
 bk:Zi->Prop:=λ_=>False
 ct:Zi->Prop:=λ_=>False
noncomputable abbrev MSt:=Zia->Zi->Prop
noncomputable abbrev Kp(H:Hp)(fp:Fp)(H':Hp)(fp':Fp):Prop:=Stp false H [] fp H' [] fp'
theorem Stp.kp{p:Bool}{H H':Hp}{δ δ':Zi}{fp fp':Fp}(S:Stp p H δ fp H' δ' fp'):Kp H fp H' fp':=⟨λb o e q=>S.keep b o e (.inr (q.resolve_left (by decide))),λz=>(nomatch z),S.grow,S.al⟩
theorem Kp.trans{H H1 H2:Hp}{fp fp1 fp2:Fp}(a:Kp H fp H1 fp1)(b:Kp H1 fp1 H2 fp2):Kp H fp H2 fp2:=Stp.trans a b
theorem Kp.refl(H:Hp)(fp:Fp):Kp H fp H fp:=Stp.refl _ _ _ _
structure RelEnds(C:MC G)(io:List Nat)(ex:Addr->Prop)(H:Hp)(fp:Fp)(D:Zia)(D':Ends):Prop where
 nx:∀H' σ' δ' fp',Rel C io H' σ' δ' fp' ex->Kp H fp H' fp'->D.nx δ'->D'.nx σ' H'
 bk:∀H' σ' δ' fp',Rel C io H' σ' δ' fp' ex->Kp H fp H' fp'->D.bk δ'->D'.bk σ' H'
 ct:∀H' σ' δ' fp',Rel C io H' σ' δ' fp' ex->Kp H fp H' fp'->D.ct δ'->D'.ct σ' H'
 rt:∀H' σ' v r δ' fp' new,Rel C io H' σ' δ' fp' (exu ex new)->Own G H' (Lf C fp' (exu ex new)) v r new->new.Nodup->(∀a∈new,C.H₀ a=none)->D.rt r δ'->D'.rt v H'
theorem RelEnds.shift{C:MC G}{io:List Nat}{ex:Addr->Prop}{H H1:Hp}{fp fp1:Fp}{D:Zia}{D':Ends}(E:RelEnds C io ex H fp D D')(k:Kp H fp H1 fp1):RelEnds C io ex H1 fp1 D D' :=
 ⟨λH' σ' δ' fp' R q=>E.nx H' σ' δ' fp' R (k.trans q),λH' σ' δ' fp' R q=>E.bk H' σ' δ' fp' R (k.trans q),λH' σ' δ' fp' R q=>E.ct H' σ' δ' fp' R (k.trans q),E.rt⟩
noncomputable def SS(G:Xb)(io:List Nat)(t:TS)(m:MSt):Prop:=∀(C:MC G) (H:Hp) (σ:St) (δ:Zi) (fp:Fp) (ex:Addr->Prop) (D:Zia) (D':Ends),Rel C io H σ δ fp ex->m D δ->RelEnds C io ex H fp D D'->t D' σ H
noncomputable def MS(X:Cx)(io:List Nat)(st:Stmt)(m:MSt):Prop:=∃t,PS X st t∧SS X.K io t m
noncomputable def MSs(X:Cx)(io:List Nat)(st:List Stmt)(m:MSt):Prop:=∃t,PSs X st t∧SS X.K io t m
section
variable {X:Cx}{io:List Nat}{p p' p'' c c':Bool}{e a b:Expr}{m ma mb:MEt}{es rest:List Expr}{mr:MAt}{pos:Pos}{st:Stmt}{sts:List Stmt}{u w:MSt}{mt:MTt}
noncomputable def Z68:MSt:=λD δ=>D.nx δ
noncomputable def Ycv(w:MSt)(D:Zia)(δ:Zi):Prop:=w D δ
noncomputable def Z95(u w:MSt):MSt:=λD δ=>u { D with nx:=Ycv w D } δ
theorem Zfk:MSs X io [] Z68:=⟨_,Z02,λC H σ δ fp ex D D' R h E=>E.nx H σ δ fp R (.refl _ _) h⟩
theorem Zh(h:MS X io st u):MSs X io [st] u:=by
 obtain⟨_,A,s⟩:=h
 exact⟨_,Z1m A,s⟩
theorem Zdm(h:MS X io st u)(g:MSs X io sts w):MSs X io (st :: sts) (Z95 u w):=by
 obtain⟨_,A,s⟩:=h
 obtain⟨tb,B,s'⟩:=g
 exact⟨_,Zvt A B,λC H σ δ fp ex D D' R h E=>s C H σ δ fp ex _ _ R h ⟨λH1 σ1 δ1 fp1 R1 k1 h1=>s' C H1 σ1 δ1 fp1 ex D D' R1 h1 (E.shift k1),E.bk,E.ct,E.rt⟩⟩
noncomputable def Z6w:MSt:=λ_ _=>False
theorem Zwg:MS X io st Z6w:=⟨_,Zwo,λC H σ δ fp ex D D' R h E=>h.elim⟩
noncomputable def Yaw(m:MEt):MSt:=λD δ=>m δ λr δ'=>D.rt r δ'
theorem Zgl(he:ME X io p true e m):MS X io (.Return (some e) pos) (Yaw m):=by
 obtain⟨_,A,s⟩:=he
 exact⟨_,Zxq A,λC H σ δ fp ex D D' R h E=>s C H σ δ fp ex _ _ R h λH' v r δ' fp' new r1 h1=>E.rt H' σ v r δ' fp' new r1.rel (r1.own.wide λa l _=>l rfl) r1.nd (λa m=>(R.newOk (r1.fresh a m)).2.2) h1⟩
noncomputable def Zvs(i:Nat):MSt:=λD δ=>match δ[i]? with|some (some t)=>D.rt t (δ.set i none)|_=>False
theorem Rel.take{C:MC G}{H:Hp}{σ:St}{δ:Zi}{fp:Fp}{ex:Addr->Prop}{i:Nat}{t:OT}(R:Rel C io H σ δ fp ex)(hi:δ[i]? =some (some t)):Rel C io H σ (δ.set i none) (fpu fp i []) (exu ex (fp i)):=by
 have hil:i<δ.length:=(Xu.mp hi).1
 have get:∀j (t':OT),(δ.set i none)[j]? =some (some t')->j≠i∧δ[j]? =some (some t'):=λj t' e=>by
  by_cases ej:j=i
  ·subst ej;rw[QJ hil]at e;cases e
  ·rw[Qv (BR ej)]at e;exact⟨ej,e⟩
 have sub:∀j a,a∈fpu fp i [] j->j≠i∧a∈fp j:=λj a m=>by
  by_cases ej:j=i
  ·subst ej;rw[Ym]at m;exact nomatch m
  ·rw[Wb ej]at m;exact⟨ej,m⟩
 have lw:∀a,Lf C fp ex a->Lf C (fpu fp i []) (exu ex (fp i)) a:=λa l=>⟨λ⟨j,z⟩=>l.1 ⟨j,(sub j a z).2⟩,λz=>z.elim l.2.1 λz=>l.1 ⟨i,z⟩,l.2.2⟩
 refine⟨by rw[Bo];exact R.len,λj t' e=>?_,λj h=>?_,λj=>?_,λj k a h1 h2=>R.dj j k a (sub j a h1).2 (sub k a h2).2,λj a h z=>?_,λa z w=>?_,R.fr,R.al,λj a h=>R.new j a (sub j a h).2,R.io⟩
 ·obtain⟨ej,e⟩:=get j t' e
  obtain⟨w,e1,o⟩:=R.own j t' e
  exact⟨w,e1,by rw[Wb ej];exact o.wide λa l _=>lw a l⟩
 ·by_cases ej:j=i
  ·subst ej;rw[Ym]
  ·rw[Wb ej]
   exact R.emp j λt' z=>h t' (by rw[Qv (BR ej)];exact z)
 ·by_cases ej:j=i
  ·subst ej;rw[Ym];exact .nil
  ·rw[Wb ej];exact R.nd j
 ·obtain⟨ej,h⟩:=sub j a h
  rcases z with z|z
  ·exact R.dx j a h z
  ·exact ej (R.dj j i a h z)
 ·rcases z with z|z
  ·exact R.xa a z w
  ·exact R.footSome w ⟨i,z⟩
theorem Zaq(i:Nat){x:Str}{px:Pos}(hio:i∉io:=by decide)(hN:X.N[i]? =some x:=by rfl)(hv:Vis X.env.scope x:=by first|exact Qq rfl|exact Qj (Qq rfl)|exact Qj (Qj rfl))(hd:(x==("__debug__" : Str))=false:=by decide)
  (hcd:(x==("__classdict__" : Str))=false:=by decide):MS X io (.Return (some (.Name x px)) pos) (Zvs i):=by
 refine⟨_,Zxq (pv i hN hv hd hcd),λC H σ δ fp ex D D' R h E=>?_⟩
 unfold Zvs at h
 split at h
 case h_2=>exact h.elim
 rename_i t hi
 obtain⟨v,e,o⟩:=R.own i t hi
 have lw:∀a,Lf C fp ex a->H a≠none->Lf C (fpu fp i []) (exu ex (fp i)) a:=λa l _=>⟨λz=>by
  rcases z.of_u with z|⟨j,_,z⟩
  ·exact nomatch z
  ·exact l.1 ⟨j,z⟩,λz=>z.elim l.2.1 λz=>l.1 ⟨i,z⟩,l.2.2⟩
 have hn:∀a∈fp i,C.H₀ a=none:=λa m=>by
  rcases R.new i a m with z|z
  ·exact absurd z.1 hio
  ·exact z
 exact⟨v,e,E.rt H σ v t _ _ (fp i) (R.take hi) (o.wide lw) (R.nd i) hn h⟩
noncomputable def Yck(t:MTt)(u w:MSt):MSt:=λD δ=>t δ λb δ'=>if b=true then u D δ' else w D δ'
theorem Zpm{cnd:Expr}{ss ss':List Stmt}(hc:MT X io p cnd mt)(ha:MSs X io ss u)(hb:MSs X io ss' w):MS X io (.If cnd ss ss' pos) (Yck mt u w):=by
 obtain⟨_,T,s⟩:=hc
 obtain⟨_,A,sa⟩:=ha
 obtain⟨_,B,sb⟩:=hb
 exact⟨_,Yac T A B,λC H σ δ fp ex D D' R h E=>s C H σ δ fp ex _ _ R h λH' b δ' fp' R' S h'=>by
  cases b with
  | true=>
   rw[if_pos rfl]at h'⊢
   exact sa C H' σ δ' fp' ex D D' R' h' (E.shift S.kp)
  | false=>
   rw[if_neg XC]at h'⊢
   exact sb C H' σ δ' fp' ex D D' R' h' (E.shift S.kp)⟩
theorem Rel.put{C:MC G}{H:Hp}{σ:St}{δ:Zi}{fp:Fp}{ex:Addr->Prop}{i:Nat}{v:V}{r:OT}{new:List Addr}(R:Rel C io H σ δ fp (exu ex new))(hio:i∉io)(o:Own G H (Lf C fp (exu ex new)) v r new)(nd:new.Nodup)
  (hn:∀a∈new,C.H₀ a=none∧¬ex a):∃fp',Rel C io H (σ.set i (some v)) (δ.set i (some r)) fp' ex∧∀a,Foot fp' a->Foot fp a∨a∈new:=by
 by_cases hil:i<δ.length
 case neg=>
  refine⟨fp,?_,λa h=>.inl h⟩
  have hl:=R.len
  rw[Ux (show δ.length≤i by omega),Ux (show σ.length≤i by omega)]
  exact R.drop λa z=>.inl z
 have hsl:i<σ.length:=by rw[R.len];exact hil
 have sub:∀a,Foot (fpu fp i new) a->Foot fp a∨a∈new:=λa z=>by
  rcases z.of_u with z|⟨j,_,z⟩
  ·exact .inr z
  ·exact .inl ⟨j,z⟩
 have lw:∀a,Lf C fp (exu ex new) a->Lf C (fpu fp i new) ex a:=λa l=>⟨λz=>(sub a z).elim l.1 λz=>l.2.1 (.inr z),λz=>l.2.1 (.inl z),l.2.2⟩
 refine⟨fpu fp i new,⟨by rw[Bo,Bo];exact R.len,λj t' e=>?_,λj h=>?_,λj=>?_,λj k a h1 h2=>?_,λj a h z=>?_,λa z=>R.xa a (.inl z),R.fr,R.al,λj a h=>?_,λj hj=>?_⟩,sub⟩
 ·by_cases ej:j=i
  ·subst ej
   rw[QJ hil]at e
   cases e
   exact⟨v,QJ hsl,by rw[Ym];exact o.wide λa l _=>lw a l⟩
  ·rw[Qv (BR ej)]at e
   obtain⟨w,e1,o1⟩:=R.own j t' e
   exact⟨w,by rw[Qv (BR ej)];exact e1,by rw[Wb ej];exact o1.wide λa l _=>lw a l⟩
 ·by_cases ej:j=i
  ·subst ej;exact absurd (QJ hil) (h r)
  ·rw[Wb ej]
   exact R.emp j λt' z=>h t' (by rw[Qv (BR ej)];exact z)
 ·by_cases ej:j=i
  ·subst ej;rw[Ym];exact nd
  ·rw[Wb ej];exact R.nd j
 ·by_cases ej:j=i
  ·subst ej
   rw[Ym]at h1
   by_cases ek:k=j
   ·exact ek.symm
   ·rw[Wb ek]at h2
    exact absurd (.inr h1) (R.dx k a h2)
  ·rw[Wb ej]at h1
   by_cases ek:k=i
   ·subst ek
    rw[Ym]at h2
    exact absurd (.inr h2) (R.dx j a h1)
   ·rw[Wb ek]at h2
    exact R.dj j k a h1 h2
 ·by_cases ej:j=i
  ·subst ej
   rw[Ym]at h
   exact(hn a h).2 z
  ·rw[Wb ej]at h
   exact R.dx j a h (.inl z)
 ·by_cases ej:j=i
  ·subst ej
   rw[Ym]at h
   exact .inr (hn a h).1
  ·rw[Wb ej]at h
   exact R.new j a h
 ·have ej:j≠i:=λz=>hio (z▸hj)
  rw[Qv (BR ej)]
  exact R.io j hj
theorem RE.put{C:MC G}{H H':Hp}{σ:St}{δ δ':Zi}{fp fp':Fp}{ex:Addr->Prop}{i:Nat}{v:V}{r:OT}{new:List Addr}(R:RE C io p true H σ δ fp ex H' v r δ' fp' new)(R0:Rel C io H σ δ fp ex)(hio:i∉io) :
  ∃fp2,Rel C io H' (σ.set i (some v)) (δ'.set i (some r)) fp2 ex∧Kp H fp H' fp2:=by
 obtain⟨fp2,R2,g⟩:=R.rel.put hio (R.own.wide λa l _=>l rfl) R.nd λa m=>⟨(R0.newOk (R.fresh a m)).2.2,(R0.newOk (R.fresh a m)).2.1⟩
 refine⟨fp2,R2,λb o e q=>R.stp.keep b o e (.inr (q.resolve_left (by decide))),λz=>(nomatch z),λa z=>?_,R.stp.al⟩
 rcases g a z with z|z
 ·exact R.stp.grow a z
 ·exact .inr (R.fresh a z)
theorem RE.fzc{C:MC G}{H H':Hp}{σ:St}{δ δ':Zi}{fp fp':Fp}{ex:Addr->Prop}{v:V}{r:OT}{new:List Addr}(R:RE C io p c H σ δ fp ex H' v r δ' fp' new)(R0:Rel C io H σ δ fp ex) :
  RE C io p c H σ δ fp ex H' v (.fz r.data) δ' fp' []:=.fz R.base R.stp (R.da R0)
theorem RE.fzs{C:MC G}{H H':Hp}{σ:St}{δ δ':Zi}{fp fp':Fp}{ex:Addr->Prop}{v:V}{r:OT}{new:List Addr}(R:RE C io p c H σ δ fp ex H' v r δ' fp' new)(R0:Rel C io H σ δ fp ex)(h:Zbh r.data=true) :
  RE C io p true H σ δ fp ex H' v (.fz r.data) δ' fp' []:=.fz R.base R.stp ((R.da R0).flat h)
noncomputable def Z2t(i:Nat)(m:MEt):MSt:=λD δ=>m δ λr δ'=>D.nx (δ'.set i (some (.fz r.data)))
noncomputable def Zl2(i:Nat)(m:MEt):MSt:=λD δ=>m δ λr δ'=>D.nx (δ'.set i (some r))
section
variable {i:Nat}{x:Str}{px:Pos}
theorem Ya9{t:TE}(s:SE G io p true t m)(hio:i∉io):SS G io (Z33 t (Zs6 i)) (Z2t i m):=λC H σ δ fp ex D D' R h E=>s C H σ δ fp ex _ _ R h λH' v r δ' fp' new r1 h1=>by
 obtain⟨fp2,R2,k2⟩:=(r1.fzc R).put R hio
 exact E.nx H' _ _ fp2 R2 k2 h1
theorem Z0u{t:TE}(s:SE G io p true t m)(hio:i∉io):SS G io (Z33 t (Zs6 i)) (Zl2 i m):=λC H σ δ fp ex D D' R h E=>s C H σ δ fp ex _ _ R h λH' v r δ' fp' new r1 h1=>by
 obtain⟨fp2,R2,k2⟩:=r1.put R hio
 exact E.nx H' _ _ fp2 R2 k2 h1
theorem Zsb(hN:X.N.Nodup)(hi:X.N[i]? =some x)(hx:Loc X.env.scope x)(he:ME X io p true e m)(hio:i∉io:=by decide)(hs:Vo e (some (.Name x px)) pos.line X.env=pure false:=by rfl)(hf:X.fn x=true∨X.env.scope.names.lookup x=some .local:=by first|exact .inl rfl|exact .inr rfl|assumption) :
  MS X io (.Assign [.Name x px] e pos) (Z2t i m):=by
 obtain⟨_,A,s⟩:=he
 exact⟨_,Zya hN hi hx A hs hf,Ya9 s hio⟩
theorem Z12(hN:X.N.Nodup)(hi:X.N[i]? =some x)(hx:Loc X.env.scope x)(he:ME X io p true e m)(hio:i∉io:=by decide)(hs:Vo e (some (.Name x px)) pos.line X.env=pure false:=by rfl)(hf:X.fn x=true∨X.env.scope.names.lookup x=some .local:=by first|exact .inl rfl|exact .inr rfl|assumption) :
  MS X io (.Assign [.Name x px] e pos) (Zl2 i m):=by
 obtain⟨_,A,s⟩:=he
 exact⟨_,Zya hN hi hx A hs hf,Z0u s hio⟩
end
noncomputable def Zyd(t:MTt)(u:MSt):MSt:=λD δ=>∃W:Nat->Zi->Prop,(∃n,W n δ)∧∀n δ,W n δ->t δ λb δ'=>if b=true then∃N:Zi->Prop,(∀δ',N δ'->∃n',n'<n∧W n' δ')∧u { D with nx:=N,ct:=N,bk:=D.nx } δ' else D.nx δ'
theorem Zow{cnd:Expr}{ss:List Stmt}(hp:PassesOwn (Qd X.prog X.w) X.A X.env X.xe)(hc:MT X io p cnd mt)(ha:MSs X io ss u):MS X io (.While cnd ss [] pos) (Zyd mt u):=by
 obtain⟨_,T,s⟩:=hc
 obtain⟨_,A,sa⟩:=ha
 refine⟨_,Zw1 hp T A,λC H σ δ fp ex D D' R h E=>?_⟩
 obtain⟨W,⟨n0,w0⟩,turn⟩:=h
 refine⟨λn σ' H'=>∃δ' fp',Rel C io H' σ' δ' fp' ex∧Kp H fp H' fp'∧W n δ',⟨n0,δ,fp,R,.refl _ _,w0⟩,?_⟩
 rintro n σ1 H1 ⟨δ1,fp1,R1,k1,w1⟩
 refine s C H1 σ1 δ1 fp1 ex _ _ R1 (turn n δ1 w1) λH2 b δ2 fp2 R2 S2 h2=>?_
 have k2:=k1.trans S2.kp
 cases b with
 | true=>
  rw[if_pos rfl]at h2⊢
  obtain⟨N,hN,h2⟩:=h2
  refine⟨λσ' H'=>∃δ' fp',Rel C io H' σ' δ' fp' ex∧Kp H fp H' fp'∧N δ',λσ' H' ⟨δ',fp',R',k',n'⟩=>?_,?_⟩
  ·obtain⟨n1,hn1,w1⟩:=hN δ' n'
   exact⟨n1,hn1,δ',fp',R',k',w1⟩
  ·refine sa C H2 σ1 δ2 fp2 ex _ _ R2 h2 ⟨λH' σ' δ' fp' R' k' n'=>⟨δ',fp',R',k2.trans k',n'⟩,λH' σ' δ' fp' R' k' n'=>E.nx H' σ' δ' fp' R' (k2.trans k') n',λH' σ' δ' fp' R' k' n'=>⟨δ',fp',R',k2.trans k',n'⟩,E.rt⟩
 | false=>
  rw[if_neg XC]at h2⊢
  exact E.nx H2 σ1 δ2 fp2 R2 k2 h2
end
variable {G:Xb}
noncomputable def Zsn(N:List Str)(ds:List Xa):Zi:=ds.map (λd=>some (.fz d)) ++ Xv (N.length-ds.length) none
section
variable {H:Hp}{L:Addr->Prop}{vs:List V}{ds:List Xa}{N:List Str}
theorem Zsy{i:Nat}{t:OT}{n:Nat}(h:(ds.map (λd=>some (.fz d)) ++ Xv n none:Zi)[i]? =some (some t)):∃d,ds[i]? =some d∧t= .fz d:=by
 rw[List.getElem?_append]at h
 split at h
 ·rw[Xn]at h
  cases e:ds[i]? with
  | none=>rw[e]at h;cases h
  | some d=>rw[e]at h;cases h;exact⟨d,rfl,rfl⟩
 ·rw[Bu]at h
  split at h
  ·cases h
  ·cases h
theorem Rel.entry(h:Das G H L vs ds):Rel (G:=G) ⟨H,λ_=>False,L,start N vs⟩ [] H (start N vs) (Zsn N ds) (λ_=>[]) (λ_=>False):=by
 refine⟨?_,λi t e=>?_,λ_ _=>rfl,λ_=>.nil,λi j a m=>(nomatch m),λi a m=>(nomatch m),λa z=>z.elim,λb o e _=>e,λb e=>e,λi a m=>(nomatch m),λi m=>nomatch m⟩
 ·unfold start Zsn
  simp[h.length]
 ·obtain⟨d,e',rfl⟩:=Zsy e
  obtain⟨x,e1,q⟩:=h.get e'
  refine⟨x,?_,.fz (q.wide λa l _=>⟨λ⟨j,z⟩=>(nomatch z),λz=>z,.inl l⟩)⟩
  unfold L2.start
  rw[Uo (by rw[Xc];exact(Xu.mp e1).1),Xn,e1]
  rfl
variable {P:X8}{w:Qs}{K:Xb}{mg:Str->Option Xd}{base:Heap}
noncomputable def Zzo(k:OT->Prop):Zia:={ nx:=λ_=>k (.fz .none),rt:=λr _=>k r }
theorem Fun.okD{x qual:Str}{st:Stmt}{f:Addr}{fd:XD}{N ps:List Str}{n:Nat}{S:List Xa->(OT->Prop)->Prop}(F:Fun K x qual st f fd)(Sc:Zu N ps (Zm st))(len:∀ds k,S ds k->ds.length=ps.length)
  (hbody:∀(cdv:Xd) (A:Qo) (outer:List Env) (s:Xg) (H:Hp) (E:XK),Room n (A.deeper (envOfC qual (Zm st) s.heap.objs.size f cdv)) ->
   ∃m,MSs (Zx7 CX0 P w K mg base N qual (Zm st) f cdv A outer s H E).nox [] (Zbx st) m∧∀ds k,S ds k->m (Zzo k) (Zsn N ds)):FnOk P w K mg base CX0 (n+1) f fd ps (spD K S):=by
 refine F.ok Sc (λvs H Q E h=>?_) (λcdv A outer s H vs Q E hr h=>?_)
 ·obtain⟨L,ds,k,h1,h2,_⟩:=h
  rw[h1.length]
  exact len ds k h2
 ·obtain⟨L,ds,k,h1,h2,h3⟩:=h
  obtain⟨m,⟨t,A1,s1⟩,q⟩:=hbody cdv A outer s H E hr
  refine⟨t,A1,s1 ⟨H,λ_=>False,L,start N vs⟩ H _ _ _ _ (Zzo k) _ (Rel.entry h1) (q ds k h2) ⟨λH' σ' δ' fp' R _ hk=>?_,λ_ _ _ _ _ _ z=>z.elim,λ_ _ _ _ _ _ z=>z.elim,λH' σ' v r δ' fp' new R o nd hn hk=>?_⟩⟩
  ·exact h3 _ .non H' [] hk (λb o e=>R.fr b o e id) (.fz .non) .nil λa m=>nomatch m
  ·refine h3 r v H' new hk (λb o e=>R.fr b o e id) (o.wide λa l _=>⟨?_,λz=>l.2.1 (.inr z)⟩) nd hn
   exact l.2.2
end
noncomputable abbrev MGt:=Xa->Zi->(Zi->Prop)->Prop
noncomputable abbrev Zud:=List Xa->Zi->(Zi->Prop)->Prop
noncomputable def SG(G:Xb)(io:List Nat)(c:Bool)(t:TG)(g:MGt):Prop:=∀(C:MC G) (H:Hp) (σ:St) (δ:Zi) (fp:Fp) (ex:Addr->Prop) (v:V) (d:Xa) (k:Zi->Prop) (Q:St->Hp->Prop),Rel C io H σ δ fp ex->Da G H (λa=>c=true->Lf C fp ex a) v d->g d δ k ->
 (∀ σ' δ' fp',Rel C io H σ' δ' fp' ex->Kp H fp H fp'->k δ'->Q σ' H)->t v σ H Q
noncomputable def SGs(G:Xb)(io:List Nat)(c:Bool)(t:TGs)(g:Zud):Prop:=∀(C:MC G) (H:Hp) (σ:St) (δ:Zi) (fp:Fp) (ex:Addr->Prop) (v:List V) (d:List Xa) (k:Zi->Prop) (Q:St->Hp->Prop),Rel C io H σ δ fp ex->Das G H (λa=>c=true->Lf C fp ex a) v d->g d δ k ->
 (∀ σ' δ' fp',Rel C io H σ' δ' fp' ex->Kp H fp H fp'->k δ'->Q σ' H)->t v σ H Q
noncomputable def MG(X:Cx)(io:List Nat)(c:Bool)(tg:Expr)(g:MGt):Prop:=∃t,PG X tg t∧SG X.K io c t g
noncomputable def MGs(X:Cx)(io:List Nat)(c:Bool)(tg:List Expr)(g:Zud):Prop:=∃t,PGs X tg t∧SGs X.K io c t g
section
variable {X:Cx}{io:List Nat}{c:Bool}{pos:Pos}{i:Nat}{x:Str}
noncomputable def dName(i:Nat):MGt:=λd δ k=>k (δ.set i (some (.fz d)))
theorem Rel.putD{C:MC G}{H:Hp}{σ:St}{δ:Zi}{fp:Fp}{ex:Addr->Prop}{v:V}{d:Xa}(R:Rel C io H σ δ fp ex)(hio:i∉io)(q:Da G H (Lf C fp ex) v d) :
  ∃fp',Rel C io H (σ.set i (some v)) (δ.set i (some (.fz d))) fp' ex∧Kp H fp H fp':=by
 obtain⟨fp',R',g⟩:=(R.drop λa z=>Zde.mp z).put (new:=[]) hio (.fz (q.wide λa l _=>⟨l.1,λz=>l.2.1 (Zde.mp z),l.2.2⟩)) .nil (λa m=>nomatch m)
 exact⟨fp',R',λb o e _=>e,λz=>(nomatch z),λa z=>(g a z).imp id λz=>(nomatch z),λb e=>e⟩
theorem Zmh(hN:X.N.Nodup)(hi:X.N[i]? =some x:=by rfl)(hx:Loc X.env.scope x:=by first|exact Qq rfl|exact Qj rfl)(hio:i∉io:=by decide)(hf:X.fn x=true∨X.env.scope.names.lookup x=some .local:=by first|exact .inl rfl|exact .inr rfl|assumption):MG X io true (.Name x pos) (dName i) :=
 ⟨_,Z0y hN hi hx hf,λC H σ δ fp ex v d k Q R q h kk=>by
  obtain⟨fp',R',k'⟩:=R.putD hio (q.wide λa l _=>l rfl)
  exact kk _ _ fp' R' k' h⟩
noncomputable def Ycr:Zud:=λds δ k=>ds=[]∧k δ
noncomputable def Z27(g:MGt)(gs:Zud):Zud:=λds δ k=>match ds with|d :: r=>g d δ λδ'=>gs r δ' k|[]=>False
theorem Zmk:MGs X io c [] Ycr:=⟨_,Z04,λC H σ δ fp ex v d k Q R q h kk=>by
 obtain⟨rfl,h⟩:=h
 cases q
 exact⟨rfl,kk σ δ fp R (.refl _ _) h⟩⟩
theorem Rel.kp_das{C:MC G}{H H':Hp}{σ:St}{δ:Zi}{fp fp':Fp}{ex:Addr->Prop}{vs:List V}{ds:List Xa}(R:Rel C io H σ δ fp ex)(S:Kp H fp H' fp')(h:Das G H (Lf C fp ex) vs ds):Das G H' (Lf C fp' ex) vs ds:=by
 have S':Stp false H δ fp H' δ fp':=⟨S.keep,λz=>(nomatch z),S.grow,S.al⟩
 obtain⟨f1,f2⟩:=R.frameL (c:=true) (ex':=ex) S' (.inr rfl) λa z=>.inl z
 exact h.frame (λa xs l q=>⟨(f1 a xs (λ_=>l) q).1 rfl,(f1 a xs (λ_=>l) q).2⟩) f2
theorem Za7{e:Expr}{es:List Expr}{g:MGt}{gs:Zud}(h1:MG X io true e g)(h2:MGs X io true es gs)
  (hs:(Q3 (e :: es) X.env).map (·.2)=V1 e X.env :: (Q3 es X.env).map (·.2):=by rfl):MGs X io true (e :: es) (Z27 g gs):=by
 obtain⟨_,A,s⟩:=h1
 obtain⟨_,B,s'⟩:=h2
 exact⟨_,Zww A B hs,λC H σ δ fp ex v d k Q R q h kk=>by
  cases q with
  | nil=>exact h.elim
  | cons q qs=>
   refine⟨_,_,rfl,s C H σ δ fp ex _ _ _ _ R q h λσ1 δ1 fp1 R1 k1 h1=>?_⟩
   exact s' C H σ1 δ1 fp1 ex _ _ _ _ R1 ((R.kp_das k1 (qs.wide λa l _=>l rfl)).wide λa l _ _=>l) h1 λσ2 δ2 fp2 R2 k2 h2=>kk σ2 δ2 fp2 R2 (k1.trans k2) h2⟩
noncomputable def dTup(n:Nat)(gs:Zud):MGt:=λd δ k=>match d with| .tuple ds=>ds.length=n∧gs ds δ k|_=>False
theorem Zr6{es:List Expr}{k:Nat}{gs:Zud}{n:Nat}(hc:X.calm=true)(h:MGs X io c es gs)
  (hn:(Q3 es X.env).length=n:=by rfl) (hst:(Q3 es X.env).findIdx? (·.1)=none:=by rfl):MG X io c (.Tuple es k pos) (dTup n gs):=by
 obtain⟨_,A,s⟩:=h
 exact⟨_,Z6l hc A hn hst,λC H σ δ fp ex v d k Q R q h kk=>by
  cases q with
  | tup e qs=>exact⟨_,_,rfl,.inl (.inl e),by rw[qs.length];exact h.1,s C H σ δ fp ex _ _ _ _ R qs h.2 kk⟩
  | _=>exact h.elim⟩
noncomputable def Yb4(m:MEt)(g:MGt):MSt:=λD δ=>m δ λr δ'=>g r.data δ' D.nx
theorem Z3z{tg e:Expr}{p:Bool}{m:MEt}{g:MGt}(he:ME X io p c e m)(hg:MG X io c tg g)(hs:swapsWithSole [tg] e pos.line X.env=pure false:=by rfl)(hw:swappedStores [tg] e X.env=pure none:=by rfl)
  (h1:(Q3 [tg] X.env).map (·.2)=[V1 tg X.env]:=by rfl):MS X io (.Assign [tg] e pos) (Yb4 m g):=by
 obtain⟨_,A,s⟩:=he
 obtain⟨_,B,s'⟩:=hg
 exact⟨_,Zxr A B hs hw h1,λC H σ δ fp ex D D' R h E=>s C H σ δ fp ex _ _ R h λH' v r δ' fp' new r1 h1=>
  s' C H' σ δ' fp' ex v _ _ _ r1.base (r1.da R) h1 λσ2 δ2 fp2 R2 k2 h2=>E.nx H' σ2 δ2 fp2 R2 (r1.stp.kp.trans k2) h2⟩
end
variable {G:Xb}
noncomputable def IterOk(C:MC G)(fp:Fp)(ex:Addr->Prop)(H1:Hp)(c:Bool)(J:It)(ds:List Xa):Prop:=∀H':Hp,(∀b o,H1 b=some o->(c=false∨¬Foot fp b)->H' b=some o)->∀i:Nat,
 (∀ d,ds[i]? =some d->J.go i H'∧∀x H'',J.yld i H' x H''->Same H' H''∧Da G H'' (λa=>c=true->(Lf C fp ex a∧H1 a≠none)) x d)∧(ds[i]? =none->J.stop i H')
noncomputable abbrev MIt:=Zi->(List Xa->Zi->Prop)->Prop
noncomputable def SI(G:Xb)(io:List Nat)(p c:Bool)(t:TI)(m:MIt):Prop:=∀(C:MC G) (H:Hp) (σ:St) (δ:Zi) (fp:Fp) (ex:Addr->Prop) (K:List Xa->Zi->Prop) (Q:It->Hp->Prop),Rel C io H σ δ fp ex->m δ K ->
 (∀ J H1 ds δ1 fp1,Rel C io H1 σ δ1 fp1 ex->Stp p H δ fp H1 δ1 fp1->IterOk C fp1 ex H1 c J ds->K ds δ1->Q J H1)->t σ H Q
noncomputable def MI(X:Cx)(io:List Nat)(p c:Bool)(tg iter:Expr)(m:MIt):Prop:=∃t,PI X tg iter t∧SI X.K io p c t m
section
variable {X:Cx}{io:List Nat}{p c:Bool}{e a b tg:Expr}{m:MEt}{mr:MAt}{K:Xb}
noncomputable def iL(m:MEt):MIt:=λδ K=>m δ λr δ'=>match r.data with| .list ds=>K ds δ'|_=>False
theorem Rel.kept{C:MC G}{H H':Hp}{σ:St}{δ:Zi}{fp:Fp}{ex:Addr->Prop}(R:Rel C io H σ δ fp ex)(kp:∀b o,H b=some o->(c=false∨¬Foot fp b)->H' b=some o) :
  (∀ a (xs:MuO),(c=true->Lf C fp ex a)->Rd H a xs.ho->(c=true->(Lf C fp ex a∧H a≠none))∧Rd H' a xs.ho)∧(∀a (xs:ImO),H a=some xs.ho->H' a=some xs.ho):=by
 refine⟨λa xs l q=>⟨λhc=>⟨l hc,q.some⟩,?_⟩,λa xs q=>kp a _ q (.inr λz=>?_)⟩
 ·have hk:c=false∨¬Foot fp a:=by
   cases c with
   | false=>exact .inl rfl
   | true=>exact .inr (l rfl).1
  rcases q with q|⟨o,q⟩
  ·exact .inl (kp a _ q hk)
  ·exact .inr ⟨o,kp a _ q hk⟩
 ·obtain⟨ys,e⟩:=R.foot z
  exact ImO.nm q e
theorem Z2b(h:ME X io p c e m):MI X io p c tg e (iL m):=by
 obtain⟨_,A,s⟩:=h
 exact⟨_,Zuu rfl A,λC H σ δ fp ex K' Q R h kk=>s C H σ δ fp ex _ _ R h λH1 v r δ1 fp1 new r1 h1=>by
  have q:=r1.da R
  generalize r.data=d at q h1
  cases q with
  | lst l e qs=>
   refine⟨_,rfl,⟨_,.inl e⟩,kk _ H1 _ δ1 fp1 r1.base r1.stp (λH' kp i=>?_) h1⟩
   obtain⟨f1,f2⟩:=r1.base.kept kp
   have e':=(f1 _ (.lst _) l e).2
   have qs':=qs.frame f1 f2
   refine⟨λd hd=>?_,λhd=>?_⟩
   ·obtain⟨x,hx,qx⟩:=qs'.get hd
    refine⟨⟨_,x,.inl e',hx⟩,λy H'' hy=>?_⟩
    obtain⟨rfl,hy⟩:=hy
    have:=hy _ (.inl e')
    rw[hx]at this
    cases this
    exact⟨Same.refl _,qx⟩
   ·exact⟨_,.inl e',by rw[qs'.length];exact Qu.mp hd⟩
  | scr ks=>
   refine⟨_,rfl,⟨_,ks.sq⟩,kk _ H1 _ δ1 fp1 r1.base r1.stp (λH' kp i=>?_) h1⟩
   refine⟨λd hd=>?_,λhd=>?_⟩
   ·obtain⟨x,hx,qx⟩:=(Das.ints (G:=X.K) (H:=H') (L:=λa=>c=true->(Lf C fp1 ex a∧H1 a≠none)) _).get hd
    refine⟨⟨_,x,ks.sq,hx⟩,λy H'' hy=>?_⟩
    obtain⟨rfl,hy⟩:=hy
    have:=hy _ ks.sq
    rw[hx]at this
    cases this
    exact⟨Same.refl _,qx⟩
   ·refine⟨_,ks.sq,?_⟩
    have:=Qu.mp hd
    simpa using this
  | _=>exact h1.elim⟩
noncomputable def Zcg(lo:Int)(n:Nat):List Xa:=(Xj n).map λ(i:Nat)=>Xk (lo+(i:Int))
@[simp] theorem W8(lo:Int)(n:Nat):(Zcg lo n).length=n:=by simp[Zcg]
theorem J1{lo:Int}{n i:Nat}{d:Xa}(h:(Zcg lo n)[i]? =some d):i<n∧d= .int (lo+i):=by
 have hi:i<n:=by
  have:=(Xu.mp h).1
  simpa using this
 unfold Zcg at h
 rw[Xn,QV hi]at h
 cases h
 exact⟨hi,rfl⟩
theorem Zos{C:MC G}{fp:Fp}{ex:Addr->Prop}{H1:Hp}{lo:Int}{n:Nat}:IterOk C fp ex H1 true (Itr lo n) (Zcg lo n):=λH' _ i=>by
 refine⟨λd hd=>?_,λhd=>?_⟩
 ·obtain⟨hi,rfl⟩:=J1 hd
  refine⟨hi,λx H'' hy=>?_⟩
  obtain⟨rfl,rfl⟩:=hy
  exact⟨Same.refl _,.int _⟩
 ·have:=Qu.mp hd
  show n≤i
  simpa using this
noncomputable def iR1(mr:MAt):MIt:=λδ K=>mr δ λrs δ'=>match OT.datas rs with|[.int j]=>(-(2^62)≤j∧j<2^62)∧K (Zcg 0 j.toNat) δ'|_=>False
noncomputable def iR2(mr:MAt):MIt:=λδ K=>mr δ λrs δ'=>match OT.datas rs with|[.int i,.int j]=>(-(2^62)≤i∧i<2^62∧-(2^62)≤j∧j<2^62)∧K (Zcg i (j-i).toNat) δ'|_=>False
theorem Ye{p' pos:Pos}(hg:Gl X "range")(hm:X.mg "range"=none)(ha:MA X io p c [a] mr)(hs:Xo [a] X.env=[(false,eval a X.env)]:=by rfl):MI X io p true tg (.Call (.Name "range" p') [a] [] pos) (iR1 mr):=by
 obtain⟨_,A,s⟩:=ha
 exact⟨_,Zqr hg hm A hs,λC H σ δ fp ex K' Q R h kk=>s C H σ δ fp ex _ _ R h λH1 vs rs δ1 fp1 new r1 h1=>by
  have q:=r1.das R
  generalize OT.datas rs=d at q h1
  split at h1
  case h_2=>exact h1.elim
  cases q with
  | cons q1 q2=>
   cases q1
   cases q2
   exact⟨_,rfl,h1.1.1,h1.1.2,kk _ H1 _ δ1 fp1 r1.base r1.stp Zos h1.2⟩⟩
theorem Zg6{p' pos:Pos}(hg:Gl X "range")(hm:X.mg "range"=none)(ha:MA X io p c [a,b] mr)(hs:Xo [a,b] X.env=[(false,eval a X.env),(false,eval b X.env)]:=by rfl)(hs2:Xo [b] X.env=[(false,eval b X.env)]:=by rfl):MI X io p true tg (.Call (.Name "range" p') [a,b] [] pos) (iR2 mr):=by
 obtain⟨_,A,s⟩:=ha
 exact⟨_,Ztc hg hm A hs hs2,λC H σ δ fp ex K' Q R h kk=>s C H σ δ fp ex _ _ R h λH1 vs rs δ1 fp1 new r1 h1=>by
  have q:=r1.das R
  generalize OT.datas rs=d at q h1
  split at h1
  case h_2=>exact h1.elim
  cases q with
  | cons q1 q2=>
   cases q1
   cases q2 with
   | cons q2 q3=>
    cases q2
    cases q3
    exact⟨_,_,rfl,h1.1,kk _ H1 _ δ1 fp1 r1.base r1.stp Zos h1.2⟩⟩
theorem IterOk.at{C:MC G}{fp fp':Fp}{ex:Addr->Prop}{H1 H' H'':Hp}{J:It}{ds:List Xa}{x:V}{d:Xa}(g:∀a,Foot fp' a->Foot fp a∨H1 a=none)(h:Da G H'' (λa=>true=true->(Lf C fp ex a∧H1 a≠none)) x d):Da G H'' (λa=>true=true->Lf C fp' ex a) x d :=
 h.wide λa l _ z=>⟨λw=>(g a w).elim (l z).1.1 (l z).2,(l z).1.2.1,(l z).1.2.2⟩
noncomputable def Yak(ds:List Xa)(g:MGt)(u:MSt)(D:Zia)(δ1:Zi):Prop:=∃I:Nat->Zi->Prop,I 0 δ1∧(∀(i:Nat) (d:Xa) (δ':Zi),ds[i]? =some d->I i δ'->g d δ' λδ2=>u { D with nx:=I (i+1),ct:=I (i+1),bk:=D.nx } δ2)∧∀δ',I ds.length δ'->D.nx δ'
noncomputable def Yay(mi:MIt)(g:MGt)(u:MSt):MSt:=λD δ=>mi δ λds δ1=>Yak ds g u D δ1
theorem Rel.mk0{C:MC G}{H H':Hp}{σ:St}{δ:Zi}{fp:Fp}{ex:Addr->Prop}(R:Rel C io H σ δ fp ex)(s:Same H H'):Rel C io H' σ δ fp ex:=(R.made (new:=[]) s λa m=>nomatch m).drop λa z=>.inl z
theorem Zyk{iter:Expr}{body:List Stmt}{mi:MIt}{g:MGt}{u:MSt}{pos:Pos}(hp:PassesOwn (Qd X.prog X.w) X.A X.env X.xe)(hc:X.calm=true)(hi:MI X io p true tg iter mi)(hg:MG X io true tg g)(hb:MSs X io body u)
  (hs:∀x,JL iter X.env x=pure x:=by intro _;rfl):MS X io (.For tg iter body [] pos) (Yay mi g u):=by
 obtain⟨_,A,s⟩:=hi
 obtain⟨_,G,sg⟩:=hg
 obtain⟨_,B,sb⟩:=hb
 refine⟨_,Z6r hp hc A G B hs,λC H σ δ fp ex D D' R h E=>s C H σ δ fp ex _ _ R h λJ H1 ds δ1 fp1 R1 S1 it h1=>?_⟩
 obtain⟨I,h0,turn,fin⟩:=h1
 refine⟨λi n σ' H'=>n=ds.length-i∧i≤ds.length∧∃δ' fp',Rel C io H' σ' δ' fp' ex∧Kp H1 fp1 H' fp'∧I i δ',⟨ds.length,rfl,Q7 _,δ1,fp1,R1,.refl _ _,h0⟩,?_⟩
 rintro i n σ2 H2 ⟨rfl,hle,δ2,fp2,R2,k2,i2⟩
 have itk:=it H2 (λb o e q=>k2.keep b o e (.inr (q.resolve_left (by decide)))) i
 by_cases hlt:i<ds.length
 ·have hd:ds[i]? =some ds[i]:=Xi hlt
  obtain⟨go,yl⟩:=itk.1 _ hd
  refine .inr ⟨go,λσ' H'=>∃δ' fp',Rel C io H' σ' δ' fp' ex∧Kp H1 fp1 H' fp'∧I (i+1) δ',λσ' H' ⟨δ',fp',R',k',i'⟩=>⟨ds.length-(i+1),by omega,rfl,hlt,δ',fp',R',k',i'⟩,λx H3 hy=>?_⟩
  obtain⟨s3,q3⟩:=yl x H3 hy
  have R3:=R2.mk0 s3
  have k3:Kp H1 fp1 H3 fp2:=k2.trans ⟨λb o e _=>s3 _ _ e,λz=>(nomatch z),λa z=>.inl z,s3.al⟩
  refine sg C H3 σ2 δ2 fp2 ex x _ _ _ R3 (IterOk.at (H':=H2) (J:=J) (ds:=ds) k2.grow q3) (turn i _ δ2 hd i2) λσ4 δ4 fp4 R4 k4 h4=>?_
  have k5:=k3.trans k4
  refine sb C H3 σ4 δ4 fp4 ex _ _ R4 h4 ⟨λH' σ' δ' fp' R' k' n'=>⟨δ',fp',R',k5.trans k',n'⟩,λH' σ' δ' fp' R' k' n'=>E.nx H' σ' δ' fp' R' (S1.kp.trans (k5.trans k')) n',λH' σ' δ' fp' R' k' n'=>⟨δ',fp',R',k5.trans k',n'⟩,E.rt⟩
 ·have e:i=ds.length:=by omega
  subst e
  exact .inl ⟨itk.2 (by simp),E.nx H2 σ2 δ2 fp2 R2 (S1.kp.trans k2) (fin δ2 i2)⟩
end
noncomputable def gM(G:Xb)(io:List Nat)(c:Bool)(g:MGt):TG:=λv σ H Q=>∃(C:MC G) (δ:Zi) (fp:Fp) (ex:Addr->Prop) (d:Xa) (k:Zi->Prop),Rel C io H σ δ fp ex∧Da G H (λa=>c=true->Lf C fp ex a) v d∧g d δ k∧
 ∀σ' δ' fp',Rel C io H σ' δ' fp' ex->Kp H fp H fp'->k δ'->Q σ' H
noncomputable def tM(G:Xb)(io:List Nat)(p c:Bool)(m:MEt):TE:=λσ H Q=>∃(C:MC G) (δ:Zi) (fp:Fp) (ex:Addr->Prop) (K:OT->Zi->Prop),Rel C io H σ δ fp ex∧m δ K∧∀H' v r δ' fp' new,RE C io p c H σ δ fp ex H' v r δ' fp' new->K r δ'->Q v H'
noncomputable def ttM(G:Xb)(io:List Nat)(p:Bool)(m:MTt):TT:=λσ H Q=>∃(C:MC G) (δ:Zi) (fp:Fp) (ex:Addr->Prop) (K:Bool->Zi->Prop),Rel C io H σ δ fp ex∧m δ K∧∀H' b δ' fp',Rel C io H' σ δ' fp' ex->Stp p H δ fp H' δ' fp'->K b δ'->Q b H'
noncomputable def MIfs(X:Cx)(io:List Nat)(p:Bool)(ifs:List Expr)(m:MTt):Prop:=∃t,Zz8 X ifs t∧STt X.K io p t m
section
variable {X:Cx}{io:List Nat}{p c:Bool}{e tg:Expr}{m:MEt}{mt:MTt}{g:MGt}{ifs:List Expr}
theorem MG.canon(h:MG X io c tg g):PG X tg (gM X.K io c g):=by
 obtain⟨t,A,s⟩:=h
 rintro pins sh σ H v u Q I r ⟨C,δ,fp,ex,d,k,R,q,h,kk⟩
 exact A pins sh σ H v u Q I r (s C H σ δ fp ex v d k Q R q h kk)
theorem ME.canon(h:ME X io p c e m):PE X e (tM X.K io p c m):=by
 obtain⟨t,A,s⟩:=h
 rintro pins sh σ H Q I ⟨C,δ,fp,ex,K,R,h,kk⟩
 exact A pins sh σ H Q I (s C H σ δ fp ex K Q R h kk)
theorem MIfs.canon(h:MIfs X io p ifs mt):Zz8 X ifs (ttM X.K io p mt):=by
 obtain⟨t,A,s⟩:=h
 rintro pins sh σ H Q I ⟨C,δ,fp,ex,K,R,h,kk⟩
 exact A pins sh σ H Q I (s C H σ δ fp ex K Q R h kk)
noncomputable def Z3m:MTt:=λδ K=>K true δ
theorem Ww:MIfs X io true [] Z3m:=⟨_,Zzl,λC H σ δ fp ex K Q R h kk=>kk H true δ fp R (.refl _ _ _ _) h⟩
theorem Ztd{cnd:Expr}(h:MT X io p cnd mt):MIfs X io p [cnd] mt:=by
 obtain⟨_,A,s⟩:=h
 exact⟨_,Zzq A,s⟩
end
variable {G:Xb}
noncomputable def blk(n:Nat)(caps:List Nat)(δ:Zi):Zi:=Xv n none ++ caps.map λi=>(δ[i]?).getD none
noncomputable def Jr(n:Nat)(caps:List Nat)(fp:Fp):Fp:=λk=>if k<n then[]else match caps[k-n]? with|some i=>fp i|none=>[]
noncomputable def J2(n:Nat)(caps:List Nat):List Nat:=(Xj caps.length).map (·+n)
noncomputable def Zyu(C:MC G)(H1:Hp)(fp:Fp)(σ0:St):MC G:=⟨H1,Foot fp,λa=>(C.L a∨C.H₀ a=none)∧¬Foot fp a,σ0⟩
noncomputable def Zgb(ex:Addr->Prop)(D:Addr)(fp fpb:Fp)(a:Addr):Prop:=ex a∨a=D∨(Foot fp a∧¬Foot fpb a)
section
variable {C:MC G}{io:List Nat}{H1 H':Hp}{σ:St}{δ:Zi}{fp:Fp}{ex:Addr->Prop}{own:List Str}{caps:List Nat}{D:Addr}{n:Nat}
theorem Zdp{k:Nat}{a:Addr}(h:a∈Jr n caps fp k):∃i,n≤k∧caps[k-n]? =some i∧a∈fp i:=by
 unfold Jr at h
 split at h
 ·exact nomatch h
 ·split at h
  ·rename_i i e
   exact⟨i,by omega,e,h⟩
  ·exact nomatch h
theorem Zvg{j i:Nat}(h:caps[j]? =some i):Jr n caps fp (n+j)=fp i:=by
 unfold Jr
 rw[if_neg (by omega),show n+j-n=j by omega,h]
theorem Z6s{k:Nat}{t:OT}(h:(blk n caps δ)[k]? =some (some t)):∃i,n≤k∧caps[k-n]? =some i∧δ[i]? =some (some t):=by
 unfold blk at h
 rw[List.getElem?_append]at h
 split at h
 ·rw[Bu]at h
  split at h<;>cases h
 ·rename_i hk
  rw[Bh]at hk h
  rw[Xn]at h
  cases e:caps[k-n]? with
  | none=>rw[e]at h;cases h
  | some i=>
   rw[e]at h
   refine⟨i,by omega,rfl,?_⟩
   simp only[Option.map_some]at h
   cases e2:δ[i]? with
   | none=>rw[e2]at h;cases h
   | some o=>
    rw[e2]at h
    simpa using h
theorem Rel.block(R:Rel C io H1 σ δ fp ex)(nd:caps.Nodup)(hD:H1 D=none) :
  Rel (Zyu C H1 fp (Zae own caps σ)) (J2 own.length caps) (upd H1 D (.lst [])) (Zae own caps σ) (blk own.length caps δ) (Jr own.length caps fp) (Zgb ex D fp (Jr own.length caps fp)):=by
 have s:=Z2 hD (.lst [])
 have sub:∀a,Foot (Jr own.length caps fp) a->Foot fp a:=λa q91=>by
  obtain⟨k,z⟩:=q91
  obtain⟨i,_,_,z⟩:=Zdp z
  exact⟨i,z⟩
 have neD:∀a,H1 a≠none->a≠D:=λa h z=>h (z▸hD)
 refine⟨by unfold Zae blk;simp,λk t e=>?_,λk h=>?_,λk=>?_,λk l a h1 h2=>?_,λk a h z=>?_,λa z=>?_,λb o e _=>s _ _ e,λb e=>s.free e,λk a h=>?_,λk _=>rfl⟩
 ·obtain⟨i,hk,e1,e2⟩:=Z6s e
  obtain⟨v,e3,o⟩:=R.own i t e2
  refine⟨v,?_,?_⟩
  ·unfold Zae
   rw[JF (by simpa using hk),Xc,Xn,e1]
   simp[e3]
  ·have ef:Jr own.length caps fp k=fp i:=by
    have:=Zvg (n:=own.length) (fp:=fp) e1
    rwa[show own.length+(k-own.length)=k by omega]at this
   rw[ef]
   refine(o.wide λa l q=>⟨λz=>l.1 (sub a z),λz=>?_,.inl ⟨l.2.2,l.1⟩⟩).same s
   rcases z with z|z|z
   ·exact l.2.1 z
   ·exact neD a q z
   ·exact l.1 z.1
 ·unfold Jr
  split
  ·rfl
  ·split
   ·rename_i i e1
    refine R.emp i λt z=>h t ?_
    unfold blk
    rw[JF (by rw[Bh];omega),Bh,Xn,e1]
    simp[z]
   ·rfl
 ·unfold Jr
  split
  ·exact .nil
  ·split
   ·exact R.nd _
   ·exact .nil
 ·obtain⟨i,hk,e1,m1⟩:=Zdp h1
  obtain⟨j,hl,e2,m2⟩:=Zdp h2
  have:=R.dj i j a m1 m2
  subst this
  have hlt:=(Xu.mp e1).1
  have:=(List.getElem?_inj hlt nd).mp (e1.trans e2.symm)
  omega
 ·obtain⟨i,hk,e1,m⟩:=Zdp h
  rcases z with z|z|z
  ·exact R.dx i a m z
  ·exact R.footSome (z▸hD) ⟨i,m⟩
  ·exact z.2 ⟨k,h⟩
 ·rcases z with z|z|z
  ·intro q;exact R.xa a z (s.free q)
  ·subst z;rw[Z7];intro q;cases q
  ·obtain⟨xs,e⟩:=R.foot z.1
   rw[s _ _ e];intro q;cases q
 ·obtain⟨i,hk,e1,m⟩:=Zdp h
  refine .inl ⟨?_,⟨i,m⟩⟩
  have:=(Xu.mp e1).1
  exact XQ.mpr ⟨k-own.length,by simpa using this,by omega⟩
theorem Z44{σ0:St}{fp':Fp}{ex':Addr->Prop}{a:Addr}(hx:∀a,ex a->ex' a)(l:Lf (Zyu C H1 fp σ0) fp' ex' a):Lf C fp ex a∨H1 a=none:=by
 obtain⟨l1,l2,l3⟩:=l
 rcases l3 with l3|l3
 ·exact .inl ⟨l3.2,λz=>l2 (hx a z),l3.1⟩
 ·exact .inr l3
theorem Rel.poke(R:Rel C io H' σ δ fp ex){xs ys:List V}(hx:ex D)(hD:H' D=some (.lst xs))(h0:C.H₀ D=none):Rel C io (upd H' D (.lst ys)) σ δ fp ex:=by
 have nf:¬Foot fp D:=λ⟨i,z⟩=>R.dx i D z hx
 have kp:∀b o,b≠D->H' b=some o->upd H' D (.lst ys) b=some o:=λb o n e=>by rw[Z3 n];exact e
 refine⟨R.len,λi t e=>?_,R.emp,R.nd,R.dj,R.dx,λa z=>?_,λb o e n=>?_,λb e=>?_,R.new,R.io⟩
 ·obtain⟨v,e1,o⟩:=R.own i t e
  refine⟨v,e1,o.frame (λa zs l q=>⟨l,?_⟩) (λa zs q=>kp a _ (λz=>?_) q) λa m zs q=>kp a _ (λz=>nf ⟨i,z▸m⟩) q⟩
  ·have na:a≠D:=λz=>l.2.1 (z▸hx)
   rcases q with q|⟨u,q⟩
   ·exact .inl (kp a _ na q)
   ·exact .inr ⟨u,kp a _ na q⟩
  ·exact ImO.nl q (z▸hD)
 ·by_cases e:a=D
  ·subst e;rw[Z7];intro q;cases q
  ·rw[Z3 e];exact R.xa a z
 ·refine kp b o (λz=>?_) (R.fr b o e n)
  rw[z,h0]at e;cases e
 ·refine R.al b ?_
  by_cases q:b=D
  ·subst q;rw[Z7]at e;cases e
  ·rwa[Z3 q]at e
theorem Owns.poke{L:Addr->Prop}{xs ys zs:List V}{rs:List OT}{as:List Addr}(o:Owns G H' L zs rs as)(hD:H' D=JR (HO.lst xs))(hL:¬L D)(hn:D∉as):Owns G (upd H' D (.lst ys)) L zs rs as:=by
 refine o.frame (λa zs l q=>⟨l,?_⟩) (λa zs q=>?_) λa m zs q=>?_
 ·have na:a≠D:=λz=>hL (z▸l)
  rcases q with q|⟨u,q⟩
  ·exact .inl (by rw[Z3 na];exact q)
  ·exact .inr ⟨u,by rw[Z3 na];exact q⟩
 ·rw[Z3 (λz=>ImO.nl q (z▸hD))];exact q
 ·have na:a≠D:=λz=>hn (by rw[←z];exact m)
  rw[Z3 na];exact q
theorem Owns.snoc{L:Addr->Prop}{xs:List V}{rs:List OT}{as bs:List Addr}{x:V}{r:OT}(h:Owns G H' L xs rs as)(k:Own G H' L x r bs):Owns G H' L (xs ++ [x]) (rs ++ [r]) (as ++ bs) :=
 Owns.rec (motive_1:=λ_ _ _ _=>True) (motive_2:=λxs rs as _=>Owns G H' L (xs ++ [x]) (rs ++ [r]) (as ++ bs)) (λ_=>trivial) (λ_ _ _=>trivial) (λ_ _ _=>trivial) (λ_ _ _=>trivial) (by have:=Owns.cons k .nil;rwa[QL]at this) (λk _ _ ih=>by rw[JV];exact .cons k ih) h
end
structure Zyq(C:MC G)(H1:Hp)(fp1:Fp)(ex:Addr->Prop)(n:Nat)(caps:List Nat)(σ0:St)(D:Addr)(pb:Bool)(H':Hp)(σ':St)(δ':Zi)(fp':Fp)(ys:List V)(rs:List OT)(new:List Addr):Prop where
 keep:∀b o,H1 b=some o->(pb=true∨¬Foot (Jr n caps fp1) b)->H' b=some o
 al:∀b,H' b=none->H1 b=none
 dat:H' D=some (.lst ys)
 rel:Rel (Zyu C H1 fp1 σ0) (J2 n caps) H' σ' δ' fp' (exu (Zgb ex D fp1 (Jr n caps fp1)) new)
 grow:∀a,Foot fp' a->Foot (Jr n caps fp1) a∨H1 a=none
 own:Owns G H' (λa=>true=true->Lf (Zyu C H1 fp1 σ0) fp' (exu (Zgb ex D fp1 (Jr n caps fp1)) new) a) ys rs new
 nd:new.Nodup
 fresh:∀a∈new,H1 a=none∧a≠D
section
variable {io:List Nat}{p c pt pe ci:Bool}{g:MGt}{mt:MTt}{me:MEt}{own:List Str}{caps:List Nat}
theorem Zt4{C:MC G}{H1:Hp}{σ:St}{δ1:Zi}{fp1:Fp}{ex:Addr->Prop}{J:It}{ds:List Xa}{D:Addr}{Qf:Hp->Prop}(I:Nat->List OT->Zi->Prop)(R1:Rel C io H1 σ δ1 fp1 ex)
  (it:∀H':Hp,(∀b o,H1 b=some o->((pt&&pe)=true∨¬Foot (Jr own.length caps fp1) b)->H' b=some o)->∀i:Nat,(∀d,ds[i]? =some d->J.go i H'∧∀x H'',J.yld i H' x H''->Same H' H''∧Da G H'' (λa=>ci=true->(Lf C fp1 ex a∧H1 a≠none)) x d)∧(ds[i]? =none->J.stop i H'))
  (nd:caps.Nodup) (hD:H1 D=none) (hz:ds.length≤Xr) (h0:I 0 [] (blk own.length caps δ1))
  (turn:∀(i:Nat) (d:Xa) (rs:List OT) (δ':Zi),ds[i]? =some d->I i rs δ'->g d δ' λδ2=>mt δ2 λb δ3=>if b=true then me δ3 λr δ4=>I (i+1) (rs ++ [r]) δ4 else I (i+1) rs δ3)
  (fin:∀H' σ' δ' fp' ys rs new,Zyq C H1 fp1 ex own.length caps (Zae own caps σ) D (pt&&pe) H' σ' δ' fp' ys rs new->I ds.length rs δ'->Qf H') :
  Zzx J (gM G (J2 own.length caps) ci g) (ttM G (J2 own.length caps) pt mt) (tM G (J2 own.length caps) pe true me) (Zae own caps σ) D Qf H1:=by
 have hx:Zgb ex D fp1 (Jr own.length caps fp1) D:=.inr (.inl rfl)
 refine⟨λi n σ' H'=>n=ds.length-i∧i≤ds.length∧∃rs ys new δ' fp',Zyq C H1 fp1 ex own.length caps (Zae own caps σ) D (pt&&pe) H' σ' δ' fp' ys rs new∧ys.length≤i∧I i rs δ',⟨ds.length,rfl,Q7 _,[],[],[],_,_,⟨λb o e _=>Z2 hD _ _ _ e,(Z2 hD _).al,Z7,?_,λa z=>.inl z,.nil,.nil,λa m=>(nomatch m)⟩,Qa _,h0⟩,?_⟩
 ·exact(R1.block nd hD).drop λa z=>Zde.mp z
 rintro i n σ2 H2 ⟨rfl,hle,rs,ys,new,δ2,fp2,B,hl,i2⟩
 have subB:∀b,Foot (Jr own.length caps fp1) b->Foot fp1 b:=λb q92=>by
  obtain⟨k,z⟩:=q92
  obtain⟨i,_,_,z⟩:=Zdp z
  exact⟨i,z⟩
 have itk:=it H2 B.keep i
 by_cases hlt:i<ds.length
 case neg=>
  have e:i=ds.length:=by omega
  subst e
  exact .inl ⟨itk.2 (by simp),fin H2 σ2 δ2 fp2 ys rs new B i2⟩
 have hd:ds[i]? =some ds[i]:=Xi hlt
 obtain⟨go,yl⟩:=itk.1 _ hd
 refine .inr ⟨go,λx H3 hy=>?_⟩
 obtain⟨s3,q3⟩:=yl x H3 hy
 have R3:=B.rel.mk0 s3
 have D3:H3 D=some (.lst ys):=s3 _ _ B.dat
 -- the item,clean in the block
 have q3':Da G H3 (λa=>ci=true->Lf (Zyu C H1 fp1 (Zae own caps σ)) fp2 (exu (Zgb ex D fp1 (Jr own.length caps fp1)) new) a) x ds[i]:=by
  refine q3.wide λa l _ z=>?_
  obtain⟨⟨l1,l2,l3⟩,l4⟩:=l z
  refine⟨λw=>?_,λw=>?_,.inl ⟨l3,l1⟩⟩
  ·rcases B.grow a w with w|w
   ·exact l1 (subB a w)
   ·exact l4 w
  ·rcases w with(w|w|w)|w
   ·exact l2 w
   ·subst w;exact l4 hD
   ·exact l1 w.1
   ·exact l4 (B.fresh a w).1
 refine⟨_,δ2,fp2,_,_,_,R3,q3',turn i _ rs δ2 hd i2,λσ4 δ4 fp4 R4 k4 h4=>?_⟩
 refine⟨_,δ4,fp4,_,_,R4,h4,λH5 b δ5 fp5 R5 S5 h5=>?_⟩
 -- the state behind the test
 have keep5:∀b o,H1 b=some o->((pt&&pe)=true∨¬Foot (Jr own.length caps fp1) b)->H5 b=some o:=λb o e q=>by
  refine S5.keep b o (s3 _ _ (B.keep b o e q)) ?_
  rcases q with q|q
  ·rw[XN]at q;exact .inl q.1
  ·refine .inr λz=>?_
   rcases k4.grow b z with z|z
   ·rcases B.grow b z with z|z
    ·exact q z
    ·rw[e]at z;cases z
   ·rw[s3 _ _ (B.keep b o e (.inr q))]at z;cases z
 have al5:∀b,H5 b=none->H1 b=none:=λb e=>B.al b (s3.al b (S5.al b e))
 have grow4:∀a,Foot fp4 a->Foot (Jr own.length caps fp1) a∨H1 a=none:=λa z=>by
  rcases k4.grow a z with z|z
  ·exact B.grow a z
  ·exact .inr (B.al a (s3.al a z))
 have grow5:∀a,Foot fp5 a->Foot (Jr own.length caps fp1) a∨H1 a=none:=λa z=>by
  rcases S5.grow a z with z|z
  ·exact grow4 a z
  ·exact .inr (B.al a (s3.al a z))
 have D5:H5 D=some (.lst ys):=S5.keep D _ D3 (.inr λ⟨k,z⟩=>R4.dx k D z (.inl hx))
 have own3:=B.own.same s3
 -- the items so far behind the target and the test
 have own4:Owns G H3 (λa=>true=true->Lf (Zyu C H1 fp1 (Zae own caps σ)) fp4 (exu (Zgb ex D fp1 (Jr own.length caps fp1)) new) a) ys rs new:=by
  refine own3.wide λa l q z=>?_
  obtain⟨l1,l2,l3⟩:=l z
  exact⟨λw=>(k4.grow a w).elim l1 q,l2,l3⟩
 have own5:=R4.owns_step (ex':=exu (Zgb ex D fp1 (Jr own.length caps fp1)) new) S5 (c:=true) (.inr rfl) (λa z=>.inl z) (λa m=>.inr m) own4
 dsimp only at h5⊢
 cases b with
 | false=>
  rw[if_neg XC]at h5⊢
  exact⟨ds.length-(i+1),by omega,rfl,hlt,rs,ys,new,δ5,fp5,⟨keep5,al5,D5,R5,grow5,own5,B.nd,B.fresh⟩,by omega,h5⟩
 | true=>
  rw[if_pos rfl]at h5⊢
  refine⟨_,δ5,fp5,_,_,R5,h5,λH6 v r δ6 fp6 nr r6 h6=>?_⟩
  have D6:H6 D=some (.lst ys):=r6.stp.keep D _ D5 (.inr λ⟨k,z⟩=>R5.dx k D z (.inl hx))
  have hDnr:D∉nr:=λz=>by
   have:=r6.fresh D z
   rw[D5]at this;cases this
  have own6:=R5.owns_step (ex':=exu (exu (Zgb ex D fp1 (Jr own.length caps fp1)) new) nr) r6.stp (c:=true) (.inr rfl) (λa z=>z.imp id λz=>r6.fresh a z) (λa m=>.inr m) own5
  have eqx:∀a,exu (Zgb ex D fp1 (Jr own.length caps fp1)) (new ++ nr) a->exu (exu (Zgb ex D fp1 (Jr own.length caps fp1)) new) nr a:=λa z=>by
   rcases z with z|z
   ·exact .inl (.inl z)
   ·rcases Qt.mp z with z|z
    ·exact .inl (.inr z)
    ·exact .inr z
  have lw:∀a,(true=true->Lf (Zyu C H1 fp1 (Zae own caps σ)) fp6 (exu (exu (Zgb ex D fp1 (Jr own.length caps fp1)) new) nr) a)->H6 a≠none->(true=true->Lf (Zyu C H1 fp1 (Zae own caps σ)) fp6 (exu (Zgb ex D fp1 (Jr own.length caps fp1)) (new ++ nr)) a) :=
   λa l _ z=>⟨(l z).1,λw=>(l z).2.1 (eqx a w),(l z).2.2⟩
  have ownA:=(own6.snoc r6.own).wide lw
  refine⟨ys,D6,by omega,ds.length-(i+1),by omega,rfl,hlt,rs ++ [r],ys ++ [v],new ++ nr,δ6,fp6,⟨λb o e q=>?_,λb e=>?_,Z7,?_,λa z=>?_,?_,?_,λa m=>?_⟩,by rw[XX];show ys.length+1≤i+1;omega,h6⟩
  ·have nD:b≠D:=λz=>by rw[z,hD]at e;cases e
   rw[Z3 nD]
   refine r6.stp.keep b o (keep5 b o e q) ?_
   rcases q with q|q
   ·rw[XN]at q;exact .inl q.2
   ·refine .inr λz=>?_
    rcases grow5 b z with z|z
    ·exact q z
    ·rw[e]at z;cases z
  ·by_cases q:b=D
   ·subst q;rw[Z7]at e;cases e
   ·rw[Z3 q]at e
    exact al5 b (r6.stp.al b e)
  ·exact(r6.rel.drop eqx).poke (.inl hx) D6 hD
  ·rcases r6.stp.grow a z with z|z
   ·exact grow5 a z
   ·exact .inr (al5 a z)
  ·exact ownA.poke D6 (λz=>(z rfl).2.1 (.inl hx)) (λm=>by
    rcases Qt.mp m with m|m
    ·exact(B.fresh D m).2 rfl
    ·exact hDnr m)
  ·refine Va.mpr ⟨B.nd,r6.nd,λa m b m' z=>?_⟩
   subst z
   obtain⟨xs,e⟩:=own5.some a m
   rw[r6.fresh a m']at e;cases e
  ·rcases Qt.mp m with m|m
   ·exact B.fresh a m
   ·exact⟨al5 a (r6.fresh a m),λz=>hDnr (z▸m)⟩
end
variable {G:Xb}
section
variable {X:Cx}{io:List Nat}{p p' c pt pe ci:Bool}{g:MGt}{mt:MTt}{me m:MEt}{mi:MIt}{own:List Str}{caps:List Nat}{e:Expr}
noncomputable def Z5v(m:MEt):MEt:=λδ K=>m δ λr δ'=>Zbh r.data=true∧K (.fz r.data) δ'
theorem Z7h(h:ME X io p c e m):ME X io p true e (Z5v m):=by
 obtain⟨_,A,s⟩:=h
 exact⟨_,A,λC H σ δ fp ex K Q R h k=>s C H σ δ fp ex _ _ R h λH' v r δ' fp' new r1 h1=>k H' v _ δ' fp' [] (r1.fzs R h1.1) h1.2⟩
noncomputable def Z6m(n:Nat)(caps:List Nat)(ds:List Xa)(g:MGt)(mt:MTt)(me:MEt)(δ1:Zi)(K:OT->Zi->Prop):Prop:=ds.length≤Xr∧∃I:Nat->List OT->Zi->Prop,I 0 [] (blk n caps δ1)∧
 (∀ (i:Nat) (d:Xa) (rs:List OT) (δ':Zi),ds[i]? =some d->I i rs δ'->g d δ' λδ2=>mt δ2 λb δ3=>if b=true then me δ3 λr δ4=>I (i+1) (rs ++ [r]) δ4 else I (i+1) rs δ3)∧
 ∀rs δ',I ds.length rs δ'->K (.nd rs) δ1
noncomputable def Ze7(n:Nat)(caps:List Nat)(mi:MIt)(g:MGt)(mt:MTt)(me:MEt):MEt:=λδ K=>mi δ λds δ1=>Z6m n caps ds g mt me δ1 K
theorem Zv1{wi:TI}(si:SI G io p ci wi mi)(nd:caps.Nodup)(hp:(pt&&pe)=true) :
  SE G io p true (Zzj own caps wi (gM G (J2 own.length caps) ci g) (ttM G (J2 own.length caps) pt mt) (tM G (J2 own.length caps) pe true me)) (Ze7 own.length caps mi g mt me):=by
 intro C H σ δ fp ex K Q R h k
 refine si C H σ δ fp ex _ _ R h λJ H1 ds δ1 fp1 R1 S1 it h1 D hD=>?_
 obtain⟨hz,I,h0,turn,fin⟩:=h1
 refine Zt4 I R1 (λH' kp=>it H' λb o e _=>kp b o e (.inl hp)) nd hD hz h0 turn λH' σ' δ' fp' ys rs new B i'=>?_
 have s:Same H1 H':=λb o e=>B.keep b o e (.inl hp)
 refine k H' (.ref D) (.nd rs) δ1 fp1 (D :: new) (RE.tree R R1 S1 s (λa m=>?_) (Qp.mpr ⟨λm=>(B.fresh D m).2 rfl,B.nd⟩) (.nd B.dat (B.own.wide λa l _=>?_))) (fin rs δ' i')
 ·rcases Xp.mp m with rfl|m
  ·exact hD
  ·exact(B.fresh a m).1
 ·refine⟨?_,λm=>?_⟩
  ·rcases Z44 (λa z=>.inl (.inl z)) (l rfl)with z|z
   ·exact .inl λ_=>z
   ·exact .inr z
  ·rcases Xp.mp m with z|z
   ·exact(l rfl).2.1 (.inl (.inr (.inl z)))
   ·exact(l rfl).2.1 (.inr z)
variable {N':List Str}{sc:Vw}{tg elt iter:Expr}{ifs:List Expr}{pos:Pos}
theorem Z6h(S:CompScope X own caps N' sc)(hc:X.calm=true)(nd:caps.Nodup)(hi:MI X io p ci tg iter mi)
  (hg:∀C cells s₂ H₂ fp,MG (Yz X N' sc C cells s₂ H₂ fp) (J2 own.length caps) ci tg g) (ht:∀C cells s₂ H₂ fp,MIfs (Yz X N' sc C cells s₂ H₂ fp) (J2 own.length caps) pt ifs mt) (he:∀C cells s₂ H₂ fp,ME (Yz X N' sc C cells s₂ H₂ fp) (J2 own.length caps) pe true elt me)
  (hp:(pt&&pe)=true:=by rfl) (hs:∀x,JL iter X.env x=pure x:=by intro _;rfl):ME X io p true (.ListComp elt [⟨tg,iter,ifs,0⟩] sc pos) (Ze7 own.length caps mi g mt me):=by
 obtain⟨_,A,si⟩:=hi
 exact⟨_,Z2h S hc A (λC cells s₂ H₂ fp=>(hg C cells s₂ H₂ fp).canon) (λC cells s₂ H₂ fp=>(ht C cells s₂ H₂ fp).canon) (λC cells s₂ H₂ fp=>(he C cells s₂ H₂ fp).canon) hs,Zv1 si nd hp⟩
section
variable {i:Nat}{y:Str}{py spos:Pos}
theorem Zam(own':Bool)(hN:X.N.Nodup)(hy:X.N[i]? =some y)(hx:Loc X.env.scope y)(S:CompScope X own caps N' sc)(hc:X.calm=true)(nd:caps.Nodup)(hi:MI X io p ci tg iter mi)
  (hg:∀C cells s₂ H₂ fp,MG (Yz X N' sc C cells s₂ H₂ fp) (J2 own.length caps) ci tg g) (ht:∀C cells s₂ H₂ fp,MIfs (Yz X N' sc C cells s₂ H₂ fp) (J2 own.length caps) pt ifs mt) (he:∀C cells s₂ H₂ fp,ME (Yz X N' sc C cells s₂ H₂ fp) (J2 own.length caps) pe true elt me)
  (hp:(pt&&pe)=true:=by rfl) (hio:i∉io:=by decide)
  (hsw:Vo (.ListComp elt [⟨tg,iter,ifs,0⟩] sc pos) (some (.Name y py)) spos.line X.env=pure true:=by rfl)
  (hs:∀x,JL iter X.env x=pure x:=by intro _;rfl) (hf:X.fn y=true∨X.env.scope.names.lookup y=some .local:=by first|exact .inl rfl|exact .inr rfl|assumption) :
  MS X io (.Assign [.Name y py] (.ListComp elt [⟨tg,iter,ifs,0⟩] sc pos) spos) (if own'=true then Zl2 i (Ze7 own.length caps mi g mt me)else Z2t i (Ze7 own.length caps mi g mt me)):=by
 obtain⟨_,A,si⟩:=hi
 refine⟨_,Zif (g:=gM X.K (J2 own.length caps) ci g) (tt:=ttM X.K (J2 own.length caps) pt mt) (te:=tM X.K (J2 own.length caps) pe true me) hN hy hx S hc A (λC cells s₂ H₂ fp=>(hg C cells s₂ H₂ fp).canon) (λC cells s₂ H₂ fp=>(ht C cells s₂ H₂ fp).canon) (λC cells s₂ H₂ fp=>(he C cells s₂ H₂ fp).canon) hsw hs hf,?_⟩
 cases own'
 ·exact Ya9 (Zv1 si nd hp) hio
 ·exact Z0u (Zv1 si nd hp) hio
end
end
variable {G:Xb}
section
variable {X:Cx}{pins:List (Addr×Obj)}{σ:St}{H:Hp}{s:Xg}{l:Addr}{xs:List V}
noncomputable def Z4t(K:Xb):R2:=λx y H Q=>∃l b xs zs,x= .ref l∧y= .ref b∧SqL K H l xs∧SqL K H b zs∧xs.length+zs.length≤Xr∧∀p,H p=none->Q (.ref p) (upd H p (.lst (xs ++ zs)))
theorem Inv.lstQ{K:Xb}(hK:X.K=K)(I:Inv X pins σ H s)(hH:SqL K H l xs):∃(its:List Xd) (n:Nat),Vals xs its∧xs.length=its.length∧∃o,s.heap.get? l=some o∧o.cls= .type "list"∧o.dict=none∧o.data= .seq its.toArray n:=by
 subst hK
 obtain⟨its,r,⟨o,n,e,h1,h2,h3⟩,_⟩:=I.list hH
 exact⟨its,n,r,r.length,o,e,h1,h2,h3⟩
theorem Zj7{K:Xb}(hK:X.K=K):OpR X (BL .Add) (Z4t K):=by
 intro pins s σ H x y v u Q I rx ry h
 obtain⟨l,b,xs,zs,rfl,rfl,hH,hB,hz,q⟩:=h
 cases rx
 cases ry
 obtain⟨its,n,r,hl,⟨cls,dd,data,sl⟩,ho,hc,_,hd⟩:=I.lstQ hK hH
 obtain⟨its2,n2,r2,hl2,⟨cls2,dd2,data2,sl2⟩,ho2,hc2,_,hd2⟩:=I.lstQ hK hB
 simp only at hc hd hc2 hd2
 subst hc hd hc2 hd2
 have ea:its.toArray ++ its2.toArray=(its ++ its2).toArray:=by simp
 refine concat_meets ⟨_,ho,rfl⟩ ⟨_,ho2,rfl⟩ noFill_list_add seq_list_add PySem.F.slot_list_add PySem.F.entry_list_add (PySem.F.args_list_add_2 _ _) (list_addW l b its.toArray its2.toArray n n2 dd dd2 sl sl2 (by simp only[Xx];omega)) ⟨ho,ho2,?_⟩
 rw[ea]
 exact⟨.ref _,_,I.lnew (t':=s.toks) (r.append r2) (by rw[XX];omega),rfl,q _ I.fresh⟩
end
noncomputable def asI(d:Xa)(k:Int->Prop):Prop:=match d with| .int i=>k i|_=>False
noncomputable def asL(d:Xa)(k:List Xa->Prop):Prop:=match d with| .list ds=>k ds|_=>False
section
variable {H:Hp}{L:Addr->Prop}{v:V}{d:Xa}
theorem Da.intInv{k:Int->Prop}(q:Da G H L v d)(h:asI d k):∃i,v= .int i∧k i:=by
 cases q with
 | int b=>exact⟨b,rfl,h⟩
 | _=>exact h.elim
theorem Da.lstInv{k:List Xa->Prop}(q:Da G H L v d)(h:asL d k):∃a xs ds,v= .ref a∧SqL G H a xs∧Das G H L xs ds∧k ds:=by
 cases q with
 | lst l e r=>exact⟨_,_,_,rfl,.inl e,r,h⟩
 | scr s=>exact⟨_,_,_,rfl,s.sq,.ints _,h⟩
 | _=>exact h.elim
end
noncomputable def d2I(C:Int->Int->Prop)(g:Int->Int->Xa):Xa->Xa->(Xa->Prop)->Prop:=λd e k=>asI d λi=>asI e λj=>C i j∧k (g i j)
noncomputable def Zvb(g:Int->Int->Xa):Xa->Xa->(Xa->Prop)->Prop:=λd e k=>asI d λi=>asI e λj=>k (g i j)
theorem Z6q{C:Int->Int->Prop}{f:Int->Int->Int}:P2s G (rI C λi j=>.int (f i j)) (d2I C λi j=>.int (f i j)):=λH L x y d e k Q hx hy h kk=>by
 obtain⟨i,rfl,h⟩:=hx.intInv h
 obtain⟨j,rfl,h⟩:=hy.intInv h
 exact⟨i,j,rfl,rfl,h.1,kk _ _ (.int _) h.2⟩
structure MulOk(i j:Int):Prop where
 ok:IntMulOk i j
structure Ych(i j:Int):Prop where
 ok:DivOk i j
structure Ybt(i j:Int):Prop where
 ok:Z7y i j
theorem Z55{f:Int->Int->Int}:P2s G (rI IntMulOk λi j=>.int (f i j)) (d2I MulOk λi j=>.int (f i j)):=λH L x y d e k Q hx hy h kk=>by
 obtain⟨i,rfl,h⟩:=hx.intInv h
 obtain⟨j,rfl,h⟩:=hy.intInv h
 exact⟨i,j,rfl,rfl,h.1.ok,kk _ _ (.int _) h.2⟩
theorem Z54{f:Int->Int->Int}:P2s G (rI DivOk λi j=>.int (f i j)) (d2I Ych λi j=>.int (f i j)):=λH L x y d e k Q hx hy h kk=>by
 obtain⟨i,rfl,h⟩:=hx.intInv h
 obtain⟨j,rfl,h⟩:=hy.intInv h
 exact⟨i,j,rfl,rfl,h.1.ok,kk _ _ (.int _) h.2⟩
theorem Z4p{f:Int->Int->Int}:P2s G (rI Z7y λi j=>.int (f i j)) (d2I Ybt λi j=>.int (f i j)):=λH L x y d e k Q hx hy h kk=>by
 obtain⟨i,rfl,h⟩:=hx.intInv h
 obtain⟨j,rfl,h⟩:=hy.intInv h
 exact⟨i,j,rfl,rfl,h.1.ok,kk _ _ (.int _) h.2⟩
theorem Ztx{f:Int->Int->Int}:P2s G (rI0 λi j=>.int (f i j)) (Zvb λi j=>.int (f i j)):=λH L x y d e k Q hx hy h kk=>by
 obtain⟨i,rfl,h⟩:=hx.intInv h
 obtain⟨j,rfl,h⟩:=hy.intInv h
 exact⟨i,j,rfl,rfl,kk _ _ (.int _) h⟩
theorem Zhu{f:Int->Int->Bool}:P2s G (rI0 λi j=>.bl (f i j)) (Zvb λi j=>.bool (f i j)):=λH L x y d e k Q hx hy h kk=>by
 obtain⟨i,rfl,h⟩:=hx.intInv h
 obtain⟨j,rfl,h⟩:=hy.intInv h
 exact⟨i,j,rfl,rfl,kk _ _ (.bl _) h⟩
section
variable {X:Cx}
noncomputable def Ycc(K:Xb):R2:=λx y H Q=>∃(L L':Addr->Prop) (d e:Xa),Da K H L x d∧Da K H L' y e∧Shp d∧Shp e∧Q (.bl (QM d e)) H
noncomputable def Ybg(K:Xb):R2:=λx y H Q=>∃(L L':Addr->Prop) (d e:Xa),Da K H L x d∧Da K H L' y e∧Shp d∧Shp e∧Q (.bl (!QM d e)) H
theorem Zf4(hu:X.A.units+64<cLine):OpR X (JB .Eq) (Ycc X.K):=by
 intro pins s σ H x y v u Q I rx ry h
 obtain⟨L,L',d,e,h1,h2,s1,s2,q⟩:=h
 obtain⟨as,k1⟩:=h1.reads rfl I rx (Vr s1)
 obtain⟨bs,k2⟩:=h2.reads rfl I ry (Vr s2)
 exact eq_dataH k1 k2 s1 s2 hu ⟨.bl _,H,I,rfl,q⟩
theorem Zn8(hu:X.A.units+64<cLine):OpR X (JB .NotEq) (Ybg X.K):=by
 intro pins s σ H x y v u Q I rx ry h
 obtain⟨L,L',d,e,h1,h2,s1,s2,q⟩:=h
 obtain⟨as,k1⟩:=h1.reads rfl I rx (Vr s1)
 obtain⟨bs,k2⟩:=h2.reads rfl I ry (Vr s2)
 exact ne_dataH k1 k2 s1 s2 hu ⟨.bl _,H,I,rfl,q⟩
end
structure Z3p(d:Xa):Prop where
 ok:Shp d
noncomputable def dEq:Xa->Xa->(Xa->Prop)->Prop:=λd e k=>Z3p d∧Z3p e∧k (.bool (QM d e))
noncomputable def dNe:Xa->Xa->(Xa->Prop)->Prop:=λd e k=>Z3p d∧Z3p e∧k (.bool (!QM d e))
theorem Zkc:P2s G (Ycc G) dEq:=λH L x y d e k Q hx hy h kk=>⟨L,L,d,e,hx,hy,h.1.ok,h.2.1.ok,kk _ _ (.bl _) h.2.2⟩
theorem Zu8:P2s G (Ybg G) dNe:=λH L x y d e k Q hx hy h kk=>⟨L,L,d,e,hx,hy,h.1.ok,h.2.1.ok,kk _ _ (.bl _) h.2.2⟩
noncomputable def Ze5:Xa->Bool
 | .none=>true
 | _=>false
theorem Da.isNone{H:Hp}{L:Addr->Prop}{v:V}{d:Xa}(h:Da G H L v d):decide (v= .non)=Ze5 d:=by
 cases h<;>rfl
noncomputable def Z5l:Xa->Xa->(Xa->Prop)->Prop:=λd e k=>e= .none∧k (.bool (!Ze5 d))
theorem Zsi:P2s G (λx y H Q=>y= .non∧Q (.bl (!decide (x= .non))) H) Z5l:=λH L x y d e k Q hx hy h kk=>by
 obtain⟨rfl,h⟩:=h
 cases hy
 exact⟨rfl,by rw[hx.isNone];exact kk _ _ (.bl _) h⟩
noncomputable def scD:Xa->Bool
 | .none=>true
 | .bool _=>true
 | .int _=>true
 | .str _=>true
 | _=>false
noncomputable def eqS:Xa->Xa->Bool
 | .none,.none=>true
 | .bool a,.bool b=>a==b
 | .bool a,.int b=>(if a then 1 else 0)==b
 | .int a,.bool b=>a==(if b then 1 else 0)
 | .int a,.int b=>a==b
 | .str a,.str b=>a==b
 | _,_=>false
noncomputable def memS(d:Xa)(ds:List Xa):Bool:=ds.any λe=>eqS e d
theorem Da.toSc{H:Hp}{L:Addr->Prop}{v:V}{d:Xa}(h:Da G H L v d)(s:scD d=true):ScD v d:=by
 cases h with
 | non=>exact .non
 | bl b=>exact .bl b
 | int i=>exact .int i
 | str x=>exact .str x
 | _=>cases s
theorem Da.sc{H:Hp}{L:Addr->Prop}{v:V}{d:Xa}(h:Da G H L v d)(s:scD d=true):Zhe v=true:=by
 cases h.toSc s<;>rfl
theorem Das.sc{H:Hp}{L:Addr->Prop}{vs:List V}{ds:List Xa}(h:Das G H L vs ds):ds.all scD=true->vs.all Zhe=true :=
 Das.ind (Q:=λvs ds=>ds.all scD=true->vs.all Zhe=true) (λ_=>rfl) (λh _ r s=>by
  rw[Uy,XN]at s
  rw[Uy,h.sc s.1,r s.2];rfl) h
theorem Da.eqS{H:Hp}{L:Addr->Prop}{v u:V}{d e:Xa}(h:Da G H L v d)(g:Da G H L u e)(s:scD d=true)(t:scD e=true):eqV v u=L2.eqS d e:=by
 cases h.toSc s<;>cases g.toSc t<;>rfl
theorem Das.memS{H:Hp}{L:Addr->Prop}{v:V}{d:Xa}(h:Da G H L v d)(s:scD d=true){vs:List V}{ds:List Xa}(g:Das G H L vs ds):ds.all scD=true->inV v vs=L2.memS d ds :=
 Das.ind (Q:=λvs ds=>ds.all scD=true->inV v vs=L2.memS d ds) (λ_=>rfl) (λg _ r t=>by
  rw[Uy,XN]at t
  have:=r t.2
  unfold inV L2.memS at*
  rw[List.any_cons,List.any_cons,this,g.eqS h t.1 s]) g
noncomputable def dIn(neg:Bool):Xa->Xa->(Xa->Prop)->Prop:=λd e k=>scD d=true∧match e with
 | .list ds=>ds.all scD=true∧k (.bool (if neg then !memS d ds else memS d ds))
 | .tuple ds=>ds.all scD=true∧k (.bool (if neg then !memS d ds else memS d ds))
 | _=>False
theorem Zxg{neg:Bool}:P2s G (rIn G neg) (dIn neg):=λH L x y d e k Q hx hy h kk=>by
 obtain⟨s,h⟩:=h
 cases hy with
 | lst l e r=>exact⟨_,_,rfl,.inl (.inl e),hx.sc s,r.sc h.1,by rw[Das.memS hx s r h.1];exact kk _ _ (.bl _) h.2⟩
 | tup e r=>exact⟨_,_,rfl,.inr (.inl (.inl e)),hx.sc s,r.sc h.1,by rw[Das.memS hx s r h.1];exact kk _ _ (.bl _) h.2⟩
 | scr ks=>exact⟨_,_,rfl,.inl ks.sq,hx.sc s,(Das.ints (G:=G) (H:=H) (L:=L) _).sc h.1,by rw[Das.memS hx s (Das.ints (G:=G) (H:=H) (L:=L) _) h.1];exact kk _ _ (.bl _) h.2⟩
 | _=>exact h.elim
noncomputable def ixD(d e:Xa):Option Xa:=match d,e with
 | .list ds,.int i=>atI ds i
 | .tuple ds,.int i=>atI ds i
 | _,_=>none
noncomputable def dIx:Xa->Xa->(OT->Prop)->Prop:=λd e k=>match ixD d e with|some x=>k (.fz x)|none=>False
theorem Das.atI{H:Hp}{L:Addr->Prop}{xs:List V}{ds:List Xa}{i:Int}{d:Xa}(h:Das G H L xs ds)(e:L2.atI ds i=some d):∃x,L2.atI xs i=some x∧Da G H L x d:=by
 unfold L2.atI at*
 rw[h.length]
 cases q:ixN ds.length i with
 | none=>rw[q]at e;cases e
 | some j=>
  rw[q]at e
  exact h.get e
theorem Yaa:P2 G (rIx G) dIx:=λH L x y d e k Q hx hy h kk=>by
 unfold dIx at h
 split at h
 case h_2=>exact h.elim
 rename_i z ez
 have fin:∀v,Da G H L v z->Q v H:=λv q=>kk H v (.fz z) [] (Same.refl _) (.fz (q.wide λa l _=>⟨.inl l,λm=>nomatch m⟩)) .nil (λa m=>nomatch m) h
 cases hx with
 | lst l e1 r=>
  cases hy with
  | int i=>
   obtain⟨v,e2,q⟩:=r.atI (show L2.atI _ i=some z from ez)
   exact .inl ⟨_,_,i,v,rfl,rfl,.inl e1,e2,fin v q⟩
  | _=>cases ez
 | tup e1 r=>
  cases hy with
  | int i=>
   obtain⟨v,e2,q⟩:=r.atI (show L2.atI _ i=some z from ez)
   exact .inr (.inl ⟨_,_,i,v,rfl,rfl,.inl (.inl e1),e2,fin v q⟩)
  | _=>cases ez
 | scr ks=>
  cases hy with
  | int i=>
   obtain⟨v,e2,q⟩:=(Das.ints (G:=G) (H:=H) (L:=L) _).atI (show L2.atI _ i=some z from ez)
   exact .inl ⟨_,_,i,v,rfl,rfl,ks.sq,e2,fin v q⟩
  | _=>cases ez
 | _=>cases ez
theorem Own.list{H:Hp}{L:Addr->Prop}{p:Addr}{xs:List V}{ds:List Xa}(hp:H p=none)(h:Das G H L xs ds):Own G (upd H p (.lst xs)) (λa=>(L a∨H a=none)∧a∉[p]) (.ref p) (.nd (ds.map OT.fz)) [p] :=
 .nd Z7 (((h.wide λa l q=>⟨.inl l,λm=>q (by rw[Xq.mp m];exact hp)⟩).same (Z2 hp _)).owns)
theorem Zau{H:Hp}{p:Addr}(hp:H p=none):∀a∈[p],H a=none:=λa m=>by rw[Xq.mp m];exact hp
theorem Zdg(p:Addr):[p].Nodup:=Qp.mpr ⟨λm=>(nomatch m),.nil⟩
noncomputable def dCat:Xa->Xa->(OT->Prop)->Prop:=λd e k=>asL d λds=>asL e λes=>ds.length+es.length≤Xr∧k (.nd ((ds ++ es).map OT.fz))
theorem Zn7:P2 G (Z4t G) dCat:=λH L x y d e k Q hx hy h kk=>by
 obtain⟨a,xs,ds,rfl,e1,r1,h⟩:=hx.lstInv h
 obtain⟨b,ys,es,rfl,e2,r2,h⟩:=hy.lstInv h
 exact⟨a,b,xs,ys,rfl,rfl,e1,e2,by rw[r1.length,r2.length];exact h.1,λp hp=>kk _ _ _ [p] (Z2 hp _) (Own.list hp (r1.append r2)) (Zdg p) (Zau hp) h.2⟩
noncomputable def n1(k:Xa->Prop)(ds:List Xa):Prop:=match ds with|[d]=>k d|_=>False
noncomputable def n2(k:Xa->Xa->Prop)(ds:List Xa):Prop:=match ds with|[d,e]=>k d e|_=>False
theorem Das.one{H:Hp}{L:Addr->Prop}{vs:List V}{ds:List Xa}{k:Xa->Prop}(q:Das G H L vs ds)(h:n1 k ds):∃v d,vs=[v]∧ds=[d]∧Da G H L v d∧k d:=by
 cases q with
 | nil=>exact h.elim
 | cons q r=>
  cases r with
  | nil=>exact⟨_,_,rfl,rfl,q,h⟩
  | cons _ _=>exact h.elim
theorem Das.two{H:Hp}{L:Addr->Prop}{vs:List V}{ds:List Xa}{k:Xa->Xa->Prop}(q:Das G H L vs ds)(h:n2 k ds):∃v u d e,vs=[v,u]∧ds=[d,e]∧Da G H L v d∧Da G H L u e∧k d e:=by
 cases q with
 | nil=>exact h.elim
 | cons q r=>
  cases r with
  | nil=>exact h.elim
  | cons q' r'=>
   cases r' with
   | nil=>exact⟨_,_,_,_,rfl,rfl,q,q',h⟩
   | cons _ _=>exact h.elim
noncomputable def Zv0:Xa->Option Nat
 | .list ds=>some ds.length
 | .tuple ds=>some ds.length
 | _=>none
noncomputable def Yb5:List Xa->(Xa->Prop)->Prop:=λds k=>n1 (λd=>match Zv0 d with|some n=>k (.int n)|none=>False) ds
theorem Zs7:PNs G (Yco G) Yb5:=λH L xs ds k Q hx h kk=>by
 obtain⟨v,d,rfl,rfl,q,h⟩:=hx.one h
 cases q with
 | lst l e r=>exact⟨_,_,rfl,.inl (.inl e),by rw[r.length];exact kk _ _ (.int _) h⟩
 | tup e r=>exact⟨_,_,rfl,.inr (.inl (.inl e)),by rw[r.length];exact kk _ _ (.int _) h⟩
 | scr ks=>exact⟨_,_,rfl,.inl ks.sq,by rw[(Das.ints (G:=G) (H:=H) (L:=L) _).length];exact kk _ _ (.int _) h⟩
 | _=>exact h.elim
noncomputable def Ya1:List Xa->(Xa->Prop)->Prop:=λds k=>n1 (λd=>asI d λi=>k (.int (if i<0 then -i else i))) ds
theorem Zry:PNs G (λxs H Q=>∃i,xs=[.int i]∧Q (.int (if i<0 then -i else i)) H) Ya1:=λH L xs ds k Q hx h kk=>by
 obtain⟨v,d,rfl,rfl,q,h⟩:=hx.one h
 obtain⟨i,rfl,h⟩:=q.intInv h
 exact⟨i,rfl,kk _ _ (.int _) h⟩
noncomputable def Yau:List Xa->(Xa->Prop)->Prop:=λds k=>n2 (λd e=>asI d λi=>asI e λj=>k (.int (if j>i then j else i))) ds
theorem Z07:PNs G (λxs H Q=>∃i j,xs=[.int i,.int j]∧Q (.int (if j>i then j else i)) H) Yau:=λH L xs ds k Q hx h kk=>by
 obtain⟨v,u,d,e,rfl,rfl,q,q',h⟩:=hx.two h
 obtain⟨i,rfl,h⟩:=q.intInv h
 obtain⟨j,rfl,h⟩:=q'.intInv h
 exact⟨i,j,rfl,kk _ _ (.int _) h⟩
noncomputable def Ya6:List Xa->(Xa->Prop)->Prop:=λds k=>n2 (λd e=>asI d λi=>asI e λj=>k (.int (if j<i then j else i))) ds
theorem Zqt:PNs G (λxs H Q=>∃i j,xs=[.int i,.int j]∧Q (.int (if j<i then j else i)) H) Ya6:=λH L xs ds k Q hx h kk=>by
 obtain⟨v,u,d,e,rfl,rfl,q,q',h⟩:=hx.two h
 obtain⟨i,rfl,h⟩:=q.intInv h
 obtain⟨j,rfl,h⟩:=q'.intInv h
 exact⟨i,j,rfl,kk _ _ (.int _) h⟩
noncomputable def Zn2:Xa->Option (List Xa)
 | .list ds=>some ds
 | .tuple ds=>some ds
 | _=>none
noncomputable def Z6p:List Xa->(OT->Prop)->Prop:=λds k=>n1 (λd=>match Zn2 d with|some es=>k (.nd (es.map OT.fz))|none=>False) ds
theorem Zz2:PN G (Ztv G) Z6p:=λH L xs ds k Q hx h kk=>by
 obtain⟨v,d,rfl,rfl,q,h⟩:=hx.one h
 cases q with
 | lst l e r=>exact⟨_,_,rfl,.inl (.inl e),λp hp=>kk _ _ _ [p] (Z2 hp _) (Own.list hp r) (Zdg p) (Zau hp) h⟩
 | tup e r=>exact⟨_,_,rfl,.inr (.inl (.inl e)),λp hp=>kk _ _ _ [p] (Z2 hp _) (Own.list hp r) (Zdg p) (Zau hp) h⟩
 | scr ks=>exact⟨_,_,rfl,.inl ks.sq,λp hp=>kk _ _ _ [p] (Z2 hp _) (Own.list hp (Das.ints _)) (Zdg p) (Zau hp) h⟩
 | _=>exact h.elim
section
variable {X:Cx}{io:List Nat}{p c:Bool}{a:Expr}{ma:MEt}{pos:Pos}
noncomputable def Ycg(m:MEt):MEt:=λδ K=>m δ λr δ'=>asI r.data λi=>K (.fz (.int (-i))) δ'
theorem Zw4(ha:ME X io p c a ma):ME X io p true (.UnaryOp .USub a pos) (Ycg ma):=by
 obtain⟨_,A,s⟩:=ha
 exact⟨_,Z9u Z24 A,λC H σ δ fp ex K Q R h k=>s C H σ δ fp ex _ _ R h λH' v r δ' fp' new r1 h1=>by
  obtain⟨i,rfl,h1⟩:=(r1.da R).intInv h1
  exact⟨i,rfl,k H' _ _ δ' fp' [] (.fz r1.base r1.stp (.int _)) h1⟩⟩
noncomputable def Zok(T:String):Xa->Bool
 | .none=>false
 | .bool _=>T=="bool"||T=="int"
 | .int _=>T=="int"
 | .str _=>T=="str"
 | .list _=>T=="list"
 | .tuple _=>T=="tuple"
 | .dict _=>false
noncomputable def Ycq(T:String)(m:MEt):MEt:=λδ K=>m δ λr δ'=>Zgp r.data=false∧K (.fz (.bool (Zok T r.data))) δ'
end
section
variable {prog:X8}{w:Qs}{A:Qo}{E:Xd->Xg->Prop}{h:Heap}{g:Array GenState}{d:Drawn}{t:Nat}{os:OsState}{a C:Addr}{o:Obj}{K:Xb}
theorem Zzi(M:Model)(hx:h.get? a=some o)(hc:o.cls= .ref C):QX M h (typeOf (.ref a)) (.ref C):=hc▸(QX.ld hx).andThen .now
theorem Zw5{R:Result->Xg->Prop}(X:K.In h)(Z:Zfj K C)(hx:h.get? a=some o)(hc:o.cls= .ref C)(hq:R (.ok (.ret (.ref C))) ⟨h,g,d,t,os⟩) :
  codeAny (Qd prog w) A (.call (.builtin "getset_descriptor.__get__") ⟨[.builtin "object.__class__",.ref a,.ref C],[]⟩) R ⟨h,g,d,t,os⟩:=by
 have L1:QX (Qd prog w) h (isSubtype (.ref C) (.type (".".intercalate ("object.__class__".cutAt '.').dropLast))) true:=by
  rw[F.owner_object_class]
  exact PySem.W.looks_subIn X Z.isO
 have T5:(⟨h,g,d,t,os⟩:Xg).TypeIs (.builtin "object.__class__") "getset_descriptor" :=F.typeOf_object_class
 refine codeAny_call_builtin F.slot_gs_get.plain F.entry_gs_get (F.slot_gs_get.check _ _ _ _ _ _ _ _ T5 (F.args_gs_get _ _ _) ?_)
 repeat (any_goals (first|assumption|(with_reducible refine VF hx ?_;rw[hc])|(with_reducible refine Xh (QX.at L1 ?_))|(with_reducible refine QX.at L1 ?_)|wp_step))
 refine⟨Code.quiet_builtin _ (by decide +kernel),Ue F.entry_object_class ?_⟩
 repeat (any_goals (first|assumption|(with_reducible refine VF hx ?_;rw[hc])|wp_step))
theorem Zp9{tk:Tok}{Q:Fin->Xg->Prop}(X:K.In h)(Z:Zfj K C)(hx:h.get? a=some o)(hc:o.cls= .ref C)(hq:Q (.done (.ret (.ref C))) ⟨h,g,d,t,os⟩) :
  X4 (Qd prog w) A (Builtin.«object.__getattribute__» ⟨[.ref a,.str "__class__" tk],[]⟩) Q E ⟨h,g,d,t,os⟩:=by
 have T5:(⟨h,g,d,t,os⟩:Xg).TypeIs (.builtin "object.__class__") "getset_descriptor" :=F.typeOf_object_class
 have g5:=F.typeOf_object_class
 have g6:=F.slot_gs_get.lookup
 have g7:=F.slot_gs_set.lookup
 have L4:=PySem.W.looks_findIn (M:=Qd prog w) X Z.cl
 repeat (any_goals (first|assumption|(with_reducible refine VF hx ?_;rw[hc])|(with_reducible refine Xh (QX.at L4 ?_))|(with_reducible refine QX.at L4 ?_)|wp_step))
 refine Zw5 X Z hx hc ?_
 repeat (any_goals (first|assumption|wp_step))
theorem Zqk{M:Model}{nameV:Xd}{Q:Unit->Xg->Prop}(X:K.In h)(Z:Zfj K C)(hx:h.get? a=some o)(hc:o.cls= .ref C)(hq:Q () ⟨h,g,d,t,os⟩) :
  X4 M A (checkBuiltinCall "BaseException.__getattribute__" ⟨[.ref a,nameV],[]⟩) Q E ⟨h,g,d,t,os⟩:=by
 have e1:builtinKind "BaseException.__getattribute__"=some .slot:=by decide +kernel
 have e2:splitId "BaseException.__getattribute__"=some ("BaseException","__getattribute__"):=by decide +kernel
 have L1:=PySem.W.looks_subIn (M:=M) X Z.isB
 have e3:=F.args_bexc_ga (.ref a) nameV
 simp only[checkBuiltinCall,e1,e2]
 refine Xh ?_
 unfold isInstance
 repeat (first|(with_reducible refine VF hx ?_;rw[hc])|(with_reducible refine Xh (QX.at L1 ?_))|(with_reducible refine QX.at L1 ?_)|wp_step)
 exact hq
theorem Zrq{tk:Tok}{R:Result->Xg->Prop}(X:K.In h)(Z:Zfj K C)(hx:h.get? a=some o)(hc:o.cls= .ref C)(hq:R (.ok (.ret (.ref C))) ⟨h,g,d,t,os⟩) :
  codeAny (Qd prog w) A (.call (.builtin "BaseException.__getattribute__") ⟨[.ref a,.str "__class__" tk],[]⟩) R ⟨h,g,d,t,os⟩ :=
 codeAny_call_builtin F.excAttr_ValueError.ga.plain F.entry_bexc_ga (Zqk X Z hx hc (Zp9 X Z hx hc hq))
theorem Z2d{tk:Tok}{fill expr:Bool}{Q:Xd->Xg->Prop}(X:K.In h)(Z:Zfj K C)(hx:h.get? a=some o)(hc:o.cls= .ref C)(hq:Q (.ref C) ⟨h,g,d,t,os⟩) :
  X4 (Qd prog w) A (getAttrBy (.ref a) (.str "__class__" tk) fill expr) Q E ⟨h,g,d,t,os⟩:=by
 have f3:=F.excAttr_ValueError.ga.bind (.ref a)
 have y0:(expr&&onTheHeap (Uq "BaseException.__getattribute__"))=false:=by cases expr<;>rfl
 have y2:(Uq "BaseException.__getattribute__"==Uq "object.__getattribute__")=false:=by decide +kernel
 have y1:(onTheHeap (Qw C)&&Uq "BaseException.__getattribute__"==Uq "object.__getattribute__")=false:=by rw[y2];rfl
 have L2:=PySem.W.looks_findIn (M:=Qd prog w) X Z.ga
 have L3:=PySem.W.looks_findIn (M:=Qd prog w) X Z.gt
 repeat (any_goals (first|assumption|(with_reducible refine VF hx ?_;rw[hc])|(with_reducible refine QX.at L2 ?_)|(with_reducible refine QX.at L3 ?_)|(with_reducible refine Xh (QX.at L2 ?_))|(with_reducible refine Xh (QX.at L3 ?_))|wp_step))
 refine Zrq X Z hx hc ?_
 repeat (any_goals (first|assumption|wp_step))
theorem Zts{Q:Option Xd->Xg->Prop}(X:K.In h)(Z:Zfj K C)(hx:h.get? a=some o)(hc:o.cls= .ref C)(hq:Q (some (.ref C)) ⟨h,g,d,t+1,os⟩) :
  X4 (Qd prog w) A (getAttr? (.ref a) "__class__") Q E ⟨h,g,d,t,os⟩:=by
 unfold getAttr? getAttrBy?
 repeat (any_goals (first|assumption|with_reducible apply Z2d X Z hx hc|wp_step))
end
theorem Zwp{K:Xb}{a C:Addr}(Z:Zfj K C):PySem.W.KitX K (.ref a) (.ref C) (λh=>∃o,h.get? a=some o∧o.cls= .ref C) where
 ty:=λM h _ p=>let⟨_,hx,hc⟩:=p;Zzi M hx hc
 it:=λM h X _=>by
  have z:=Z.isC
  unfold PySem.W.clsIn at z
  split at z
  ·rename_i ho
   intro A' Q' E' s' k q
   unfold isType loadHead
   exact Xh (wpAny_loadPart (k _ _ (X _ _ ho)) (X7 q))
  ·cases z
 ne:=λh tp dd its n sl X htp=>by
  have z:=Z.isC
  refine Vu.mpr λq=>?_
  have e:C=tp:=Qw.inj (beq_iff_eq.mp q)
  subst e
  unfold PySem.W.clsIn at z
  split at z
  ·rename_i ho
   have z:=(X _ _ ho).symm.trans htp
   cases z
  ·cases z
 ca:=fun{_ _ _ _ _ s} X p k=>by
  obtain⟨h,g,d,t,os⟩:=s
  obtain⟨_,hx,hc⟩:=p
  exact Zts X Z hx hc k
variable {G:Xb}
noncomputable def tyD:Xa->String
 | .none=>"NoneType"
 | .bool _=>"bool"
 | .int _=>"int"
 | .str _=>"str"
 | .list _=>"list"
 | .tuple _=>"tuple"
 | .dict _=>"dict"
theorem Zyb{K:Xb}{T:String}{d:Xa}(h:T="int"∨T="bool"∨T="str"∨T="list"∨T="tuple")(hd:∀kvs,d≠ .dict kvs):Bq K (.type (tyD d)) (.type T)=some (Zok T d):=by
 rcases h with rfl|rfl|rfl|rfl|rfl<;>cases d<;>first|rfl|(exact absurd rfl (hd _))|(unfold Bq PySem.W.kitCls;rfl)|(simp only[tyD,Zok];decide +kernel)
noncomputable def Z9h(G:Xb):List V->Hp->VK->Prop:=λxs H Q=>∃(x:V) (T:String) (L:Addr->Prop) (d:Xa),xs=[x,.ty T]∧Da G H L x d∧Zgp d=false∧(T="int"∨T="bool"∨T="str"∨T="list"∨T="tuple")∧Q (.bl (Zok T d)) H
theorem Zs8{X:Cx}(hK:X.K=G):Zbt X (.builtin "isinstance") (Z9h G):=by
 subst hK
 intro pins s σ H xs us Q I r h
 obtain⟨x,T,L,d,rfl,q,hf,hT,h⟩:=h
 obtain⟨u,w',rfl,r1,r2⟩:=vals2 r
 cases(show w'=Value.type T from r2)
 have fin:∀tk:Nat,EP X pins σ Q (.bool (Zok T d)) { s with toks:=tk }:=λtk=>⟨.bl _,H,I.tok tk,rfl,h⟩
 cases q with
 | non=>exact Zap I r1 .non (Zyb (d:=.none) hT λ_ z=>by cases z) fin
 | bl b=>exact Zap I r1 (.bl b) (Zyb (d:=.bool b) hT λ_ z=>by cases z) fin
 | int b=>exact Zap I r1 (.int b) (Zyb (d:=.int b) hT λ_ z=>by cases z) fin
 | str b=>exact Zap I r1 (.str b) (Zyb (d:=.str b) hT λ_ z=>by cases z) fin
 | lst l e qs=>
  rename_i ds
  rcases e with e|⟨o,e⟩
  ·exact Zap I r1 (.lst e) (Zyb (d:=.list ds) hT λ_ z=>by cases z) fin
  ·exact Zap I r1 (.frz e) (Zyb (d:=.list ds) hT λ_ z=>by cases z) fin
 | tup e qs=>
  rename_i ds
  exact Zap I r1 (.tup e) (Zyb (d:=.tuple ds) hT λ_ z=>by cases z) fin
 | scr ks=>
  rename_i a ns
  cases(show u=Qw a from r1)
  obtain⟨its,vs,⟨o,n,ho,hc,hd,hs⟩,_⟩:=I.list (ks.sq (H:=H))
  exact QK PySem.W.kitx_list I.kIn ⟨o,ho,hc⟩ (Zyb (d:=.list (ns.map Xk)) hT λ_ z=>by cases z) (λz=>nomatch z) fin
 | exc Z hn e=>
  rename_i a C x
  cases(show u=Qw a from r1)
  obtain⟨⟨o,vs,ho,hc,_⟩,_,_⟩:=(show ObjOk X.prog X.w H s.heap a (.ext (ExO C a))from I.hok a _ e)
  refine QK (Zwp Z) I.kIn ⟨o,ho,hc⟩ (b:=Zok T (exD x)) ?_ (λz=>nomatch z) fin
  rcases hT with rfl|rfl|rfl|rfl|rfl
  ·exact Z.k1
  ·exact Z.k2
  ·exact Z.k3
  ·exact Z.k4
  ·exact Z.k5
 | fn _=>cases hf
 | dic _ _ _ _=>unfold dcD Zgp at hf;cases hf
section
variable {X:Cx}{io:List Nat}{p c p' c':Bool}{a b e:Expr}{ma m:MEt}{pos pp p2:Pos}{K:Xb}
theorem Zgn{T:Str}{T':String}(hT:T'="int"∨T'="bool"∨T'="str"∨T'="list"∨T'="tuple")(hg:Gl X "isinstance")(hm:X.mg "isinstance"=none)(hv:X3 "isinstance"=some (.builtin "isinstance"))
  (hg2:Gl X T) (hm2:X.mg T=none) (hv2:X3 T=some (.type T')) (ha:ME X io p c a ma) (hn:T≠"__name__" :=by decide) (hd:(T==("__debug__" : Str))=false:=by decide)
  (he:Xo [a,.Name T p2] X.env=(false,eval a X.env) :: Xo [.Name T p2] X.env:=by rfl) (he2:Xo [.Name T p2] X.env=(false,eval (.Name T p2) X.env) :: Xo [] X.env:=by rfl) (hpl:(QW pos (Xo [.Name T p2] X.env)).any (·.1)=false:=by rfl) :
  ME X io p true (.Call (.Name "isinstance" pp) [a,.Name T p2] [] pos) (Ycq T' ma):=by
 obtain⟨_,A,s⟩:=ha
 refine⟨_,Zgh (Zs8 rfl) hg hm hv (Zbl A (Zbl (Z13 (v:=.ty T') hg2 hm2 hv2 rfl hn hd) Zen he2) he) (by decide) (by decide) he hpl,?_⟩
 intro C H σ δ fp ex K' Q R h k
 refine s C H σ δ fp ex _ _ R h λH' v r δ' fp' new r1 h1=>?_
 exact⟨v,T',_,_,rfl,r1.da R,h1.1,hT,k H' _ _ δ' fp' [] (.fz r1.base r1.stp (.bl _)) h1.2⟩
noncomputable abbrev MOt:=Zi->(Option Int->Zi->Prop)->Prop
noncomputable def MO(X:Cx)(io:List Nat)(p:Bool)(e:Option Expr)(m:MOt):Prop:=∃t,PO X e t∧∀(C:MC X.K) (H:Hp) (σ:St) (δ:Zi) (fp:Fp) (ex:Addr->Prop) (K:Option Int->Zi->Prop) (Q:Option Int->Hp->Prop),Rel C io H σ δ fp ex->m δ K ->
 (∀ H' b δ' fp',Rel C io H' σ δ' fp' ex->Stp p H δ fp H' δ' fp'->K b δ'->Q b H')->t σ H Q
noncomputable def Ztu:MOt:=λδ K=>K none δ
noncomputable def Z46(m:MEt):MOt:=λδ K=>m δ λr δ'=>asI r.data λi=>K (some i) δ'
theorem Zm9:MO X io true none Ztu:=⟨_,Z1h,λC H σ δ fp ex K Q R h k=>k H none δ fp R (.refl _ _ _ _) h⟩
theorem Zt0(h:ME X io p c e m):MO X io p (some e) (Z46 m):=by
 obtain⟨_,A,s⟩:=h
 exact⟨_,Z2r A,λC H σ δ fp ex K Q R h k=>s C H σ δ fp ex _ _ R h λH' v r δ' fp' new r1 h1=>by
  obtain⟨i,rfl,h1⟩:=(r1.da R).intInv h1
  exact⟨i,rfl,k H' _ δ' fp' r1.base r1.stp h1⟩⟩
noncomputable def cutD(ds:List Xa)(lo hi:Option Int):List Xa:=(ds.drop (HT.sIx ds.length 0 lo)).take (HT.sIx ds.length ds.length hi-HT.sIx ds.length 0 lo)
theorem Das.cut{H:Hp}{L:Addr->Prop}{xs:List V}{ds:List Xa}(h:Das G H L xs ds)(lo hi:Option Int):Das G H L (Z2y xs lo hi) (cutD ds lo hi):=by
 unfold Z2y cutD
 rw[h.length]
 exact(h.drop _).take _
noncomputable def mSl(m:MEt)(ml mh:MOt):MEt:=λδ K=>m δ λr δ1=>ml δ1 λlo δ2=>mh δ2 λhi δ3=>asL r.data λds=>K (.nd ((cutD ds lo hi).map OT.fz)) δ3
theorem Z8x{lo hi:Option Expr}{ml mh:MOt}(ha:ME X io true c a ma)(hl:MO X io true lo ml)(hh:MO X io true hi mh):ME X io true c (.Subscript a (.Slice lo hi none p2) pos) (mSl ma ml mh):=by
 obtain⟨_,A,s⟩:=ha
 obtain⟨_,B,sl⟩:=hl
 obtain⟨_,D,sh⟩:=hh
 refine⟨_,Zuy (Zwl rfl) A B D,?_⟩
 intro C H σ δ fp ex K' Q R h k
 refine s C H σ δ fp ex _ _ R h λH1 v r δ1 fp1 new r1 h1=>?_
 refine sl C H1 σ δ1 fp1 ex _ _ r1.base h1 λH2 l δ2 fp2 R2 S2 h2=>?_
 refine sh C H2 σ δ2 fp2 ex _ _ R2 h2 λH3 u δ3 fp3 R3 S3 h3=>?_
 have s2:Same H1 H2:=λb o e=>S2.keep b o e (.inl rfl)
 have s3:Same H2 H3:=λb o e=>S3.keep b o e (.inl rfl)
 obtain⟨e1,e2⟩:=r1.stp.env rfl
 obtain⟨e3,e4⟩:=S2.env rfl
 obtain⟨e5,e6⟩:=S3.env rfl
 have q:=((r1.da R).same s2).same s3
 obtain⟨a',xs,ds,rfl,e,qs,h3⟩:=q.lstInv h3
 refine⟨a',xs,rfl,e,λp hp=>?_⟩
 have S:=(r1.stp.trans S2).trans S3
 refine k _ _ _ δ3 fp3 [p] (RE.tree R R3 S (Z2 hp _) (Zau hp) (Zdg p) (Own.list hp ((qs.cut l u).wide λa l _=>?_))) h3
 rw[e6,e4]
 exact l
theorem Owns.set{H:Hp}{L:Addr->Prop}{x:V}{r:OT}(hr:Own G H L x r []):∀{xs:List V} {ts:List OT} {as:List Addr} (j:Nat),Owns G H L xs ts as->∃bs,Owns G H L (xs.set j x) (ts.set j r) bs∧bs.Sublist as
 | _,_,_,_,.nil=>⟨[],.nil,.refl _⟩
 | _,_,_,0,.cons k t=>⟨_,.cons hr t,by simp⟩
 | _,_,_,j+1,.cons (as:=as) k t=>by
  obtain⟨bs,o,s⟩:=Owns.set hr j t
  exact⟨as ++ bs,.cons k o,List.Sublist.append_left s as⟩
theorem Owns.get{H:Hp}{L:Addr->Prop}:∀{xs:List V} {ts:List OT} {as:List Addr} {j:Nat} {t:OT},Owns G H L xs ts as->ts[j]? =JR t->∃x bs,xs[j]? =JR x∧Own G H L x t bs∧bs.Sublist as
 | _,_,_,_,_,.nil,e=>by simp at e
 | _,_,_,0,_,.cons k _,e=>by simp at e;subst e;exact⟨_,_,rfl,k,List.sublist_append_left _ _⟩
 | _,_,_,j+1,t,.cons _ r,e=>by
  obtain⟨x,bs,h1,h2,h3⟩:=Owns.get (j:=j) (t:=t) r (by simpa using e)
  exact⟨x,bs,by simpa using h1,h2,h3.trans (List.sublist_append_right _ _)⟩
theorem Rel.top{C:MC G}{H:Hp}{σ:St}{δ:Zi}{fp:Fp}{ex:Addr->Prop}{i:Nat}{ts ts':List OT}{a':Addr}{xs ys:List V}{bs bs':List Addr}(R:Rel C io H σ δ fp ex)(hi:δ[i]? =some (some (.nd ts)))(hv:σ[i]? =some (some (.ref a')))
  (hf:fp i=a' :: bs) (hx:H a'=some (.lst xs)) (o:Owns G H (Lf C fp ex) ys ts' bs') (hs:bs'.Sublist bs) :
  Rel C io (upd H a' (.lst ys)) σ (δ.set i (some (.nd ts'))) (fpu fp i (a' :: bs')) ex∧Stp false H δ fp (upd H a' (.lst ys)) (δ.set i (some (.nd ts'))) (fpu fp i (a' :: bs')):=by
 have nd:=R.nd i
 rw[hf]at nd
 have hn:=Qp.mp nd
 have hm:a'∈fp i:=by rw[hf];exact .head _
 have ne':∀a,¬Foot fp a->a≠a':=λa h z=>h ⟨i,by rw[z];exact hm⟩
 have kp:∀b o,H b=some o->b≠a'->upd H a' (.lst ys) b=some o:=λb o e n=>by rw[Z3 n];exact e
 have sub:∀a,a∈a' :: bs'->a∈fp i:=λa m=>by
  rw[hf]
  rcases Xp.mp m with rfl|m
  ·exact .head _
  ·exact .tail _ (hs.subset m)
 have o':Owns G (upd H a' (.lst ys)) (Lf C (fpu fp i (a' :: bs')) (exu ex [])) ys ts' bs':=by
  have f0:∀a,¬Foot fp a->¬Foot (fpu fp i (a' :: bs')) a:=λa h z=>by
   rcases z.of_u with z|⟨j,_,z⟩
   ·exact h ⟨i,sub a z⟩
   ·exact h ⟨j,z⟩
  have f1:∀a (zs:MuO),Lf C fp ex a->Rd H a zs.ho->Lf C (fpu fp i (a' :: bs')) (exu ex []) a∧Rd (upd H a' (.lst ys)) a zs.ho:=λa zs l q=>by
   refine⟨⟨f0 a l.1,λz=>l.2.1 (Zde.mp z),l.2.2⟩,?_⟩
   rcases q with q|⟨u,q⟩
   ·exact .inl (kp a _ q (ne' a l.1))
   ·exact .inr ⟨u,kp a _ q (ne' a l.1)⟩
  have f2:∀a (zs:ImO),H a=some zs.ho->upd H a' (.lst ys) a=some zs.ho:=λa zs q=>kp a _ q λz=>ImO.nl q (z▸hx)
  exact o.frame f1 f2 λa m zs q=>kp a _ q λz=>hn.1 (hs.subset (z▸m))
 have key:=R.change (new:=[]) (as':=a' :: bs') (t':=.nd ts') (H':=upd H a' (.lst ys)) hi hv (λb o e nb=>kp b o e λz=>nb (by rw[z];exact hm)) (λb e=>by
   by_cases q:b=a'
   ·subst q;rw[Z7]at e;cases e
   ·rwa[Z3 q]at e) (.nd Z7 o') (Qp.mpr ⟨λm=>hn.1 (hs.subset m),hn.2.sublist hs⟩) (λa m=>.inl (sub a m)) (λa m=>nomatch m)
 exact⟨key.1.drop λa z=>.inl z,key.2⟩
end
variable {G:Xb}
section
variable {X:Cx}{io:List Nat}{p c p' c':Bool}{a b e:Expr}{ma m mi mj:MEt}{pos pp p2 apos cpos px:Pos}{K:Xb}{i:Nat}{x:Str}
theorem Rel.ownNd{C:MC G}{H:Hp}{σ:St}{δ:Zi}{fp:Fp}{ex:Addr->Prop}{ts:List OT}(R:Rel C io H σ δ fp ex)(hi:δ[i]? =some (some (.nd ts))) :
  ∃a' xs bs,σ[i]? =some (some (.ref a'))∧H a'=some (.lst xs)∧Owns G H (Lf C fp ex) xs ts bs∧fp i=a' :: bs:=by
 obtain⟨v,e,o⟩:=R.own i _ hi
 generalize hf:fp i=as at o
 cases o with
 | nd h r=>exact⟨_,_,_,e,h,r,rfl⟩
noncomputable def Zi4(i:Nat)(m:MEt):MSt:=λD δ=>match δ[i]? with
 | some (some (.nd _))=>m δ λr δ1=>match δ1[i]? with
  | some (some (.nd ts))=>ts.length<Xr∧D.nx (δ1.set i (some (.nd (ts ++ [.fz r.data]))))
  | _=>False
 | _=>False
theorem J5(i:Nat)(he:ME X io p true e m)(hN:X.N[i]? =some x:=by rfl)(hv:Vis X.env.scope x:=by first|exact Qq rfl|exact Qj (Qq rfl)|exact Qj (Qj rfl))(hd:(x==("__debug__" : Str))=false:=by decide)
  (hcd:(x==("__classdict__" : Str))=false:=by decide)
  (hbase:V6 (.Name x px) "append" X.env (eval (.Name x px) X.env)=eval (.Name x px) X.env:=by rfl)
  (hfew:((QW cpos (Xo [e] X.env)).all (λx=>!x.1)&&(backToKw cpos (keywordEach [] X.env)).all (λx=>x.1.isSome)
   &&decide ([e].length+([]:List VG).length+(if([]:List VG).isEmpty then 0 else 1)<30))=true:=by rfl)
  (hline:(apos.endLine==cpos.line)=true:=by rfl) (hs:Xo [e] X.env=(false,eval e X.env) :: Xo [] X.env:=by rfl) (hplain:(QW cpos (Xo [] X.env)).any (·.1)=false:=by rfl)
  (hsw:Vo (.Call (.Attribute (.Name x px) "append" apos) [e] [] cpos) none pos.line X.env=pure false:=by rfl) :
  MS X io (.Expr (.Call (.Attribute (.Name x px) "append" apos) [e] [] cpos) pos) (Zi4 i m):=by
 obtain⟨_,A,s⟩:=he
 refine⟨_,Zst (Zz3 Ur PySem.F.slot_list_append PySem.F.type_list_append Zla (pv i hN hv hd hcd) (Zbl A Zen hs) hbase hfew hline hs hplain) hsw,λC H σ δ fp ex D D' R h E=>?_⟩
 unfold Zi4 at h
 split at h
 case h_2=>exact h.elim
 rename_i ts0 hi0
 obtain⟨a',xs0,bs0,hv0,hx0,_,_⟩:=R.ownNd hi0
 refine⟨_,hv0,.inl ⟨rfl,xs0,.inl (.inl hx0)⟩,?_⟩
 refine s C H σ δ fp ex _ _ R h λH1 v r δ1 fp1 new r1 h1=>?_
 split at h1
 case h_2=>exact h1.elim
 rename_i ts1 hi1
 have R1:=r1.base
 obtain⟨a1,xs1,bs1,hv1,hx1,o1,hf1⟩:=R1.ownNd hi1
 rw[hv0]at hv1
 cases hv1
 have q:=(r1.da R).wide (L':=Lf C fp1 ex) λa l _=>l rfl
 refine⟨a',xs1,v,rfl,rfl,hx1,by rw[o1.length];exact h1.1,?_⟩
 have o2:=o1.snoc (.fz q)
 obtain⟨R2,S2⟩:=R1.top hi1 hv0 hf1 hx1 o2 (by simp)
 exact E.nx _ σ _ _ R2 (r1.stp.kp.trans S2.kp) h1.2
noncomputable def Z63(i:Nat)(m mi mj:MEt):MSt:=λD δ=>m δ λr δ1=>match δ1[i]? with
 | some (some (.nd ts))=>mi δ1 λn _=>asI n.data λk=>match ixN ts.length k with
  | some j=>match ts[j]? with
   | some (.nd us)=>mj δ1 λn' _=>asI n'.data λk'=>match ixN us.length k' with
    | some j'=>D.nx (δ1.set i (some (.nd (ts.set j (.nd (us.set j' (.fz r.data)))))))
    | none=>False
   | _=>False
  | none=>False
 | _=>False
theorem SE.pureAfter{t:TE}{C:MC G}{H:Hp}{σ:St}{δ:Zi}{fp:Fp}{ex:Addr->Prop}{K':OT->Zi->Prop}{Q:VK}(s:SE G io true c t m)(R:Rel C io H σ δ fp ex)(h:m δ K')(k:∀H' v r,Rel C io H' σ δ fp ex->Same H H'->Da G H' (λa=>c=true->Lf C fp ex a) v r.data->K' r δ->Q v H'):t σ H Q :=
 s C H σ δ fp ex _ _ R h λH1 v r δ1 fp1 new r1 h1=>by
  obtain⟨e1,e2⟩:=r1.stp.env rfl
  have q:=r1.da R
  have R1:=r1.base
  rw[e1]at R1 h1
  rw[e2]at R1 q
  exact k H1 v r R1 (λb o e=>r1.stp.keep b o e (.inl rfl)) q h1
theorem Owns.deep{H:Hp}{L:Addr->Prop}{b':Addr}{ws ws':List V}{us us':List OT}(hb:H b'=JR (HO.lst ws))(hL:¬L b')(hc:∀cs,Owns G H L ws us cs->∃cs',Owns G H L ws' us' cs'∧cs'.Sublist cs) :
  ∀{xs:List V} {ts:List OT} {as:List Addr} {j:Nat},Owns G H L xs ts as->as.Nodup->xs[j]? =JR (.ref b')->ts[j]? =JR (.nd us)->∃as',Owns G (upd H b' (.lst ws')) L xs (ts.set j (.nd us')) as'∧as'.Sublist as∧b'∈as
 | _,_,_,_,.nil,_,e,_=>by simp at e
 | _,_,_,0,.cons (as:=as) (bs:=bs) k t,nd,e,e'=>by
  simp at e e'
  subst e e'
  have nd':=Va.mp nd
  have kp:∀a o,a≠b'->H a=JR o->upd H b' (.lst ws') a=JR o:=λa o n q=>by rw[Z3 n];exact q
  have f1:∀a (zs:MuO),L a->Rd H a zs.ho->L a∧Rd (upd H b' (.lst ws')) a zs.ho:=λa zs l q=>⟨l,by
   have na:a≠b':=λz=>hL (z▸l)
   rcases q with q|⟨u,q⟩
   ·exact .inl (kp a _ na q)
   ·exact .inr ⟨u,kp a _ na q⟩⟩
  have f2:∀a (zs:ImO),H a=JR zs.ho->upd H b' (.lst ws') a=JR zs.ho:=λa zs q=>kp a _ (λz=>ImO.nl q (z▸hb)) q
  cases k with
  | nd h r=>
   rename_i xs0 as0
   rw[hb]at h
   cases h
   have nd2:=Qp.mp nd'.1
   obtain⟨cs',o',s'⟩:=hc _ r
   refine⟨b' :: cs' ++ bs,.cons (.nd Z7 (o'.frame f1 f2 λa m zs q=>kp a _ (λz=>nd2.1 (s'.subset (z▸m))) q)) (t.frame f1 f2 λa m zs q=>kp a _ (λz=>nd'.2.2 b' (.head _) a m z.symm) q),List.Sublist.append_right (List.Sublist.cons₂ _ s') bs,Vf _ (.head _)⟩
 | _,_,_,j+1,.cons (as:=as) (bs:=bs) k t,nd,e,e'=>by
  have nd':=Va.mp nd
  obtain⟨as',o,s,m⟩:=Owns.deep hb hL hc (j:=j) t nd'.2.1 (by simpa using e) (by simpa using e')
  have nb:b'∉as:=λz=>nd'.2.2 b' z b' m rfl
  refine⟨as ++ as',.cons ?_ o,List.Sublist.append_left s as,Qm _ m⟩
  have kp:∀a o,a≠b'->H a=JR o->upd H b' (.lst ws') a=JR o:=λa o n q=>by rw[Z3 n];exact q
  refine k.frame (λa zs l q=>⟨l,?_⟩) (λa zs q=>kp a _ (λz=>ImO.nl q (z▸hb)) q) λa m' zs q=>kp a _ (λz=>nb (z▸m')) q
  have na:a≠b':=λz=>hL (z▸l)
  rcases q with q|⟨u,q⟩
  ·exact .inl (kp a _ na q)
  ·exact .inr ⟨u,kp a _ na q⟩
theorem Zgt(i:Nat)(he:ME X io p true e m)(hj:ME X io true c a mi)(hk:ME X io true c' b mj)(hPa:Zhv a)(hN:X.N[i]? =some x:=by rfl)(hv:Vis X.env.scope x:=by first|exact Qq rfl|exact Qj (Qq rfl)|exact Qj (Qj rfl))(hd:(x==("__debug__" : Str))=false:=by decide)
  (hcd:(x==("__classdict__" : Str))=false:=by decide)
  (hpg:∀{to ti:TE},PE X (.Subscript (.Name x px) a pp) to->PE X b ti->PG X (.Subscript (.Subscript (.Name x px) a pp) b p2) (Ybm to ti Z39):=by intro _ _ A B;exact Z6i A B set_list)
  (hs:swapsWithSole [.Subscript (.Subscript (.Name x px) a pp) b p2] e pos.line X.env=pure false:=by rfl) (hw:swappedStores [.Subscript (.Subscript (.Name x px) a pp) b p2] e X.env=pure none:=by rfl)
  (h1:(Q3 [.Subscript (.Subscript (.Name x px) a pp) b p2] X.env).map (·.2)=[V1 (.Subscript (.Subscript (.Name x px) a pp) b p2) X.env]:=by rfl) :
  MS X io (.Assign [.Subscript (.Subscript (.Name x px) a pp) b p2] e pos) (Z63 i m mi mj):=by
 obtain⟨_,A,s⟩:=he
 obtain⟨_,B,sj⟩:=hj
 obtain⟨_,B2,sk⟩:=hk
 refine⟨_,Zxr A (hpg (Zz7 (Zvd rfl) (pv i hN hv hd hcd) B hPa) B2) hs hw h1,λC H σ δ fp ex D D' R h E=>?_⟩
 refine s C H σ δ fp ex _ _ R h λH1 v r δ1 fp1 new r1 h1=>?_
 have R1:=r1.base
 have q:=(r1.da R).wide (L':=Lf C fp1 ex) λa l _=>l rfl
 split at h1
 case h_2=>exact h1.elim
 rename_i ts hi
 obtain⟨a',_,_,hv0,_⟩:=R1.ownNd hi
 refine⟨_,hv0,?_⟩
 refine sj.pureAfter R1 h1 λH2 w n R2 s2 q2 h2=>?_
 obtain⟨k,rfl,h2⟩:=q2.intInv h2
 split at h2
 case h_2=>exact h2.elim
 rename_i j hj
 split at h2
 case h_2=>exact h2.elim
 rename_i us hus
 -- the row
 obtain⟨a2,xs2,bs2,hv2,hx2,o2,hf2⟩:=R2.ownNd hi
 rw[hv0]at hv2
 cases hv2
 obtain⟨xr,cr,hxr,orow,_⟩:=o2.get hus
 obtain⟨b',rfl⟩:∃b',xr=V.ref b':=by
  cases orow with
  | nd h r=>exact⟨_,rfl⟩
 refine⟨a',xs2,k,V.ref b',rfl,rfl,.inl (.inl hx2),?_,?_⟩
 ·unfold atI
  rw[o2.length,hj]
  exact hxr
 refine sk.pureAfter R2 h2 λH3 w' n' R3 s3 q3 h3=>?_
 obtain⟨k',rfl,h3⟩:=q3.intInv h3
 split at h3
 case h_2=>exact h3.elim
 rename_i j' hj'
 obtain⟨a3,xs3,bs3,hv3,hx3,o3,hf3⟩:=R3.ownNd hi
 rw[hv0]at hv3
 cases hv3
 have exs:xs3=xs2:=by
  have:=s3 _ _ hx2
  rw[hx3]at this
  cases this;rfl
 subst exs
 obtain⟨xr3,cr3,hxr3,orow3,hsub3⟩:=o3.get hus
 rw[hxr]at hxr3
 cases hxr3
 have nd3:=R3.nd i
 rw[hf3]at nd3
 have hn3:=Qp.mp nd3
 cases orow3 with
 | nd hb r3=>
  rename_i ws3 bs4
  have hbm:b'∈bs3:=hsub3.subset (.head _)
  have hbf:b'∈fp1 i:=by rw[hf3];exact .tail _ hbm
  have hLb:¬Lf C fp1 ex b':=λl=>l.1 ⟨i,hbf⟩
  obtain⟨as',oo,ss,_⟩:=Owns.deep (ws':=ws3.set j' v) (us':=us.set j' (.fz r.data)) hb hLb (λcs hcs=>Owns.set (.fz ((q.same s2).same s3)) j' hcs) o3 hn3.2 hxr hus
  refine⟨b',ws3,k',j',rfl,rfl,hb,by rw[r3.length];exact hj',?_⟩
  have hba:a'≠b':=λz=>hn3.1 (z▸hbm)
  -- the change
  have sub:∀a,a∈a' :: as'->a∈fp1 i:=λa m=>by
   rw[hf3]
   rcases Xp.mp m with rfl|m
   ·exact .head _
   ·exact .tail _ (ss.subset m)
  have kp:∀b o,H3 b=some o->b≠b'->upd H3 b' (.lst (ws3.set j' v)) b=some o:=λb o e n=>by rw[Z3 n];exact e
  have lw:∀a,Lf C fp1 ex a->upd H3 b' (.lst (ws3.set j' v)) a≠none->Lf C (fpu fp1 i (a' :: as')) (exu ex []) a:=λa l _=>⟨λz=>by
   rcases z.of_u with z|⟨j,_,z⟩
   ·exact l.1 ⟨i,sub a z⟩
   ·exact l.1 ⟨j,z⟩,λz=>l.2.1 (Zde.mp z),l.2.2⟩
  obtain⟨R4,S4⟩:=R3.change (new:=[]) (as':=a' :: as') (t':=.nd (ts.set j (.nd (us.set j' (.fz r.data))))) (H':=upd H3 b' (.lst (ws3.set j' v))) hi hv0 (λb o e nb=>kp b o e λz=>nb (by rw[z];exact hbf)) (λb e=>by
    by_cases q:b=b'
    ·subst q;rw[Z7]at e;cases e
    ·rwa[Z3 q]at e) (.nd (by rw[Z3 hba];exact hx3) (oo.wide lw)) (Qp.mpr ⟨λm=>hn3.1 (ss.subset m),hn3.2.sublist ss⟩) (λa m=>.inl (sub a m)) (λa m=>nomatch m)
  have k23:Kp H1 fp1 H3 fp1:=⟨λb o e _=>s3 _ _ (s2 _ _ e),λz=>(nomatch z),λa z=>.inl z,λb e=>s2.al b (s3.al b e)⟩
  exact E.nx _ σ _ _ (R4.drop λa z=>.inl z) (r1.stp.kp.trans (k23.trans S4.kp)) h3
end
variable {G:Xb}
mutual
noncomputable def Z0p:OT->Bool
 | .fz d=>Zbh d
 | .nd ts=>Zti ts
 | .tp ts=>Zti ts
 | .dc _ _ _=>false
noncomputable def Zti:List OT->Bool
 | []=>true
 | t :: ts=>Z0p t&&Zti ts
end
section
variable {X:Cx}{io:List Nat}{p c:Bool}{e:Expr}{m:MEt}
theorem Rel.freeze{C:MC G}{H:Hp}{σ:St}{δ:Zi}{fp:Fp}{ex:Addr->Prop}{i:Nat}{t:OT}(R:Rel C io H σ δ fp ex)(hio:i∉io)(hi:δ[i]? =some (some t)):Rel C io H σ (δ.set i (some (.fz t.data))) (fpu fp i []) ex:=by
 have hil:i<δ.length:=(Xu.mp hi).1
 have sub:∀j a,a∈fpu fp i [] j->j≠i∧a∈fp j:=λj a m=>by
  by_cases ej:j=i
  ·subst ej;rw[Ym]at m;exact nomatch m
  ·rw[Wb ej]at m;exact⟨ej,m⟩
 have lw:∀a,Lf C fp ex a->Lf C (fpu fp i []) ex a:=λa l=>⟨λ⟨j,z⟩=>l.1 ⟨j,(sub j a z).2⟩,l.2.1,l.2.2⟩
 have ln:∀a∈fp i,Lf C (fpu fp i []) ex a:=λa m=>⟨λ⟨j,z⟩=>(sub j a z).1 (R.dj j i a (sub j a z).2 m),R.dx i a m,.inr (by
  rcases R.new i a m with z|z
  ·exact absurd z.1 hio
  ·exact z)⟩
 refine⟨by rw[Bo];exact R.len,λj t' e=>?_,λj h=>?_,λj=>?_,λj k a h1 h2=>R.dj j k a (sub j a h1).2 (sub k a h2).2,λj a h z=>R.dx j a (sub j a h).2 z,R.xa,R.fr,R.al,λj a h=>R.new j a (sub j a h).2,R.io⟩
 ·by_cases ej:j=i
  ·subst ej
   rw[QJ hil]at e
   cases e
   obtain⟨v,e1,o⟩:=R.own j t hi
   exact⟨v,e1,by rw[Ym];exact .fz (o.da (λa l _=>lw a l) ln)⟩
  ·rw[Qv (BR ej)]at e
   obtain⟨w,e1,o⟩:=R.own j t' e
   exact⟨w,e1,by rw[Wb ej];exact o.wide λa l _=>lw a l⟩
 ·by_cases ej:j=i
  ·subst ej;rw[Ym]
  ·rw[Wb ej]
   exact R.emp j λt' z=>h t' (by rw[Qv (BR ej)];exact z)
 ·by_cases ej:j=i
  ·subst ej;rw[Ym];exact .nil
  ·rw[Wb ej];exact R.nd j
noncomputable def Zjp(i:Nat)(u:MSt):MSt:=λD δ=>match δ[i]? with|some (some t)=>u D (δ.set i (some (.fz t.data)))|_=>False
theorem Zkz{st:Stmt}{u:MSt}(i:Nat)(h:MS X io st u)(hio:i∉io:=by decide):MS X io st (Zjp i u):=by
 obtain⟨_,A,s⟩:=h
 exact⟨_,A,λC H σ δ fp ex D D' R h E=>by
  unfold Zjp at h
  split at h
  case h_2=>exact h.elim
  rename_i t hi
  refine s C H σ _ _ ex D D' (R.freeze hio hi) h (E.shift ⟨λb o e _=>e,λz=>(nomatch z),λa z=>?_,λb e=>e⟩)
  rcases z.of_u with z|⟨j,_,z⟩
  ·exact nomatch z
  ·exact .inl ⟨j,z⟩⟩
end
variable {G:Xb}
noncomputable def Z4l(ds:List Xa)(k:OT->Prop):Prop:=∃ns:List Int,ds=[.list (ns.map Xk)]∧ns.length≤63∧k (.fz (.bool true))
theorem Z6f{H:Hp}{a:Addr}{ns:List Int}{E:XK}(hl:ns.length≤63)(h:SqL G H a (ns.map V.int)):spD G Z4l [.ref a] H (λv _=>v= .bl true) E:=by
 refine⟨λ_=>True,[.list (ns.map Xk)],λr=>r= .fz (.bool true),.cons ?_ .nil,⟨ns,rfl,hl,rfl⟩,λr v H' new kr s o _ _=>?_⟩
 ·rcases h with h|h
  ·exact .lst trivial h (.ints ns)
  ·exact .scr h
 ·subst kr
  cases o with
  | fz q=>cases q;rfl
section
variable {P:X8}{w:Qs}{mg:Str->Option Xd}{base:Heap}{CX:CXT}{n:Nat}{f:Addr}{fd:XD}{ps:List Str}
theorem Da.ints_sq{H:Hp}{L:Addr->Prop}{v:V}{ns:List Int}(h:Da G H L v (.list (ns.map Xk))):∃a,v= .ref a∧SqL G H a (ns.map V.int):=by
 generalize e:Qk (ns.map Xk)=d at h
 cases h with
 | lst l e1 r=>
  cases e
  rw[r.int_inv]at e1
  exact⟨_,rfl,.inl e1⟩
 | scr k=>
  rename_i a ms
  have e':=PyData.list.inj e
  have:ns=ms:=(List.map_inj_right (λ_ _ h=>by cases h;rfl)).mp e'
  subst this
  exact⟨_,rfl,k.sq⟩
 | _=>cases e
end
@[simp] theorem Zey:OT.datas []=[]:=rfl
@[simp] theorem Zdl(t:OT)(ts:List OT):OT.datas (t :: ts)=t.data :: OT.datas ts:=rfl
theorem Zkf{α:Type}{xs:List α}{i:Int}(h0:0≤i):atI xs i=xs[i.toNat]?:=by
 unfold atI ixN
 rw[if_pos h0]
 split
 ·rfl
 ·rename_i h
  symm
  exact Qu.mpr (by omega)
theorem Zru{α:Type}{xs:List α}{i:Nat}:atI xs (i:Int)=xs[i]?:=by
 rw[Zkf (by omega),QH]
@[simp] theorem Ydb{α:Type}(x:α)(xs:List α):atI (x :: xs) 0=some x:=by
 rw[Zkf (by decide)];rfl
@[simp] theorem Yei{α:Type}(x y:α)(xs:List α):atI (x :: y :: xs) 1=some y:=by
 rw[Zkf (by decide)];rfl
@[simp] theorem Yc7{α:Type}(x y z:α)(xs:List α):atI (x :: y :: z :: xs) 2=some z:=by
 rw[Zkf (by decide)];rfl
@[simp] theorem Z7q(ds:List Xa)(i:Int):ixD (.list ds) (.int i)=atI ds i:=rfl
@[simp] theorem Z93(ds:List Xa)(i:Int):ixD (.tuple ds) (.int i)=atI ds i:=rfl
@[simp] theorem Z4o(ds:List Xa):Zv0 (.list ds)=some ds.length:=rfl
@[simp] theorem Z7w(ds:List Xa):Zv0 (.tuple ds)=some ds.length:=rfl
noncomputable def Zmd(r:List Rat):Xa:=.list (r.map frD)
noncomputable def tbD(T:List (List Rat)):Xa:=.list (T.map Zmd)
noncomputable def Z7o(r:List Rat):OT:=.nd (r.map λq=>.fz (frD q))
noncomputable def tbT(T:List (List Rat)):OT:=.nd (T.map Z7o)
@[simp] theorem Zsh(r:List Rat):(Z7o r).data=Zmd r:=by
 unfold Z7o Zmd
 rw[OT.data_nd,XJ]
 rfl
@[simp] theorem Z76(T:List (List Rat)):(tbT T).data=tbD T:=by
 unfold tbT tbD
 rw[OT.data_nd,XJ]
 exact congrArg Qk (XH λr _=>Zsh r)
noncomputable def Sq(n:Nat)(T:List (List Rat)):Prop:=T.length=n∧∀r∈T,r.length=n
noncomputable def dd(T:List (List Rat))(i j:Nat):Rat:=(T.getD i []).getD j 0
@[simp] theorem Z9k(T:List (List Rat)):Zv0 (tbD T)=some T.length:=by unfold tbD Zv0;simp
@[simp] theorem Z7t(r:List Rat):Zv0 (Zmd r)=some r.length:=by unfold Zmd Zv0;simp
@[simp] theorem Yam(q:Rat):Zbh (frD q)=true:=by unfold frD fr;simp[Zbh,Zlt]
theorem Ztm{t b:Int}(ht:0≤t)(hb:0<b):0≤Xw t b:=Rat.divInt_nonneg ht (by omega)
theorem Zo1{n a:Nat}(h:a<n):ixN n (a:Int)=some a:=by
 unfold ixN
 rw[if_pos (by omega),if_pos (by omega)];simp
theorem Sq.ixN{n a:Nat}{T:List (List Rat)}(h:Sq n T)(ha:a<n):ixN (T.map Z7o).length (a:Int)=some a:=Zo1 (by rw[Xc,h.1];exact ha)
theorem ix3{d1 d2 d3:Xa}{r:Int}(r0:0≤r)(r1:r<3):∃d,(d=d1∨d=d2∨d=d3)∧ixD (.list [d1,d2,d3]) (.int r)=some d:=by
 have:r=0∨r=1∨r=2:=by omega
 rcases this with rfl|rfl|rfl
 ·exact⟨d1,.inl rfl,rfl⟩
 ·exact⟨d2,.inr (.inl rfl),rfl⟩
 ·exact⟨d3,.inr (.inr rfl),rfl⟩
theorem Zvl{d:Xa}(h:Yr d=true):QM d d=true:=Z5c h h rfl
structure Sh(n:Nat)(d:Xa):Prop where
 lay:JQ d=true
 dep:PyData.depth d≤n
theorem Sh.shp{n:Nat}{d:Xa}(h:Sh n d)(hn:n≤64:=by decide):Z3p d:=⟨by
 show(JQ d&&decide (PyData.depth d≤64))=true
 rw[h.lay,decide_eq_true (Ql h.dep hn)];rfl⟩
theorem Zlm{n:Nat}:∀{ds:List Xa},(∀d∈ds,Sh n d)->Q8 ds=true∧PyData.depthAll ds≤n
 | [],_=>⟨by rw[Q8],by rw[PyData.depthAll];exact Q7 _⟩
 | d :: ds,h=>by
  obtain⟨h1,h2⟩:=Zlm λe m=>h e (.tail _ m)
  have h3:=h d (.head _)
  refine⟨by rw[Q8,h3.lay,h1];rfl,?_⟩
  rw[PyData.depthAll]
  exact Nat.max_le.mpr ⟨h3.dep,h2⟩
theorem Zm6{n:Nat}{ds:List Xa}(h:∀d∈ds,Sh n d):Sh (n+1) (.list ds) :=
 ⟨by rw[JQ];exact(Zlm h).1,by rw[PyData.depth];exact U7 (Zlm h).2⟩
theorem Zyx{n:Nat}{ds:List Xa}(h:∀d∈ds,Sh n d):Sh (n+1) (.tuple ds) :=
 ⟨by rw[JQ];exact(Zlm h).1,by rw[PyData.depth];exact U7 (Zlm h).2⟩
theorem Zyj(i:Int):Sh 0 (.int i):=⟨rfl,Nat.le_of_eq rfl⟩
section
variable {X:Cx}{pins:List (Addr×Obj)}{σ:St}{H:Hp}{s:Xg}
theorem Inv.turnTup{h':Heap}{ch:List Addr}{T:Addr}{xs:List V}{its:List Xd}(I:Inv X pins σ H s)(f:∀b∈ch,Zjo X pins H b)(k:∀b o,b∉ch->s.heap.get? b=some o->h'.get? b=some o)
  (th:∀b∈ch,∃o,h'.get? b=some o) (hT:s.heap.objs.size≤T) (hz:xs.length≤Xr) (r:Vals xs its) (ht:UT h' T its.toArray):Inv X pins σ (upd H T (.tup xs)) { s with heap:=h' }:=by
 have hn:H T=none:=I.hok.fresh hT
 have nch:∀b u,H b=some u->b∉ch:=λb u e z=>by rw[(f b z).1]at e;cases e
 have new:ObjOk X.prog X.w (upd H T (.tup xs)) h' T (.tup xs):=⟨hz,its,r,ht⟩
 refine I.call (ch:=ch) (g':=s.gens) (d':=s.drawn) (t':=s.toks) ⟨λb o e _ _ hc=>k b o hc e,λb o e _ _ hc=>⟨o.slots,k b o hc e⟩,λb o e n _=>?_,λb o e hc=>?_,λb ys e=>?_,λb o u e=>?_,λb ps e=>?_⟩ (λb u e=>?_) I.bare (λb hb=>?_)
 ·rw[Z3 (λz=>by rw[z]at e;exact absurd (XF e) (Nat.not_lt.mpr hT))];exact n
 ·exact⟨o,k b o hc e⟩
 ·rw[Z3 (Y4 e hn)];exact e
 ·rw[Z3 (Y4 e hn)];exact e
 ·exact⟨#[],by rw[Z3 (Y4 e hn),e];simp⟩
 ·by_cases hb:b=T
  ·subst hb;rw[Z7]at e;cases e;exact new
  ·rw[Z3 hb]at e
   refine(I.hok b u e).stay (λc v hc q=>k c v ?_ q) (λc q=>by rw[Z3 (Y4 q hn)];exact q) λc ys q=>by rw[Z3 (Y4 q hn)];exact q
   rcases hc with rfl|hc
   ·exact nch _ _ e
   ·exact nch _ _ hc
 ·obtain⟨f0,f1,f2,f3,f4,f5⟩:=f b hb
  exact⟨f3,f1,f4,f5⟩
theorem Inv.turnAll{h':Heap}{ch:List Addr}(I:Inv X pins σ H s)(f:∀b∈ch,Zjo X pins H b)(k:∀b o,b∉ch->s.heap.get? b=some o->h'.get? b=some o):Inv X pins σ H { s with heap:=h' }:=by
 have nch:∀b u,H b=some u->b∉ch:=λb u e z=>by rw[(f b z).1]at e;cases e
 refine I.call (ch:=ch) (g':=s.gens) (d':=s.drawn) (t':=s.toks) ⟨λb o e _ _ hc=>k b o hc e,λb o e _ _ hc=>⟨o.slots,k b o hc e⟩,λb o e n _=>n,λb o e hc=>⟨o,k b o hc e⟩,λb ys e=>e,λb o u e=>e,λb ps e=>⟨#[],by rw[e];simp⟩⟩ (λb u e=>?_) I.bare (λb hb=>?_)
 ·refine(I.hok b u e).stay (λc v hc q=>k c v ?_ q) (λc q=>q) λc ys q=>q
  rcases hc with rfl|hc
  ·exact nch _ _ e
  ·exact nch _ _ hc
 ·obtain⟨f0,f1,f2,f3,f4,f5⟩:=f b hb
  exact⟨f3,f1,f4,f5⟩
end
variable {G:Xb}
section
variable {X:Cx}{io:List Nat}{p c:Bool}{e a b tg:Expr}{m:MEt}{mr:MAt}
theorem Rel.keptList{C:MC G}{H:Hp}{σ:St}{δ:Zi}{fp:Fp}{ex:Addr->Prop}{v:V}{ds:List Xa}(R:Rel C io H σ δ fp ex)(q:Da G H (λa=>c=true->Lf C fp ex a) v (.list ds)) :
  ∃a xs,v= .ref a∧∀H':Hp,(∀b o,H b=some o->(c=false∨¬Foot fp b)->H' b=some o)->SqL G H' a xs∧Das G H' (λa=>c=true->(Lf C fp ex a∧H a≠none)) xs ds:=by
 generalize hd:Qk ds=d at q
 cases q with
 | lst l e r=>
  cases hd
  rename_i a0 xs0
  refine⟨a0,xs0,rfl,λH' kp=>?_⟩
  obtain⟨f1,f2⟩:=R.kept kp
  exact⟨.inl (f1 _ (.lst _) l e).2,r.frame f1 f2⟩
 | scr k=>
  rename_i a ns
  have:=PyData.list.inj hd
  subst this
  exact⟨a,_,rfl,λH' _=>⟨k.sq,.ints ns⟩⟩
 | _=>cases hd
noncomputable def Zj8(as bs:List Xa):List Xa:=(as.zip bs).map λx=>.tuple [x.1,x.2]
theorem Zi2{as bs:List Xa}{i:Nat}{d:Xa}(h:(Zj8 as bs)[i]? =some d):∃x y,as[i]? =some x∧bs[i]? =some y∧d= .tuple [x,y]:=by
 unfold Zj8 at h
 rw[Xn]at h
 cases e:(as.zip bs)[i]? with
 | none=>rw[e]at h;cases h
 | some z=>
  rw[e]at h
  cases h
  obtain⟨h1,h2⟩:=Um.mp e
  exact⟨z.1,z.2,h1,h2,rfl⟩
theorem Zrn{as bs:List Xa}{i:Nat}(h:(Zj8 as bs)[i]? =none):as.length≤i∨bs.length≤i:=by
 unfold Zj8 at h
 have:=Qu.mp h
 simp at this
 omega
@[simp] theorem Z05(as bs:List Xa):(Zj8 as bs).length=min as.length bs.length:=by simp[Zj8]
end
variable {G:Xb}
section
variable {X:Cx}{io:List Nat}{c1 c2 c3:Bool}{a b e:Expr}{ma mb mc:MEt}{pos:Pos}{f g:Int->Int->Bool}
noncomputable def Zoi(f g:Int->Int->Bool)(ma mb mc:MEt):MEt:=λδ K=>ma δ λx δ1=>mb δ1 λy δ2=>asI x.data λi=>asI y.data λj=>if f i j=true then mc δ2 λz δ3=>asI z.data λk=>K (.fz (.bool (g j k))) δ3 else K (.fz (.bool false)) δ2
theorem Z52{ta tb tc:TE}(ha:SE G io true c1 ta ma)(hb:SE G io true c2 tb mb)(hc:SE G io true c3 tc mc):SE G io true true (Zx2 (rI0 λi j=>.bl (f i j)) (rI0 λi j=>.bl (g i j)) ta tb tc) (Zoi f g ma mb mc):=by
 intro C H σ δ fp ex K Q R h k
 refine ha.pureAfter R h λH1 x u R1 s1 q1 h1=>?_
 refine hb.pureAfter R1 h1 λH2 y v R2 s2 q2 h2=>?_
 obtain⟨i,rfl,h2⟩:=q1.intInv h2
 obtain⟨j,rfl,h2⟩:=q2.intInv h2
 refine⟨i,j,rfl,rfl,f i j,rfl,?_⟩
 by_cases hf:f i j=true
 ·rw[if_pos hf]at h2⊢
  refine hc.pureAfter R2 h2 λH3 z w R3 s3 q3 h3=>?_
  obtain⟨l,rfl,h3⟩:=q3.intInv h3
  have s13:Same H H3:=(s1.trans s2).trans s3
  exact⟨j,l,rfl,rfl,k H3 _ _ δ fp [] (.fz R3 (.same s13 s13.al) (.bl _)) h3⟩
 ·rw[if_neg hf]at h2⊢
  have s12:Same H H2:=s1.trans s2
  exact k H2 _ _ δ fp [] (.fz R2 (.same s12 s12.al) (.bl _)) h2
theorem Z1j{op op':CmpOp}(ho:OpR X (JB op) (rI0 λi j=>.bl (f i j)))(ho':OpR X (JB op') (rI0 λi j=>.bl (g i j)))(ha:ME X io true c1 a ma)(hb:ME X io true c2 b mb)(hc:ME X io true c3 e mc)
  (hm:lastMarks [op,op'] [b,e]=false:=by with_unfolding_all rfl):ME X io true true (.Compare a [op,op'] [b,e] pos) (Zoi f g ma mb mc):=by
 obtain⟨_,A,sa⟩:=ha
 obtain⟨_,B,sb⟩:=hb
 obtain⟨_,D,sc⟩:=hc
 exact⟨_,Zvu ho ho' A B D hm,Z52 sa sb sc⟩
end
section
variable {X:Cx}{io:List Nat}{p c:Bool}{a b e:Expr}{ma mb m:MEt}{pos pl:Pos}
noncomputable def Yb1(m mb:MEt):MEt:=λδ K=>m δ λr δ1=>mb δ1 λn _=>asI n.data λk=>(-(2^63)≤k∧k<2^63∧k.toNat≤Xr)∧K (.nd (Xv k.toNat (.fz r.data))) δ1
theorem Zog{α:Type}(x:α):∀n:Nat,(Xv n [x]).flatten=Xv n x
 | 0=>rfl
 | n+1=>by rw[JG,Vt,Zog x n];rfl
theorem Das.rep{H:Hp}{L:Addr->Prop}{v:V}{d:Xa}(h:Da G H L v d):∀n:Nat,Das G H L (Xv n v) (Xv n d)
 | 0=>.nil
 | n+1=>.cons h (Das.rep h n)
theorem Z0w(ha:ME X io p true a m)(hb:ME X io true c b mb)(hs:Xo [a] X.env=(false,eval a X.env) :: Xo [] X.env:=by rfl):ME X io p true (.BinOp (.List [a] pl) .Mult b pos) (Yb1 m mb):=by
 obtain⟨_,A,sa⟩:=ha
 obtain⟨_,B,sb⟩:=hb
 refine⟨_,Zz6 Z3c (Zxm (Zbl A Zen hs)) B,λC H σ δ fp ex K Q R h k=>?_⟩
 refine sa C H σ δ fp ex _ _ R h λH1 v r δ1 fp1 new r1 h1=>⟨(by show 1≤Xr;decide),λl hl=>?_⟩
 have R1:=r1.base
 have s1:=Z2 hl (.lst [v])
 refine sb.pureAfter (R1.mk0 s1) h1 λH2 w n R2 s2 q2 h2=>?_
 obtain⟨i,rfl,h2⟩:=q2.intInv h2
 have q:=(((r1.da R).wide (L':=Lf C fp1 ex) λa l _=>l rfl).same s1).same s2
 refine⟨l,i,[v],rfl,rfl,s2 _ _ Z7,h2.1.1,h2.1.2.1,by show 1*i.toNat≤Xr;rw[Nat.one_mul];exact h2.1.2.2,λt ht=>?_⟩
 rw[Zog]
 have S:Stp p H δ fp H2 δ1 fp1:=by
  have:=r1.stp.trans (p':=true) (Stp.same (p:=true) (δ:=δ1) (fp:=fp1) (s1.trans s2) (s1.trans s2).al)
  rwa[VL]at this
 refine k _ _ _ δ1 fp1 [t] (RE.tree R R2 S (Z2 ht _) (Zau ht) (Zdg t) ?_) h2.2
 have:=Own.list ht ((Das.rep q i.toNat).wide (L':=λa=>true=true->Lf C fp1 ex a) λa l _ _=>l)
 rwa[V9]at this
end
variable {G:Xb}
section
variable {X:Cx}
noncomputable def Zz4:List V->Hp->VK->Prop:=λvs H Q=>∃j:Int,vs=[.int j]∧∀r,H r=none->Q (.ref r) (upd H r (.rng 0 j))
theorem Zs3:Zbt X (.type "range") Zz4:=by
 intro pins s σ H vs us Q I r h
 obtain⟨j,rfl,q⟩:=h
 obtain⟨u,rfl,t,rfl⟩:=vals1 r
 refine call_range_1 ?_
 exact⟨.ref s.heap.objs.size,_,I.laid (o:=.rng 0 j) (λb o e=>Xl _ e) (Qa _) ⟨_,_,_,X5 _ rfl⟩,rfl,q _ I.fresh⟩
noncomputable def Zvc(lo:Int)(n:Nat):List V:=(Xj n).map λ(i:Nat)=>V.int (lo+(i:Int))
noncomputable def Zw6:List V->Hp->VK->Prop:=λvs H Q=>∃r lo hi,vs=[.ref r]∧H r=some (.rng lo hi)∧(-(2^62)≤lo∧lo<2^62∧-(2^62)≤hi∧hi<2^62)∧(hi-lo).toNat≤Xr∧∀l,H l=none->Q (.ref l) (upd H l (.lst (Zvc lo (hi-lo).toNat)))
theorem Zks(lo:Int)(n:Nat):Zvc lo (n+1)= .int lo :: Zvc (lo+1) n:=by
 unfold Zvc
 rw[List.range_succ_eq_map,Qe,XJ]
 congr 1
 ·simp
 ·refine XH λi _=>?_
  show V.int (lo+((i+1:Nat):Int))=V.int (lo+1+(i:Int))
  congr 1
  omega
theorem Zo6:∀(acc:List Xd) (lo:Int),(∀(i:Nat) (v:Xd),acc[i]? =some v->∃t,v=UG (lo+i) t)->Vals (Zvc lo acc.length) acc
 | [],_,_=>.nil
 | v :: acc,lo,h=>by
  rw[Bg,Zks]
  obtain⟨t,e⟩:=h 0 v rfl
  refine .cons ⟨t,by rw[e];simp⟩ (Zo6 acc (lo+1) λi w hw=>?_)
  obtain⟨t',e'⟩:=h (i+1) w (by simpa using hw)
  refine⟨t',?_⟩
  rw[e']
  congr 1
  omega
theorem Zjm(hc:X.calm=true):Zbt X (.type "list") Zw6:=by
 intro pins s σ H vs us Q I r h
 obtain⟨a,lo,hi,rfl,e,hb,hz,q⟩:=h
 obtain⟨u,rfl,ru⟩:=vals1 r
 cases(show u=Qw a from ru)
 obtain⟨t,u',v,e1⟩:=(show ObjOk X.prog X.w H s.heap a (.rng lo hi)from I.hok a _ e)
 refine call_list_range (n:=(hi-lo).toNat) (I.ok.hd hc) e1 ?_ ?_ hz λh' tk acc c' hk hS hacc=>?_
 ·exact small_one hb.1 hb.2.1 hb.2.2.1 hb.2.2.2
 ·rw[rangeSize_one];split<;>omega
 ·refine⟨.ref s.heap.objs.size,_,I.laid (o:=.lst (Zvc lo (hi-lo).toNat)) (t':=tk) hk (Qa _) ⟨?_,acc.toList,c',?_,by simpa using hS⟩,rfl,q _ I.fresh⟩
  ·simp[Zvc];omega
  ·have:=Zo6 acc.toList lo λi v hv=>by
    obtain⟨t,e⟩:=hacc.2 i v (by simpa using hv)
    exact⟨t,by rw[e,Int.mul_one]⟩
   rwa[show acc.toList.length=(hi-lo).toNat by simpa using hacc.1]at this
end
end L2
namespace L2
open PySem PySem.Spec PyProof.Rows PySem.SeqAt
variable {G:Xb}
theorem Ztp(lo:Int)(n:Nat):Zcg lo (n+1)= .int lo :: Zcg (lo+1) n:=by
 unfold Zcg
 rw[List.range_succ_eq_map,Qe,XJ]
 congr 1
 ·simp
 ·refine XH λi _=>?_
  show Xk (lo+((i+1:Nat):Int))=Xk (lo+1+(i:Int))
  congr 1
  omega
theorem Das.rng{H:Hp}{L:Addr->Prop}:∀(n:Nat) (lo:Int),Das G H L (Zvc lo n) (Zcg lo n)
 | 0,_=>.nil
 | n+1,lo=>by
  rw[Zks,Ztp]
  exact .cons (.int _) (Das.rng n _)
section
variable {X:Cx}{io:List Nat}{p c:Bool}{a b e:Expr}{ma mb m:MEt}{mr:MAt}{pos pos' pl pr:Pos}
noncomputable def Ya5(mr:MAt):MEt:=λδ K=>mr δ λrs δ'=>n1 (λd=>asI d λj=>(-(2^62)≤j∧j<2^62∧j.toNat≤Xr)∧K (.nd ((Zcg 0 j.toNat).map OT.fz)) δ') (OT.datas rs)
theorem Z58{C:MC G}{H H1:Hp}{σ:St}{δ δ1:Zi}{fp fp1:Fp}{ex:Addr->Prop}{r l:Addr}{lo hi:Int}{n:Nat}(R:Rel C io H σ δ fp ex)(R1:Rel C io H1 σ δ1 fp1 ex)(S:Stp p H δ fp H1 δ1 fp1)(hr:H1 r=none)
  (hl:upd H1 r (.rng lo hi) l=none):RE C io p true H σ δ fp ex (upd (upd H1 r (.rng lo hi)) l (.lst (Zvc lo n))) (.ref l) (.nd ((Zcg lo n).map OT.fz)) δ1 fp1 [l]:=by
 have s1:=Z2 hr (.rng lo hi)
 have S':Stp p H δ fp (upd H1 r (.rng lo hi)) δ1 fp1:=by
  have:=S.trans (p':=true) (Stp.same (p:=true) (δ:=δ1) (fp:=fp1) s1 s1.al)
  rwa[VL]at this
 exact RE.tree R (R1.mk0 s1) S' (Z2 hl _) (Zau hl) (Zdg l) (Own.list hl (Das.rng n lo))
theorem Zkt(hc:X.calm=true)(hgl:Gl X "list")(hml:X.mg "list"=none)(hvl:X3 "list"=some (.type "list"))(hg:Gl X "range")(hm:X.mg "range"=none)(hv:X3 "range"=some (.type "range"))(ha:MA X io p c [a] mr)
  (he:Xo [a] X.env=(false,eval a X.env) :: Xo [] X.env:=by rfl) (hpl:(QW pos' (Xo [] X.env)).any (·.1)=false:=by rfl)
  (he':Xo [.Call (.Name "range" pr) [a] [] pos'] X.env=(false,eval (.Call (.Name "range" pr) [a] [] pos') X.env) :: Xo [] X.env:=by rfl) (hpl':(QW pos (Xo [] X.env)).any (·.1)=false:=by rfl) :
  ME X io p true (.Call (.Name "list" pl) [.Call (.Name "range" pr) [a] [] pos'] [] pos) (Ya5 mr):=by
 obtain⟨_,A,s⟩:=ha
 refine⟨_,Zcr (Zjm hc) hgl hml hvl (Zbl (Zcr Zs3 hg hm hv A (he:=he) (hpl:=hpl)) Zen he') (he:=he') (hpl:=hpl'),λC H σ δ fp ex K Q R h kk=>s C H σ δ fp ex _ _ R h λH1 vs rs δ1 fp1 new r1 h1=>?_⟩
 obtain⟨v,d,rfl,e2,q,h2⟩:=(r1.das R).one h1
 obtain⟨j,rfl,h2⟩:=q.intInv h2
 refine⟨j,rfl,λr hr=>⟨r,0,j,rfl,Z7,⟨by decide,by decide,h2.1.1,h2.1.2.1⟩,by rw[Int.sub_zero];exact h2.1.2.2,λl hl=>?_⟩⟩
 rw[Int.sub_zero]
 exact kk _ _ _ δ1 fp1 [l] (Z58 R r1.base r1.stp hr hl) h2.2
end
noncomputable def Zub(ns:List Int):Nat:=(ns.foldl step_dedup []).length
theorem Zly:∀(ns acc:List Int),(acc ++ ns).Nodup->ns.foldl step_dedup acc=acc ++ ns
 | [],acc,_=>by simp
 | n :: ns,acc,h=>by
  have hn:n∉acc:=λm=>(Va.mp h).2.2 n m n (.head _) rfl
  have:step_dedup acc n=acc ++ [n]:=by
   unfold step_dedup
   rw[if_neg]
   intro z
   obtain⟨x,hx,e⟩:=List.any_eq_true.mp z
   have:=eq_of_beq e
   subst this
   exact hn hx
  rw[List.foldl_cons,this,Zly ns (acc ++ [n]) (by rwa[JV])]
  simp
theorem Zpo{ns:List Int}(h:ns.Nodup):Zub ns=ns.length:=by
 unfold Zub
 rw[Zly ns [] (by simpa using h)]
 simp
theorem map_getD{ns:List Int}:(Xj ns.length).map (λi=>ns.getD i 0)=ns:=by
 refine List.ext_getElem? λi=>?_
 rw[Xn]
 by_cases h:i<ns.length
 ·rw[QV h,Option.map_some,Xe,Xi h,Uw]
 ·rw[QZ (by simpa using h),QZ (by simpa using h)];rfl
theorem Zgd:∀{ns:List Int} {its:List Xd},Vals (ns.map V.int) its->Bs its ns
 | [],_,.nil=>.nil
 | n :: ns,_,.cons r rs=>by
  obtain⟨t,e⟩:=(show∃t,_=UG n t from r)
  rw[e]
  exact .cons n t (Zgd rs)
section
variable {X:Cx}{io:List Nat}{p c:Bool}{a b e:Expr}{ma mb m:MEt}{mr:MAt}{pos pos' pl pr:Pos}
noncomputable def Z87(K:Xb):List V->Hp->VK->Prop:=λxs H Q=>∃(a:Addr) (ns:List Int),xs=[.ref a]∧SqL K H a (ns.map V.int)∧ns.length+1<scanBound∧∀(l:Addr) (S:Int->Bool),H l=none->Q (.ref l) (upd H l (.set S (Zub ns)))
theorem Zte{K:Xb}(hK:X.K=K)(hc:X.calm=true):Zbt X (.type "set") (Z87 K):=by
 subst hK
 intro pins s σ H xs us Q I r h
 obtain⟨a,ns,rfl,hs,hb,q⟩:=h
 obtain⟨u,rfl,ru⟩:=vals1 r
 cases(show u=Qw a from ru)
 obtain⟨its,rv,pl,hz⟩:=I.list hs
 have hi:=Zgd rv
 have hl:=hi.length
 refine call_set_list (items:=its.toArray) (ns:=ns) (I.ok.hd hc) pl.isList (by simpa using hi) (by simp;omega) λh' tk hS hk=>?_
 have hfm:(firstMet (λi=>ns.getD i 0) its.toArray.size).length=Zub ns:=by
  unfold firstMet Zub
  rw[show its.toArray.size=ns.length by simp[hl],map_getD]
 refine⟨.ref s.heap.objs.size,_,I.laid (o:=.set (λk'=>(firstMet (λi=>ns.getD i 0) its.toArray.size).any λx=>x==k') (Zub ns)) (t':=tk) (λb o e=>hk b o (XF e) e) (Qa _) ?_,rfl,q _ _ I.fresh⟩
 ·rw[←hfm];exact hS
noncomputable def Zy3:List V->Hp->VK->Prop:=λxs H Q=>∃(a:Addr) (S:Int->Bool) (n:Nat),xs=[.ref a]∧H a=some (.set S n)∧Q (.int n) H
theorem Znd:Zbt X (.builtin "len") Zy3:=by
 intro pins s σ H xs us Q I r h
 obtain⟨a,S,n,rfl,e,q⟩:=h
 obtain⟨u,rfl,ru⟩:=vals1 r
 cases(show u=Qw a from ru)
 obtain⟨o,es,ep,t,ho,hx,hd,_,_,hz,hf,hn⟩:=(show ObjOk X.prog X.w H s.heap a (.set S n)from I.hok a _ e)
 subst hn
 have:es.size<4096:=hz
 exact call_len_set ho hx hd hf (by omega) ⟨.int es.size,H,I.kept (h':=s.heap) (λb o e=>e),⟨_,rfl⟩,q⟩
noncomputable def Zqs(mr:MAt):MEt:=λδ K=>mr δ λrs δ'=>n1 (λd=>∃ns:List Int,d= .list (ns.map Xk)∧ns.length<4095∧K (.fz (.int (Zub ns))) δ') (OT.datas rs)
theorem Zvw(hc:X.calm=true)(hgl:Gl X "len")(hml:X.mg "len"=none)(hvl:X3 "len"=some (.builtin "len"))(hg:Gl X "set")(hm:X.mg "set"=none)(hv:X3 "set"=some (.type "set"))(ha:MA X io p c [a] mr)
  (he:Xo [a] X.env=(false,eval a X.env) :: Xo [] X.env:=by rfl) (hpl:(QW pos' (Xo [] X.env)).any (·.1)=false:=by rfl)
  (he':Xo [.Call (.Name "set" pr) [a] [] pos'] X.env=(false,eval (.Call (.Name "set" pr) [a] [] pos') X.env) :: Xo [] X.env:=by rfl) (hpl':(QW pos (Xo [] X.env)).any (·.1)=false:=by rfl) :
  ME X io p true (.Call (.Name "len" pl) [.Call (.Name "set" pr) [a] [] pos'] [] pos) (Zqs mr):=by
 obtain⟨_,A,s⟩:=ha
 refine⟨_,Zgh Znd hgl hml hvl (Zbl (Zcr (Zte rfl hc) hg hm hv A (he:=he) (hpl:=hpl)) Zen he') (he:=he') (hpl:=hpl'),λC H σ δ fp ex K Q R h kk=>s C H σ δ fp ex _ _ R h λH1 vs rs δ1 fp1 new r1 h1=>?_⟩
 obtain⟨v,d,rfl,e2,q,ns,e,hb,h2⟩:=(r1.das R).one h1
 subst e
 obtain⟨a,rfl,hs⟩:=q.ints_sq
 refine⟨a,ns,rfl,hs,by show _<4096;omega,λl S hl=>⟨l,S,_,rfl,Z7,?_⟩⟩
 have s1:=Z2 hl (.set S (Zub ns))
 have S':Stp p H δ fp (upd H1 l (.set S (Zub ns))) δ1 fp1:=by
  have:=r1.stp.trans (p':=true) (Stp.same (p:=true) (δ:=δ1) (fp:=fp1) s1 s1.al)
  rwa[VL]at this
 exact kk _ _ _ δ1 fp1 [] (.fz (r1.base.mk0 s1) S' (.int _)) h2
noncomputable def Z7x(i:Nat)(m:MEt):MEt:=λδ K=>match δ[i]? with
 | some (some (.nd _))=>m δ λn δ1=>match δ1[i]? with
  | some (some (.nd ts))=>asI n.data λj=>match ixN ts.length j with
   | some k=>match ts[k]? with
    | some (.fz d)=>ts.length≤Xr∧K (.fz d) (δ1.set i (some (.nd (ts.eraseIdx k))))
    | _=>False
   | none=>False
  | _=>False
 | _=>False
theorem Owns.erase{H:Hp}{L:Addr->Prop}:∀{xs:List V} {ts:List OT} {as:List Addr} {k:Nat} {d:Xa},Owns G H L xs ts as->ts[k]? =JR (.fz d)->Owns G H L (xs.eraseIdx k) (ts.eraseIdx k) as
 | _,_,_,_,_,.nil,e=>by simp at e
 | _,_,_,0,d,.cons q r,e=>by
  simp at e
  subst e
  cases q
  exact r
 | _,_,_,k+1,d,.cons q r,e=>.cons q (Owns.erase (k:=k) r (by simpa using e))
theorem Z22{x:Str}{px:Pos}{apos cpos:Pos}(i:Nat)(he:ME X io p c e m)(hN:X.N[i]? =some x:=by rfl)(hv:Vis X.env.scope x:=by first|exact Qq rfl|exact Qj (Qq rfl)|exact Qj (Qj rfl))(hd:(x==("__debug__" : Str))=false:=by decide)
  (hcd:(x==("__classdict__" : Str))=false:=by decide)
  (hbase:V6 (.Name x px) "pop" X.env (eval (.Name x px) X.env)=eval (.Name x px) X.env:=by rfl)
  (hfew:((QW cpos (Xo [e] X.env)).all (λx=>!x.1)&&(backToKw cpos (keywordEach [] X.env)).all (λx=>x.1.isSome)
   &&decide ([e].length+([]:List VG).length+(if([]:List VG).isEmpty then 0 else 1)<30))=true:=by rfl)
  (hline:(apos.endLine==cpos.line)=true:=by rfl) (hs:Xo [e] X.env=(false,eval e X.env) :: Xo [] X.env:=by rfl) (hplain:(QW cpos (Xo [] X.env)).any (·.1)=false:=by rfl) :
  ME X io false true (.Call (.Attribute (.Name x px) "pop" apos) [e] [] cpos) (Z7x i m):=by
 obtain⟨_,A,s⟩:=he
 refine⟨_,Zz3 Ur PySem.F.slot_list_pop PySem.F.type_list_pop Zwq (pv i hN hv hd hcd) (Zbl A Zen hs) hbase hfew hline hs hplain,λC H σ δ fp ex K Q R h kk=>?_⟩
 unfold Z7x at h
 split at h
 case h_2=>exact h.elim
 rename_i ts0 hi0
 obtain⟨a',xs0,bs0,hv0,hx0,_,_⟩:=R.ownNd hi0
 refine⟨_,hv0,.inl ⟨rfl,xs0,.inl (.inl hx0)⟩,?_⟩
 refine s C H σ δ fp ex _ _ R h λH1 v r δ1 fp1 new r1 h1=>?_
 split at h1
 case h_2=>exact h1.elim
 rename_i ts1 hi1
 obtain⟨j,rfl,h1⟩:=(r1.da R).intInv h1
 split at h1
 case h_2=>exact h1.elim
 rename_i k hk
 split at h1
 case h_2=>exact h1.elim
 rename_i d hd1
 have R1:=r1.base
 obtain⟨a1,xs1,bs1,hv1,hx1,o1,hf1⟩:=R1.ownNd hi1
 rw[hv0]at hv1
 cases hv1
 obtain⟨y,cs,hy,oy,_⟩:=o1.get hd1
 have qy:Da X.K H1 (Lf C fp1 ex) y d:=by cases oy;assumption
 obtain⟨z1,z2,z3,z4⟩:=Zmw hk
 have hz:=h1.1
 have hsz:Xr=16777216:=Qg
 refine⟨a',xs1,j,k,y,rfl,rfl,hx1,by omega,by omega,by rw[o1.length];exact z1,hy,?_⟩
 obtain⟨R2,S2⟩:=R1.top hi1 hv0 hf1 hx1 (o1.erase hd1) (List.Sublist.refl _)
 have S:=(r1.stp.trans S2).cast (p':=false) λz=>nomatch z
 refine kk _ _ _ _ _ [] (.fz R2 S ?_) h1.2
 have ne':∀a,¬Foot fp1 a->a≠a':=λa h z=>h ⟨i,by rw[z,hf1];exact .head _⟩
 have f0:∀a,¬Foot fp1 a->¬Foot (fpu fp1 i (a' :: bs1)) a:=λa h z=>by
  rcases z.of_u with z|⟨j,_,z⟩
  ·exact h ⟨i,by rw[hf1];exact z⟩
  ·exact h ⟨j,z⟩
 refine qy.frame (λa zs l q=>⟨λ_=>⟨f0 a l.1,l.2.1,l.2.2⟩,?_⟩) λa zs q=>?_
 ·rcases q with q|⟨u,q⟩
  ·exact .inl (by rw[Z3 (ne' a l.1)];exact q)
  ·exact .inr ⟨u,by rw[Z3 (ne' a l.1)];exact q⟩
 ·rw[Z3]
  ·exact q
  ·intro z
   exact ImO.nl q (z▸hx1)
end
end L2
namespace L2
open PySem PySem.Spec PyProof.Rows
structure Apart(X:Cx)(pins:List (Addr×Obj))(H:Hp)(b:Addr):Prop where
 fr:H b=none
 new:X.s₀.heap.get? b=none
 loc:b≠X.env.locals
 cel:∀x c,X.env.cells.lookup x=some c->c≠b
 pin:∀p∈X.pn ++ pins,p.1≠b
section
variable {X:Cx}{pins:List (Addr×Obj)}{σ:St}{H H':Hp}{s:Xg}{h':Heap}{b a C:Addr}
noncomputable def Fl(ap:Addr->Prop)(C a:Addr)(fl:Xd)(h:Heap):Prop:=∃a0 oe vs T oT ts,h.get? a=some oe∧(oe.cls= .ref C∧vs[0]? =some a0)∧oe.data= .fields vs∧vs[1]? =some (.ref T)∧T≠a∧h.get? T=some oT∧oT.data= .fields ts∧ts[3]? =some fl∧ap a∧ap T
noncomputable def Fl0(ap:Addr->Prop)(C a:Addr)(h:Heap):Prop:=∃a0 oe vs,h.get? a=some oe∧(oe.cls= .ref C∧vs[0]? =some a0)∧oe.data= .fields vs∧vs[1]? =some .none∧ap a
noncomputable def FlA(ap:Addr->Prop)(fl:Xd)(C a:Addr)(h:Heap):Prop:=Fl ap C a .none h∨Fl0 ap C a h∨Fl ap C a fl h
section
variable {M:Model}{A:Qo}{E:Xd->Xg->Prop}{Q:Unit->Xg->Prop}{ch:List Addr}
end
end
noncomputable def Zvx(K:Xb)(C:Addr):Prop:=PySem.W.excIn K C [.type "ValueError",.type "Exception",.type "BaseException",.type "object"] "ValueError.__new__"=true
noncomputable abbrev MXt:=Zi->(Addr->Zi->Prop)->Prop
noncomputable def XW(X:Cx)(C:MC X.K)(io:List Nat)(pins:List (Addr×Obj))(ex:Addr->Prop)(H:Hp)(fp:Fp)(k:Addr->Zi->Prop)(e:Xd)(s':Xg):Prop :=
 ∃a cl σ' H' δ' fp',e= .ref a∧Inv X pins σ' H' s'∧FlA (Apart X pins H') (rawInt X.env.locals) cl a s'.heap∧Rel C io H' σ' δ' fp' ex∧Kp H fp H' fp'∧k cl δ'
noncomputable def XS(X:Cx)(io:List Nat)(st:Stmt)(m:MXt):Prop:=∀(C:MC X.K) (pins:List (Addr×Obj)) (s:Xg) (σ:St) (H:Hp) (δ:Zi) (fp:Fp) (ex:Addr->Prop) (k:Addr->Zi->Prop),Inv X pins σ H s->Rel C io H σ δ fp ex->m δ k ->
 X4 (Qd X.prog X.w) X.A (exec st X.env) (λ_ _=>False) (XW X C io pins ex H fp k) s
noncomputable def XSs(X:Cx)(io:List Nat)(sts:List Stmt)(m:MXt):Prop:=∀(C:MC X.K) (pins:List (Addr×Obj)) (s:Xg) (σ:St) (H:Hp) (δ:Zi) (fp:Fp) (ex:Addr->Prop) (k:Addr->Zi->Prop),Inv X pins σ H s->Rel C io H σ δ fp ex->m δ k ->
 X4 (Qd X.prog X.w) X.A (execs sts X.env) (λ_ _=>False) (XW X C io pins ex H fp k) s
section
variable {X:Cx}{io:List Nat}{p c:Bool}{e:Expr}{es:List Expr}{mr:MAt}{m:MXt}{pos:Pos}{st:Stmt}{sts a b:List Stmt}{u:MSt}{w v:MXt}{mt:MTt}{i:Nat}{x:Str}
end
section
variable {P:X8}{w:Qs}{K:Xb}{mg:Str->Option Xd}{base:Heap}
end
section
variable {X:Cx}{io:List Nat}{p c:Bool}{e:Expr}{es:List Expr}{mr:MAt}{pos pp:Pos}{k:Nat}{f:Addr}{fd:XD}{ps:List Str}{x:Str}
end
section
variable {X:Cx}{pins:List (Addr×Obj)}{σ:St}{H:Hp}{s:Xg}{a C:Addr}
noncomputable abbrev Cx.suite(X:Cx)(a:Addr):Cx:={ X with A:=X.A.mark (some (.ref a)),calm:=false }
end
theorem Zyi(b:Bool)(k:Bool->Prop):asB (.bool b) k=k b:=rfl
inductive Z8l:V->Xd->Prop where
 | own (D:Addr):Z8l (.ref D) (.ref D)
 | ty (T:String):Z8l (.ty T) (.type T)
inductive ClsVs:List V->List Xd->Prop where
 | nil:ClsVs [] []
 | cons {v:V} {c:Xd} {vs:List V} {cs:List Xd}:Z8l v c->ClsVs vs cs->ClsVs (v :: vs) (c :: cs)
theorem ClsVs.length:∀{vs:List V} {cs:List Xd},ClsVs vs cs->vs.length=cs.length
 | _,_,.nil=>rfl
 | _,_,.cons _ t=>by simp[t.length]
section
variable {X:Cx}{io:List Nat}{p c:Bool}{a b:Expr}{ma:MEt}{pos pp p2:Pos}
end
end L2
namespace L2
open PySem PySem.Spec PyProof.Rows PySem.P
section
variable {prog:X8}{w:Qs}{A:Qo}{E:Xd->Xg->Prop}{s:Xg}{e t0 C:Addr}{o:Obj}{vs:Array Xd}{K:Xb}{m:Str}{tk:Tok}
structure Ycx(s:Xg)(e C t0:Addr)(m:Str)(tk:Tok):Prop where
 ob:∃o vs,s.heap.get? e=some o∧o.cls= .ref C∧o.data= .fields vs∧vs[0]? =some (.ref t0)
 tx:s.heap.TupAt t0 [.str m tk]
end
section
variable {X:Cx}{C:Addr}{x j:Str}{jk:Nat}{np cpos pos kp p1:Pos}
end
end L2
namespace L2
open PySem PySem.Spec PyProof.Rows
noncomputable abbrev FE:=Zi->Option (OT×Zi)
noncomputable abbrev FA:=Zi->Option (List OT×Zi)
noncomputable abbrev FT:=Zi->Option (Bool×Zi)
noncomputable abbrev FI:=Zi->Option (List Xa×Zi)
noncomputable abbrev FO:=Zi->Option (Option Int×Zi)
noncomputable abbrev FG:=Xa->Zi->Option Zi
noncomputable abbrev FGs:=List Xa->Zi->Option Zi
noncomputable def o2{α:Type}(f:Zi->Option (α×Zi)):Zi->(α->Zi->Prop)->Prop:=λδ K=>∃r δ',f δ=some (r,δ')∧K r δ'
noncomputable def oG(g:FG):MGt:=λd δ k=>∃δ',g d δ=some δ'∧k δ'
noncomputable def oGs(g:FGs):Zud:=λd δ k=>∃δ',g d δ=some δ'∧k δ'
section
variable {X:Cx}{io:List Nat}{p c:Bool}{e tg:Expr}{es:List Expr}{m m':MEt}{mr mr':MAt}{mt mt':MTt}{mi mi':MIt}{g g':MGt}{gs gs':Zud}{mo mo':MOt}{st:Stmt}{sts:List Stmt}{u u':MSt}{eo:Option Expr}
theorem ME.weak(h:ME X io p c e m)(w:∀δ K,m' δ K->m δ K):ME X io p c e m':=let⟨t,A,s⟩:=h;⟨t,A,λC H σ δ fp ex K Q R h k=>s C H σ δ fp ex K Q R (w δ K h) k⟩
theorem MA.weak(h:MA X io p c es mr)(w:∀δ K,mr' δ K->mr δ K):MA X io p c es mr':=let⟨t,A,s⟩:=h;⟨t,A,λC H σ δ fp ex K Q R h k=>s C H σ δ fp ex K Q R (w δ K h) k⟩
theorem MT.weak(h:MT X io p e mt)(w:∀δ K,mt' δ K->mt δ K):MT X io p e mt':=let⟨t,A,s⟩:=h;⟨t,A,λC H σ δ fp ex K Q R h k=>s C H σ δ fp ex K Q R (w δ K h) k⟩
theorem MW.weak(h:MW X io p e mt)(w:∀δ K,mt' δ K->mt δ K):MW X io p e mt':=let⟨t,A,s⟩:=h;⟨t,A,λC H σ δ fp ex K Q R h k=>s C H σ δ fp ex K Q R (w δ K h) k⟩
theorem MIfs.weak(h:MIfs X io p es mt)(w:∀δ K,mt' δ K->mt δ K):MIfs X io p es mt':=let⟨t,A,s⟩:=h;⟨t,A,λC H σ δ fp ex K Q R h k=>s C H σ δ fp ex K Q R (w δ K h) k⟩
theorem MI.weak(h:MI X io p c tg e mi)(w:∀δ K,mi' δ K->mi δ K):MI X io p c tg e mi':=let⟨t,A,s⟩:=h;⟨t,A,λC H σ δ fp ex K Q R h k=>s C H σ δ fp ex K Q R (w δ K h) k⟩
theorem MO.weak(h:MO X io p eo mo)(w:∀δ K,mo' δ K->mo δ K):MO X io p eo mo':=let⟨t,A,s⟩:=h;⟨t,A,λC H σ δ fp ex K Q R h k=>s C H σ δ fp ex K Q R (w δ K h) k⟩
theorem MG.weak(h:MG X io c tg g)(w:∀d δ K,g' d δ K->g d δ K):MG X io c tg g':=let⟨t,A,s⟩:=h;⟨t,A,λC H σ δ fp ex v d k Q R q h kk=>s C H σ δ fp ex v d k Q R q (w d δ k h) kk⟩
theorem MGs.weak(h:MGs X io c es gs)(w:∀d δ K,gs' d δ K->gs d δ K):MGs X io c es gs':=let⟨t,A,s⟩:=h;⟨t,A,λC H σ δ fp ex v d k Q R q h kk=>s C H σ δ fp ex v d k Q R q (w d δ k h) kk⟩
theorem MS.weak(h:MS X io st u)(w:∀D δ,u' D δ->u D δ):MS X io st u':=let⟨t,A,s⟩:=h;⟨t,A,λC H σ δ fp ex D D' R h E=>s C H σ δ fp ex D D' R (w D δ h) E⟩
theorem MSs.weak(h:MSs X io sts u)(w:∀D δ,u' D δ->u D δ):MSs X io sts u':=let⟨t,A,s⟩:=h;⟨t,A,λC H σ δ fp ex D D' R h E=>s C H σ δ fp ex D D' R (w D δ h) E⟩
end
noncomputable def Ze(i:Nat):FE:=λδ=>match δ[i]? with|some (some (.fz d))=>some (.fz d,δ)|_=>none
noncomputable def Zkb(i:Nat):FE:=λδ=>match δ[i]? with|some (some t)=>some (.fz t.data,δ)|_=>none
noncomputable def fC(d:Xa):FE:=λδ=>some (.fz d,δ)
noncomputable def Zf(g:Xa->Xa->Option Xa)(a b:FE):FE:=λδ=>(a δ).bind λp=>(b p.2).bind λq=>(g p.1.data q.1.data).bind λd=>some (.fz d,q.2)
noncomputable def Yi(g:Xa->Xa->Option OT)(a b:FE):FE:=λδ=>(a δ).bind λp=>(b p.2).bind λq=>(g p.1.data q.1.data).bind λd=>some (d,q.2)
noncomputable def fUn(g:Xa->Option Xa)(a:FE):FE:=λδ=>(a δ).bind λp=>(g p.1.data).bind λd=>some (.fz d,p.2)
noncomputable def Zue(a b:FE):FE:=λδ=>(a δ).bind λp=>match p.1.data with| .bool true=>b p.2| .bool false=>some (.fz (.bool false),p.2)|_=>none
noncomputable def fOr(a b:FE):FE:=λδ=>(a δ).bind λp=>match p.1.data with| .bool true=>some (.fz (.bool true),p.2)| .bool false=>b p.2|_=>none
noncomputable def fIf(t:FT)(a b:FE):FE:=λδ=>(t δ).bind λp=>if p.1=true then a p.2 else b p.2
noncomputable def tV(e:FE):FT:=λδ=>(e δ).bind λp=>match p.1 with| .fz (.bool b)=>some (b,p.2)|_=>none
noncomputable def tNo(t:FT):FT:=λδ=>(t δ).bind λp=>some (!p.1,p.2)
noncomputable def tAn(t u:FT):FT:=λδ=>(t δ).bind λp=>if p.1=true then u p.2 else some (false,p.2)
noncomputable def tO(t u:FT):FT:=λδ=>(t δ).bind λp=>if p.1=true then some (true,p.2)else u p.2
noncomputable def tD(e:FE):FT:=λδ=>(e δ).bind λp=>(Zuk p.1.data).bind λb=>some (b,p.2)
noncomputable def Zn:FA:=λδ=>some ([],δ)
noncomputable def Zc(e:FE)(a:FA):FA:=λδ=>(e δ).bind λp=>(a p.2).bind λq=>some (p.1 :: q.1,q.2)
noncomputable def Zf6(a:FA):FE:=λδ=>(a δ).bind λp=>if p.1.length≤Xr then some (.fz (.tuple (OT.datas p.1)),p.2)else none
noncomputable def Zdn(a:FA):FE:=λδ=>(a δ).bind λp=>if p.1.length≤Xr then some (.nd p.1,p.2)else none
noncomputable def Zth(e:FE):FE:=λδ=>(e δ).bind λp=>if Zbh p.1.data=true then some (.fz p.1.data,p.2)else none
noncomputable def Z5r(e:FE):FE:=λδ=>(e δ).bind λp=>if Z0p p.1=true then some (p.1,p.2)else none
inductive RF where
 | ok (r:OT)
 | exn (c:Str)
 | bad
noncomputable abbrev FD:=List Xa->RF
noncomputable abbrev FIO:=OT->List Xa->Option (OT×OT)
noncomputable def Zt(F:FD)(a:FA):FE:=λδ=>(a δ).bind λp=>match F (OT.datas p.1)with| .ok r=>some (r,p.2)|_=>none
noncomputable def Zxv(i:Nat)(F:FIO)(a:FA):FE:=λδ=>match δ[i]? with
 | some (some _)=>(a δ).bind λp=>match p.2[i]? with
  | some (some t)=>(F t (OT.datas p.1)).bind λq=>some (q.1,p.2.set i (some q.2))
  | _=>none
 | _=>none
noncomputable def Zaf(g:List Xa->Option Xa)(a:FA):FE:=λδ=>(a δ).bind λp=>(g (OT.datas p.1)).bind λd=>some (.fz d,p.2)
noncomputable def fBl(g:List Xa->Option OT)(a:FA):FE:=λδ=>(a δ).bind λp=>(g (OT.datas p.1)).bind λd=>some (d,p.2)
noncomputable def Zm0(T:String)(e:FE):FE:=λδ=>(e δ).bind λp=>if Zgp p.1.data=true then none else some (.fz (.bool (Zok T p.1.data)),p.2)
noncomputable def oN:FO:=λδ=>some (none,δ)
noncomputable def oI(e:FE):FO:=λδ=>(e δ).bind λp=>match p.1.data with| .int i=>some (some i,p.2)|_=>none
noncomputable def fSl(e:FE)(lo hi:FO):FE:=λδ=>(e δ).bind λp=>(lo p.2).bind λq=>(hi q.2).bind λr=>match p.1.data with| .list ds=>some (.nd ((cutD ds q.1 r.1).map OT.fz),r.2)|_=>none
noncomputable def Zl1(f g:Int->Int->Bool)(a b c:FE):FE:=λδ=>(a δ).bind λp=>(b p.2).bind λq=>match p.1.data,q.1.data with
 | .int i,.int j=>if f i j=true then(c q.2).bind λr=>match r.1.data with| .int k=>some (.fz (.bool (g j k)),r.2)|_=>none else some (.fz (.bool false),q.2)
 | _,_=>none
noncomputable def Zei(e:FE):FI:=λδ=>(e δ).bind λp=>match p.1.data with| .list ds=>some (ds,p.2)|_=>none
noncomputable def iTp(e:FE):FI:=λδ=>(e δ).bind λp=>match p.1.data with| .tuple ds=>some (ds,p.2)|_=>none
noncomputable def rOk(j:Int):Bool:=decide (-(2^62)≤j)&&decide (j<2^62)
theorem Zcu{j:Int}(h:rOk j=true):-(2^62)≤j∧j<2^62:=by
 unfold rOk at h
 rw[XN]at h
 exact⟨of_decide_eq_true h.1,of_decide_eq_true h.2⟩
theorem Zhs{j:Int}(h0:-1000000≤j)(h1:j≤1000000):rOk j=true:=by
 unfold rOk
 rw[decide_eq_true (show -(2^62)≤j by omega),decide_eq_true (show j<2^62 by omega)];rfl
noncomputable def iRa(a:FA):FI:=λδ=>(a δ).bind λp=>match OT.datas p.1 with|[.int j]=>if rOk j=true then some (Zcg 0 j.toNat,p.2)else none|_=>none
noncomputable def iRb(a:FA):FI:=λδ=>(a δ).bind λp=>match OT.datas p.1 with|[.int i,.int j]=>if(rOk i&&rOk j)=true then some (Zcg i (j-i).toNat,p.2)else none|_=>none
noncomputable def Z66(a:FA):FI:=λδ=>(a δ).bind λp=>match OT.datas p.1 with|[.list as,.list bs]=>some (Zj8 as bs,p.2)|_=>none
noncomputable def gNm(i:Nat):FG:=λd δ=>some (δ.set i (some (.fz d)))
noncomputable def Yd8(i:Nat):FG:=λd δ=>if Zbh d=true then some (δ.set i (some (.fz d)))else none
noncomputable def gNl:FGs:=λds δ=>match ds with|[]=>some δ|_=>none
noncomputable def gCn(g:FG)(gs:FGs):FGs:=λds δ=>match ds with|d :: r=>(g d δ).bind (gs r)|[]=>none
noncomputable def gTp(n:Nat)(gs:FGs):FG:=λd δ=>match d with| .tuple ds=>if ds.length=n then gs ds δ else none|_=>none
noncomputable def gLs(n:Nat)(gs:FGs):FG:=λd δ=>match d with| .list ds=>if ds.length=n then gs ds δ else none|_=>none
noncomputable def compLoop(g:FG)(t:FT)(e:FE):List Xa->Zi->Option (List OT×Zi)
 | [],δ=>some ([],δ)
 | d :: ds,δ=>(g d δ).bind λδ1=>(t δ1).bind λp=>if p.1=true then(e p.2).bind λq=>(compLoop g t e ds q.2).bind λz=>some (q.1 :: z.1,z.2)else compLoop g t e ds p.2
noncomputable def Yv(n:Nat)(caps:List Nat)(it:FI)(g:FG)(t:FT)(e:FE):FE:=λδ=>(it δ).bind λp=>if p.1.length≤Xr then(compLoop g t e p.1 (blk n caps p.2)).bind λz=>some (.nd z.1,p.2)else none
noncomputable def Zd0:FT:=λδ=>some (true,δ)
inductive RS where
 | nx (δ:Zi)
 | rt (r:OT) (δ:Zi)
 | bk (δ:Zi)
 | ct (δ:Zi)
 | ex (c:Str) (δ:Zi)
 | bad
noncomputable abbrev FS:=Zi->RS
noncomputable def RS.fits(D:Zia):RS->Prop
 | .nx δ=>D.nx δ
 | .rt r δ=>D.rt r δ
 | .bk δ=>D.bk δ
 | .ct δ=>D.ct δ
 | _=>False
noncomputable def oS(f:FS):MSt:=λD δ=>(f δ).fits D
noncomputable def xS(K:Xb)(f:FS):MXt:=λδ k=>∃c C δ',f δ= .ex c δ'∧ClsAt K c C∧k C δ'
noncomputable def Z1(f g:FS):FS:=λδ=>match f δ with| .nx δ'=>g δ'|r=>r
noncomputable def fNx:FS:=λδ=>.nx δ
noncomputable def Ydv:FS:=λδ=>.bk δ
noncomputable def Yc8:FS:=λδ=>.ct δ
noncomputable def wE(e:FE)(k:OT->Zi->RS):FS:=λδ=>match e δ with|some (r,δ')=>k r δ'|none=>.bad
noncomputable def wX(F:FD)(a:FA)(k:OT->Zi->RS):FS:=λδ=>match a δ with
 | some (rs,δ1)=>match F (OT.datas rs)with
  | .ok r=>k r δ1
  | .exn c=>.ex c δ1
  | .bad=>.bad
 | none=>.bad
noncomputable def Z8v:OT->Zi->RS:=λ_ δ=>.nx δ
noncomputable def Jo:OT->Zi->RS:=λr δ=>.rt r δ
noncomputable def Z9g:OT->Zi->RS:=λr δ=>if Zbh r.data=true then .rt (.fz r.data) δ else .bad
noncomputable def Yw(i:Nat):OT->Zi->RS:=λr δ=>.nx (δ.set i (some (.fz r.data)))
noncomputable def Z97(i:Nat):OT->Zi->RS:=λr δ=>if Zbh r.data=true then .nx (δ.set i (some (.fz r.data)))else .bad
noncomputable def J8(i:Nat):OT->Zi->RS:=λr δ=>.nx (δ.set i (some r))
noncomputable def Z4v(g:FG):OT->Zi->RS:=λr δ=>match g r.data δ with|some δ'=>.nx δ'|none=>.bad
noncomputable def Z99:FS:=λδ=>.rt (.fz .none) δ
noncomputable def Zb5(i:Nat):FS:=λδ=>match δ[i]? with|some (some t)=>.rt t (δ.set i none)|_=>.bad
noncomputable def Zad(t:FT)(u w:FS):FS:=λδ=>match t δ with|some (b,δ')=>if b=true then u δ' else w δ'|none=>.bad
noncomputable def Zl3(c:Str):FS:=λδ=>.ex c δ
noncomputable def Wm(i:Nat)(e:FE):FS:=λδ=>match δ[i]? with
 | some (some (.nd _))=>wE e (λr δ1=>match δ1[i]? with
  | some (some (.nd ts))=>if ts.length<Xr then .nx (δ1.set i (some (.nd (ts ++ [.fz r.data]))))else .bad
  | _=>.bad) δ
 | _=>.bad
noncomputable def Znr(i:Nat)(e:FE):FS:=λδ=>match δ[i]? with
 | some (some (.nd _))=>wE e (λr δ1=>match δ1[i]? with
  | some (some (.nd ts))=>if ts.length<Xr then .nx (δ1.set i (some (.nd (ts ++ [r]))))else .bad
  | _=>.bad) δ
 | _=>.bad
noncomputable def Yax(i:Nat)(e j:FE):FS:=wE e λr δ1=>match δ1[i]? with
 | some (some (.nd ts))=>wE j (λn _=>match n.data with
  | .int k=>match ixN ts.length k with
   | some j=>.nx (δ1.set i (some (.nd (ts.set j (.fz r.data)))))
   | none=>.bad
  | _=>.bad) δ1
 | _=>.bad
noncomputable def Zg5(i:Nat)(e j j2:FE):FS:=wE e λr δ1=>match δ1[i]? with
 | some (some (.nd ts))=>wE j (λn _=>match n.data with
  | .int k=>match ixN ts.length k with
   | some j=>match ts[j]? with
    | some (.nd us)=>wE j2 (λn' _=>match n'.data with
     | .int k'=>match ixN us.length k' with
      | some j'=>.nx (δ1.set i (some (.nd (ts.set j (.nd (us.set j' (.fz r.data)))))))
      | none=>.bad
     | _=>.bad) δ1
    | _=>.bad
   | none=>.bad
  | _=>.bad) δ1
 | _=>.bad
noncomputable def Zd5(i:Nat)(u:FS):FS:=λδ=>match δ[i]? with|some (some t)=>u (δ.set i (some (.fz t.data)))|_=>.bad
noncomputable def forLoop(g:FG)(u:FS):List Xa->Zi->RS
 | [],δ=>.nx δ
 | d :: ds,δ=>match g d δ with
  | none=>.bad
  | some δ1=>match u δ1 with
   | .nx δ2=>forLoop g u ds δ2
   | .ct δ2=>forLoop g u ds δ2
   | .bk δ2=>.nx δ2
   | r=>r
noncomputable def Jq(it:FI)(g:FG)(u:FS):FS:=λδ=>match it δ with|some (ds,δ1)=>forLoop g u ds δ1|none=>.bad
noncomputable def whileLoop(t:FT)(u:FS):Nat->Zi->RS
 | 0,_=>.bad
 | n+1,δ=>match t δ with
  | none=>.bad
  | some (b,δ1)=>if b=true then match u δ1 with
   | .nx δ2=>whileLoop t u n δ2
   | .ct δ2=>whileLoop t u n δ2
   | .bk δ2=>.nx δ2
   | .rt r δ2=>.rt r δ2
   | _=>.bad
   else .nx δ1
open Classical in
noncomputable def Zip(t:FT)(u:FS):FS:=λδ=>if h:∃n,whileLoop t u n δ≠ .bad then whileLoop t u (Classical.choose h) δ else .bad
noncomputable def Zfy(n:Nat)(ds:List Xa):Zi:=ds.map (λd=>some (.fz d)) ++ Xv (n-ds.length) none
noncomputable def Z8h(n:Nat)(t:OT)(ds:List Xa):Zi:=some t :: (ds.map (λd=>some (.fz d)) ++ Xv (n-(ds.length+1)) none)
noncomputable def RS.told:RS->RF
 | .nx _=>.ok (.fz .none)
 | .rt r _=>.ok r
 | .ex c _=>.exn c
 | _=>.bad
noncomputable def Js(np n:Nat)(S:FS):FD:=λds=>if ds.length=np then(S (Zfy n ds)).told else .bad
noncomputable def sD(F:FD):List Xa->(OT->Prop)->Prop:=λds k=>∃r,F ds= .ok r∧k r
theorem bs{α β:Type}{x:Option α}{f:α->Option β}{b:β}(h:x.bind f=some b):∃a,x=some a∧f a=some b:=Option.bind_eq_some_iff.mp h
section
variable {X:Cx}{io:List Nat}{p c:Bool}{e tg:Expr}{es:List Expr}{st:Stmt}{sts:List Stmt}{eo:Option Expr}{fa fb fc:FE}{ra:FA}{ta tb:FT}{i:Nat}
theorem W9(h:ME X io p c e (Z7u i)):ME X io p c e (o2 (Ze i)):=h.weak λδ K q91=>by
 obtain⟨r,δ',h,k⟩:=q91
 unfold Ze at h;unfold Z7u
 split at h
 ·rename_i d hd;(try rw[hd]);cases h;exact k
 ·cases h
theorem Z3u(h:ME X io p c e (Z7i i)):ME X io p c e (o2 (Zkb i)):=h.weak λδ K q92=>by
 obtain⟨r,δ',h,k⟩:=q92
 unfold Zkb at h;unfold Z7i
 split at h
 ·rename_i d hd;(try rw[hd]);cases h;exact k
 ·cases h
theorem Zhx{d:Xa}(h:ME X io p c e (mC d)):ME X io p c e (o2 (fC d)):=h.weak λδ K ⟨r,δ',h,k⟩=>by cases h;exact k
noncomputable def ByS(g:Xa->Xa->Option Xa)(rp:Xa->Xa->(Xa->Prop)->Prop):Prop:=∀d e r k,g d e=some r->k r->rp d e k
noncomputable def ByO(g:Xa->Xa->Option OT)(rp:Xa->Xa->(OT->Prop)->Prop):Prop:=∀d e r k,g d e=some r->k r->rp d e k
theorem Zx3{g rp}(G:ByS g rp){δ:Zi}{K:OT->Zi->Prop}(h:o2 (Zf g fa fb) δ K):Znb rp (o2 fa) (o2 fb) δ K:=by
 obtain⟨r,δ',h,k⟩:=h
 obtain⟨⟨x,δ1⟩,h1,h⟩:=bs h
 obtain⟨⟨y,δ2⟩,h2,h⟩:=bs h
 obtain⟨d,h3,h⟩:=bs h
 cases h
 exact⟨x,δ1,h1,y,δ2,h2,G _ _ _ _ h3 k⟩
theorem Wf{g rp}(G:ByS g rp)(h:ME X io p c e (Znb rp (o2 fa) (o2 fb))):ME X io p c e (o2 (Zf g fa fb)):=h.weak λδ K z=>Zx3 G z
theorem Ydt{f:FE}{δ:Zi}{K:Bool->Zi->Prop}(h:o2 (tV f) δ K):o2 f δ (kB K):=by
 obtain⟨b,δ',h,k⟩:=h
 obtain⟨⟨x,δ1⟩,h1,h⟩:=bs h
 refine⟨x,δ1,h1,?_⟩
 unfold kB
 try dsimp only at h⊢
 split at h
 ·cases h;exact k
 ·cases h
theorem Zbv{g rp}(G:ByS g rp)(h:MT X io p e (λδ K=>Znb rp (o2 fa) (o2 fb) δ (kB K))):MT X io p e (o2 (tV (Zf g fa fb))):=h.weak λδ K z=>Zx3 G (Ydt z)
theorem Ziq{g rp}(G:ByO g rp)(h:ME X io p c e (Z73 rp (o2 fa) (o2 fb))):ME X io p c e (o2 (Yi g fa fb)):=h.weak λδ K h=>by
 obtain⟨r,δ',h,k⟩:=h
 obtain⟨⟨x,δ1⟩,h1,h⟩:=bs h
 obtain⟨⟨y,δ2⟩,h2,h⟩:=bs h
 obtain⟨d,h3,h⟩:=bs h
 cases h
 exact⟨x,δ1,h1,y,δ2,h2,G _ _ _ _ h3 k⟩
noncomputable def Zr8:Xa->Option Xa| .int i=>some (.int (-i))|_=>none
noncomputable def Z7s:Xa->Option Xa| .bool b=>some (.bool (!b))|_=>none
theorem Znn(h:ME X io p c e (Ycg (o2 fa))):ME X io p c e (o2 (fUn Zr8 fa)):=h.weak λδ K h=>by
 obtain⟨r,δ',h,k⟩:=h
 obtain⟨⟨x,δ1⟩,h1,h⟩:=bs h
 obtain⟨d,h3,h⟩:=bs h
 cases h
 refine⟨x,δ1,h1,?_⟩
 dsimp only at h3⊢
 cases q:x.data<;>rw[q]at h3<;>cases h3
 exact k
theorem Zqv(h:ME X io p c e (Z23 (o2 fa))):ME X io p c e (o2 (fUn Z7s fa)):=h.weak λδ K h=>by
 obtain⟨r,δ',h,k⟩:=h
 obtain⟨⟨x,δ1⟩,h1,h⟩:=bs h
 obtain⟨d,h3,h⟩:=bs h
 cases h
 refine⟨x,δ1,h1,?_⟩
 dsimp only at h3⊢
 cases q:x.data<;>rw[q]at h3<;>cases h3
 exact k
theorem Zfq(h:ME X io p c e (Z5o (o2 fa) (o2 fb))):ME X io p c e (o2 (Zue fa fb)):=h.weak λδ K h=>by
 obtain⟨r,δ',h,k⟩:=h
 obtain⟨⟨x,δ1⟩,h1,h⟩:=bs h
 refine⟨x,δ1,h1,?_⟩
 try dsimp only at h⊢
 split at h
 ·rename_i q;(try rw[q]);rw[Zyi,if_pos rfl];exact⟨r,δ',h,k⟩
 ·rename_i q;(try rw[q]);cases h;rw[Zyi,if_neg XC];exact k
 ·cases h
theorem Z90(h:ME X io p c e (mIf (o2 ta) (o2 fa) (o2 fb))):ME X io p c e (o2 (fIf ta fa fb)):=h.weak λδ K h=>by
 obtain⟨r,δ',h,k⟩:=h
 obtain⟨⟨x,δ1⟩,h1,h⟩:=bs h
 refine⟨x,δ1,h1,?_⟩
 try dsimp only at h⊢
 split at h
 ·rename_i q;rw[if_pos q];exact⟨r,δ',h,k⟩
 ·rename_i q;rw[if_neg q];exact⟨r,δ',h,k⟩
theorem Zyv(h:MT X io p e (Yb6 (o2 ta))):MT X io p e (o2 (tNo ta)):=h.weak λδ K h=>by
 obtain⟨r,δ',h,k⟩:=h
 obtain⟨⟨x,δ1⟩,h1,h⟩:=bs h
 cases h
 exact⟨x,δ1,h1,k⟩
theorem Zty(h:MW X io p e (mOr (o2 ta) (o2 tb))):MW X io p e (o2 (tO ta tb)):=h.weak λδ K h=>by
 obtain⟨r,δ',h,k⟩:=h
 obtain⟨⟨x,δ1⟩,h1,h⟩:=bs h
 refine⟨x,δ1,h1,?_⟩
 try dsimp only at h⊢
 split at h
 ·rename_i q;rw[if_pos q];cases h;exact k
 ·rename_i q;rw[if_neg q];exact⟨r,δ',h,k⟩
theorem Zdx(h:MT X io p e (Yba (o2 fa))):MT X io p e (o2 (tD fa)):=h.weak λδ K h=>by
 obtain⟨r,δ',h,k⟩:=h
 obtain⟨⟨x,δ1⟩,h1,h⟩:=bs h
 obtain⟨d,h3,h⟩:=bs h
 cases h
 refine⟨x,δ1,h1,?_⟩
 dsimp only at h3⊢
 rw[h3]
 exact k
theorem Zk1(h:MA X io p c es Yb7):MA X io p c es (o2 Zn):=h.weak λδ K ⟨r,δ',h,k⟩=>by cases h;exact k
theorem Z2k(h:MA X io p c es (Z59 (o2 fa) (o2 ra))):MA X io p c es (o2 (Zc fa ra)):=h.weak λδ K h=>by
 obtain⟨r,δ',h,k⟩:=h
 obtain⟨⟨x,δ1⟩,h1,h⟩:=bs h
 obtain⟨⟨y,δ2⟩,h2,h⟩:=bs h
 cases h
 exact⟨x,δ1,h1,y,δ2,h2,k⟩
theorem Z7d(h:ME X io p c e (Ybd (o2 ra))):ME X io p c e (o2 (Zf6 ra)):=h.weak λδ K h=>by
 obtain⟨r,δ',h,k⟩:=h
 obtain⟨⟨x,δ1⟩,h1,h⟩:=bs h
 refine⟨x,δ1,h1,?_⟩
 dsimp only at h
 split at h
 ·rename_i q;cases h;exact⟨q,k⟩
 ·cases h
theorem Z5s(h:ME X io p c e (Ycb (o2 ra))):ME X io p c e (o2 (Zdn ra)):=h.weak λδ K h=>by
 obtain⟨r,δ',h,k⟩:=h
 obtain⟨⟨x,δ1⟩,h1,h⟩:=bs h
 refine⟨x,δ1,h1,?_⟩
 dsimp only at h
 split at h
 ·rename_i q;cases h;exact⟨q,k⟩
 ·cases h
theorem Zzy(h:ME X io p c e (Z5v (o2 fa))):ME X io p c e (o2 (Zth fa)):=h.weak λδ K h=>by
 obtain⟨r,δ',h,k⟩:=h
 obtain⟨⟨x,δ1⟩,h1,h⟩:=bs h
 refine⟨x,δ1,h1,?_⟩
 dsimp only at h
 split at h
 ·rename_i q;cases h;exact⟨q,k⟩
 ·cases h
theorem Zr7{F:FD}(h:ME X io p c e (Zu6 (sD F) (o2 ra))):ME X io p c e (o2 (Zt F ra)):=h.weak λδ K h=>by
 obtain⟨r,δ',h,k⟩:=h
 obtain⟨⟨x,δ1⟩,h1,h⟩:=bs h
 refine⟨x,δ1,h1,?_⟩
 dsimp only at h
 split at h
 ·rename_i q;cases h;exact⟨_,q,k⟩
 ·cases h
theorem Zes{g rp}(G:∀ds r k,g ds=some r->k r->rp ds k)(h:ME X io p c e (Z9t rp (o2 ra))):ME X io p c e (o2 (Zaf g ra)):=h.weak λδ K h=>by
 obtain⟨r,δ',h,k⟩:=h
 obtain⟨⟨x,δ1⟩,h1,h⟩:=bs h
 obtain⟨d,h3,h⟩:=bs h
 cases h
 exact⟨x,δ1,h1,G _ _ _ h3 k⟩
theorem Zvz{g rp}(G:∀ds r k,g ds=some r->k r->rp ds k)(h:ME X io p c e (mBl rp (o2 ra))):ME X io p c e (o2 (fBl g ra)):=h.weak λδ K h=>by
 obtain⟨r,δ',h,k⟩:=h
 obtain⟨⟨x,δ1⟩,h1,h⟩:=bs h
 obtain⟨d,h3,h⟩:=bs h
 cases h
 exact⟨x,δ1,h1,G _ _ _ h3 k⟩
theorem Zc8{T:String}(h:ME X io p c e (Ycq T (o2 fa))):ME X io p c e (o2 (Zm0 T fa)):=h.weak λδ K h=>by
 obtain⟨r,δ',h,k⟩:=h
 obtain⟨⟨x,δ1⟩,h1,h⟩:=bs h
 by_cases hf:Zgp x.data=true
 ·have h':(if Zgp x.data=true then none else some (OT.fz (.bool (Zok T x.data)),δ1))=some (r,δ'):=h
  rw[if_pos hf]at h'
  cases h'
 ·have h':(if Zgp x.data=true then none else some (OT.fz (.bool (Zok T x.data)),δ1))=some (r,δ'):=h
  rw[if_neg hf]at h'
  injection h' with h'
  injection h' with e1 e2
  subst e1 e2
  exact⟨x,_,h1,Vu.mpr hf,k⟩
theorem Zmv(h:MO X io p eo Ztu):MO X io p eo (o2 oN):=h.weak λδ K ⟨r,δ',h,k⟩=>by cases h;exact k
theorem Zrd(h:MO X io p eo (Z46 (o2 fa))):MO X io p eo (o2 (oI fa)):=h.weak λδ K h=>by
 obtain⟨r,δ',h,k⟩:=h
 obtain⟨⟨x,δ1⟩,h1,h⟩:=bs h
 refine⟨x,δ1,h1,?_⟩
 try dsimp only at h⊢
 split at h
 ·rename_i q;(try rw[q]);cases h;exact k
 ·cases h
theorem Z8f{lo hi:FO}(h:ME X io p c e (mSl (o2 fa) (o2 lo) (o2 hi))):ME X io p c e (o2 (fSl fa lo hi)):=h.weak λδ K h=>by
 obtain⟨r,δ',h,k⟩:=h
 obtain⟨⟨x,δ1⟩,h1,h⟩:=bs h
 obtain⟨⟨y,δ2⟩,h2,h⟩:=bs h
 obtain⟨⟨z,δ3⟩,h3,h⟩:=bs h
 refine⟨x,δ1,h1,y,δ2,h2,z,δ3,h3,?_⟩
 try dsimp only at h⊢
 split at h
 ·rename_i q;(try rw[q]);cases h;exact k
 ·cases h
theorem Z1b{f g:Int->Int->Bool}{δ:Zi}{K:OT->Zi->Prop}(h:o2 (Zl1 f g fa fb fc) δ K):Zoi f g (o2 fa) (o2 fb) (o2 fc) δ K:=by
 obtain⟨r,δ',h,k⟩:=h
 obtain⟨⟨x,δ1⟩,h1,h⟩:=bs h
 obtain⟨⟨y,δ2⟩,h2,h⟩:=bs h
 refine⟨x,δ1,h1,y,δ2,h2,?_⟩
 try dsimp only at h⊢
 split at h
 case h_2=>cases h
 rename_i i j q1 q2
 (try rw[q1,q2])
 show(if f i j=true then _ else _)
 split at h
 ·rename_i hf
  rw[if_pos hf]
  obtain⟨⟨z,δ3⟩,h3,h⟩:=bs h
  refine⟨z,δ3,h3,?_⟩
  try dsimp only at h⊢
  split at h
  ·rename_i q;(try rw[q]);cases h;exact k
  ·cases h
 ·rename_i hf
  rw[if_neg hf]
  cases h
  exact k
theorem Zva{f g:Int->Int->Bool}(h:ME X io p c e (Zoi f g (o2 fa) (o2 fb) (o2 fc))):ME X io p c e (o2 (Zl1 f g fa fb fc)):=h.weak λδ K z=>Z1b z
theorem Z1o(h:MI X io p c tg e (iL (o2 fa))):MI X io p c tg e (o2 (Zei fa)):=h.weak λδ K h=>by
 obtain⟨r,δ',h,k⟩:=h
 obtain⟨⟨x,δ1⟩,h1,h⟩:=bs h
 refine⟨x,δ1,h1,?_⟩
 try dsimp only at h⊢
 split at h
 ·rename_i q;(try rw[q]);cases h;exact k
 ·cases h
theorem Zco(h:MI X io p c tg e (iR1 (o2 ra))):MI X io p c tg e (o2 (iRa ra)):=h.weak λδ K h=>by
 obtain⟨r,δ',h,k⟩:=h
 obtain⟨⟨x,δ1⟩,h1,h⟩:=bs h
 refine⟨x,δ1,h1,?_⟩
 try dsimp only at h⊢
 split at h
 case h_2=>cases h
 rename_i q
 (try rw[q])
 try dsimp only
 split at h
 ·rename_i b;cases h;exact⟨Zcu b,k⟩
 ·cases h
theorem Z00(h:MI X io p c tg e (iR2 (o2 ra))):MI X io p c tg e (o2 (iRb ra)):=h.weak λδ K h=>by
 obtain⟨r,δ',h,k⟩:=h
 obtain⟨⟨x,δ1⟩,h1,h⟩:=bs h
 refine⟨x,δ1,h1,?_⟩
 try dsimp only at h⊢
 split at h
 case h_2=>cases h
 rename_i q
 (try rw[q])
 try dsimp only
 split at h
 ·rename_i b
  cases h
  rw[XN]at b
  exact⟨⟨(Zcu b.1).1,(Zcu b.1).2,(Zcu b.2).1,(Zcu b.2).2⟩,k⟩
 ·cases h
theorem Zng(h:MG X io c tg (dName i)):MG X io c tg (oG (gNm i)):=h.weak λd δ K ⟨δ',h,k⟩=>by cases h;exact k
theorem Zne(h:MGs X io c es Ycr):MGs X io c es (oGs gNl):=h.weak λd δ K q94=>by
 obtain⟨δ',h,k⟩:=q94
 unfold gNl at h
 split at h
 ·cases h;exact⟨rfl,k⟩
 ·cases h
theorem Zbd{g:FG}{gs:FGs}(h:MGs X io c es (Z27 (oG g) (oGs gs))):MGs X io c es (oGs (gCn g gs)):=h.weak λd δ K q95=>by
 obtain⟨δ',h,k⟩:=q95
 unfold gCn at h
 split at h
 ·obtain⟨δ1,h1,h⟩:=bs h
  exact⟨δ1,h1,δ',h,k⟩
 ·cases h
theorem Zqx{n:Nat}{gs:FGs}(h:MG X io c tg (dTup n (oGs gs))):MG X io c tg (oG (gTp n gs)):=h.weak λd δ K q96=>by
 obtain⟨δ',h,k⟩:=q96
 unfold gTp at h
 split at h
 case h_2=>cases h
 split at h
 ·rename_i q;exact⟨q,δ',h,k⟩
 ·cases h
theorem Wx(h:MIfs X io p es Z3m):MIfs X io p es (o2 Zd0):=h.weak λδ K ⟨r,δ',h,k⟩=>by cases h;exact k
theorem Z2l{g:FG}{t:FT}{me:FE}{ds:List Xa}{δ0:Zi}{zs:List OT}{δe:Zi}(h:compLoop g t me ds δ0=some (zs,δe)) :
  ∃I:Nat->List OT->Zi->Prop,I 0 [] δ0∧
 (∀ (i:Nat) (d:Xa) (rs:List OT) (δ':Zi),ds[i]? =some d->I i rs δ'->oG g d δ' λδ2=>o2 t δ2 λb δ3=>if b=true then o2 me δ3 λr δ4=>I (i+1) (rs ++ [r]) δ4 else I (i+1) rs δ3)∧
 ∀rs δ',I ds.length rs δ'->rs=zs∧δ'=δe:=by
 refine⟨λi rs δ'=>∃ys,rs ++ ys=zs∧compLoop g t me (ds.drop i) δ'=some (ys,δe),⟨zs,rfl,by rw[List.drop_zero];exact h⟩,?_,?_⟩
 ·rintro i d rs δ' hd ⟨ys,e,hl⟩
  obtain⟨hi,hdi⟩:=Xu.mp hd
  rw[List.drop_eq_getElem_cons hi,hdi]at hl
  unfold compLoop at hl
  obtain⟨δ1,h1,hl⟩:=bs hl
  obtain⟨⟨b,δ2⟩,h2,hl⟩:=bs hl
  refine⟨δ1,h1,b,δ2,h2,?_⟩
  dsimp only at hl
  split at hl
  ·rename_i hb
   rw[if_pos hb]
   obtain⟨⟨r,δ3⟩,h3,hl⟩:=bs hl
   obtain⟨⟨ws,δ4⟩,h4,hl⟩:=bs hl
   cases hl
   exact⟨r,δ3,h3,ws,by rw[JV];exact e,h4⟩
  ·rename_i hb
   rw[if_neg hb]
   exact⟨ys,e,hl⟩
 ·rintro rs δ' ⟨ys,e,hl⟩
  rw[List.drop_length]at hl
  unfold compLoop at hl
  cases hl
  exact⟨by rw[←e,QL],rfl⟩
theorem Zo5{n:Nat}{caps:List Nat}{it:FI}{g:FG}{t:FT}{me:FE}{δ:Zi}{K:OT->Zi->Prop}(h:o2 (Yv n caps it g t me) δ K):Ze7 n caps (o2 it) (oG g) (o2 t) (o2 me) δ K:=by
 obtain⟨r,δ',h,k⟩:=h
 obtain⟨⟨ds,δ1⟩,h1,h⟩:=bs h
 refine⟨ds,δ1,h1,?_⟩
 dsimp only at h
 split at h
 case isFalse=>cases h
 rename_i hz
 obtain⟨⟨zs,δe⟩,h2,h⟩:=bs h
 cases h
 obtain⟨I,i0,st,en⟩:=Z2l h2
 refine⟨hz,I,i0,st,λrs δ'' q=>?_⟩
 obtain⟨rfl,rfl⟩:=en rs δ'' q
 exact k
theorem Zas{n:Nat}{caps:List Nat}{it:FI}{g:FG}{t:FT}{me:FE}(h:ME X io p c e (Ze7 n caps (o2 it) (oG g) (o2 t) (o2 me))):ME X io p c e (o2 (Yv n caps it g t me)):=h.weak λδ K z=>Zo5 z
end
section
variable {X:Cx}{io:List Nat}{p c:Bool}{e tg iter:Expr}{es:List Expr}{st:Stmt}{sts:List Stmt}{fa fb fc:FE}{ra:FA}{ta tb:FT}{i:Nat}{f g u w:FS}
theorem Zir(h:MSs X io sts (Z95 (oS f) (oS g))):MSs X io sts (oS (Z1 f g)):=h.weak λD δ h=>by
 unfold oS Z1 at h;unfold Z95 oS
 cases q:f δ<;>rw[q]at h<;>exact h
theorem Zfr(h:MSs X io sts Z68):MSs X io sts (oS fNx):=h.weak λD δ h=>h
theorem Zqq{k:OT->Zi->RS}{D:Zia}{δ:Zi}(h:oS (wE fa k) D δ):o2 fa δ λr δ'=>(k r δ').fits D:=by
 unfold oS wE at h
 split at h
 ·rename_i q;exact⟨_,_,q,h⟩
 ·exact h.elim
theorem o2.imp{α:Type}{f:Zi->Option (α×Zi)}{δ:Zi}{K K':α->Zi->Prop}(h:o2 f δ K)(k:∀r δ',K r δ'->K' r δ'):o2 f δ K':=let⟨r,δ',e,q⟩:=h;⟨r,δ',e,k r δ' q⟩
theorem Zn9{P:Prop}[Decidable P]{a:RS}{D:Zia}(h:(if P then a else .bad:RS).fits D):P∧a.fits D:=by
 split at h
 ·exact⟨‹_›,h⟩
 ·exact h.elim
theorem Zhk(h:MS X io st (Yaw (o2 fa))):MS X io st (oS (wE fa Jo)):=h.weak λD δ h=>Zqq h
theorem Za1(h:MS X io st (Zvs i)):MS X io st (oS (Zb5 i)):=h.weak λD δ h=>by
 unfold oS Zb5 at h;unfold Zvs
 split at h
 ·rename_i q;(try rw[q]);exact h
 ·exact h.elim
theorem Zpx(h:MS X io st (Yck (o2 ta) (oS u) (oS w))):MS X io st (oS (Zad ta u w)):=h.weak λD δ h=>by
 unfold oS Zad at h
 split at h
 ·rename_i b δ' q
  refine⟨b,δ',q,?_⟩
  split at h
  ·rename_i hb;rw[if_pos hb];exact h
  ·rename_i hb;rw[if_neg hb];exact h
 ·exact h.elim
theorem Zs0(h:MS X io st (Z2t i (o2 fa))):MS X io st (oS (wE fa (Yw i))):=h.weak λD δ h=>Zqq h
theorem Z1d(h:MS X io st (Zl2 i (o2 fa))):MS X io st (oS (wE fa (J8 i))):=h.weak λD δ h=>Zqq h
section
variable {n:Nat}{caps:List Nat}{o q:Nat}{it:FI}{gg:FG}{t:FT}{me:FE}
theorem Zi7(h:MS X io st (if true=true then Zl2 i (Ze7 n caps (o2 it) (oG gg) (o2 t) (o2 me))else Z2t i (Ze7 n caps (o2 it) (oG gg) (o2 t) (o2 me)))):MS X io st (oS (wE (Yv n caps it gg t me) (J8 i))) :=
 h.weak λD δ h=>by rw[if_pos rfl];exact Zo5 (Zqq h)
theorem Zmj(h:MS X io st (if false=true then Zl2 i (Ze7 n caps (o2 it) (oG gg) (o2 t) (o2 me))else Z2t i (Ze7 n caps (o2 it) (oG gg) (o2 t) (o2 me)))):MS X io st (oS (wE (Yv n caps it gg t me) (Yw i))) :=
 h.weak λD δ h=>by rw[if_neg XC];exact Zo5 (Zqq h)
end
theorem Z6y{gg:FG}(h:MS X io st (Yb4 (o2 fa) (oG gg))):MS X io st (oS (wE fa (Z4v gg))):=h.weak λD δ h=>(Zqq h).imp λr δ' q=>by
 unfold Z4v at q
 split at q
 ·rename_i z;exact⟨_,z,q⟩
 ·exact q.elim
theorem J7(h:MS X io st (Zi4 i (o2 fa))):MS X io st (oS (Wm i fa)):=h.weak λD δ h=>by
 unfold oS Wm at h;unfold Zi4
 split at h
 case h_2=>exact h.elim
 rename_i q;(try rw[q])
 refine(Zqq h).imp λr δ' z=>?_
 split at z
 ·rename_i q2;(try rw[q2]);exact Zn9 z
 ·exact z.elim
theorem Zgz(h:MS X io st (Z63 i (o2 fa) (o2 fb) (o2 fc))):MS X io st (oS (Zg5 i fa fb fc)):=h.weak λD δ h=>by
 refine(Zqq h).imp λr δ' z=>?_
 split at z
 case h_2=>exact z.elim
 rename_i q;(try rw[q])
 refine(Zqq z).imp λn δ2 z=>?_
 split at z
 case h_2=>exact z.elim
 rename_i k q2;(try rw[q2])
 show match ixN _ k with|some j=>_|none=>_
 split at z
 case h_2=>exact z.elim
 rename_i q3;(try rw[q3])
 try dsimp only
 split at z
 case h_2=>exact z.elim
 rename_i q4;(try rw[q4])
 refine(Zqq z).imp λn' δ3 z=>?_
 split at z
 case h_2=>exact z.elim
 rename_i k' q5;(try rw[q5])
 show match ixN _ k' with|some j=>_|none=>_
 split at z
 ·rename_i q6;(try rw[q6]);exact z
 ·exact z.elim
theorem Zkk(h:MS X io st (Zjp i (oS u))):MS X io st (oS (Zd5 i u)):=h.weak λD δ h=>by
 unfold oS Zd5 at h;unfold Zjp
 split at h
 ·rename_i q;(try rw[q]);exact h
 ·exact h.elim
theorem J4{gg:FG}{d:Xa}{ds:List Xa}{δ:Zi}:forLoop gg u (d :: ds) δ=match gg d δ with
  | none=>.bad
  | some δ1=>match u δ1 with
   | .nx δ2=>forLoop gg u ds δ2
   | .ct δ2=>forLoop gg u ds δ2
   | .bk δ2=>.nx δ2
   | r=>r:=rfl
theorem Zx6{it:FI}{gg:FG}(h:MS X io st (Yay (o2 it) (oG gg) (oS u))):MS X io st (oS (Jq it gg u)):=h.weak λD δ h=>by
 unfold oS Jq at h
 split at h
 case h_2=>exact h.elim
 rename_i ds δ1 q
 refine⟨ds,δ1,q,λi δ'=>(forLoop gg u (ds.drop i) δ').fits D,by show RS.fits D (forLoop gg u (ds.drop 0) δ1);rw[List.drop_zero];exact h,λi d δ' hd z=>?_,λδ' z=>?_⟩
 ·obtain⟨hi,hdi⟩:=Xu.mp hd
  replace z:RS.fits D (forLoop gg u (ds.drop i) δ'):=z
  rw[List.drop_eq_getElem_cons hi,hdi,J4]at z
  split at z
  case h_1=>exact z.elim
  rename_i δ2 q2
  refine⟨δ2,q2,?_⟩
  unfold oS
  cases q3:u δ2<;>rw[q3]at z<;>(try rw[q3])<;>exact z
 ·replace z:RS.fits D (forLoop gg u (ds.drop ds.length) δ'):=z
  rw[List.drop_length]at z;exact z
theorem Zo9(h:MS X io st (Zyd (o2 ta) (oS u))):MS X io st (oS (Zip ta u)):=h.weak λD δ h=>by
 unfold oS Zip at h
 split at h
 case isFalse=>exact h.elim
 rename_i hn
 refine⟨λn δ'=>(whileLoop ta u n δ').fits D,⟨_,h⟩,λn δ' z=>?_⟩
 cases n with
 | zero=>exact z.elim
 | succ n=>
  unfold whileLoop at z
  split at z
  case h_1=>exact z.elim
  rename_i b δ1 q
  refine⟨b,δ1,q,?_⟩
  split at z
  ·rename_i hb
   rw[if_pos hb]
   refine⟨λδ''=>(whileLoop ta u n δ'').fits D,λδ'' y=>⟨n,Vk n,y⟩,?_⟩
   unfold oS
   cases q3:u δ1<;>rw[q3]at z<;>exact z
  ·rename_i hb
   rw[if_neg hb]
   exact z
theorem Zds{n m:Nat}:∀{δ:Zi},whileLoop ta u n δ≠ .bad->whileLoop ta u (n+m) δ=whileLoop ta u n δ:=by
 induction n with
 | zero=>intro δ h;exact absurd rfl h
 | succ n ih=>
  intro δ h
  rw[Nat.succ_add]
  unfold whileLoop at h⊢
  cases q:ta δ with
  | none=>rfl
  | some x=>
   obtain⟨b,δ1⟩:=x
   rw[q]at h
   try dsimp only at h⊢
   split
   ·rename_i hb
    rw[if_pos hb]at h
    cases q3:u δ1<;>rw[q3]at h<;>first|exact ih h|rfl
   ·rfl
theorem Zl9{r:RS}{δ:Zi}(n:Nat)(h:whileLoop ta u n δ=r)(hr:r≠ .bad):Zip ta u δ=r:=by
 have hn:∃n,whileLoop ta u n δ≠ .bad:=⟨n,by rw[h];exact hr⟩
 unfold Zip
 rw[dif_pos hn]
 have h1:=Classical.choose_spec hn
 have e1:=Zds (m:=n) h1
 have e2:=Zds (m:=Classical.choose hn) (show whileLoop ta u n δ≠ .bad by rw[h];exact hr)
 rw[Nat.add_comm]at e2
 rw[←e1,e2,h]
theorem Zjh{cn:Str}:MS X io st (oS (Zl3 cn)):=Zwg.weak λD δ h=>h
class NoEx (f:FS):Prop where
 no:∀δ cn δ',f δ≠ .ex cn δ'
class NoExK (k:OT->Zi->RS):Prop where
 no:∀r δ cn δ',k r δ≠ .ex cn δ'
end
section
variable {P:X8}{w:Qs}{K:Xb}{mg:Str->Option Xd}{base:Heap}{x qual:Str}{st:Stmt}{f:Addr}{fd:XD}{N ps:List Str}{n np nn:Nat}{S:FS}
theorem RS.told_fits{r:RS}{o:OT}{k:OT->Prop}(h:r.told= .ok o)(hk:k o):r.fits (Zzo k):=by
 cases r<;>unfold RS.told at h<;>first|(cases h;exact hk)|cases h
theorem Z5(F:Fun K x qual st f fd)(Sc:Zu N ps (Zm st))(hN:N.length=nn)(hp:np=ps.length)
  (hb:∀(cdv:Xd) (A:Qo) (outer:List Env) (s:Xg) (H:Hp) (E:XK),Room n (A.deeper (envOfC qual (Zm st) s.heap.objs.size f cdv))->MSs (Zx7 CX0 P w K mg base N qual (Zm st) f cdv A outer s H E).nox [] (Zbx st) (oS S)) :
  FnOk P w K mg base CX0 (n+1) f fd ps (spD K (sD (Js np nn S))):=by
 subst hN hp
 refine F.okD Sc (λds k h=>?_) λcdv A outer s H E hr=>⟨_,hb cdv A outer s H E hr,λds k h=>?_⟩
 ·obtain⟨r,h,_⟩:=h
  unfold Js at h
  split at h
  ·assumption
  ·cases h
 ·obtain⟨r,h,hk⟩:=h
  unfold Js at h
  split at h
  ·exact RS.told_fits h hk
  ·cases h
end
noncomputable def i2(g:Int->Int->Xa):Xa->Xa->Option Xa:=λd e=>match d,e with| .int i,.int j=>some (g i j)|_,_=>none
noncomputable def i2c(c:Int->Int->Bool)(g:Int->Int->Xa):Xa->Xa->Option Xa:=λd e=>match d,e with| .int i,.int j=>if c i j=true then some (g i j)else none|_,_=>none
theorem Zpt{g:Int->Int->Xa}:ByS (i2 g) (Zvb g):=λd e r k h hk=>by
 unfold i2 at h
 split at h
 ·cases h;exact hk
 ·cases h
theorem Znz{c:Int->Int->Bool}{C:Int->Int->Prop}{g:Int->Int->Xa}(hc:∀i j,c i j=true->C i j):ByS (i2c c g) (d2I C g):=λd e r k h hk=>by
 unfold i2c at h
 split at h
 ·split at h
  ·cases h;exact⟨hc _ _ ‹_›,hk⟩
  ·cases h
 ·cases h
noncomputable def Z1s(a b:Int):Bool:=!(decide (Q6 a>shortFactorBits)&&decide (Q6 b>shortFactorBits)&&Uv (Q6 a+Q6 b))
noncomputable def Z30(_ j:Int):Bool:=decide (j≠0)&&decide (j.natAbs.log2<9000)
noncomputable def Ya0(_ j:Int):Bool:=decide (j≠0)
noncomputable def Yd2(i j:Int):Bool:=decide (0≤j∧j≤1000000∧i.natAbs<2^64)
theorem Zgk{a b:Int}:Z1s a b=true↔IntMulOk a b:=by
 unfold Z1s IntMulOk
 rw[Bool.not_eq_true',Bool.not_eq_true]
noncomputable def Zaj:=i2 λi j=>.int (i+j)
noncomputable def gSb:=i2 λi j=>.int (i-j)
noncomputable def Zcp:=i2c Z1s λi j=>.int (i*j)
noncomputable def Jp:=i2c Z30 λi j=>.int (i.fdiv j)
noncomputable def Zcb:=i2c Ya0 λi j=>.int (i.fmod j)
noncomputable def Zps:=i2c Yd2 λi j=>.int (i^j.toNat)
noncomputable def gLt:=i2 λi j=>.bool (decide (i<j))
noncomputable def gLe:=i2 λi j=>.bool (decide (i≤j))
noncomputable def gGt:=i2 λi j=>.bool (decide (j<i))
noncomputable def gGe:=i2 λi j=>.bool (decide (j≤i))
theorem Z9p:ByS Zaj (Zvb λi j=>.int (i+j)):=Zpt
theorem Z8z:ByS gSb (Zvb λi j=>.int (i-j)):=Zpt
theorem Z78:ByS Zcp (d2I MulOk λi j=>.int (i*j)):=Znz λi j h=>⟨Zgk.mp h⟩
theorem Z6e:ByS Jp (d2I Ych λi j=>.int (i.fdiv j)):=Znz λi j h=>⟨by
 unfold Z30 at h
 rw[XN]at h
 exact⟨of_decide_eq_true h.1,of_decide_eq_true h.2⟩⟩
theorem Z8k:ByS Zcb (d2I (λ_ j=>j≠0) λi j=>.int (i.fmod j)):=Znz λi j h=>of_decide_eq_true h
theorem Z9f:ByS Zps (d2I Ybt λi j=>.int (i^j.toNat)):=Znz λi j h=>⟨(of_decide_eq_true h:0≤j∧j≤1000000∧i.natAbs<2^64)⟩
theorem Z8t:ByS gLt (Zvb λi j=>.bool (decide (i<j))):=Zpt
theorem Yea:ByS gLe (Zvb λi j=>.bool (decide (i≤j))):=Zpt
theorem Ycu:ByS gGt (Zvb λi j=>.bool (decide (j<i))):=Zpt
theorem Yd1:ByS gGe (Zvb λi j=>.bool (decide (j≤i))):=Zpt
noncomputable def gEq:Xa->Xa->Option Xa:=λd e=>if(U6 d&&U6 e)=true then some (.bool (QM d e))else none
noncomputable def gNe:Xa->Xa->Option Xa:=λd e=>if(U6 d&&U6 e)=true then some (.bool (!QM d e))else none
theorem Zyl:ByS gEq dEq:=λd e r k h hk=>by
 unfold gEq at h
 split at h
 ·rename_i q
  rw[XN]at q
  cases h
  exact⟨⟨q.1⟩,⟨q.2⟩,hk⟩
 ·cases h
theorem Z7n:ByS gNe dNe:=λd e r k h hk=>by
 unfold gNe at h
 split at h
 ·rename_i q
  rw[XN]at q
  cases h
  exact⟨⟨q.1⟩,⟨q.2⟩,hk⟩
 ·cases h
noncomputable def gIs:Xa->Xa->Option Xa:=λd e=>match e with| .none=>some (.bool (Ze5 d))|_=>none
noncomputable def Zkg:Xa->Xa->Option Xa:=λd e=>match e with| .none=>some (.bool (!Ze5 d))|_=>none
theorem Zs9:ByS Zkg Z5l:=λd e r k h hk=>by
 unfold Zkg at h
 split at h
 ·cases h;exact⟨rfl,hk⟩
 ·cases h
noncomputable def Zrr(neg:Bool):Xa->Xa->Option Xa:=λd e=>match Zn2 e with
 | some ds=>if(scD d&&ds.all scD)=true then some (.bool (if neg then !memS d ds else memS d ds))else none
 | none=>none
theorem Zvr{neg:Bool}:ByS (Zrr neg) (dIn neg):=λd e r k h hk=>by
 unfold Zrr at h
 split at h
 case h_2=>cases h
 rename_i ds q
 split at h
 case isFalse=>cases h
 rename_i q2
 rw[XN]at q2
 cases h
 refine⟨q2.1,?_⟩
 cases e<;>cases q
 ·exact⟨q2.2,hk⟩
 ·exact⟨q2.2,hk⟩
noncomputable def gIx:Xa->Xa->Option OT:=λd e=>(ixD d e).bind λx=>some (.fz x)
theorem Ydz:ByO gIx dIx:=λd e r k h hk=>by
 obtain⟨x,h1,h2⟩:=bs h
 cases h2
 unfold dIx
 rw[h1]
 exact hk
noncomputable def Zug:Xa->Xa->Option OT:=λd e=>match d,e with| .list ds,.list es=>if ds.length+es.length≤Xr then some (.nd ((ds ++ es).map OT.fz))else none|_,_=>none
theorem Zvm:ByO Zug dCat:=λd e r k h hk=>by
 unfold Zug at h
 split at h
 ·split at h
  ·cases h;exact⟨‹_›,hk⟩
  ·cases h
 ·cases h
noncomputable def Za3:List Xa->Option Xa:=λds=>match ds with|[d]=>(Zv0 d).bind λn=>some (.int n)|_=>none
theorem Z0i:∀ds r k,Za3 ds=some r->k r->Yb5 ds k:=λds r k h hk=>by
 unfold Za3 at h
 split at h
 ·obtain⟨n,h1,h2⟩:=bs h
  cases h2
  show match Zv0 _ with|some n=>_|none=>_
  rw[h1]
  exact hk
 ·cases h
noncomputable def Z20:List Xa->Option Xa:=λds=>match ds with|[.int i]=>some (.int (if i<0 then -i else i))|_=>none
theorem Z1k:∀ds r k,Z20 ds=some r->k r->Ya1 ds k:=λds r k h hk=>by
 unfold Z20 at h
 split at h
 ·cases h;exact hk
 ·cases h
noncomputable def Z4m:List Xa->Option Xa:=λds=>match ds with|[.int i,.int j]=>some (.int (if j>i then j else i))|_=>none
theorem Z8c:∀ds r k,Z4m ds=some r->k r->Yau ds k:=λds r k h hk=>by
 unfold Z4m at h
 split at h
 ·cases h;exact hk
 ·cases h
noncomputable def Zyh:List Xa->Option Xa:=λds=>match ds with|[.int i,.int j]=>some (.int (if j<i then j else i))|_=>none
theorem Z50:∀ds r k,Zyh ds=some r->k r->Ya6 ds k:=λds r k h hk=>by
 unfold Zyh at h
 split at h
 ·cases h;exact hk
 ·cases h
noncomputable def Ycl:List Xa->Option Xa:=λds=>match ds with|[.int i]=>some (.int i)|[.bool b]=>some (.int (if b then 1 else 0))|_=>none
noncomputable def Zri:List Xa->Option OT:=λds=>match ds with|[d]=>(Zn2 d).bind λes=>some (.nd (es.map OT.fz))|_=>none
theorem Z5q:∀ds r k,Zri ds=some r->k r->Z6p ds k:=λds r k h hk=>by
 unfold Zri at h
 split at h
 ·obtain⟨n,h1,h2⟩:=bs h
  cases h2
  show match Zn2 _ with|some n=>_|none=>_
  rw[h1]
  exact hk
 ·cases h
noncomputable def Zew:List Xa->Option (List Int)
 | []=>some []
 | .int i :: r=>(Zew r).bind λl=>some (i :: l)
 | _ :: _=>none
theorem Ze2:∀{ds:List Xa} {ns:List Int},Zew ds=some ns->ds=ns.map Xk
 | [],_,h=>by cases h;rfl
 | .int i :: r,_,h=>by
  obtain⟨l,h1,h2⟩:=bs h
  cases h2
  rw[Ze2 h1];rfl
 | .none :: _,_,h=>by cases h
 | .bool _ :: _,_,h=>by cases h
 | .str _ :: _,_,h=>by cases h
 | .list _ :: _,_,h=>by cases h
 | .tuple _ :: _,_,h=>by cases h
 | .dict _ :: _,_,h=>by cases h
@[simp] theorem Zay:∀ns:List Int,Zew (ns.map Xk)=some ns
 | []=>rfl
 | n :: ns=>by rw[Qe,Zew,Zay ns];rfl
section
variable {X:Cx}{io:List Nat}{p c:Bool}{e tg:Expr}{es:List Expr}{st:Stmt}{fa fb fc:FE}{ra:FA}{i:Nat}
noncomputable def Z0l(a:FA):FE:=λδ=>(a δ).bind λp=>match OT.datas p.1 with|[.int j]=>if rOk j=true∧j.toNat≤Xr then some (.nd ((Zcg 0 j.toNat).map OT.fz),p.2)else none|_=>none
theorem Zxx(h:ME X io p c e (Ya5 (o2 ra))):ME X io p c e (o2 (Z0l ra)):=h.weak λδ K h=>by
 obtain⟨r,δ',h,k⟩:=h
 obtain⟨⟨x,δ1⟩,h1,h⟩:=bs h
 refine⟨x,δ1,h1,?_⟩
 dsimp only at h
 split at h
 case h_2=>cases h
 rename_i q
 split at h
 case isFalse=>cases h
 rename_i b
 cases h
 (try rw[q])
 exact⟨⟨(Zcu b.1).1,(Zcu b.1).2,b.2⟩,k⟩
noncomputable def Zuf(a b:FE):FE:=λδ=>(a δ).bind λp=>(b p.2).bind λq=>match q.1.data with| .int k=>if rOk k=true∧k.toNat≤Xr then some (.nd (Xv k.toNat (.fz p.1.data)),p.2)else none|_=>none
theorem Zr3(h:ME X io p c e (Yb1 (o2 fa) (o2 fb))):ME X io p c e (o2 (Zuf fa fb)):=h.weak λδ K h=>by
 obtain⟨r,δ',h,k⟩:=h
 obtain⟨⟨x,δ1⟩,h1,h⟩:=bs h
 obtain⟨⟨y,δ2⟩,h2,h⟩:=bs h
 refine⟨x,δ1,h1,y,δ2,h2,?_⟩
 try dsimp only at h⊢
 split at h
 case h_2=>cases h
 rename_i q
 (try rw[q])
 split at h
 case isFalse=>cases h
 rename_i b
 cases h
 have z:=Zcu b.1
 exact⟨⟨by omega,by omega,b.2⟩,k⟩
noncomputable def Zjr(a:FA):FE:=λδ=>(a δ).bind λp=>match OT.datas p.1 with|[.list es]=>(Zew es).bind λns=>if ns.length<4095 then some (.fz (.int (Zub ns)),p.2)else none|_=>none
theorem Zsp(h:ME X io p c e (Zqs (o2 ra))):ME X io p c e (o2 (Zjr ra)):=h.weak λδ K h=>by
 obtain⟨r,δ',h,k⟩:=h
 obtain⟨⟨x,δ1⟩,h1,h⟩:=bs h
 refine⟨x,δ1,h1,?_⟩
 dsimp only at h
 split at h
 case h_2=>cases h
 rename_i q
 obtain⟨ns,h2,h⟩:=bs h
 split at h
 case isFalse=>cases h
 cases h
 (try rw[q])
 exact⟨ns,by rw[Ze2 h2],‹_›,k⟩
noncomputable def Z2u(i:Nat)(a:FE):FE:=λδ=>match δ[i]? with
 | some (some (.nd _))=>(a δ).bind λp=>match p.2[i]? with
  | some (some (.nd ts))=>match p.1.data with
   | .int j=>match ixN ts.length j with
    | some k=>match ts[k]? with
     | some (.fz d)=>if ts.length≤Xr then some (.fz d,p.2.set i (some (.nd (ts.eraseIdx k))))else none
     | _=>none
    | none=>none
   | _=>none
  | _=>none
 | _=>none
theorem Zxu(h:ME X io p c e (Z7x i (o2 fa))):ME X io p c e (o2 (Z2u i fa)):=h.weak λδ K h=>by
 obtain⟨r,δ',h,k⟩:=h
 unfold Z2u at h;unfold Z7x
 split at h
 case h_2=>cases h
 rename_i q;(try rw[q])
 obtain⟨⟨x,δ1⟩,h1,h⟩:=bs h
 refine⟨x,δ1,h1,?_⟩
 try dsimp only at h⊢
 split at h
 case h_2=>cases h
 rename_i q2;(try rw[q2])
 try dsimp only
 split at h
 case h_2=>cases h
 rename_i j q3;(try rw[q3])
 show match ixN _ j with|some k=>_|none=>_
 split at h
 case h_2=>cases h
 rename_i q4;(try rw[q4]);(try dsimp only)
 split at h
 case h_2=>cases h
 rename_i q5;(try rw[q5])
 split at h
 case isFalse=>cases h
 cases h
 exact⟨‹_›,k⟩
end
variable {G:Xb}
section
variable {X:Cx}{io:List Nat}{p c:Bool}{e a b:Expr}{es:List Expr}{m ma mb:MEt}{mr:MAt}{pos apos cpos px py pt sp kp:Pos}{i j:Nat}{x y:Str}{fa fb:FE}{ra:FA}{st:Stmt}
noncomputable def Yao(a:FA):FE:=λδ=>(a δ).bind λp=>if p.1.length≤Xr then some (.tp p.1,p.2)else none
noncomputable def Zxn(i c:Nat)(e:FE):FS:=λδ=>match δ[i]? with
 | some (some (.tp ts))=>match ts[c]? with
  | some (.nd us)=>wE e (λr _=>if us.length<Xr then .nx (δ.set i (some (.tp (ts.set c (.nd (us ++ [.fz r.data]))))))else .bad) δ
  | _=>.bad
 | _=>.bad
noncomputable def Yaz(i j:Nat)(a:FA):FS:=λδ=>match a δ with
 | some (rs,δ1)=>match OT.datas rs with
  | [d,e]=>.nx ((δ1.set i (some (.fz d))).set j (some (.fz e)))
  | _=>.bad
 | none=>.bad
end
class NoStar (e:Expr):Prop where
 h:∀es env,Xo (e :: es) env=(false,eval e env) :: Xo es env
instance nx_Name{x:Str}{p:Pos}:NoStar (.Name x p):=⟨λ_ _=>rfl⟩
instance nx_Constant{x k}{p:Pos}:NoStar (.Constant x k p):=⟨λ_ _=>rfl⟩
instance nx_BinOp{a o b}{p:Pos}:NoStar (.BinOp a o b p):=⟨λ_ _=>rfl⟩
instance nx_Call{f a k}{p:Pos}:NoStar (.Call f a k p):=⟨λ_ _=>rfl⟩
instance nx_List{a}{p:Pos}:NoStar (.List a p):=⟨λ_ _=>rfl⟩
instance nx_Tuple{a k}{p:Pos}:NoStar (.Tuple a k p):=⟨λ_ _=>rfl⟩
instance nx_Subscript{a b}{p:Pos}:NoStar (.Subscript a b p):=⟨λ_ _=>rfl⟩
theorem Zd{X:Cx}{io:List Nat}{p p' c c' p2 c2:Bool}{e:Expr}{es:List Expr}{fa:FE}{ra:FA}[NoStar e](ha:ME X io p c e (o2 fa))(hr:MA X io p' c' es (o2 ra))(hc:p'=true∨c=true:=by first|exact Qq rfl|exact Qj rfl)(h2:(p&&p')=p2:=by rfl)(h3:(c&&c')=c2:=by rfl):MA X io p2 c2 (e :: es) (o2 (Zc fa ra)) :=
 h2▸h3▸Z2k (Z0r ha hr hc (NoStar.h es X.env))
theorem Zpv{X:Cx}{io:List Nat}{p p' c c':Bool}{e:Expr}{m:MEt}(h:ME X io p c e m)(h2:p=p':=by rfl)(h3:c=c':=by rfl):ME X io p' c' e m:=h2▸h3▸h
theorem Zy5{P:X8}{w:Qs}{K:Xb}{mg:Str->Option Xd}{base:Heap}{CX:CXT}{k:Nat}{f:Addr}{fd:XD}{ps:List Str}{S:List Xa->(OT->Prop)->Prop}(h:∀ds k,¬S ds k):FnOk P w K mg base CX k f fd ps (spD K S):=by
 have h':∀{vs H Q E},spD K S vs H Q E->False:=λq=>by
  obtain⟨_,ds,k,_,z,_⟩:=q
  exact h ds k z
 exact⟨λvs H Q E q=>(h' q).elim,λA outer s H args us vs Q E _ _ _ _ q=>(h' q).elim⟩
variable {G:Xb}
section
variable {X:Cx}{io:List Nat}{p c:Bool}{e a b:Expr}{es:List Expr}{m ma mb:MEt}{mr:MAt}{pos apos cpos px py pt sp kp:Pos}{i j:Nat}{x y:Str}{fa fb:FE}{ra:FA}{st:Stmt}{u:FS}
noncomputable def insI(x:Int):List Int->List Int
 | []=>[x]
 | y :: ys=>if x≤y then x :: y :: ys else y :: insI x ys
noncomputable def Wg:List Int->List Int
 | []=>[]
 | x :: xs=>insI x (Wg xs)
theorem insI_perm(x:Int):∀l,(insI x l).Perm (x :: l)
 | []=>.refl _
 | y :: ys=>by
  unfold insI
  split
  ·exact .refl _
  ·exact((insI_perm x ys).cons y).trans (.swap x y ys)
theorem Jv:∀l,(Wg l).Perm l
 | []=>.refl _
 | x :: xs=>(insI_perm x _).trans ((Jv xs).cons x)
theorem Zgv(x:Int):∀{l},l.Pairwise (·≤·)->(insI x l).Pairwise (·≤·)
 | [],_=>.cons (λ_ m=>nomatch m) .nil
 | y :: ys,h=>by
  unfold insI
  cases h with
  | cons h1 h2=>
   split
   ·rename_i c
    refine .cons (λz m=>?_) (.cons h1 h2)
    rcases Xp.mp m with rfl|m
    ·exact c
    ·exact Be c (h1 z m)
   ·rename_i c
    refine .cons (λz m=>?_) (Zgv x h2)
    rcases Xp.mp ((insI_perm x ys).mem_iff.mp m)with rfl|m
    ·omega
    ·exact h1 z m
theorem Zcx:∀l,(Wg l).Pairwise (·≤·)
 | []=>.nil
 | x :: xs=>Zgv x (Zcx xs)
theorem Zb3:∀{l₁ l₂:List Int},l₁.Perm l₂->l₁.Pairwise (·≤·)->l₂.Pairwise (·≤·)->l₁=l₂
 | [],l₂,h,_,_=>h.nil_eq
 | a :: l₁,[],h,_,_=>h.eq_nil
 | a :: l₁,b :: l₂,h,h1,h2=>by
  cases h1 with
  | cons p1 q1=>
   cases h2 with
   | cons p2 q2=>
    have e:a=b:=by
     have m1:a∈b :: l₂:=h.mem_iff.mp (.head _)
     have m2:b∈a :: l₁:=h.mem_iff.mpr (.head _)
     rcases Xp.mp m1 with e|m1
     ·exact e
     ·rcases Xp.mp m2 with e|m2
      ·exact e.symm
      ·have:=p2 a m1
       have:=p1 b m2
       omega
    subst e
    rw[Zb3 h.cons_inv q1 q2]
noncomputable def Zyp(K:Xb):List V->Hp->VK->Prop:=λxs H Q=>∃(a:Addr) (ns:List Int),xs=[.ref a]∧SqL K H a (ns.map V.int)∧ns.length<64∧∀l,H l=none->Q (.ref l) (upd H l (.lst ((Wg ns).map V.int)))
theorem Z08:∀{its:List Xd} {ns:List Int},Bs its ns->Vals (ns.map V.int) its
 | [],_,h=>by cases h;exact .nil
 | v :: its,_,h=>by
  cases h with
  | cons n t h=>exact .cons ⟨_,rfl⟩ (Z08 h)
theorem Zpz{K:Xb}(hK:X.K=K):Zbt X (.builtin "sorted") (Zyp K):=by
 subst hK
 intro pins s σ H xs us Q I r h
 obtain⟨l,ns,rfl,hs,h64,q⟩:=h
 obtain⟨u,rfl,ru⟩:=vals1 r
 cases(show u=Qw l from ru)
 obtain⟨its,rv,pl,hz⟩:=I.list hs
 have hl:=rv.length
 rw[Xc]at hl
 refine sorted_ints pl.isList (Zgd rv) (by omega) λout ns' a1 a2 a3=>?_
 obtain⟨e,he⟩:=sortedAll_at s.heap its out
 have en:ns'=Wg ns:=Zb3 (a2.trans (Jv ns).symm) a3 (Zcx ns)
 subst en
 refine⟨.ref (s.heap.objs.size+1),_,I.laid (t':=s.toks) (o:=.lst ((Wg ns).map V.int)) (λb ob q=>sortedAll_old q) (by omega) ⟨?_,out.toList,e,Z08 a1,he⟩,rfl,q _ (I.hok.fresh (by omega))⟩
 rw[Xc,(Jv ns).length_eq,Qg];omega
noncomputable def Zxi:List Xa->(OT->Prop)->Prop:=λds k=>n1 (λd=>∃ns:List Int,d= .list (ns.map Xk)∧ns.length<64∧k (.nd (((Wg ns).map Xk).map OT.fz))) ds
theorem Zxc:PN G (Zyp G) Zxi:=λH L xs ds k Q hx h kk=>by
 obtain⟨v,d,rfl,rfl,q,ns,e,h64,h⟩:=hx.one h
 have fin:∀(p:Addr),H p=none->Q (.ref p) (upd H p (.lst ((Wg ns).map V.int))):=λp hp=>kk _ _ _ [p] (Z2 hp _) (Own.list hp (Das.ints _)) (Zdg p) (Zau hp) h
 subst e
 generalize ed:Qk (ns.map Xk)=d at q
 cases q with
 | lst l e r=>
  cases ed
  exact⟨_,ns,rfl,by rw[r.int_inv]at e;exact .inl e,h64,fin⟩
 | scr ks=>
  injection ed with ed
  have:ns=_:=List.map_inj_right (λx y z=>by injection z)|>.mp ed
  subst this
  exact⟨_,_,rfl,ks.sq,h64,fin⟩
 | _=>cases ed
noncomputable def Zno:List Xa->Option OT:=λds=>match ds with|[.list es]=>(Zew es).bind λns=>if ns.length<64 then some (.nd (((Wg ns).map Xk).map OT.fz))else none|_=>none
theorem Zzg:∀ds r k,Zno ds=some r->k r->Zxi ds k:=λds r k h hk=>by
 unfold Zno at h
 split at h
 case h_2=>cases h
 obtain⟨ns,h1,h⟩:=bs h
 split at h
 case isFalse=>cases h
 rename_i h2
 cases h
 exact⟨ns,by rw[Ze2 h1],h2,hk⟩
end
structure Gives(P:X8)(w:Qs)(it:Addr)(f:List Addr)(St:Heap->Prop)(x:Xd)(St':Heap->Prop):Prop where
 mem:it∈f
 run:∀{A:Qo} {E:Xd->Xg->Prop} {s:Xg} {Q:Xd->Xg->Prop},St s.heap->(∀h',St' h'->Vj it s.heap h'->Q x { s with heap:=h' })->X4 (Qd P w) A (QD (.ref it)) Q E s
 keep:∀h h',(∀c∈f,∀o,h.get? c=some o->h'.get? c=some o)->St h->St h'
 keep':∀h h',(∀c∈f,∀o,h.get? c=some o->h'.get? c=some o)->St' h->St' h'
structure Zio(P:X8)(w:Qs)(it:Addr)(f:List Addr)(St:Heap->Prop):Prop where
 mem:it∈f
 run:∀{A:Qo} {E:Xd->Xg->Prop} {s:Xg} {Q:Xd->Xg->Prop},A.handled=none->St s.heap->(∀h' e,Heap.ExtBut it s.heap h'->(∃o,h'.get? e=some o∧o.cls= .type "StopIteration")->E (.ref e) { s with heap:=h' })->X4 (Qd P w) A (QD (.ref it)) Q E s
 keep:∀h h',(∀c∈f,∀o,h.get? c=some o->h'.get? c=some o)->St h->St h'
structure ZA(z TI TO i1 i2:Addr)(f1 f2:List Addr):Prop where
 TIz:TI≠z
 TOz:TO≠z
 a1:∀c∈f1,c≠z∧c≠TO∧c≠i2
 a2:∀c∈f2,c≠z∧c≠TO∧c≠i1
section
variable {P:X8}{w:Qs}{A:Qo}{E:Xd->Xg->Prop}{s:Xg}
theorem Zj3{T:Addr}{a b x:Xd}{k:Nat}{Q:Unit->Xg->Prop}(hT:Bj s.heap T a b)(h:∀h',h'.get? T=some { cls:=.type "tuple",data:=.seq ((#[a,b]:Array Xd).setIfInBounds k x) }->Vj T s.heap h'->Q () { s with heap:=h' }) :
  X4 (Qd P w) A (updateSeq T (·.setIfInBounds k x)) Q E s:=wpAny_updateSeq_pair hT h
theorem Zs4{z TI TO i1 i2:Addr}{f1 f2:List Addr}{S1 T1 S2 T2:Heap->Prop}{x y a b:Xd}{Q:Xd->Xg->Prop}(D:ZA z TI TO i1 i2 f1 f2)(G1:Gives P w i1 f1 S1 x T1)(G2:Gives P w i2 f2 S2 y T2)
  (hz:UL s.heap z TI TO .none) (hTI:Bj s.heap TI (.ref i1) (.ref i2)) (hTO:Bj s.heap TO a b) (h1:S1 s.heap) (h2:S2 s.heap)
  (hQ:∀h',UL h' z TI TO (rawInt s.heap.objs.size)->Bj h' TO x y->T1 h'->T2 h'->Bj h' s.heap.objs.size x y ->
   (∀ c o,c∉[z,TO,i1,i2]->s.heap.get? c=some o->h'.get? c=some o)->Q (.ref s.heap.objs.size) { s with heap:=h' }) :
  X4 (Qd P w) A (Builtin.«zip.__next__» ⟨[.ref z],[]⟩) (λfin s'=>∃v,fin= .done (.ret v)∧Q v s') E s:=by
 obtain⟨i1z,i1O,i12⟩:=D.a1 i1 G1.mem
 obtain⟨i2z,i2O,i21⟩:=D.a2 i2 G2.mem
 have r1:z∉f1∧TO∉f1∧i2∉f1:=⟨λm=>(D.a1 z m).1 rfl,λm=>(D.a1 TO m).2.1 rfl,λm=>(D.a1 i2 m).2.2 rfl⟩
 have r2:z∉f2∧TO∉f2∧i1∉f2:=⟨λm=>(D.a2 z m).1 rfl,λm=>(D.a2 TO m).2.1 rfl,λm=>(D.a2 i1 m).2.2 rfl⟩
 have st:∀{b:Addr} {h h':Heap} {f:List Addr},Vj b h h'->b∉f->∀c∈f,∀o,h.get? c=some o->h'.get? c=some o:=λsb hb c hc o e=>sb.extBut _ _ (λq=>hb (q▸hc)) e
 show X4 _ _ (field (.ref z) 2>>=_) _ _ _
 refine Xh (Bl hz rfl (x:=.bool false) rfl ?_)
 show X4 _ _ (field (.ref z) 3>>=_) _ _ _
 refine Xh (Bl hz rfl (x:=.ref TI) rfl (Xh (BK hTI rfl ?_)))
 show X4 _ _ (JP (.ref z)>>=_) _ _ _
 refine Xh ?_
 unfold JP
 refine Xh (Bl hz rfl (x:=.none) rfl (X7 ?_))
 simp only[if_true]
 refine Xh (wpAny_rule (Xh (Bl hz rfl (x:=.ref TO) rfl (Xh (BX hz (by simp) λh3 z3 b3=>?_)))))
 replace z3:UL h3 z TI TO .ellipsis:=z3
 refine Xh ?_
 simp only[List.zipIdx_cons,List.zipIdx_nil,List.forIn_cons,Ua]
 refine Xh (Xh (wpAny_onRaise ?_))
 show X4 _ _ (QD (.ref i1)>>=_) _ _ _
 refine Xh (G1.run (s:={ s with heap:=h3 }) (G1.keep _ _ (st b3 r1.1) h1) λh4 k4 b4=>X7 ?_)
 have o4:Bj h4 TO a b:=b4.extBut _ _ i1O.symm (b3.extBut _ _ D.TOz hTO)
 refine Xh (BK o4 rfl (Xh (Zj3 (s:={ s with heap:=h4 }) o4 λh5 o5 b5=>Xh (wpAny_letGo (X7 ?_)))))
 replace o5:Bj h5 TO x b:=o5
 refine Xh (Xh (wpAny_onRaise ?_))
 show X4 _ _ (QD (.ref i2)>>=_) _ _ _
 refine Xh (G2.run (s:={ s with heap:=h5 }) (G2.keep _ _ (st b5 r2.2.1) (G2.keep _ _ (st b4 r2.2.2) (G2.keep _ _ (st b3 r2.1) h2))) λh6 k6 b6=>X7 ?_)
 have o6:Bj h6 TO x b:=b6.extBut _ _ i2O.symm o5
 refine Xh (BK o6 rfl (Xh (Zj3 (s:={ s with heap:=h6 }) o6 λh7 o7 b7=>Xh (wpAny_letGo (X7 (X7 ?_))))))
 replace o7:Bj h7 TO x y:=o7
 refine Xh (BK o7 rfl (Xh (wpAny_newTuple ?_)))
 have sz:h7.objs.size=s.heap.objs.size:=by rw[b7.1,b6.1,b5.1,b4.1,b3.1]
 have z7:UL h7 z TI TO .ellipsis:=b7.extBut _ _ D.TOz.symm (b6.extBut _ _ i2z.symm (b5.extBut _ _ D.TOz.symm (b4.extBut _ _ i1z.symm z3)))
 have t1:T1 h7:=G1.keep' _ _ (st b7 r1.2.1) (G1.keep' _ _ (st b6 r1.2.2) (G1.keep' _ _ (st b5 r1.2.1) k4))
 have t2:T2 h7:=G2.keep' _ _ (st b7 r2.2.1) k6
 have old:∀c o,c∉[z,TO,i1,i2]->s.heap.get? c=some o->h7.get? c=some o:=λc o n e=>by
  simp only[Xp,VB,or_false,not_or]at n
  exact b7.extBut _ _ n.2.1 (b6.extBut _ _ n.2.2.2 (b5.extBut _ _ n.2.1 (b4.extBut _ _ n.2.2.1 (b3.extBut _ _ n.1 e))))
 show X4 _ _ (Ub (.ref z) (.ref h7.objs.size)>>=_) _ _ _
 refine Xh ?_
 unfold Ub
 have zp:UL (h7.push { cls:=.type "tuple",data:=.seq #[x,y] }) z TI TO .ellipsis:=Xl _ z7
 refine Xh (BX zp (by simp) λh8 z8 b8=>?_)
 replace z8:UL h8 z TI TO (rawInt h7.objs.size):=z8
 refine BX z8 (by simp) λh9 z9 b9=>?_
 replace z9:UL h9 z TI TO (rawInt h7.objs.size):=z9
 have up:∀c o,c≠z->h7.get? c=some o->h9.get? c=some o:=λc o n e=>b9.extBut _ _ n (b8.extBut _ _ n (Xl _ e))
 have nz:h7.objs.size≠z:=XR (XF z7)
 have p9:Bj h9 h7.objs.size x y:=b9.extBut _ _ nz (b8.extBut _ _ nz (X5 _ rfl))
 refine X7 ⟨_,rfl,?_⟩
 show Q (.ref h7.objs.size) _
 rw[sz]at z9 p9⊢
 exact hQ h9 z9 (up _ _ D.TOz o7) (G1.keep' _ _ (λc hc o e=>up c o (λq=>r1.1 (q▸hc)) e) t1) (G2.keep' _ _ (λc hc o e=>up c o (λq=>r2.1 (q▸hc)) e) t2) p9 λc o n e=>up c o (λq=>n (by simp[q])) (old c o n e)
theorem Zup{z TI TO i1 i2:Addr}{f1 f2:List Addr}{S1 T1 S2:Heap->Prop}{a b:Xd}{Q:Fin->Xg->Prop}(hh:A.handled=none)(D:ZA z TI TO i1 i2 f1 f2)(g1:Zio P w i1 f1 S1∨(∃x,Gives P w i1 f1 S1 x T1)∧Zio P w i2 f2 S2)
  (hz:UL s.heap z TI TO .none) (hTI:Bj s.heap TI (.ref i1) (.ref i2)) (hTO:Bj s.heap TO a b) (h1:S1 s.heap) (h2:S2 s.heap)
  (hE:∀h' e,(∀c o,c∉[z,TO,i1,i2]->s.heap.get? c=some o->h'.get? c=some o)->(∃o,h'.get? e=some o∧o.cls= .type "StopIteration")->E (.ref e) { s with heap:=h' }) :
  X4 (Qd P w) A (Builtin.«zip.__next__» ⟨[.ref z],[]⟩) Q E s:=by
 have r1:z∉f1∧TO∉f1∧i2∉f1:=⟨λm=>(D.a1 z m).1 rfl,λm=>(D.a1 TO m).2.1 rfl,λm=>(D.a1 i2 m).2.2 rfl⟩
 have r2:z∉f2∧TO∉f2∧i1∉f2:=⟨λm=>(D.a2 z m).1 rfl,λm=>(D.a2 TO m).2.1 rfl,λm=>(D.a2 i1 m).2.2 rfl⟩
 have st:∀{b:Addr} {h h':Heap} {f:List Addr},Vj b h h'->b∉f->∀c∈f,∀o,h.get? c=some o->h'.get? c=some o:=λsb hb c hc o e=>sb.extBut _ _ (λq=>hb (q▸hc)) e
 show X4 _ _ (field (.ref z) 2>>=_) _ _ _
 refine Xh (Bl hz rfl (x:=.bool false) rfl ?_)
 show X4 _ _ (field (.ref z) 3>>=_) _ _ _
 refine Xh (Bl hz rfl (x:=.ref TI) rfl (Xh (BK hTI rfl ?_)))
 show X4 _ _ (JP (.ref z)>>=_) _ _ _
 refine Xh ?_
 unfold JP
 refine Xh (Bl hz rfl (x:=.none) rfl (X7 ?_))
 simp only[if_true]
 refine Xh (wpAny_rule (Xh (Bl hz rfl (x:=.ref TO) rfl (Xh (BX hz (by simp) λh3 z3 b3=>?_)))))
 replace z3:UL h3 z TI TO .ellipsis:=z3
 refine Xh ?_
 simp only[List.zipIdx_cons,List.zipIdx_nil,List.forIn_cons,Ua]
 refine Xh (Xh (wpAny_onRaise ?_))
 show X4 _ _ (QD (.ref i1)>>=_) _ _ _
 rcases g1 with G1|⟨⟨x,G1⟩,G2⟩
 ·obtain⟨i1z,i1O,i12⟩:=D.a1 i1 G1.mem
  refine Xh (G1.run (s:={ s with heap:=h3 }) hh (G1.keep _ _ (st b3 r1.1) h1) λh4 e b4 he=>?_)
  obtain⟨oe,hoe,hce⟩:=he
  have z4:UL h4 z TI TO .ellipsis:=b4 _ _ i1z.symm z3
  have ez:e≠z:=λq=>by subst q;rw[z4]at hoe;cases hoe;simp at hce
  refine BX z4 (by simp) λh5 _ b5=>hE h5 e (λc o n q=>?_) ⟨oe,b5.extBut _ _ ez hoe,hce⟩
  simp only[Xp,VB,or_false,not_or]at n
  exact b5.extBut _ _ n.1 (b4 _ _ n.2.2.1 (b3.extBut _ _ n.1 q))
 ·obtain⟨i1z,i1O,i12⟩:=D.a1 i1 G1.mem
  obtain⟨i2z,i2O,i21⟩:=D.a2 i2 G2.mem
  refine Xh (G1.run (s:={ s with heap:=h3 }) (G1.keep _ _ (st b3 r1.1) h1) λh4 k4 b4=>X7 ?_)
  have o4:Bj h4 TO a b:=b4.extBut _ _ i1O.symm (b3.extBut _ _ D.TOz hTO)
  refine Xh (BK o4 rfl (Xh (Zj3 (s:={ s with heap:=h4 }) o4 λh5 o5 b5=>Xh (wpAny_letGo (X7 ?_)))))
  refine Xh (Xh (wpAny_onRaise ?_))
  show X4 _ _ (QD (.ref i2)>>=_) _ _ _
  refine Xh (G2.run (s:={ s with heap:=h5 }) hh (G2.keep _ _ (st b5 r2.2.1) (G2.keep _ _ (st b4 r2.2.2) (G2.keep _ _ (st b3 r2.1) h2))) λh6 e b6 he=>?_)
  obtain⟨oe,hoe,hce⟩:=he
  have z6:UL h6 z TI TO .ellipsis:=b6 _ _ i2z.symm (b5.extBut _ _ D.TOz.symm (b4.extBut _ _ i1z.symm z3))
  have ez:e≠z:=λq=>by subst q;rw[z6]at hoe;cases hoe;simp at hce
  refine BX z6 (by simp) λh7 _ b7=>hE h7 e (λc o n q=>?_) ⟨oe,b7.extBut _ _ ez hoe,hce⟩
  simp only[Xp,VB,or_false,not_or]at n
  exact b7.extBut _ _ n.1 (b6 _ _ n.2.2.2 (b5.extBut _ _ n.2.1 (b4.extBut _ _ n.2.2.1 (b3.extBut _ _ n.1 q))))
theorem Zp1{z TI TO i1 i2:Addr}{f1 f2:List Addr}{S1 T1 S2 T2:Heap->Prop}{x y a b:Xd}{Q:Option Xd->Xg->Prop}(D:ZA z TI TO i1 i2 f1 f2)(G1:Gives P w i1 f1 S1 x T1)(G2:Gives P w i2 f2 S2 y T2)
  (hz:UL s.heap z TI TO .none) (hTI:Bj s.heap TI (.ref i1) (.ref i2)) (hTO:Bj s.heap TO a b) (h1:S1 s.heap) (h2:S2 s.heap)
  (hQ:∀h',UL h' z TI TO (rawInt s.heap.objs.size)->Bj h' TO x y->T1 h'->T2 h'->Bj h' s.heap.objs.size x y ->
   (∀ c o,c∉[z,TO,i1,i2]->s.heap.get? c=some o->h'.get? c=some o)->Q (some (.ref s.heap.objs.size)) { s with heap:=h' }):X4 (Qd P w) A (pyNext (.ref z)) Q E s:=by
 have hT:s.TypeIs (.ref z) "zip" :=⟨_,hz,rfl⟩
 unfold pyNext
 exact Xh (wpAny_attempt (Vv (name:=Str.ofString "__next__") hT F.slot_zip_next (Vn F.slot_zip_next hT F.entry_zip_next (Zs4 D G1 G2 hz hTI hTO h1 h2 λh' a1 a2 a3 a4 a5 a6=>X7 (hQ h' a1 a2 a3 a4 a5 a6)) (F.args_zip_next_1 _))))
theorem Zsq{z TI TO i1 i2:Addr}{f1 f2:List Addr}{S1 T1 S2:Heap->Prop}{a b:Xd}{Q:Option Xd->Xg->Prop}(hh:A.handled=none)(D:ZA z TI TO i1 i2 f1 f2)(g1:Zio P w i1 f1 S1∨(∃x,Gives P w i1 f1 S1 x T1)∧Zio P w i2 f2 S2)
  (hz:UL s.heap z TI TO .none) (hTI:Bj s.heap TI (.ref i1) (.ref i2)) (hTO:Bj s.heap TO a b) (h1:S1 s.heap) (h2:S2 s.heap)
  (hQ:∀h',(∀c o,c∉[z,TO,i1,i2]->s.heap.get? c=some o->h'.get? c=some o)->Q none { s with heap:=h' }):X4 (Qd P w) A (pyNext (.ref z)) Q E s:=by
 have hT:s.TypeIs (.ref z) "zip" :=⟨_,hz,rfl⟩
 unfold pyNext
 refine Xh (wpAny_attempt (Vv (name:=Str.ofString "__next__") hT F.slot_zip_next (Vn F.slot_zip_next hT F.entry_zip_next (Zup hh D g1 hz hTI hTO h1 h2 λh' e hk he=>?_) (F.args_zip_next_1 _))))
 obtain⟨o,ho,hc⟩:=he
 exact Xh (wpAny_isInstance (T :="StopIteration") (b:=true) ⟨o,ho,hc⟩ isSubtype_stop (X7 (hQ _ hk)))
theorem Zs1{it t:Addr}{i:Nat}{items:Array Xd}{x:Xd}(hx:items[i]? =some x):Gives P w it [it,t] (λh=>IsTupIter h it t i∧UT h t items) x (λh=>IsTupIter h it t (i+1)) where
 mem:=by simp
 run:=fun{A E s Q} ⟨hit,ht⟩ hQ=>by
  obtain⟨o,ho,hc,hd⟩:=id hit
  obtain⟨ol,hol,_,nl,hdl⟩:=ht
  unfold QD
  refine Xh (Vv (name:=Str.ofString "__next__") hit.typeIs Uk (Vn Uk hit.typeIs entry_tupleiter_next ?_ (args_tupleiter_next _)))
  show X4 _ _ (field (.ref it) 0>>=_) _ _ s
  refine Xh (Bl ho hd (x:=.ref t) rfl ?_)
  show X4 _ _ (if(Qw t==QT)=true then _ else _) _ _ s
  rw[if_neg (show¬((Qw t==QT)=true)from XC)]
  show X4 _ _ (field (.ref it) 1>>=_) _ _ s
  refine Xh (Bl ho hd (x:=.int i 0) rfl ?_)
  show X4 _ _ (seqItems? (.ref t)>>=_) _ _ s
  refine Xh (BK hol hdl ?_)
  simp only[QH,hx]
  refine Xh (wpAny_setField ho hd (by simp) (X7 ⟨x,rfl,X7 (hQ _ ?_ (Heap.SameBut.update ..))⟩))
  exact⟨_,Heap.get?_update_self _ ho (Obj.isFreed_of_fields (Obj.data_mapFields hd _)),(Obj.cls_mapFields ..).trans hc,by rw[Obj.data_mapFields hd];simp[rawInt]⟩
 keep:=λh h' k ⟨⟨o,a1,a2⟩,⟨o',b1,b2⟩⟩=>⟨⟨o,k it (by simp) o a1,a2⟩,⟨o',k t (by simp) o' b1,b2⟩⟩
 keep':=λh h' k ⟨o,a1,a2⟩=>⟨o,k it (by simp) o a1,a2⟩
theorem Zxe{it t:Addr}{i:Nat}{items:Array Xd}(hx:items[i]? =none):Zio P w it [it,t] (λh=>IsTupIter h it t i∧UT h t items) where
 mem:=by simp
 run:=fun{A E s Q} hh ⟨hit,ht⟩ hE=>by
  obtain⟨o,ho,hc,hd⟩:=id hit
  obtain⟨ol,hol,_,nl,hdl⟩:=ht
  unfold QD
  refine Xh (Vv (name:=Str.ofString "__next__") hit.typeIs Uk (Vn Uk hit.typeIs entry_tupleiter_next ?_ (args_tupleiter_next _)))
  show X4 _ _ (field (.ref it) 0>>=_) _ _ s
  refine Xh (Bl ho hd (x:=.ref t) rfl ?_)
  show X4 _ _ (if(Qw t==QT)=true then _ else _) _ _ s
  rw[if_neg (show¬((Qw t==QT)=true)from XC)]
  show X4 _ _ (field (.ref it) 1>>=_) _ _ s
  refine Xh (Bl ho hd (x:=.int i 0) rfl ?_)
  show X4 _ _ (seqItems? (.ref t)>>=_) _ _ s
  refine Xh (BK hol hdl ?_)
  simp only[QH,hx]
  refine Xh (wpAny_rule (Xh (wpAny_setField ho hd (by simp) ?_)))
  show X4 _ _ (newExc (.type "StopIteration") []>>=_) _ _ _
  refine Xh ?_
  simp only[newExc,newTuple]
  refine Xh (U9 ?_ (by size_fits))
  refine Xh (m:=firstArgMember _ _) (wpAny_of_eq (a:=QT) (by first|rfl|(simp only[firstArgMember];rfl)) ?_)
  refine U9 ?_ (by size_fits)
  simp only[raiseNew]
  refine Xh (wpAny_handled ?_)
  first|rw[show A.in1.handled=none from hh]|rw[hh]
  exact Xh (X7 (wpAny_throw (hE _ _ (((Heap.SameBut.update ..).extBut.push _).push _) ⟨_,X5 _ rfl,rfl⟩)))
 keep:=λh h' k ⟨⟨o,a1,a2⟩,⟨o',b1,b2⟩⟩=>⟨⟨o,k it (by simp) o a1,a2⟩,⟨o',k t (by simp) o' b1,b2⟩⟩
end
noncomputable abbrev zT1(h:Heap)(a:Addr):Heap:=h.push { cls:=.type "tuple_iterator",data:=.fields #[.ref a,.int 0 0] }
noncomputable abbrev zT2(h:Heap)(a b:Addr):Heap:=(zT1 h a).push { cls:=.type "tuple_iterator",data:=.fields #[.ref b,.int 0 0] }
noncomputable abbrev zT3(h:Heap)(a b:Addr):Heap:=(zT2 h a b).push { cls:=.type "tuple",data:=.seq #[.ref h.objs.size,.ref (zT1 h a).objs.size] }
noncomputable abbrev zT4(h:Heap)(a b:Addr):Heap:=(zT3 h a b).push { cls:=.type "tuple",data:=.seq #[.none,.none] }
noncomputable abbrev zT5(h:Heap)(a b:Addr):Heap:=(zT4 h a b).push { cls:=.type "zip",data:=.fields #[.none,.bool false,.bool false,.ref (zT2 h a b).objs.size,.ref (zT3 h a b).objs.size] }
theorem Zwk(a b:Addr)(xs ys:Array Xd) :
  Meets (Builtin.«zip.__new__» ⟨[.type "zip",.ref a,.ref b],[]⟩) (λ_ R s=>UT s.heap a xs∧UT s.heap b ys∧R (.ok (.ret (.ref (zT4 s.heap a b).objs.size))) { s with heap:=zT5 s.heap a b }) :=
 .of_wp λprog w A R s h=>by
  obtain⟨hp,g,d,tk,os⟩:=s
  obtain⟨h1,h2,h⟩:=h
  have hsub:=sub_zip
  have hL1:UT (Xg.heap ⟨hp,g,d,tk,os⟩) a xs:=h1
  have hL2:UT (Xg.heap ⟨hp.push { cls:=.type "tuple_iterator",data:=.fields #[.ref a,.int 0 0] },g,d,tk,os⟩) b ys:=h2.push _
  wp_walk using iter_tuple hL1,iter_tuple hL2
  exact⟨_,rfl,h⟩
section
variable {P:X8}{w:Qs}{A:Qo}{E:Xd->Xg->Prop}{s:Xg}
theorem Zt5{a b:Addr}{xs ys:Array Xd}{Q:Xd->Xg->Prop}(h1:UT s.heap a xs)(h2:UT s.heap b ys)
  (h:∀h' n,n=s.heap.objs.size->UL h' (n+4) (n+2) (n+3) .none->Bj h' (n+2) (.ref n) (.ref (n+1))->Bj h' (n+3) .none .none->IsTupIter h' n a 0->IsTupIter h' (n+1) b 0 ->
   (∀ c o,s.heap.get? c=some o->h'.get? c=some o)->Q (.ref (n+4)) { s with heap:=h' }):X4 (Qd P w) A (call (.type "zip") [.ref a,.ref b]) Q E s:=by
 refine callType_new F.called_zip (by decide) (F.typeCall_zip_2 _ _) (F.newCall_zip_2 _ _) (λobj=>F.args_object_init_3 obj _ _) F.entry_zip_new (Zwk a b xs ys) ⟨h1,h2,?_⟩
 have e1:(zT1 s.heap a).objs.size=s.heap.objs.size+1:=Q0 ..
 have e2:(zT2 s.heap a b).objs.size=s.heap.objs.size+2:=by rw[Q0,e1]
 have e3:(zT3 s.heap a b).objs.size=s.heap.objs.size+3:=by rw[Q0,e2]
 have e4:(zT4 s.heap a b).objs.size=s.heap.objs.size+4:=by rw[Q0,e3]
 have up:∀{c o},(zT1 s.heap a).get? c=some o->(zT5 s.heap a b).get? c=some o:=λx=>Xl _ (Xl _ (Xl _ (Xl _ x)))
 have p5:(zT5 s.heap a b).get? (zT4 s.heap a b).objs.size=some _:=X5 _ rfl
 have p4:(zT5 s.heap a b).get? (zT3 s.heap a b).objs.size=some _:=Xl _ (X5 _ rfl)
 have p3:(zT5 s.heap a b).get? (zT2 s.heap a b).objs.size=some _:=Xl _ (Xl _ (X5 _ rfl))
 have p2:(zT5 s.heap a b).get? (zT1 s.heap a).objs.size=some _:=Xl _ (Xl _ (Xl _ (X5 _ rfl)))
 have p1:(zT5 s.heap a b).get? s.heap.objs.size=some _:=up (X5 _ rfl)
 show _∧_
 rw[e2,e3,e4]at p5
 rw[e1,e2]at p3
 rw[e3]at p4
 rw[e1]at p2
 rw[e4]
 exact⟨⟨_,p5,rfl⟩,h _ _ rfl p5 p3 p4 ⟨_,p1,rfl,rfl⟩ ⟨_,p2,rfl,rfl⟩ λc o x=>up (Xl _ x)⟩
end
theorem nn{n a b:Nat}(h:a≠b):n+a≠n+b:=λe=>h (Nat.add_left_cancel e)
theorem n0{n b:Nat}(h:0≠b):n≠n+b:=λe=>h (Nat.add_left_cancel (n:=n) e)
theorem nlt{n a c:Nat}(h:a<n):a≠n+c:=Xy (Qc h (U8 ..))
theorem ZA.new{n a b:Nat}(h1:a<n)(h2:b<n):ZA (n+4) (n+2) (n+3) n (n+1) [n,a] [n+1,b] where
 TIz:=(by first|exact nn (by decide)|exact n0 (by decide)|exact(n0 (by decide)).symm|exact nlt h1|exact nlt h2|exact(nlt h1).symm|exact(nlt h2).symm|exact Xy h1|exact Xy h2|exact XR h1|exact XR h2|omega)
 TOz:=(by first|exact nn (by decide)|exact n0 (by decide)|exact(n0 (by decide)).symm|exact nlt h1|exact nlt h2|exact(nlt h1).symm|exact(nlt h2).symm|exact Xy h1|exact Xy h2|exact XR h1|exact XR h2|omega)
 a1:=λc hc=>by
  simp only[Xp,VB,or_false]at hc
  rcases hc with rfl|rfl
  ·exact⟨(by first|exact nn (by decide)|exact n0 (by decide)|exact(n0 (by decide)).symm|exact nlt h1|exact nlt h2|exact(nlt h1).symm|exact(nlt h2).symm|exact Xy h1|exact Xy h2|exact XR h1|exact XR h2|omega),(by first|exact nn (by decide)|exact n0 (by decide)|exact(n0 (by decide)).symm|exact nlt h1|exact nlt h2|exact(nlt h1).symm|exact(nlt h2).symm|exact Xy h1|exact Xy h2|exact XR h1|exact XR h2|omega),(by first|exact nn (by decide)|exact n0 (by decide)|exact(n0 (by decide)).symm|exact nlt h1|exact nlt h2|exact(nlt h1).symm|exact(nlt h2).symm|exact Xy h1|exact Xy h2|exact XR h1|exact XR h2|omega)⟩
  ·exact⟨(by first|exact nn (by decide)|exact n0 (by decide)|exact(n0 (by decide)).symm|exact nlt h1|exact nlt h2|exact(nlt h1).symm|exact(nlt h2).symm|exact Xy h1|exact Xy h2|exact XR h1|exact XR h2|omega),(by first|exact nn (by decide)|exact n0 (by decide)|exact(n0 (by decide)).symm|exact nlt h1|exact nlt h2|exact(nlt h1).symm|exact(nlt h2).symm|exact Xy h1|exact Xy h2|exact XR h1|exact XR h2|omega),(by first|exact nn (by decide)|exact n0 (by decide)|exact(n0 (by decide)).symm|exact nlt h1|exact nlt h2|exact(nlt h1).symm|exact(nlt h2).symm|exact Xy h1|exact Xy h2|exact XR h1|exact XR h2|omega)⟩
 a2:=λc hc=>by
  simp only[Xp,VB,or_false]at hc
  rcases hc with rfl|rfl
  ·exact⟨(by first|exact nn (by decide)|exact n0 (by decide)|exact(n0 (by decide)).symm|exact nlt h1|exact nlt h2|exact(nlt h1).symm|exact(nlt h2).symm|exact Xy h1|exact Xy h2|exact XR h1|exact XR h2|omega),(by first|exact nn (by decide)|exact n0 (by decide)|exact(n0 (by decide)).symm|exact nlt h1|exact nlt h2|exact(nlt h1).symm|exact(nlt h2).symm|exact Xy h1|exact Xy h2|exact XR h1|exact XR h2|omega),(by first|exact nn (by decide)|exact n0 (by decide)|exact(n0 (by decide)).symm|exact nlt h1|exact nlt h2|exact(nlt h1).symm|exact(nlt h2).symm|exact Xy h1|exact Xy h2|exact XR h1|exact XR h2|omega)⟩
  ·exact⟨(by first|exact nn (by decide)|exact n0 (by decide)|exact(n0 (by decide)).symm|exact nlt h1|exact nlt h2|exact(nlt h1).symm|exact(nlt h2).symm|exact Xy h1|exact Xy h2|exact XR h1|exact XR h2|omega),(by first|exact nn (by decide)|exact n0 (by decide)|exact(n0 (by decide)).symm|exact nlt h1|exact nlt h2|exact(nlt h1).symm|exact(nlt h2).symm|exact Xy h1|exact Xy h2|exact XR h1|exact XR h2|omega),(by first|exact nn (by decide)|exact n0 (by decide)|exact(n0 (by decide)).symm|exact nlt h1|exact nlt h2|exact(nlt h1).symm|exact(nlt h2).symm|exact Xy h1|exact Xy h2|exact XR h1|exact XR h2|omega)⟩
theorem ZA.new2(n:Nat):(n+2:Nat)≠n+3∧(n+2:Nat)≠n∧(n+2:Nat)≠n+1:=⟨nn (by decide),(n0 (by decide)).symm,nn (by decide)⟩
section
variable {X:Cx}{io:List Nat}{p c:Bool}{a b:Expr}{mr:MAt}
noncomputable def Z2v(ds:List Xa):Option (List Xa):=match ds with|[.list as,.list bs]=>some (Zj8 as bs)|[.tuple as,.tuple bs]=>some (Zj8 as bs)|_=>none
noncomputable def Zfm(a:FA):FI:=λδ=>(a δ).bind λp=>(Z2v (OT.datas p.1)).bind λds=>some (ds,p.2)
end
noncomputable def Zjc{α:Type}(xs:List α)(lo hi st:Option Int):List α :=
 (sliceRange (JW lo hi st xs.length).1 (JW lo hi st xs.length).2.1 (JW lo hi st xs.length).2.2).filterMap (xs[·]?)
theorem Vals.places:∀{xs:List V} {its:List Xd},Vals xs its->∀js:List Nat,Vals (js.filterMap (xs[·]?)) (js.filterMap (its[·]?))
 | _,_,_,[]=>.nil
 | xs,its,h,j :: js=>by
  have ih:=Vals.places h js
  cases hn:xs[j]? with
  | some x=>
   obtain⟨u,hu,ru⟩:=h.get hn
   simp only[Ba,hn,hu]
   exact .cons ru ih
  | none=>
   have hv:its[j]? =none:=by
    rw[Qu]at hn⊢
    rw[←h.length];exact hn
   simp only[Ba,hn,hv]
   exact ih
theorem Das.places{G:Xb}{H:Hp}{L:Addr->Prop}{xs:List V}{ds:List Xa}(h:Das G H L xs ds):∀js:List Nat,Das G H L (js.filterMap (xs[·]?)) (js.filterMap (ds[·]?))
 | []=>.nil
 | j :: js=>by
  have ih:=Das.places h js
  cases hn:ds[j]? with
  | some x=>
   obtain⟨u,hu,ru⟩:=h.get hn
   simp only[Ba,hn,hu]
   exact .cons ru ih
  | none=>
   have hv:xs[j]? =none:=by
    rw[Qu]at hn⊢
    rw[h.length];exact hn
   simp only[Ba,hn,hv]
   exact ih
theorem Das.pick{G:Xb}{H:Hp}{L:Addr->Prop}{xs:List V}{ds:List Xa}(h:Das G H L xs ds)(lo hi st:Option Int):Das G H L (Zjc xs lo hi st) (Zjc ds lo hi st):=by
 unfold Zjc
 rw[h.length]
 exact h.places _
theorem Vals.pick{xs:List V}{its:List Xd}(h:Vals xs its)(lo hi st:Option Int):Vals (Zjc xs lo hi st) (slicePick its.toArray lo hi st).toList:=by
 have e:(slicePick its.toArray lo hi st).toList=(sliceRange (JW lo hi st xs.length).1 (JW lo hi st xs.length).2.1 (JW lo hi st xs.length).2.2).filterMap (its[·]?):=by
  simp[slicePick,h.length]
 rw[e]
 exact h.places _
theorem Zgo{xs:List V}{its:List Xd}(h:Vals xs its)(lo hi st:Option Int):(Zjc xs lo hi st).length≤xs.length:=by
 have e:=(h.pick lo hi st).length
 have s:=slicePick_size_le its.toArray lo hi st
 have l:=h.length
 simp only[V0,Xx]at e s
 omega
section
variable {X:Cx}{e:Expr}{te:TE}{lo hi:Option Expr}{se:Expr}{tl th ts:TO}{pos p2:Pos}
noncomputable def tSt(K:Xb)(te:TE)(tl th ts:TO):TE:=λσ H Q=>te σ H λx H1=>tl σ H1 λl H2=>th σ H2 λu H3=>ts σ H3 λk H4=>∃a xs,x= .ref a∧SqL K H4 a xs∧k≠some 0∧∀p,H4 p=none->Q (.ref p) (upd H4 p (.lst (Zjc xs l u k)))
theorem Z1l(he:PE X e te)(hl:PO X lo tl)(hu:PO X hi th)(hst:PO X (some se) ts):PE X (.Subscript e (.Slice lo hi (some se) p2) pos) (tSt X.K te tl th ts):=by
 intro pins s σ H Q I h
 refine Subscript_ (thn (he pins s σ H _ I h) λv s1 qz9=>?_)
 obtain⟨x,H1,I1,r1,q1⟩:=qz9
 refine wpAny_Slice (thn (hl pins s1 σ H1 _ I1 q1) λvl s2 qz9=>?_)
 obtain⟨l,H2,I2,pl,q2⟩:=qz9
 refine thn (hu pins s2 σ H2 _ I2 q2) λvu s3 qz9=>?_
 obtain⟨u,H3,I3,pu,q3⟩:=qz9
 refine thn (hst pins s3 σ H3 _ I3 q3) λvs s4 qz9=>?_
 obtain⟨k,H4,I4,ps,q4⟩:=qz9
 obtain⟨a,xs,rfl,hx,hk,q⟩:=q4
 cases r1
 have I5:Inv X pins σ H4 { s4 with heap:=s4.heap.push { cls:=.type "slice",data:=.fields #[vl,vu,vs] } }:=I4.kept (t':=s4.toks) λb ob q=>Xl _ q
 obtain⟨its,r,ht,hz⟩:=I5.list hx
 have hlen:=r.length
 show X4 (Qd X.prog X.w) X.A (subscriptTail e (.Slice lo hi (some se) p2) (.ref a) (.ref s4.heap.objs.size)) (EP X pins σ Q) X.xe { s4 with heap:=s4.heap.push { cls:=.type "slice",data:=.fields #[vl,vu,vs] } }
 refine tail_any (ops:=[.ref a,.ref s4.heap.objs.size]) ht.isList.typeIs slot_list_getitem.lookup ?_ (by with_unfolding_all rfl)
 refine wpAny_getItem_list_slice ht.isList (Heap.IsSliceOf.new ..) pl pu ps hk ?_ (by rw[Xx]<;>omega)
 refine⟨.ref _,_,I5.laid (t':=s4.toks) (o:=.lst (Zjc xs l u k)) (λb ob q=>Xl _ q) (Qa _) ?_,rfl,q _ (I5.hok.fresh (Qa _))⟩
 exact⟨Ql (Zgo r l u k) hz,_,0,r.pick l u k,X5 _ rfl⟩
end
section
variable {X:Cx}{io:List Nat}{p c:Bool}{a e:Expr}{ma:MEt}{lo hi:Option Expr}{se:Expr}{ml mh ms:MOt}{pos p2:Pos}{fa:FE}
noncomputable def Z4c(m:MEt)(ml mh ms:MOt):MEt:=λδ K=>m δ λr δ1=>ml δ1 λlo δ2=>mh δ2 λhi δ3=>ms δ3 λst δ4=>st≠some 0∧asL r.data λds=>K (.nd ((Zjc ds lo hi st).map OT.fz)) δ4
theorem Z56(ha:ME X io true c a ma)(hl:MO X io true lo ml)(hh:MO X io true hi mh)(hs:MO X io true (some se) ms):ME X io true c (.Subscript a (.Slice lo hi (some se) p2) pos) (Z4c ma ml mh ms):=by
 obtain⟨_,A,s⟩:=ha
 obtain⟨_,B,sl⟩:=hl
 obtain⟨_,D,sh⟩:=hh
 obtain⟨_,F,ss⟩:=hs
 refine⟨_,Z1l A B D F,?_⟩
 intro C H σ δ fp ex K' Q R h k
 refine s C H σ δ fp ex _ _ R h λH1 v r δ1 fp1 new r1 h1=>?_
 refine sl C H1 σ δ1 fp1 ex _ _ r1.base h1 λH2 l δ2 fp2 R2 S2 h2=>?_
 refine sh C H2 σ δ2 fp2 ex _ _ R2 h2 λH3 u δ3 fp3 R3 S3 h3=>?_
 refine ss C H3 σ δ3 fp3 ex _ _ R3 h3 λH4 w δ4 fp4 R4 S4 h4=>?_
 obtain⟨hw,h4⟩:=h4
 have s2:Same H1 H2:=λb o e=>S2.keep b o e (.inl rfl)
 have s3:Same H2 H3:=λb o e=>S3.keep b o e (.inl rfl)
 have s4:Same H3 H4:=λb o e=>S4.keep b o e (.inl rfl)
 obtain⟨e3,e4⟩:=S2.env rfl
 obtain⟨e5,e6⟩:=S3.env rfl
 obtain⟨e7,e8⟩:=S4.env rfl
 have q:=(((r1.da R).same s2).same s3).same s4
 obtain⟨a',xs,ds,rfl,e,qs,h4⟩:=q.lstInv h4
 refine⟨a',xs,rfl,e,hw,λp hp=>?_⟩
 have S:=((r1.stp.trans S2).trans S3).trans S4
 refine k _ _ _ δ4 fp4 [p] (RE.tree R R4 S (Z2 hp _) (Zau hp) (Zdg p) (Own.list hp ((qs.pick l u w).wide λa l _=>?_))) h4
 rw[e8,e6,e4]
 exact l
noncomputable def stepOf(d:Xa)(lo hi st:Option Int):Option OT:=match d with| .list ds=>if st=some 0 then none else some (.nd ((Zjc ds lo hi st).map OT.fz))|_=>none
noncomputable def Zvv(e:FE)(lo hi st:FO):FE:=λδ=>(e δ).bind λp=>(lo p.2).bind λq=>(hi q.2).bind λr=>(st r.2).bind λt=>(stepOf p.1.data q.1 r.1 t.1).bind λo=>some (o,t.2)
theorem Z1t{lo hi st:FO}(h:ME X io p c e (Z4c (o2 fa) (o2 lo) (o2 hi) (o2 st))):ME X io p c e (o2 (Zvv fa lo hi st)):=h.weak λδ K h=>by
 obtain⟨r,δ',h,k⟩:=h
 obtain⟨⟨x,δ1⟩,h1,h⟩:=bs h
 obtain⟨⟨y,δ2⟩,h2,h⟩:=bs h
 obtain⟨⟨z,δ3⟩,h3,h⟩:=bs h
 obtain⟨⟨t,δ4⟩,h4,h⟩:=bs h
 obtain⟨o,h5,h⟩:=bs h
 cases h
 refine⟨x,δ1,h1,y,δ2,h2,z,δ3,h3,t,δ4,h4,?_⟩
 unfold stepOf at h5
 dsimp only at h5⊢
 split at h5
 ·rename_i q
  split at h5
  ·cases h5
  ·rename_i n
   cases h5
   refine⟨n,?_⟩
   rw[show x.data=_ from q]
   exact k
 ·cases h5
end
variable {G:Xb}
section
variable {X:Cx}{io:List Nat}{p c:Bool}{a b e:Expr}{mr:MAt}{ra:FA}{i:Nat}
noncomputable def isFn(y:Str)(d:Xa):Bool:=match d with| .dict [(.str x,.bool true)]=>decide (x=y)|_=>false
theorem Zy2{y:Str}{d:Xa}(h:isFn y d=true):d=fnD y:=by
 unfold isFn at h
 split at h
 ·rw[of_decide_eq_true h];rfl
 ·cases h
theorem Z0k(y:Str):isFn y (fnD y)=true:=decide_eq_true rfl
noncomputable def Ze4(i:Nat)(y:Str)(F:FD)(a:FA):FE:=λδ=>match δ[i]? with
 | some (some (.fz d))=>if isFn y d=true then Zt F a δ else none
 | _=>none
theorem Zot{y:Str}{F:FD}(h:ME X io p c e (Zxw i y (sD F) (o2 ra))):ME X io p c e (o2 (Ze4 i y F ra)):=h.weak λδ K h=>by
 obtain⟨r,δ',h,k⟩:=h
 unfold Ze4 at h
 split at h
 ·rename_i d hd
  by_cases hf:isFn y d=true
  ·rw[if_pos hf]at h
   refine⟨by rw[hd,Zy2 hf],?_⟩
   obtain⟨⟨x,δ1⟩,h1,h⟩:=bs h
   refine⟨x,δ1,h1,?_⟩
   dsimp only at h
   split at h
   ·rename_i q;cases h;exact⟨_,q,k⟩
   ·cases h
  ·rw[if_neg hf]at h;cases h
 ·cases h
end
noncomputable def Yan:List Int->Int
 | []=>0
 | x :: xs=>xs.foldl min x
theorem Zt3(xs:List Int)(x:Int):xs.foldl min x∈x :: xs∧∀a∈x :: xs,xs.foldl min x≤a:=by
 induction xs generalizing x with
 | nil=>exact⟨.head _,λa h=>by rw[Xq.mp h];exact Int.le_refl _⟩
 | cons y ys ih=>
  obtain⟨h1,h2⟩:=ih (min x y)
  rw[List.foldl_cons]
  refine⟨?_,λa h=>?_⟩
  ·rcases Xp.mp h1 with h|h
   ·rw[h]
    rcases Int.le_total x y with z|z
    ·rw[V3 z];exact .head _
    ·rw[VJ z];exact .tail _ (.head _)
   ·exact .tail _ (.tail _ h)
  ·have h0:=h2 _ (.head _)
   rcases Xp.mp h with rfl|h
   ·exact Be h0 (Int.min_le_left ..)
   ·rcases Xp.mp h with rfl|h
    ·exact Be h0 (Int.min_le_right ..)
    ·exact h2 a (.tail _ h)
theorem Ztt{ns:List Int}(h:0<ns.length):Yan ns∈ns∧∀a∈ns,Yan ns≤a:=by
 cases ns with
 | nil=>cases h
 | cons x xs=>exact Zt3 xs x
noncomputable def Yb3(K:Xb)(l:Addr):It :=
 ⟨λi H=>∃xs x,SqL K H l xs∧xs[i]? =some x,
   λi H v H'=>∃p x,H p=none∧v= .ref p∧H'=upd H p (.tup [.int i,x])∧∀xs,SqL K H l xs->xs[i]? =some x,
   λi H=>∃xs,SqL K H l xs∧xs.length≤i⟩
noncomputable def StE(z it l:Addr)(i:Nat)(h:Heap):Prop:=(∃old,IsEnum h z it (i:Int) old)∧h.IsListIter it l i
theorem Zr4{P:X8}{w:Qs}{K:Xb}{es:List Expr}{kk:Nat}{pos:Pos}{z it l:Addr}(hne:z≠it):Turn P w K (.Tuple es kk pos) (Yb3 K l) [z,it] z (StE z it l) where
 mem:=.head _
 obj:=λi h st b hb=>by
  obtain⟨⟨old,s1⟩,o4,e4,_,d4⟩:=st
  rcases Xp.mp hb with rfl|hb
  ·exact⟨_,s1,λv q=>by cases q⟩
  ·rcases Xq.mp hb with rfl
   exact⟨_,e4,λv q=>by rw[d4]at q;cases q⟩
 keep:=λi h h' st k=>by
  obtain⟨⟨old,s1⟩,s4⟩:=st
  exact⟨⟨old,k z (.head _) _ s1⟩,s4.at λo e=>k it (.tail _ (.head _)) o e⟩
 item:=by
  intro X hP hw hK hc i pins s σ H E I hf st hg
  subst hP hw hK
  obtain⟨⟨old,s1⟩,s4⟩:=st
  obtain⟨xs,x,hx,ex⟩:=hg
  obtain⟨its,rx,px,hzx⟩:=I.list hx
  obtain⟨u,hu,ru⟩:=rx.get ex
  refine wpAny_pyNext_enum_item s1 s4 px.isList (by simpa using hu) hne λh' g1 g2 g3 g4 g5=>?_
  refine⟨_,rfl,wpAny_letOwnedTupleGo_enum (s:={ s with heap:=h',toks:=s.toks+1 }) g1 λh2 z2 sb=>?_⟩
  have hTz:s.heap.objs.size≠z:=XR (XF s1)
  have up:∀c o,c≠z->h'.get? c=some o->h2.get? c=some o:=λc o n e=>(sb.2 c n).trans e
  have kp:∀b o,b∉[z,it]->s.heap.get? b=some o->h2.get? b=some o:=λb o n e=>by
   have n1:b≠z:=λq=>n (q▸ .head _)
   exact up b o n1 (g5 b o n1 (λq=>n (q▸ .tail _ (.head _))) e)
  have t5:=up _ _ hTz g3
  have g2':h2.IsListIter it l (i+1):=g2.at λo e=>up _ o (BR hne) e
  have I2:Inv X pins σ (upd H s.heap.objs.size (.tup [.int i,x])) { s with heap:=h2,toks:=s.toks+1 }:=by
   refine(I.tok (s.toks+1)).turnTup (ch:=[z,it]) (its:=[.int i s.toks,u]) (λb hb=>hf b hb) kp (λb hb=>?_) (Qa _) Zx9 (.cons ⟨_,rfl⟩ (.cons ru .nil)) ⟨_,t5,rfl,0,rfl⟩
   rcases Xp.mp hb with rfl|hb
   ·exact⟨_,z2⟩
   ·rcases Xq.mp hb with rfl
    obtain⟨o4,e4,_⟩:=g2'
    exact⟨_,e4⟩
  refine⟨.ref s.heap.objs.size,_,I2,rfl,⟨_,x,I.fresh,rfl,rfl,λys hy=>by rw[I.list_inj hy hx];exact ex⟩,⟨⟨_,z2⟩,g2'⟩,λb hb=>?_⟩
  have:b≠s.heap.objs.size:=by
   rcases Xp.mp hb with rfl|hb
   ·exact Xy (XF s1)
   ·rcases Xq.mp hb with rfl
    obtain⟨o4,e4,_⟩:=s4
    exact Xy (XF e4)
  rw[Z3 this];exact(hf b hb).1
 done:=by
  intro X hP hw hK hc i pins s σ H E I hf st hg
  subst hP hw hK
  obtain⟨⟨old,s1⟩,s4⟩:=st
  obtain⟨xs,hx,he⟩:=hg
  obtain⟨its,rx,px,hzx⟩:=I.list hx
  have l1:=rx.length
  refine wpAny_pyNext_enum_end (I.ok.hd hc) s1 s4 px.isList (by simp;omega) λh' k=>⟨rfl,I.turnAll (ch:=[it]) (λb hb=>hf b (.tail _ hb)) λb o n e=>k b o (λq=>n (q▸ .head _)) e⟩
 self:=λ_ _ _ _ _ st h=>by
  obtain⟨⟨old,s1⟩,_⟩:=st
  exact wpAny_pyIter_enum s1 h
noncomputable def Yda(K:Xb)(ta:TA):TI:=λσ H R=>ta σ H λvs H1=>∃l,vs=[.ref l]∧(∃xs,SqL K H1 l xs)∧R (Yb3 K l) H1
theorem Z0a{X:Cx}{K:Xb}{a:Expr}{ta:TA}{p pos pt:Pos}{es:List Expr}{kk:Nat}(hK:X.K=K)(hg:Gl X "enumerate")(hm:X.mg "enumerate"=none)(hv:X3 "enumerate"=some (.type "enumerate"))(ha:PA X [a] ta)
  (he:Xo [a] X.env=(false,eval a X.env) :: Xo [] X.env:=by rfl) (hpl:(QW pos (Xo [] X.env)).any (·.1)=false:=by rfl) :
  PI X (.Tuple es kk pt) (.Call (.Name "enumerate" p) [a] [] pos) (Yda K ta):=by
 subst hK
 intro pins s σ H R I h
 refine BZ (Zhm I hg hm hv ?_ (by decide) (by decide))
 refine JS (thn (ha pos pins s σ H _ I h) λus s1 q=>?_) he hpl
 obtain⟨vs,H1,I1,r1,l,e1,⟨xs,hx⟩,q⟩:=q
 subst e1
 obtain⟨u,rfl,ru⟩:=vals1 r1
 cases(show u=Qw l from ru)
 obtain⟨its,rx,px,hzx⟩:=I1.list hx
 refine call_enumerate_list px.isList λh' g1 g2 g3 g4=>?_
 have I2:Inv X pins σ H1 { s1 with heap:=h' }:=I1.kept (t':=s1.toks) g4
 refine wpAny_pyIter_enum (s:={ s1 with heap:=h' }) g1 ?_
 refine⟨_,[_,_],StE _ _ _,_,H1,rfl,I2,Zr4 (XR (Vk _)),⟨⟨_,g1⟩,g2⟩,λb hb=>?_,q⟩
 have hb':s1.heap.objs.size≤b:=by
  rcases Xp.mp hb with rfl|hb
  ·exact Nat.le_succ _
  ·rcases Xq.mp hb with rfl
   exact Qa _
 exact I1.fpOk hb' (I1.hok.fresh hb')
noncomputable def Zju(as:List Xa):List Xa:=as.zipIdx.map λp=>.tuple [.int p.2,p.1]
theorem Zk2{as:List Xa}{i:Nat}{d:Xa}(h:(Zju as)[i]? =some d):∃x,as[i]? =some x∧d= .tuple [.int i,x]:=by
 unfold Zju at h
 rw[Xn,List.getElem?_zipIdx]at h
 cases e:as[i]? with
 | none=>rw[e]at h;cases h
 | some x=>
  rw[e]at h
  cases h
  exact⟨x,rfl,by rw[Nat.zero_add]⟩
theorem Zpn{as:List Xa}{i:Nat}(h:(Zju as)[i]? =none):as.length≤i:=by
 have:=Qu.mp h
 unfold Zju at this
 simpa using this
section
variable {X:Cx}{io:List Nat}{p c:Bool}{a:Expr}{mr:MAt}{ra:FA}
noncomputable def iEn(mr:MAt):MIt:=λδ K=>mr δ λrs δ'=>match OT.datas rs with|[.list as]=>K (Zju as) δ'|_=>False
theorem Zz5{p' pos pt:Pos}{es:List Expr}{kk:Nat}(hg:Gl X "enumerate")(hm:X.mg "enumerate"=none)(hv:X3 "enumerate"=some (.type "enumerate"))(ha:MA X io p c [a] mr)
  (he:Xo [a] X.env=(false,eval a X.env) :: Xo [] X.env:=by rfl) (hpl:(QW pos (Xo [] X.env)).any (·.1)=false:=by rfl):MI X io p c (.Tuple es kk pt) (.Call (.Name "enumerate" p') [a] [] pos) (iEn mr):=by
 obtain⟨_,A,s⟩:=ha
 refine⟨_,Z0a rfl hg hm hv A he hpl,λC H σ δ fp ex K' Q R h kk=>s C H σ δ fp ex _ _ R h λH1 vs rs δ1 fp1 new r1 h1=>?_⟩
 have q:=r1.das R
 generalize OT.datas rs=ds at q h1
 split at h1
 case h_2=>exact h1.elim
 rename_i as
 cases q with
 | cons q1 q2=>
  cases q2
  have R1:=r1.base
  obtain⟨l1,xs,rfl,k1⟩:=R1.keptList q1
  have e1:=k1 H1 λ_ _ e _=>e
  refine⟨l1,rfl,⟨_,e1.1⟩,kk _ H1 _ δ1 fp1 R1 r1.stp (λH' kp i=>?_) h1⟩
  obtain⟨s1,d1⟩:=k1 H' kp
  refine⟨λd hd=>?_,λhd=>?_⟩
  ·obtain⟨x,hx,rfl⟩:=Zk2 hd
   obtain⟨u,hu,qu⟩:=d1.get hx
   refine⟨⟨_,u,s1,hu⟩,λv H'' hyl=>?_⟩
   obtain⟨t,u',ht,rfl,rfl,hu'⟩:=hyl
   have eu:=hu' _ s1
   rw[hu]at eu
   cases eu
   exact⟨Z2 ht _,.tup Z7 (.cons (.int _) (.cons (qu.same (Z2 ht _)) .nil))⟩
  ·exact⟨_,s1,by rw[d1.length];exact Zpn hd⟩
noncomputable def Zu2(a:FA):FI:=λδ=>(a δ).bind λp=>match OT.datas p.1 with|[.list as]=>some (Zju as,p.2)|_=>none
theorem Z17{tg e:Expr}(h:MI X io p c tg e (iEn (o2 ra))):MI X io p c tg e (o2 (Zu2 ra)):=h.weak λδ K h=>by
 obtain⟨r,δ',h,k⟩:=h
 obtain⟨⟨x,δ1⟩,h1,h⟩:=bs h
 dsimp only at h
 split at h
 ·rename_i q
  injection h with h
  injection h with e1 e2
  subst e1 e2
  refine⟨x,_,h1,?_⟩
  dsimp only
  rw[q];exact k
 ·cases h
end
variable {G:Xb}
theorem Z4u{α:Type}{p:α->Prop}{a b c d:α}(h1:p a)(h2:p b)(h3:p c)(h4:p d):∀x∈[a,b,c,d],p x:=by
 intro x hx
 rcases Xp.mp hx with rfl|hx
 ·exact h1
 rcases Xp.mp hx with rfl|hx
 ·exact h2
 rcases Xp.mp hx with rfl|hx
 ·exact h3
 rcases Xq.mp hx with rfl
 exact h4
theorem Yaf{α:Type}{p:α->Prop}{a b c d e:α}(h1:p a)(h2:p b)(h3:p c)(h4:p d)(h5:p e):∀x∈[a,b,c,d,e],p x:=λx hx=>(Xp.mp hx).elim (λq=>q▸h1) (Z4u h2 h3 h4 h5 x)
theorem no4{α:Type}{a b c d x:α}(h1:x≠a)(h2:x≠b)(h3:x≠c)(h4:x≠d):x∉[a,b,c,d]:=λhx=>Z4u (p:=λy=>x≠y) h1 h2 h3 h4 x hx rfl
noncomputable def SqB(K:Xb)(t:Bool)(H:Hp)(a:Addr)(xs:List V):Prop:=match t with|true=>H a=some (.tup xs)|false=>SqL K H a xs
noncomputable def IsB(t:Bool)(h:Heap)(a:Addr)(its:Array Xd):Prop:=match t with|true=>UT h a its|false=>h.IsList a its
noncomputable def ItB(t:Bool)(h:Heap)(it a:Addr)(i:Nat):Prop:=match t with|true=>IsTupIter h it a i|false=>h.IsListIter it a i
theorem ItB.at{t:Bool}{h h':Heap}{it a:Addr}{i:Nat}(x:ItB t h it a i)(k:∀o,h.get? it=some o->h'.get? it=some o):ItB t h' it a i:=by
 cases t with
 | false=>exact Heap.IsListIter.at x k
 | true=>
  obtain⟨o,ho,r⟩:=x
  exact⟨o,k o ho,r⟩
theorem ItB.obj{t:Bool}{h:Heap}{it a:Addr}{i:Nat}(x:ItB t h it a i):∃o,h.get? it=some o∧∀v,o.data≠ .cell v:=by
 cases t with
 | false=>
  obtain⟨o,ho,_,d⟩:=x
  exact⟨o,ho,λv q=>by rw[d]at q;cases q⟩
 | true=>
  obtain⟨o,ho,_,d⟩:=x
  exact⟨o,ho,λv q=>by rw[d]at q;cases q⟩
theorem IsB.lt{t:Bool}{h:Heap}{a:Addr}{its:Array Xd}(x:IsB t h a its):a<h.objs.size:=by
 cases t with
 | false=>
  obtain⟨o,ho,_⟩:=x
  exact XF ho
 | true=>
  obtain⟨o,ho,_⟩:=x
  exact XF ho
theorem SqB.its{X:Cx}{pins:List (Addr×Obj)}{σ:St}{H:Hp}{s:Xg}{t:Bool}{a:Addr}{xs:List V}(I:Inv X pins σ H s)(h:SqB X.K t H a xs):∃its:List Xd,Vals xs its∧IsB t s.heap a its.toArray:=by
 cases t with
 | false=>
  obtain⟨its,r,p,_⟩:=I.list h
  exact⟨its,r,p.isList⟩
 | true=>
  obtain⟨_,its,r,p⟩:=(show ObjOk X.prog X.w H s.heap a (.tup xs)from I.hok a _ h)
  exact⟨its,r,p⟩
theorem SqB.inj{X:Cx}{pins:List (Addr×Obj)}{σ:St}{H:Hp}{s:Xg}{t:Bool}{a:Addr}{xs ys:List V}(I:Inv X pins σ H s)(h:SqB X.K t H a xs)(k:SqB X.K t H a ys):xs=ys:=by
 cases t with
 | false=>exact I.list_inj h k
 | true=>
  have:=(show H a=some (.tup xs)from h).symm.trans k
  cases this
  rfl
section
variable {P:X8}{w:Qs}
theorem Ztr{t:Bool}{it a:Addr}{i:Nat}{items:Array Xd}{x:Xd}(hx:items[i]? =some x):Gives P w it [it,a] (λh=>ItB t h it a i∧IsB t h a items) x (λh=>ItB t h it a (i+1)):=by
 cases t with
 | true=>exact Zs1 hx
 | false=>
  exact⟨.head _,λst hQ=>wpAny_nextOf_list_item st.1 st.2 hx hQ,λh h' k st=>⟨Heap.IsListIter.at st.1 λo e=>k it (.head _) o e,by
   obtain⟨o,ho,r⟩:=st.2
   exact⟨o,k a (.tail _ (.head _)) o ho,r⟩⟩,λh h' k st=>Heap.IsListIter.at st λo e=>k it (.head _) o e⟩
theorem Z31{t:Bool}{it a:Addr}{i:Nat}{items:Array Xd}(hx:items[i]? =none):Zio P w it [it,a] (λh=>ItB t h it a i∧IsB t h a items):=by
 cases t with
 | true=>exact Zxe hx
 | false=>
  exact⟨.head _,λhh st hE=>wpAny_nextOf_list_end hh st.1 st.2 hx hE,λh h' k st=>⟨Heap.IsListIter.at st.1 λo e=>k it (.head _) o e,by
   obtain⟨o,ho,r⟩:=st.2
   exact⟨o,k a (.tail _ (.head _)) o ho,r⟩⟩⟩
end
noncomputable def Ybk(K:Xb)(t:Bool)(a b:Addr):It :=
 ⟨λi H=>∃xs ys x y,SqB K t H a xs∧SqB K t H b ys∧xs[i]? =some x∧ys[i]? =some y,
   λi H v H'=>∃p x y,H p=none∧v= .ref p∧H'=upd H p (.tup [x,y])∧(∀xs,SqB K t H a xs->xs[i]? =some x)∧∀ys,SqB K t H b ys->ys[i]? =some y,
   λi H=>∃xs ys,SqB K t H a xs∧SqB K t H b ys∧(xs.length≤i∨ys.length≤i)⟩
noncomputable def Yci(t:Bool)(z TI TO i1 i2 a b:Addr)(i:Nat)(h:Heap):Prop:=UL h z TI TO .none∧Bj h TI (.ref i1) (.ref i2)∧(∃x y,Bj h TO x y)∧ItB t h i1 a i∧ItB t h i2 b i
theorem Zq3{P:X8}{w:Qs}{K:Xb}{es:List Expr}{kk:Nat}{pos:Pos}{t:Bool}{z TI TO i1 i2 a b:Addr}(D:ZA z TI TO i1 i2 [i1,a] [i2,b])(D2:TI≠TO∧TI≠i1∧TI≠i2):Turn P w K (.Tuple es kk pos) (Ybk K t a b) [z,TI,TO,i1,i2] z (Yci t z TI TO i1 i2 a b) where
 mem:=.head _
 obj:=λi h st=>by
  obtain⟨s1,s2,⟨x,y,s3⟩,s4,s5⟩:=st
  exact Yaf ⟨_,s1,λv q=>by cases q⟩ ⟨_,s2,λv q=>by cases q⟩ ⟨_,s3,λv q=>by cases q⟩ s4.obj s5.obj
 keep:=λi h h' st k=>by
  obtain⟨s1,s2,⟨x,y,s3⟩,s4,s5⟩:=st
  have m2:TI∈[z,TI,TO,i1,i2]:=.tail _ (.head _)
  have m3:TO∈[z,TI,TO,i1,i2]:=.tail _ (.tail _ (.head _))
  have m4:i1∈[z,TI,TO,i1,i2]:=.tail _ (.tail _ (.tail _ (.head _)))
  have m5:i2∈[z,TI,TO,i1,i2]:=.tail _ (.tail _ (.tail _ (.tail _ (.head _))))
  exact⟨k z (.head _) _ s1,k TI m2 _ s2,⟨x,y,k TO m3 _ s3⟩,s4.at (k i1 m4),s5.at (k i2 m5)⟩
 item:=by
  intro X hP hw hK hc i pins s σ H E I hf st hg
  subst hP hw hK
  obtain⟨s1,s2,⟨x0,y0,s3⟩,s4,s5⟩:=st
  obtain⟨xs,ys,x,y,hx,hy,ex,ey⟩:=hg
  obtain⟨its,rx,px⟩:=hx.its I
  obtain⟨its',ry,py⟩:=hy.its I
  obtain⟨u,hu,ru⟩:=rx.get ex
  obtain⟨u',hu',ru'⟩:=ry.get ey
  rw[←List.getElem?_toArray]at hu hu'
  refine Zp1 D (Ztr hu) (Ztr hu') s1 s2 s3 ⟨s4,px⟩ ⟨s5,py⟩ λh' g1 g2 g3 g4 g5 g6=>?_
  refine⟨_,rfl,wpAny_letOwnedTupleGo_zip (s:={ s with heap:=h' }) g1 λh2 z2 sb=>?_⟩
  have up:∀c o,c≠z->h'.get? c=some o->h2.get? c=some o:=λc o n e=>(sb.2 c n).trans e
  have kp:∀c o,c∉[z,TO,i1,i2]->s.heap.get? c=some o->h2.get? c=some o:=λc o n e=>up c o (λq=>n (q▸ .head _)) (g6 c o n e)
  have t5:Bj h2 s.heap.objs.size u u':=up _ _ (XR (XF s1)) g5
  have i1z:=(D.a1 i1 (.head _)).1
  have i2z:=(D.a2 i2 (.head _)).1
  have n3:=g3.at (up i1 · i1z)
  have n4:=g4.at (up i2 · i2z)
  obtain⟨f1,f2,f3,f4,f5⟩:(Zjo X pins H z∧Zjo X pins H TI∧Zjo X pins H TO∧Zjo X pins H i1∧Zjo X pins H i2):=⟨hf _ (.head _),hf _ (.tail _ (.head _)),hf _ (.tail _ (.tail _ (.head _))),hf _ (.tail _ (.tail _ (.tail _ (.head _)))),hf _ (.tail _ (.tail _ (.tail _ (.tail _ (.head _)))))⟩
  have I2:Inv X pins σ (upd H s.heap.objs.size (.tup [x,y])) { s with heap:=h2 } :=
   I.turnTup (ch:=[z,TO,i1,i2]) (its:=[u,u']) (Z4u f1 f3 f4 f5) kp (Z4u ⟨_,z2⟩ ⟨_,up _ _ D.TOz g2⟩ (n3.obj.imp λ_ q=>q.1) (n4.obj.imp λ_ q=>q.1)) (Qa _) Zx9 (.cons ru (.cons ru' .nil)) ⟨_,t5,rfl,0,rfl⟩
  have lt:∀{c:Addr} {o:Obj},s.heap.get? c=some o->Zjo X pins H c->upd H s.heap.objs.size (.tup [x,y]) c=none:=λe f=>by rw[Z3 (Xy (XF e))];exact f.1
  refine⟨.ref s.heap.objs.size,_,I2,rfl,⟨_,x,y,I.fresh,rfl,rfl,λzs hz=>by rw[hz.inj I hx];exact ex,λzs hz=>by rw[hz.inj I hy];exact ey⟩,⟨z2,kp TI _ (no4 D.TIz D2.1 D2.2.1 D2.2.2) s2,⟨_,_,up _ _ D.TOz g2⟩,n3,n4⟩,?_⟩
  obtain⟨o4,e4,_⟩:=s4.obj
  obtain⟨o5,e5,_⟩:=s5.obj
  exact Yaf (lt s1 f1) (lt s2 f2) (lt s3 f3) (lt e4 f4) (lt e5 f5)
 done:=by
  intro X hP hw hK hc i pins s σ H E I hf st hg
  subst hP hw hK
  obtain⟨s1,s2,⟨x0,y0,s3⟩,s4,s5⟩:=st
  obtain⟨xs,ys,hx,hy,he⟩:=hg
  obtain⟨its,rx,px⟩:=hx.its I
  obtain⟨its',ry,py⟩:=hy.its I
  have l1:=rx.length
  have l2:=ry.length
  refine Zsq (I.ok.hd hc) D (S1:=λh=>ItB t h i1 a i∧IsB t h a its.toArray) (T1:=λh=>ItB t h i1 a (i+1)) (S2:=λh=>ItB t h i2 b i∧IsB t h b its'.toArray) ?_ s1 s2 s3 ⟨s4,px⟩ ⟨s5,py⟩ λh' k=>⟨rfl,I.turnAll (ch:=[z,TO,i1,i2]) (Z4u (hf _ (.head _)) (hf _ (.tail _ (.tail _ (.head _)))) (hf _ (.tail _ (.tail _ (.tail _ (.head _))))) (hf _ (.tail _ (.tail _ (.tail _ (.tail _ (.head _))))))) k⟩
  cases q:its.toArray[i]? with
  | none=>exact .inl (Z31 q)
  | some v=>
   refine .inr ⟨⟨v,Ztr q⟩,Z31 ?_⟩
   have:=(Array.getElem?_eq_some_iff.mp q).1
   rw[Xx]at this
   rw[Array.getElem?_eq_none_iff,Xx]
   omega
 self:=λ_ _ _ _ _ st h=>wpAny_pyIter_zip st.1 h
theorem Zr5{P:X8}{w:Qs}{A:Qo}{E:Xd->Xg->Prop}{s:Xg}{t:Bool}{a b:Addr}{xs ys:Array Xd}{Q:Xd->Xg->Prop}(h1:IsB t s.heap a xs)(h2:IsB t s.heap b ys)
  (h:∀h' n,n=s.heap.objs.size->UL h' (n+4) (n+2) (n+3) .none->Bj h' (n+2) (.ref n) (.ref (n+1))->Bj h' (n+3) .none .none->ItB t h' n a 0->ItB t h' (n+1) b 0 ->
   (∀ c o,s.heap.get? c=some o->h'.get? c=some o)->Q (.ref (n+4)) { s with heap:=h' }):X4 (Qd P w) A (call (.type "zip") [.ref a,.ref b]) Q E s:=by
 cases t with
 | true=>exact Zt5 h1 h2 h
 | false=>exact call_zip_2 h1 h2 λh' g1 g2 g3 g4 g5 _ g7=>h h' _ rfl g1 g2 g3 g4 g5 g7
noncomputable def Yah(K:Xb)(ta:TA):TI:=λσ H R=>ta σ H λvs H1=>∃t a b,vs=[.ref a,.ref b]∧(∃xs,SqB K t H1 a xs)∧(∃ys,SqB K t H1 b ys)∧R (Ybk K t a b) H1
theorem Z2f{X:Cx}{K:Xb}{a b:Expr}{ta:TA}{p pos pt:Pos}{es:List Expr}{kk:Nat}(hK:X.K=K)(hg:Gl X "zip")(hm:X.mg "zip"=none)(hv:X3 "zip"=some (.type "zip"))(ha:PA X [a,b] ta)
  (he:Xo [a,b] X.env=(false,eval a X.env) :: Xo [b] X.env:=by rfl) (hpl:(QW pos (Xo [b] X.env)).any (·.1)=false:=by rfl) :
  PI X (.Tuple es kk pt) (.Call (.Name "zip" p) [a,b] [] pos) (Yah K ta):=by
 subst hK
 intro pins s σ H R I h
 refine BZ (Zhm I hg hm hv ?_ (by decide) (by decide))
 refine JS (thn (ha pos pins s σ H _ I h) λus s1 q=>?_) he hpl
 obtain⟨vs,H1,I1,r1,t,l1,l2,e1,⟨xs,hx⟩,⟨ys,hy⟩,q⟩:=q
 subst e1
 obtain⟨u,u',rfl,ru,ru'⟩:=vals2 r1
 cases(show u=Qw l1 from ru)
 cases(show u'=Qw l2 from ru')
 obtain⟨its,rx,px⟩:=hx.its I1
 obtain⟨its',ry,py⟩:=hy.its I1
 refine Zr5 px py λh' n en g1 g2 g3 g4 g5 g7=>?_
 have I2:Inv X pins σ H1 { s1 with heap:=h' }:=I1.kept (t':=s1.toks) g7
 refine wpAny_pyIter_zip (s:={ s1 with heap:=h' }) g1 ?_
 refine⟨_,[_,_,_,_,_],Yci _ _ _ _ _ _ _ _,_,H1,rfl,I2,Zq3 (ZA.new (en▸px.lt) (en▸py.lt)) (ZA.new2 n),⟨g1,g2,⟨_,_,g3⟩,g4,g5⟩,?_,q⟩
 subst en
 have ok:∀k:Nat,Zjo X pins H1 (s1.heap.objs.size+k):=λk=>I1.fpOk (U8 _ _) (I1.hok.fresh (U8 _ _))
 exact Yaf (ok 4) (ok 2) (ok 3) (ok 0) (ok 1)
section
variable {X:Cx}{io:List Nat}{p c:Bool}{a b:Expr}{mr:MAt}{ra:FA}
noncomputable def Z7k(t:Bool)(as:List Xa):Xa:=match t with|true=>.tuple as|false=>.list as
theorem Rel.keptSq{C:MC G}{H:Hp}{σ:St}{δ:Zi}{fp:Fp}{ex:Addr->Prop}{v:V}{t:Bool}{ds:List Xa}(R:Rel C io H σ δ fp ex)(q:Da G H (λa=>c=true->Lf C fp ex a) v (Z7k t ds)) :
  ∃a xs,v= .ref a∧∀H':Hp,(∀b o,H b=some o->(c=false∨¬Foot fp b)->H' b=some o)->SqB G t H' a xs∧Das G H' (λa=>c=true->(Lf C fp ex a∧H a≠none)) xs ds:=by
 cases t with
 | false=>exact R.keptList q
 | true=>
  generalize hd:Z7k true ds=d at q
  cases q with
  | tup e r=>
   cases hd
   rename_i a0 xs0
   refine⟨a0,xs0,rfl,λH' kp=>?_⟩
   obtain⟨f1,f2⟩:=R.kept kp
   exact⟨f2 _ (.tup _) e,r.frame f1 f2⟩
  | _=>cases hd
theorem Zwy{ds es:List Xa}(h:Z2v ds=some es):∃t as bs,ds=[Z7k t as,Z7k t bs]∧es=Zj8 as bs:=by
 unfold Z2v at h
 split at h
 ·cases h;exact⟨false,_,_,rfl,rfl⟩
 ·cases h;exact⟨true,_,_,rfl,rfl⟩
 ·cases h
noncomputable def iZB(mr:MAt):MIt:=λδ K=>mr δ λrs δ'=>∃es,Z2v (OT.datas rs)=some es∧K es δ'
theorem Zje{p' pos pt:Pos}{es:List Expr}{kk:Nat}(hg:Gl X "zip")(hm:X.mg "zip"=none)(hv:X3 "zip"=some (.type "zip"))(ha:MA X io p c [a,b] mr)
  (he:Xo [a,b] X.env=(false,eval a X.env) :: Xo [b] X.env:=by rfl) (hpl:(QW pos (Xo [b] X.env)).any (·.1)=false:=by rfl):MI X io p c (.Tuple es kk pt) (.Call (.Name "zip" p') [a,b] [] pos) (iZB mr):=by
 obtain⟨_,A,s⟩:=ha
 refine⟨_,Z2f rfl hg hm hv A he hpl,λC H σ δ fp ex K' Q R h kk=>s C H σ δ fp ex _ _ R h λH1 vs rs δ1 fp1 new r1 h1=>?_⟩
 have q:=r1.das R
 obtain⟨es,hz,h1⟩:=h1
 obtain⟨t,as,bs,e,rfl⟩:=Zwy hz
 rw[e]at q
 cases q with
 | cons q1 q2=>
  cases q2 with
  | cons q2 q3=>
   cases q3
   have R1:=r1.base
   obtain⟨l1,xs,rfl,k1⟩:=R1.keptSq q1
   obtain⟨l2,ys,rfl,k2⟩:=R1.keptSq q2
   refine⟨t,l1,l2,rfl,⟨_,(k1 H1 λ_ _ e _=>e).1⟩,⟨_,(k2 H1 λ_ _ e _=>e).1⟩,kk _ H1 _ δ1 fp1 R1 r1.stp (λH' kp i=>?_) h1⟩
   obtain⟨s1,d1⟩:=k1 H' kp
   obtain⟨s2,d2⟩:=k2 H' kp
   refine⟨λd hd=>?_,λhd=>⟨_,_,s1,s2,by rw[d1.length,d2.length];exact Zrn hd⟩⟩
   obtain⟨x,y,hx,hy,rfl⟩:=Zi2 hd
   obtain⟨u,hu,qu⟩:=d1.get hx
   obtain⟨w,hw,qw⟩:=d2.get hy
   refine⟨⟨_,_,u,w,s1,s2,hu,hw⟩,λv H'' hyl=>?_⟩
   obtain⟨t',u',w',ht,rfl,rfl,hu',hw'⟩:=hyl
   cases hu.symm.trans (hu' _ s1)
   cases hw.symm.trans (hw' _ s2)
   exact⟨Z2 ht _,.tup Z7 (.cons (qu.same (Z2 ht _)) (.cons (qw.same (Z2 ht _)) .nil))⟩
theorem Zj5{tg e:Expr}(g:MI X io p c tg e (iZB (o2 ra))):MI X io p c tg e (o2 (Zfm ra)):=g.weak λδ K h=>by
 obtain⟨r,δ',h,k⟩:=h
 obtain⟨⟨x,δ1⟩,h1,h⟩:=bs h
 obtain⟨ds,h2,h⟩:=bs h
 cases h
 exact⟨x,_,h1,_,h2,k⟩
end
end L2
namespace L2
open PySem PySem.Spec PyProof.Rows PySem.W
noncomputable def kEv{α:Type}(lt:Nat->Nat->Bool):KasT α->α
 | .ret a=>a
 | .ask i j k=>kEv lt (k (lt i j))
noncomputable def kGood{α:Type}(n:Nat)(P:α->Prop):KasT α->Prop
 | .ret a=>P a
 | .ask i j k=>i<n∧j<n∧∀b,kGood n P (k b)
theorem kGood.bind{α β:Type}{n:Nat}{P:α->Prop}{R:β->Prop}{f:α->KasT β}(hf:∀a,P a->kGood n R (f a)){t:KasT α}(h:kGood n P t):kGood n R (t.bind f):=by
 induction t with
 | ret a=>exact hf a h
 | ask i j k ih=>exact⟨h.1,h.2.1,λb=>ih b (h.2.2 b)⟩
theorem kGood.ev{α:Type}{n:Nat}{P:α->Prop}{lt:Nat->Nat->Bool}{t:KasT α}(h:kGood n P t):P (kEv lt t):=by
 induction t with
 | ret a=>exact h
 | ask i j k ih=>exact ih _ (h.2.2 _)
theorem kGood.wp{α:Type}{n:Nat}{P:α->Prop}{lt:Nat->Nat->Bool}{cmp:Nat->Nat->(Bool->Xg->Prop)->Xg->Prop}{s:Xg}{Q:α->Xg->Prop}(hc:∀i j C,i<n->j<n->C (lt i j) s->cmp i j C s){t:KasT α}(h:kGood n P t)(q:Q (kEv lt t) s):t.kasWp cmp Q s:=by
 induction t with
 | ret a=>exact q
 | ask i j k ih=>exact hc i j _ h.1 h.2.1 (ih _ (h.2.2 _) q)
noncomputable def kP(n:Nat)(p:Array Nat):Prop:=p.toList.Perm (Xj n)
theorem kP.at{n:Nat}{p:Array Nat}(h:kP n p)(h0:0<n)(i:Nat):p.getD i 0<n:=by
 by_cases c:i<p.size
 ·have e:p.getD i 0=p[i]:=by simp[Array.getD,c]
  rw[e]
  exact Xm.mp (h.mem_iff.mp (Array.getElem_mem_toList c))
 ·have e:p.getD i 0=0:=by simp[Array.getD,c]
  rw[e];exact h0
theorem kP.rev{n:Nat}{p:Array Nat}(h:kP n p)(i j:Nat):kP n (kas_rev p i j):=(Array.perm_iff_toList_perm.mp (mirror_perm p i j _)).trans h
theorem kP.bub{n:Nat}{p:Array Nat}(h:kP n p)(i j:Nat):kP n (bubble p i j):=(Array.perm_iff_toList_perm.mp (bubble_perm p i j)).trans h
theorem Znw{n:Nat}{p:Array Nat}(h:kP n p)(h0:0<n)(f m:Nat):kGood n (λ_=>True) (kas_asc p f m):=by
 induction f generalizing m with
 | zero=>exact trivial
 | succ f ih=>
  refine⟨h.at h0 _,h.at h0 _,λb=>?_⟩
  cases b
  ·exact ih _
  ·exact trivial
theorem Zs5{n:Nat}(h0:0<n)(f:Nat){p:Array Nat}(h:kP n p)(m q:Nat):kGood n (λr:Array Nat×Nat×Nat=>kP n r.1) (kas_desc f p m q):=by
 induction f generalizing p m q with
 | zero=>exact h
 | succ f ih=>
  refine⟨h.at h0 _,h.at h0 _,λb=>?_⟩
  cases b
  ·refine⟨h.at h0 _,h.at h0 _,λb=>?_⟩
   cases b
   ·exact ih h _ _
   ·exact h
  ·show kGood n _ (if q>0 then _ else _)
   split
   ·exact ih (h.rev _ _) _ _
   ·exact ih h _ _
theorem Zls{n:Nat}{p:Array Nat}(h:kP n p)(h0:0<n)(m r:Nat):kGood n (λr:Nat×Array Nat=>kP n r.2) (kas_tail3 m r p):=by
 refine kGood.bind (P:=λ_=>True) (λa _=>?_) (Znw (h.rev _ _) h0 _ _)
 exact h.rev _ _
theorem Ze1{n:Nat}{p:Array Nat}(h:kP n p)(h0:0<n)(m r:Nat):kGood n (λr:Nat×Array Nat=>kP n r.2) (kas_descPart m r p) :=
 (Zs5 h0 _ h _ _).bind λx hx=>by
  show kGood n _ (if x.2.2>0 then _ else _)
  split
  ·exact Zls (hx.rev _ _) h0 _ _
  ·exact Zls hx h0 _ _
theorem Zpr{n:Nat}{p:Array Nat}(h:kP n p)(h0:0<n)(r:Nat):kGood n (λr:Nat×Array Nat=>kP n r.2) (kas_count r p) :=
 (Znw h h0 _ _).bind λm _=>by
  show kGood n _ (if(m==r)=true then _ else if m>1 then _ else _)
  split
  ·exact h
  ·split
   ·refine⟨h.at h0 _,h.at h0 _,λb=>?_⟩
    cases b
    ·exact Ze1 (h.rev _ _) h0 _ _
    ·exact h
   ·exact Ze1 h h0 _ _
theorem Zqa{n:Nat}{p:Array Nat}(h:kP n p)(h0:0<n)(k f l r:Nat):kGood n (λ_=>True) (kas_place p k f l r):=by
 induction f generalizing l r with
 | zero=>exact trivial
 | succ f ih=>
  show kGood n _ (if l≥r then _ else _)
  split
  ·exact trivial
  ·refine⟨h.at h0 _,h.at h0 _,λb=>?_⟩
   cases b
   ·exact ih _ _
   ·exact ih _ _
theorem Zv3{n:Nat}(h0:0<n)(f:Nat){p:Array Nat}(h:kP n p)(k:Nat):kGood n (kP n) (kas_bin f p k):=by
 induction f generalizing p k with
 | zero=>exact h
 | succ f ih=>exact(Zqa h h0 _ _ _ _).bind λl _=>ih (h.bub _ _) _
theorem Zk3{n:Nat}(h0:0<n):kGood n (kP n) (kas_sort n) :=
 (Zpr (p:=Vs (Xj n)) (.refl _) h0 n).bind λr hr=>by
  show kGood n _ (if r.1<n then _ else _)
  split
  ·exact Zv3 h0 _ hr _
  ·exact hr
noncomputable def Z2z(lt:Nat->Nat->Bool)(n:Nat):List Nat:=(kEv lt (kas_sort n)).toList
theorem Zk9{lt:Nat->Nat->Bool}{n:Nat}(h0:0<n):(Z2z lt n).Perm (Xj n):=(Zk3 h0).ev (P:=kP n)
end L2
namespace L2
open PySem PySem.Spec PyProof.Rows PySem.W PySem.SeqAt
open AutoSeq1 (wpAny_loadPart')
open MeetsSeq MeetsSeq2 MeetsSeq3 SeqRoads2
noncomputable def ltI:List Int->List Int->Bool
 | [],[]=>false
 | [],_ :: _=>true
 | _ :: _,[]=>false
 | x :: xs,y :: ys=>if x=y then ltI xs ys else decide (x<y)
theorem Zxy{vs:List Xd}{ns:List Int}(h:Bs vs ns)(i:Nat)(hi:i<vs.length):∃x t,vs[i]? =some (.int x t)∧ns.drop i=x :: ns.drop (i+1):=by
 induction h generalizing i with
 | nil=>exact absurd hi (BV i)
 | cons n t h ih=>
  cases i with
  | zero=>exact⟨n,t,rfl,rfl⟩
  | succ i=>exact ih i (Nat.lt_of_succ_lt_succ hi)
theorem Znx{vs:List Xd}{ns:List Int}(h:Bs vs ns):vs.length=ns.length:=by
 induction h with
 | nil=>rfl
 | cons n t h ih=>exact congrArg Nat.succ ih
theorem Zsm{xs ys:List Int}(h:xs=[]∨ys=[]):ltI xs ys=decide (xs.length<ys.length):=by
 cases xs<;>cases ys<;>first|rfl|(rcases h with h|h<;>cases h)|exact(decide_eq_true (Nat.succ_pos _)).symm
theorem Zsl(l b:Addr)(items items2:Array Xd)(n n2:Nat)(dd dd2:Option Addr)(sl sl2:Array (Option Xd)){xs ys:List Int}(h1:Bs items.toList xs)(h2:Bs items2.toList ys)(k:Nat) :
  ∀i:Nat,items.size-i=k->i≤items.size->i≤items2.size->Meets (Builtin.«list.__eq__.loop» ⟨[.ref l,.ref b,rawInt i,rawInt 0],[]⟩)
   (λA R s=>s.heap.get? l=some { cls:=.type "list",dict:=dd,data:=.seq items n,slots:=sl }∧s.heap.get? b=some { cls:=.type "list",dict:=dd2,data:=.seq items2 n2,slots:=sl2 }∧
    R (.ok (.ret (.bool (ltI (xs.drop i) (ys.drop i))))) s):=by
 have e1:items.size=xs.length:=Znx h1
 have e2:items2.size=ys.length:=Znx h2
 have fin:∀i,i≤items.size->i≤items2.size->(i=items.size∨i=items2.size)->ltI (xs.drop i) (ys.drop i)=decide (items.size<items2.size):=λi u1 u2 c=>by
  rw[Zsm (c.imp (λc=>List.drop_eq_nil_of_le (by omega)) λc=>List.drop_eq_nil_of_le (by omega)),Bf,Bf]
  exact decide_eq_decide.mpr (by omega)
 induction k with
 | zero=>
  intro i hk u1 u2 prog w A R s h
  obtain⟨hp,g,d,tk,os⟩:=s;obtain⟨hl,hb,h⟩:=h
  wp_walk using QS hl,QS hb
  have hi1:items[((i:Nat):Int).toNat]? =none:=by simp;omega
  rw[fin i u1 u2 (.inl (by omega))]at h
  rw[hi1]
  wp_walk using QS hl,QS hb
  exact h
 | succ k ih=>
  intro i hk u1 u2 prog w A R s h
  obtain⟨hp,g,d,tk,os⟩:=s;obtain⟨hl,hb,h⟩:=h
  have hlt:i<items.size:=by omega
  obtain⟨x,t,q1,q2⟩:=Zxy h1 i hlt
  have hi1:items[((i:Nat):Int).toNat]? =some (.int x t):=by rw[QH,←q1,Vx]
  wp_walk using QS hl,QS hb
  by_cases c:i<items2.size
  ·obtain⟨y,u,q3,q4⟩:=Zxy h2 i c
   have hi2:items2[((i:Nat):Int).toNat]? =some (.int y u):=by rw[QH,←q3,Vx]
   have hc:((i:Int)+1)=((i+1:Nat):Int):=by push_cast;rfl
   rw[q2,q4]at h
   unfold ltI at h
   rw[hi1,hi2]
   refine Xh (EqAt.int_int x t y u prog w _ _ ?_)
   by_cases cx:x=y
   ·rw[if_pos cx]at h
    rw[beq_iff_eq.mpr cx]
    wp_walk
    rw[hc]
    exact⟨plainId_quiet plain_eq_loop _,Ue entry_eq_loop (by
     rw[Around.under_plainId plain_eq_loop _]
     exact ih (i+1) (by omega) (by omega) (by omega) prog w A R _ ⟨hl,hb,h⟩)⟩
   ·rw[if_neg cx]at h
    rw[beq_eq_false_iff_ne.mpr cx]
    wp_walk using QS hl,QS hb
    rw[hi1,hi2]
    refine Xh (lt_int ?_)
    wp_walk
    exact h
  ·have hi2:items2[((i:Nat):Int).toNat]? =none:=by simp;omega
   rw[fin i u1 u2 (.inr (by omega))]at h
   rw[hi1,hi2]
   wp_walk using QS hl,QS hb
   exact h
theorem Zrx(l b:Addr)(items items2:Array Xd)(n n2:Nat)(dd dd2:Option Addr)(sl sl2:Array (Option Xd)){xs ys:List Int}(h1:Bs items.toList xs)(h2:Bs items2.toList ys) :
  Meets (Builtin.«list.__lt__» ⟨[.ref l,.ref b],[]⟩)
   (λA R s=>s.heap.get? l=some { cls:=.type "list",dict:=dd,data:=.seq items n,slots:=sl }∧s.heap.get? b=some { cls:=.type "list",dict:=dd2,data:=.seq items2 n2,slots:=sl2 }∧
    R (.ok (.ret (.bool (ltI xs ys)))) s):=by
 intro prog w A R s h
 obtain⟨hp,g,d,tk,os⟩:=s;obtain⟨hl,hb,h⟩:=h
 have f3:=AutoSeq1.sub_list_list
 wp_walk using QS hl,QS hb
 exact⟨plainId_quiet plain_eq_loop _,Ue entry_eq_loop (by
  rw[Around.under_plainId plain_eq_loop _]
  exact Zsl l b items items2 n n2 dd dd2 sl sl2 h1 h2 _ 0 rfl (Q7 _) (Q7 _) prog w A R _ ⟨hl,hb,h⟩)⟩
section
variable {prog:X8}{w:Qs}{A:Qo}{E:Xd->Xg->Prop}{s:Xg}
theorem Zqc{l b:Addr}{items items2:Array Xd}{xs ys:List Int}{Q:Bool->Xg->Prop}(hu:A.units<cLine)(hl:s.heap.IsList l items)(hb:s.heap.IsList b items2)(h1:Bs items.toList xs)(h2:Bs items2.toList ys)(h:Q (ltI xs ys) s) :
  X4 (Qd prog w) A (oneLt' true (.ref l) (.ref b)) Q E s:=by
 obtain⟨⟨cls,dd,data,sl⟩,hl,hc,n,hd⟩:=hl
 obtain⟨⟨cls2,dd2,data2,sl2⟩,hb,hc2,n2,hd2⟩:=hb
 simp only at hc hd hc2 hd2
 subst hc hd hc2 hd2
 rw[oneLt'_eq]
 simp only[if_true]
 refine Xh (wpAny_cRoomFor hu ?_)
 refine Xh (wpAny_callSpecialIfBound?_slot ⟨_,hl,rfl⟩ F.slot_list_lt (call_meets F.slot_list_lt ⟨_,hl,rfl⟩ F.entry_list_lt (F.args_list_lt_2 _ _) (Zrx l b items items2 n n2 dd dd2 sl sl2 h1 h2) ⟨hl,hb,?_⟩))
 exact Vi h
end
section
variable {prog:X8}{w:Qs}{A:Qo}{E:Xd->Xg->Prop}{s:Xg}
end
end L2
namespace L2
open PySem PySem.Spec PyProof.Rows PySem.W
noncomputable def sLay{α:Type}(d:α)(lt:Nat->Nat->Bool)(vs:List α):List α:=if vs.length<2 then vs else(Z2z lt vs.length).map λi=>vs.getD i d
theorem Zqo{α:Type}(d:α)(vs:List α):((Xj vs.length).map λi=>vs.getD i d)=vs:=by
 refine List.ext_getElem? λi=>?_
 rw[Xn]
 by_cases c:i<vs.length
 ·rw[QV c,Xi c]
  show some (vs.getD i d)=_
  rw[Xe,Xi c];rfl
 ·rw[QZ (by rw[Xz];omega),QZ (by omega)];rfl
theorem Zhf{α:Type}(d:α)(lt:Nat->Nat->Bool)(vs:List α):(sLay d lt vs).Perm vs:=by
 unfold sLay
 split
 ·exact .refl _
 ·have:=(Zk9 (lt:=lt) (n:=vs.length) (by omega)).map λi=>vs.getD i d
  rwa[Zqo]at this
theorem Zta{lt:Nat->Nat->Bool}{xs:List V}{us:List Xd}(h:Vals xs us):Vals (sLay .non lt xs) (sLay .none lt us):=by
 unfold sLay
 rw[h.length]
 split
 ·exact h
 ·generalize Z2z lt _=l
  induction l with
  | nil=>exact .nil
  | cons i l ih=>
   refine .cons ?_ ih
   show RelV (xs.getD i V.non) (us.getD i QT)
   rw[Xe,Xe]
   cases e:xs[i]? with
   | some x=>
    obtain⟨u,e',r⟩:=h.get e
    rw[e'];exact r
   | none=>
    have:us[i]? =none:=QZ (by rw[←h.length];exact Qu.mp e)
    rw[this];exact rfl
section
variable {prog:X8}{w:Qs}{A:Qo}{E:Xd->Xg->Prop}{s:Xg}
theorem Zp2{κ:SortKind}{lt:Nat->Nat->Bool}{h0:Heap}{a:Addr}{vs:List Xd}{n:Nat}{P:PySem.Fin->Xg->Prop}(ho:s.heap.get? a=some (JK "list" vs.toArray n))
  (k0:∀b o,h0.get? b=some o->s.heap.get? b=some o) (ha0:h0.get? a=none) (h64:vs.length<64)
  (hk:2≤vs.length->∀s':Xg,(∀b o,h0.get? b=some o->s'.heap.get? b=some o)->∀Q:SortKind->Xg->Prop,Q κ s'->X4 (Qd prog w) A (keyKind' vs.toArray) Q E s')
  (hc:2≤vs.length->∀s':Xg,(∀b o,h0.get? b=some o->s'.heap.get? b=some o)->∀i j C,i<vs.length->j<vs.length->C (lt i j) s'->kas_ask prog w A κ vs i j C s')
  (h:P (.done (.ret .none)) { s with heap:=sortedHeap s.heap a vs (Vs (sLay QT lt vs)) }):X4 (Qd prog w) A (Builtin.«list.sort» ⟨[.ref a],[]⟩) P E s:=by
 have ha:a<s.heap.objs.size:=XF ho
 obtain⟨e1,ho1⟩:∃e1,(s.heap.update a (Q4 λ_=>(#[]:Array Xd))).get? a=some (JK "list" #[] e1):=⟨_,get?_update_seq ho λ_=>#[]⟩
 have ho6:(((s.heap.update a (Q4 λ_=>(#[]:Array Xd))).push (JK "tuple" vs.toArray 0)).push (JK "list" #[] 0)).get? a=some (JK "list" #[] e1):=Xl _ (Xl _ ho1)
 have k6:∀b o,h0.get? b=some o->(((s.heap.update a (Q4 λ_=>(#[]:Array Xd))).push (JK "tuple" vs.toArray 0)).push (JK "list" #[] 0)).get? b=some o:=λb o e=>by
  refine Xl _ (Xl _ ?_)
  rw[Heap.get?_update_ne _ _ _ _ (λq=>by rw[q,ha0]at e;cases e)]
  exact k0 b o e
 rw[list_sort_plain]
 refine Xh (listItems_at ho rfl ?_)
 refine Xh (listUpdate_at ho rfl ?_ (by rw[Xx,Qg];omega) (Q7 _))
 refine Xh (seqEpoch_at ho1 rfl ?_)
 refine Xh (wpAny_newTuple ?_ (by show vs.length≤_;rw[Qg];omega))
 refine Xh (wpAny_newList ?_ (Q7 _))
 refine V4 ?_
 show X4 (Qd prog w) A _ P E { s with heap:=((s.heap.update a (Q4 λ_=>(#[]:Array Xd))).push (JK "tuple" vs.toArray 0)).push (JK "list" #[] 0) }
 dsimp only
 have hs:vs.toArray.size=vs.length:=Xx ..
 by_cases h2:vs.toArray.size<2
 ·have el:sLay QT lt vs=vs:=if_pos (hs▸h2)
  rw[el]at h
  rw[if_pos h2,if_pos h2]
  refine Xh (X7 ?_)
  rw[StateT.run_pure]
  refine Xh (X7 ?_)
  dsimp only
  refine Xh (seqEpoch_at ho6 rfl ?_)
  have ez:((vs.toArray.zip vs.toArray).map (·.2))=vs.toArray:=by
   apply Array.toList_inj.mp
   rw[Array.toList_map,Array.toList_zip,List.map_snd_zip (Qa _)]
  show X4 _ _ (Builtin.List.listUpdate _ (λ_=>(vs.toArray.zip vs.toArray).map (·.2))>>=_) _ _ _
  rw[ez]
  refine Xh (listUpdate_at ho6 rfl ?_ (Q7 _) (by rw[hs,Qg];omega))
  simp only[bne_self_eq_false,BJ,if_false]
  exact X7 h
 ·rw[if_neg h2,if_neg h2]
  have h2':2≤vs.length:=by omega
  have el:sLay QT lt vs=(Z2z lt vs.length).map λi=>vs.getD i QT:=if_neg (by omega)
  rw[el]at h
  refine Xh (hk h2' _ k6 _ ?_)
  have est:SortSt.mk' κ (vs.toArray.zip vs.toArray) #[] 7 none=kas_st κ (pairsOf vs) (Vs (Xj vs.length)):=by
   have e:=kas_range (pairsOf vs)
   rw[pairsOf_size]at e
   show SortSt.mk' κ (pairsOf vs) #[] 7 none=SortSt.mk' κ ((Vs (Xj vs.length)).map (kas_item (pairsOf vs))) #[] 7 none
   rw[e]
  have run:=kas_runs (prog:=prog) (w:=w) (A:=A) (κ:=κ) (it:=pairsOf vs) (E:=E) (s:={ s with heap:=((s.heap.update a (Q4 λ_=>(#[]:Array Xd))).push (JK "tuple" vs.toArray 0)).push (JK "list" #[] 0) })
   (Q:=λ_ st' s'=>arrOf st'=(kEv lt (kas_sort vs.length)).map (kas_item (pairsOf vs))∧failedOf st'=none∧s'={ s with heap:=((s.heap.update a (Q4 λ_=>(#[]:Array Xd))).push (JK "tuple" vs.toArray 0)).push (JK "list" #[] 0) })
   (G:=λp s'=>p=kEv lt (kas_sort vs.length)∧s'={ s with heap:=((s.heap.update a (Q4 λ_=>(#[]:Array Xd))).push (JK "tuple" vs.toArray 0)).push (JK "list" #[] 0) })
   h2' h64 (λp' st' s' _ a2 a3 a4=>⟨a4.1▸a2,a3,a4.2⟩) (by
    rw[←kas_ask_eq]
    exact(Zk3 (n:=vs.length) (by omega)).wp (hc h2' _ k6) ⟨rfl,rfl⟩)
  rw[←est]at run
  refine Xh (Bw run ?_ λ_ _ e=>e)
  intro r s' z
  obtain⟨har,hf,rfl⟩:=z
  have hout:(arrOf r.2).map (·.2)=Vs ((Z2z lt vs.length).map λi=>vs.getD i QT):=by
   apply Array.toList_inj.mp
   rw[har,Array.map_map,Array.toList_map]
   exact XH λi _=>by show(kas_item (pairsOf vs) i).2=_;rw[kas_item_eq]
  rw[hout]
  refine Xh (seqEpoch_at ho6 rfl ?_)
  refine Xh (listUpdate_at ho6 rfl ?_ (Q7 _) (by rw[Xx,Xc,(Zk9 (by omega)).length_eq,Xz,Qg];omega))
  rw[hf]
  simp only[bne_self_eq_false,BJ,if_false]
  exact X7 h
theorem Z2o{κ:SortKind}{lt:Nat->Nat->Bool}{l:Addr}{vs:List Xd}{Q:Xd->Xg->Prop}(hl:s.heap.IsList l vs.toArray)(h64:vs.length<64)
  (hk:2≤vs.length->∀s':Xg,(∀b o,s.heap.get? b=some o->s'.heap.get? b=some o)->∀Q:SortKind->Xg->Prop,Q κ s'->X4 (Qd prog w) A.in1.in1 (keyKind' vs.toArray) Q E s')
  (hc:2≤vs.length->∀s':Xg,(∀b o,s.heap.get? b=some o->s'.heap.get? b=some o)->∀i j C,i<vs.length->j<vs.length->C (lt i j) s'->kas_ask prog w A.in1.in1 κ vs i j C s')
  (h:Q (.ref (s.heap.objs.size+1)) { s with heap:=sortedAll s.heap vs (Vs (sLay QT lt vs)) }):X4 (Qd prog w) A (call (.builtin "sorted") [.ref l]) Q E s:=by
 refine Calls.call_function_entry kind_sorted plain_sorted entry_sorted (args_sorted1 _) ?_
 unfold Builtin.«sorted»
 refine Xh (m:=checkCount "sorted" 1 1 _) (X7 ?_)
 refine Xh (collect_list hl ?_ (by rw[Qg];omega))
 refine Xh (wpAny_newList ?_ (by rw[Qg];omega))
 have hsz:((s.heap.push (JK "list" #[] 0)).update s.heap.objs.size (Q4 (· ++ vs.toArray))).objs.size=s.heap.objs.size+1:=by
  rw[Heap.size_update,size_push']
 have hoL:(((s.heap.push (JK "list" #[] 0)).update s.heap.objs.size (Q4 (· ++ vs.toArray))).push (JK "list" vs.toArray 0)).get? (s.heap.objs.size+1)=some (JK "list" vs.toArray 0):=by
  rw[←hsz];exact X5 _ rfl
 have keep:∀b o,s.heap.get? b=some o->(((s.heap.push (JK "list" #[] 0)).update s.heap.objs.size (Q4 (· ++ vs.toArray))).push (JK "list" vs.toArray 0)).get? b=some o:=λb o q=>by
  have hlt:b<s.heap.objs.size:=XF q
  rw[Heap.get?_push_ne _ _ _ (by rw[hsz];exact Xy (Nat.lt_succ_of_lt hlt)),Heap.get?_update_ne _ _ _ _ (Xy hlt),Heap.get?_push_ne _ _ _ (Xy hlt)]
  exact q
 show X4 _ _ _ _ _ { s with heap:=((s.heap.push (JK "list" #[] 0)).update s.heap.objs.size (Q4 (· ++ vs.toArray))).push (JK "list" vs.toArray 0) }
 rw[hsz]
 refine Xh (V4 (Vn slot_list_sort ⟨_,hoL,rfl⟩ entry_list_sort (Zp2 (h0:=s.heap) hoL keep (Heap.get?_none_of_le (Nat.le_succ _)) h64 hk hc ⟨_,rfl,?_⟩) (args_list_sort _)))
 exact X7 ⟨_,rfl,h⟩
end
end L2
namespace L2
open PySem PySem.Spec PyProof.Rows PySem.W
variable {G:Xb}
structure Ya4{α:Type}(kd:Xa->Option α)(lt:α->α->Bool):Prop where
 lay:∀d k,kd d=some k->d.canLay0=true
 run:∃κ:SortKind,(∀(prog:X8) (w:Qs) (A:Qo) (E:Xd->Xg->Prop) (s:Xg) (vs:List Xd) (ds:List Xa) (as:List Addr) (Q:SortKind->Xg->Prop),2≤vs.length->ReadsAll s.heap vs ds as->(∀d∈ds,∃k,kd d=some k)->Q κ s->X4 (Qd prog w) A (keyKind' vs.toArray) Q E s)∧
  ∀(prog:X8) (w:Qs) (A:Qo) (E:Xd->Xg->Prop) (s:Xg) (u v:Xd) (d e:Xa) (as bs:List Addr) (k m:α) (C:Bool->Xg->Prop),A.units+32<cLine->Reads s.heap u d as->Reads s.heap v e bs->kd d=some k->kd e=some m->C (lt k m) s->X4 (Qd prog w) A (keyLt' κ u v) C E s
theorem readsAll_ints{h:Heap}(ns:List Int){vs:List Xd}{as:List Addr}(r:ReadsAll h vs (ns.map Xk) as):Bs vs ns:=by
 induction ns generalizing vs as with
 | nil=>cases r;exact .nil
 | cons n ns ih=>
  cases r with
  | cons r q=>
   cases r
   exact .cons _ _ (ih q)
theorem Zfw{h:Heap}{ns:List Int}{u:Xd}{as:List Addr}(r:Reads h u (.list (ns.map Xk)) as):∃a items,u= .ref a∧h.IsList a items∧Bs items.toList ns:=by
 cases r with
 | list e c d q=>exact⟨_,_,rfl,⟨_,e,c,_,d⟩,readsAll_ints ns q⟩
theorem readsAll_get{h:Heap}{vs:List Xd}{ds:List Xa}{as:List Addr}(r:ReadsAll h vs ds as):vs.length=ds.length∧∀(i:Nat) d,ds[i]? =some d->∃v bs,vs[i]? =some v∧Reads h v d bs:=by
 induction ds generalizing vs as with
 | nil=>cases r;exact⟨rfl,λi d e=>by rw[Ut]at e;cases e⟩
 | cons d ds ih=>
  cases r with
  | cons r q=>
   obtain⟨z1,z2⟩:=ih q
   refine⟨congrArg Nat.succ z1,λi e he=>?_⟩
   cases i with
   | zero=>cases he;exact⟨_,_,rfl,r⟩
   | succ i=>exact z2 i e he
theorem lay_ints(ns:List Int):Sh 1 (.list (ns.map Xk)):=Zm6 λd m=>by
 obtain⟨x,_,rfl⟩:=XQ.mp m
 exact Zyj x
theorem Zpl{M:Model}{h:Heap}{a:Addr}{items:Array Xd}(e:h.IsList a items):Looks M h (typeOf (.ref a)) (.type "list"):=by
 obtain⟨o,e,c,_⟩:=e
 have:Looks M h (typeOf (.ref a)) o.cls:=(Looks.ld e).andThen .now
 rwa[c]at this
noncomputable def kdL:Xa->Option (List Int):=λd=>match d with| .list es=>Zew es|_=>none
theorem Zgg{d:Xa}{k:List Int}(h:kdL d=some k):d= .list (k.map Xk):=by
 cases d with
 | list es=>exact congrArg Qk (Ze2 h)
 | _=>cases h
theorem Ztn{h:Heap}{vs:List Xd}{ds:List Xa}{as:List Addr}(r:ReadsAll h vs ds as){v:Xd}(hv:v∈vs):∃d∈ds,∃bs,Reads h v d bs:=by
 obtain⟨i,hi⟩:=Bp hv
 obtain⟨z1,z2⟩:=readsAll_get r
 have c:i<ds.length:=z1▸(Xu.mp hi).1
 obtain⟨v',bs,e,q⟩:=z2 i _ (Xi c)
 rw[hi]at e
 cases e
 exact⟨_,QQ c,bs,q⟩
theorem Z4g:Ya4 kdL ltI:=by
 refine⟨λd k h=>by rw[Zgg h];exact(lay_ints k).1,oneType',λprog w A E s vs ds as Q h2 r hk q=>kas_kind (T:=.type "list") h2 (λv hv=>?_) rfl rfl q,λprog w A E s u v d e as bs k m C hu r1 r2 h1 h2 h=>?_⟩
 ·obtain⟨d,hd,bs,z⟩:=Ztn r hv
  obtain⟨k,hk⟩:=hk d hd
  rw[Zgg hk]at z
  obtain⟨a,items,rfl,e,_⟩:=Zfw z
  exact Zpl e
 ·rw[Zgg h1]at r1
  rw[Zgg h2]at r2
  obtain⟨a,i1,rfl,e1,z1⟩:=Zfw r1
  obtain⟨b,i2,rfl,e2,z2⟩:=Zfw r2
  rw[keyLt'_oneType]
  exact Zqc (by omega) e1 e2 z1 z2 h
end L2
namespace L2
open PySem PySem.Spec PyProof.Rows PySem.W
variable {G:Xb}
noncomputable def lk{α:Type}(kd:Xa->Option α)(lt:α->α->Bool)(es:List Xa):Nat->Nat->Bool:=λi j=>((kd (es.getD i .none)).bind λa=>(kd (es.getD j .none)).map λb=>lt a b).getD false
noncomputable def keyed{α:Type}(kd:Xa->Option α)(es:List Xa):Prop:=∀d∈es,∃k,kd d=some k
theorem Zqe{es:List Xa}(h:∀d∈es,d.canLay0=true):Q8 es=true:=by
 induction es with
 | nil=>rw[Q8]
 | cons d es ih=>rw[Q8,h d (.head _),ih λd m=>h d (.tail _ m)];rfl
theorem Das.sLay{H:Hp}{L:Addr->Prop}{lt:Nat->Nat->Bool}{xs:List V}{ds:List Xa}(h:Das G H L xs ds):Das G H L (L2.sLay .non lt xs) (L2.sLay .none lt ds):=by
 unfold L2.sLay
 rw[h.length]
 split
 ·exact h
 ·generalize Z2z lt _=l
  induction l with
  | nil=>exact .nil
  | cons i l ih=>
   refine .cons ?_ ih
   show Da G H L (xs.getD i .non) (ds.getD i .none)
   rw[Xe,Xe]
   cases e:xs[i]? with
   | some x=>
    obtain⟨u,e',r⟩:=h.get' e
    rw[e'];exact r
   | none=>
    have:ds[i]? =none:=QZ (by rw[←h.length];exact Qu.mp e)
    rw[this];exact .non
noncomputable def Zxl{α:Type}(kd:Xa->Option α)(lt:α->α->Bool)(K:Xb):List V->Hp->VK->Prop:=λxs H Q=>∃(a:Addr) (vs:List V) (L:Addr->Prop) (es:List Xa),xs=[.ref a]∧SqL K H a vs∧Das K H L vs es∧vs.length<64∧keyed kd es∧∀l,H l=none->Q (.ref l) (upd H l (.lst (sLay .non (lk kd lt es) vs)))
section
variable {X:Cx}{α:Type}{kd:Xa->Option α}{lt:α->α->Bool}
theorem Zqf{K:Xb}(S:Ya4 kd lt)(hK:X.K=K)(hu:X.A.units+64<cLine):Zbt X (.builtin "sorted") (Zxl kd lt K):=by
 subst hK
 intro pins s σ H xs us Q I r h
 obtain⟨l,vs,L,es,rfl,hs,hd,h64,hk,q⟩:=h
 obtain⟨u,rfl,ru⟩:=vals1 r
 cases(show u=Qw l from ru)
 obtain⟨its,rv,pl,hz⟩:=I.list hs
 have hl:=rv.length
 obtain⟨as,ra⟩:=hd.reads rfl I rv (Zqe λd m=>by obtain⟨k,e⟩:=hk d m;exact S.lay d k e)
 obtain⟨κ,S1,S2⟩:=S.run
 obtain⟨z1,z2⟩:=readsAll_get ra
 refine Z2o (κ:=κ) (lt:=lk kd lt es) pl.isList (by omega) (λh2 s' k Q q=>S1 _ _ _ _ s' _ es as Q h2 (ReadsAll.keeps k ra) hk q) (λh2 s' k i j C hi hj hc=>?_) ?_
 ·rw[z1]at hi hj
  obtain⟨v,b1,e1,r1⟩:=z2 i _ (Xi hi)
  obtain⟨w,b2,e2,r2⟩:=z2 j _ (Xi hj)
  obtain⟨k1,q1⟩:=hk _ (QQ hi)
  obtain⟨k2,q2⟩:=hk _ (QQ hj)
  have ek:lk kd lt es i j=lt k1 k2:=by
   unfold lk
   rw[Xe,Xe,Xi hi,Xi hj]
   show((kd es[i]).bind λa=>(kd es[j]).map λb=>lt a b).getD false=_
   rw[q1,q2];rfl
  rw[ek]at hc
  unfold kas_ask
  rw[Xe,Xe,e1,e2]
  exact S2 _ _ _ _ s' v w _ _ _ _ k1 k2 C (show X.A.units+1+1+32<cLine by omega) (Reads.keeps k r1) (Reads.keeps k r2) q1 q2 hc
 ·obtain⟨e,he⟩:=sortedAll_at s.heap its (Vs (sLay QT (lk kd lt es) its))
  refine⟨.ref (s.heap.objs.size+1),_,I.laid (t':=s.toks) (o:=.lst (sLay .non (lk kd lt es) vs)) (λb ob q=>sortedAll_old q) (by omega) ⟨?_,sLay QT (lk kd lt es) its,e,Zta rv,he⟩,rfl,q _ (I.hok.fresh (by omega))⟩
  rw[(Zhf _ _ _).length_eq,Qg];omega
noncomputable def Zx1(kd:Xa->Option α)(lt:α->α->Bool):List Xa->(OT->Prop)->Prop:=λds k=>n1 (λd=>∃es:List Xa,d= .list es∧es.length<64∧keyed kd es∧k (.nd ((sLay .none (lk kd lt es) es).map OT.fz))) ds
theorem Zxa:PN G (Zxl kd lt G) (Zx1 kd lt):=λH L xs ds k Q hx h kk=>by
 obtain⟨v,d,rfl,rfl,q,es,e,h64,hk,h⟩:=hx.one h
 have fin:∀(vs:List V) (p:Addr),Das G H L vs es->H p=none->Q (.ref p) (upd H p (.lst (sLay .non (lk kd lt es) vs))):=λvs p hv hp=>kk _ _ _ [p] (Z2 hp _) (Own.list hp hv.sLay) (Zdg p) (Zau hp) h
 subst e
 generalize ed:Qk es=d at q
 cases q with
 | lst l e r=>
  cases ed
  exact⟨_,_,L,es,rfl,.inl e,r,by rw[r.length];exact h64,hk,λp hp=>fin _ p r hp⟩
 | scr ks=>
  cases ed
  exact⟨_,_,L,_,rfl,ks.sq,Das.ints _,by rw[(Das.ints (G:=G) (H:=H) (L:=L) _).length];exact h64,hk,λp hp=>fin _ p (Das.ints _) hp⟩
 | _=>cases ed
noncomputable def Zij(kd:Xa->Option α)(lt:α->α->Bool):List Xa->Option OT:=λds=>match ds with|[.list es]=>if(decide (es.length<64)&&es.all λd=>(kd d).isSome)=true then some (.nd ((sLay .none (lk kd lt es) es).map OT.fz))else none|_=>none
theorem Zy9:∀ds r k,Zij kd lt ds=some r->k r->Zx1 kd lt ds k:=λds r k h hk=>by
 unfold Zij at h
 split at h
 case h_2=>cases h
 split at h
 case isFalse=>cases h
 rename_i h2
 rw[XN]at h2
 cases h
 exact⟨_,rfl,of_decide_eq_true h2.1,λd m=>Option.isSome_iff_exists.mp (Q5.mp h2.2 d m),hk⟩
end
end L2
namespace L2
open PySem PySem.Spec PyProof.Rows
section
variable {X:Cx}{io:List Nat}{p p' c c' q r:Bool}{a b e:Expr}{fa fb:FE}{es:List Expr}{ra:FA}{st:Stmt}{sts ss ss':List Stmt}{f g:FS}{ta:FT}
theorem xv(i:Nat){x:Str}{pos:Pos}(hN:X.N[i]? =some x:=by rfl)(hv:Vis X.env.scope x:=by first|exact Qq rfl|exact Qj (Qq rfl)|exact Qj (Qj rfl))(hd:(x==("__debug__" : Str))=false:=by decide)(he:(x==("__classdict__" : Str))=false:=by decide):ME X io true true (.Name x pos) (o2 (Ze i)):=W9 (mv i hN hv hd he)
theorem xo(i:Nat){x:Str}{pos:Pos}(hN:X.N[i]? =some x:=by rfl)(hv:Vis X.env.scope x:=by first|exact Qq rfl|exact Qj (Qq rfl)|exact Qj (Qj rfl))(hd:(x==("__debug__" : Str))=false:=by decide)(he:(x==("__classdict__" : Str))=false:=by decide):ME X io true false (.Name x pos) (o2 (Zkb i)):=Z3u (mo i hN hv hd he)
theorem xci{i:Int}{j:Nat}{pos:Pos}:ME X io true true (.Constant (.int i) j pos) (o2 (fC (.int i))):=Zhx Z5p
theorem xix{pos:Pos}(ha:ME X io p c a (o2 fa))(hb:ME X io p' c' b (o2 fb))(hc:p'=true∨c=true:=by first|exact Qq rfl|exact Qj rfl)(hs:Zhv b:=by exact λ_ _=>rfl)(h2:(p&&p')=q:=by rfl)(h3:(c&&c')=r:=by rfl):ME X io q r (.Subscript a b pos) (o2 (Yi gIx fa fb)):=h2▸h3▸Ziq Ydz (Yc4 (Zrg rfl) Yaa ha hb hc (hs:=hs))
theorem xa0:MA X io true true [] (o2 Zn):=Zk1 Zkd
theorem xa1[NoStar e](ha:ME X io p c e (o2 fa))(h2:(p&&true)=q:=by rfl)(h3:(c&&true)=r:=by rfl):MA X io q r [e] (o2 (Zc fa Zn)):=Zd ha xa0 (.inl rfl) h2 h3
theorem xsq(h:MS X io st (oS f))(k:MSs X io sts (oS g)):MSs X io (st :: sts) (oS (Z1 f g)):=Zir (Zdm h k)
theorem xst{pos px:Pos}(i:Nat){x:Str}(hN:X.N.Nodup)(he:ME X io p true e (o2 fa))(hi:X.N[i]? =some x:=by rfl)(hx:Loc X.env.scope x:=by first|exact Qq rfl|exact Qj rfl)(hio:i∉io:=by decide)(hs:Vo e (some (.Name x px)) pos.line X.env=pure false:=by rfl)(hf:X.fn x=true∨X.env.scope.names.lookup x=some .local:=by first|exact .inl rfl|exact .inr rfl|assumption):MS X io (.Assign [.Name x px] e pos) (oS (wE fa (Yw i))):=Zs0 (Zsb hN hi hx he hio hs hf)
theorem xrt{pos:Pos}(h:ME X io p true e (o2 fa)):MS X io (.Return (some e) pos) (oS (wE fa Jo)):=Zhk (Zgl h)
theorem xg{pos:Pos}(i:Nat){x:Str}(hN:X.N.Nodup)(hi:X.N[i]? =some x:=by rfl)(hx:Loc X.env.scope x:=by first|exact Qq rfl|exact Qj rfl)(hio:i∉io:=by decide)(hf:X.fn x=true∨X.env.scope.names.lookup x=some .local:=by first|exact .inl rfl|exact .inr rfl|assumption):MG X io true (.Name x pos) (oG (gNm i)):=Zng (Zmh hN hi hx hio hf)
theorem xif{pos:Pos}(h:MT X io p e (o2 ta))(k:MSs X io ss (oS f))(l:MSs X io ss' (oS g)):MS X io (.If e ss ss' pos) (oS (Zad ta f g)):=Zpx (Zpm h k l)
theorem xnl:MSs X io [] (oS fNx):=Zfr Zfk
theorem xtp{pos:Pos}{n:Nat}(h:MA X io p c es (o2 ra)):ME X io p c (.Tuple es n pos) (o2 (Zf6 ra)):=Z7d (Z8m h)
theorem xls{pos:Pos}(h:MA X io p c es (o2 ra)):ME X io p c (.List es pos) (o2 (Zdn ra)):=Z5s (Z8u h)
theorem xil{tg:Expr}(h:ME X io p c e (o2 fa)):MI X io p c tg e (o2 (Zei fa)):=Z1o (Z2b h)
theorem xno{pos:Pos}(h:MT X io p e (o2 ta)):MT X io p (.UnaryOp .Not e pos) (o2 (tNo ta)):=Zyv (Zyw h)
theorem Zfl{pos:Pos}(ha:ME X io p c a (o2 fa))(hb:ME X io p' c' b (o2 fb))(hc:p'=true∨c=true:=by first|exact Qq rfl|exact Qj rfl)(h2:(p&&p')=q:=by rfl):ME X io q true (.BinOp a .Add b pos) (o2 (Zf Zaj fa fb)):=h2▸Wf Z9p (Zpg Z7e Ztx ha hb hc)
theorem Z2w{pos:Pos}(ha:ME X io p c a (o2 fa))(hb:ME X io p' c' b (o2 fb))(hc:p'=true∨c=true:=by first|exact Qq rfl|exact Qj rfl)(h2:(p&&p')=q:=by rfl):ME X io q true (.BinOp a .Sub b pos) (o2 (Zf gSb fa fb)):=h2▸Wf Z8z (Zpg Z37 Ztx ha hb hc)
theorem Zhp{pos:Pos}(ha:ME X io p c a (o2 fa))(hb:ME X io p' c' b (o2 fb))(hc:p'=true∨c=true:=by first|exact Qq rfl|exact Qj rfl)(h2:(p&&p')=q:=by rfl):ME X io q true (.BinOp a .Mult b pos) (o2 (Zf Zcp fa fb)):=h2▸Wf Z78 (Zpg Z2i Z55 ha hb hc)
theorem Zgi{pos:Pos}(ha:ME X io p c a (o2 fa))(hb:ME X io p' c' b (o2 fb))(hc:p'=true∨c=true:=by first|exact Qq rfl|exact Qj rfl)(h2:(p&&p')=q:=by rfl):ME X io q true (.BinOp a .Mod b pos) (o2 (Zf Zcb fa fb)):=h2▸Wf Z8k (Zpg Z1e Z6q ha hb hc)
theorem Zmc{pos:Pos}(ha:ME X io p c a (o2 fa))(hb:ME X io p' c' b (o2 fb))(hc:p'=true∨c=true:=by first|exact Qq rfl|exact Qj rfl)(h2:(p&&p')=q:=by rfl):ME X io q true (.BinOp a .FloorDiv b pos) (o2 (Zf Jp fa fb)):=h2▸Wf Z6e (Zpg Zwu Z54 ha hb hc)
theorem Z3w{pos:Pos}(ha:ME X io p c a (o2 fa))(hb:ME X io p' c' b (o2 fb))(hc:p'=true∨c=true:=by first|exact Qq rfl|exact Qj rfl)(h2:(p&&p')=q:=by rfl):ME X io q true (.BinOp a .Pow b pos) (o2 (Zf Zps fa fb)):=h2▸Wf Z9f (Zpg Z0j Z4p ha hb hc)
theorem xeq{pos:Pos}(hu:X.A.units+64<cLine)(ha:ME X io p c a (o2 fa))(hb:ME X io p' c' b (o2 fb))(hc:p'=true∨c=true:=by first|exact Qq rfl|exact Qj rfl)(h2:(p&&p')=q:=by rfl):MT X io q (.Compare a [.Eq] [b] pos) (o2 (tV (Zf gEq fa fb))):=h2▸Zbv Zyl (Zbn (Zf4 hu) Zkc ha hb hc (hm:=Wy _))
theorem xne{pos:Pos}(hu:X.A.units+64<cLine)(ha:ME X io p c a (o2 fa))(hb:ME X io p' c' b (o2 fb))(hc:p'=true∨c=true:=by first|exact Qq rfl|exact Qj rfl)(h2:(p&&p')=q:=by rfl):MT X io q (.Compare a [.NotEq] [b] pos) (o2 (tV (Zf gNe fa fb))):=h2▸Zbv Z7n (Zbn (Zn8 hu) Zu8 ha hb hc (hm:=Wy _))
theorem xlt{pos:Pos}(ha:ME X io p c a (o2 fa))(hb:ME X io p' c' b (o2 fb))(hc:p'=true∨c=true:=by first|exact Qq rfl|exact Qj rfl)(h2:(p&&p')=q:=by rfl):MT X io q (.Compare a [.Lt] [b] pos) (o2 (tV (Zf gLt fa fb))):=h2▸Zbv Z8t (Zbn Zv9 Zhu ha hb hc (hm:=Wy _))
theorem xgt{pos:Pos}(ha:ME X io p c a (o2 fa))(hb:ME X io p' c' b (o2 fb))(hc:p'=true∨c=true:=by first|exact Qq rfl|exact Qj rfl)(h2:(p&&p')=q:=by rfl):MT X io q (.Compare a [.Gt] [b] pos) (o2 (tV (Zf gGt fa fb))):=h2▸Zbv Ycu (Zbn Z6v Zhu ha hb hc (hm:=Wy _))
theorem xle{pos:Pos}(ha:ME X io p c a (o2 fa))(hb:ME X io p' c' b (o2 fb))(hc:p'=true∨c=true:=by first|exact Qq rfl|exact Qj rfl)(h2:(p&&p')=q:=by rfl):MT X io q (.Compare a [.LtE] [b] pos) (o2 (tV (Zf gLe fa fb))):=h2▸Zbv Yea (Zbn Z4r Zhu ha hb hc (hm:=Wy _))
theorem xge{pos:Pos}(ha:ME X io p c a (o2 fa))(hb:ME X io p' c' b (o2 fb))(hc:p'=true∨c=true:=by first|exact Qq rfl|exact Qj rfl)(h2:(p&&p')=q:=by rfl):MT X io q (.Compare a [.GtE] [b] pos) (o2 (tV (Zf gGe fa fb))):=h2▸Zbv Yd1 (Zbn Z9q Zhu ha hb hc (hm:=Wy _))
theorem xfr{pos:Pos}{tg:Expr}{it:FI}{gg:FG}(hp:PassesOwn (Qd X.prog X.w) X.A X.env X.xe)(hc:X.calm=true)(hi:MI X io p true tg e (o2 it))(hg:MG X io true tg (oG gg))(hb:MSs X io ss (oS f))(hs:∀x,JL e X.env x=pure x:=by intro _;rfl):MS X io (.For tg e ss [] pos) (oS (Jq it gg f)):=Zx6 (Zyk hp hc hi hg hb hs)
theorem xg2{pos:Pos}{n:Nat}{g1 g2:FG}(hc:X.calm=true)(ha:MG X io true a (oG g1))(hb:MG X io true b (oG g2))(h1:List.map (λx=>x.snd) (Q3 [a,b] X.env)=V1 a X.env :: List.map (λx=>x.snd) (Q3 [b] X.env):=by rfl)(h2:List.map (λx=>x.snd) (Q3 [b] X.env)=V1 b X.env :: List.map (λx=>x.snd) (Q3 [] X.env):=by rfl)(h3:(Q3 [a,b] X.env).length=2:=by rfl)(h4:List.findIdx? (λx=>x.fst) (Q3 [a,b] X.env)=none:=by rfl):MG X io true (.Tuple [a,b] n pos) (oG (gTp 2 (gCn g1 (gCn g2 gNl)))):=Zqx (Zr6 (n:=2) hc (Zbd (Za7 ha (Zbd (Za7 hb (Zne Zmk) h2)) h1)) h3 h4)
theorem xso{pos px:Pos}(i:Nat){x:Str}(hN:X.N.Nodup)(he:ME X io p true e (o2 fa))(hi:X.N[i]? =some x:=by rfl)(hx:Loc X.env.scope x:=by first|exact Qq rfl|exact Qj rfl)(hio:i∉io:=by decide)(hs:Vo e (some (.Name x px)) pos.line X.env=pure false:=by rfl)(hf:X.fn x=true∨X.env.scope.names.lookup x=some .local:=by first|exact .inl rfl|exact .inr rfl|assumption):MS X io (.Assign [.Name x px] e pos) (oS (wE fa (J8 i))):=Z1d (Z12 hN hi hx he hio hs hf)
theorem xcl{pos pp:Pos}{k:Nat}{f:Addr}{fd:XD}{ps:List Str}{x:Str}{F:FD}(G:FnOk X.prog X.w X.K X.mg X.base CX0 k f fd ps (spD X.K (sD F)))(hr:Room k X.A)(hm:X.mg x=some (.ref f))(hk:Bb X.K (.ref f)=true)(hb:Binds X.K fd ps [])(ha:MA X io p c (e :: es) (o2 ra))(hg:Gl X x:=by rfl)(h1:(x==("__debug__" : Str))=false:=by decide)(h2:Xo (e :: es) X.env=(false,eval e X.env) :: Xo es X.env:=by rfl)(h3:((QW pos (Xo es X.env)).any λx=>x.fst)=false:=by rfl):ME X io p c (.Call (.Name x pp) (e :: es) [] pos) (o2 (Zt F ra)):=Zr7 (Zyn G hr hg hm hk hb Zut ha h1 h2 h3)
theorem xln{pos pp:Pos}(hm:X.mg "len"=none)(ha:MA X io p c [e] (o2 ra))(hg:Gl X "len" :=by rfl)(h2:Xo [e] X.env=(false,eval e X.env) :: Xo [] X.env:=by rfl):ME X io p true (.Call (.Name "len" pp) [e] [] pos) (o2 (Zaf Za3 ra)):=Zes Z0i (Zjy Zs7 (Zg7 rfl) hg hm L2.B.boot_len ha (by decide) (by decide) h2 (by rfl))
end
noncomputable def tbl(P:List Nat)(led:Bool):SetTable:={ mask:=7,place:=P.toArray,dummies:=#[],finger:=0,led,moves:=0,plain:=true }
noncomputable def hT(k:List Int):Int:=reduceHash (Builtin.Tuple.tupleHashOf (k.map hashInt))
noncomputable def hAt(ks:List (List Int))(i:Nat):Int:=(ks[i]?.map hT).getD 0
noncomputable def Z9n(P:List Nat)(j:Nat):List Nat:=((tbl P false).put j).1.place.toList
noncomputable def Yca(P:List Nat)(j:Nat):Nat:=((tbl P false).put j).2
noncomputable def Ydh(ks:List (List Int))(p:Nat)(k:List Int):List (List Int):=ks.take p ++ k :: ks.drop p
noncomputable def Yd6(P:List Nat)(ks:List (List Int))(k:List Int):Option (List Nat×List (List Int)) :=
 match(tbl P false).probe (hAt ks) (hT k) ((tbl P false).probeStart (hT k))with
 | some (.empty j none)=>if(tbl (Z9n P j) false).tooFull=false∧(Z9n P j).length=ks.length+1∧ks.length≤6∧Yca P j≤ks.length then some (Z9n P j,Ydh ks (Yca P j) k)else none
 | some (.candidate _ i _)=>if ks[i]? =some k then some (P,ks)else none
 | _=>none
noncomputable def grow(K:List (List Int)):Nat->List (List Nat×List (List Int))->List (List Nat×List (List Int))
 | 0,S=>S
 | n+1,S=>grow K n (S ++ (S.flatMap λs=>K.filterMap λk=>Yd6 s.1 s.2 k).filter λs=>!S.contains s)
noncomputable def K2:List (List Int):=[[0,0],[0,1],[1,0],[1,1]]
noncomputable def S2:List (List Nat×List (List Int)):=(grow K2 4 [([],[])]).eraseDups
section
variable {prog:X8}{w:Qs}{A:Qo}{E:Xd->Xg->Prop}{s:Xg}
inductive KeysIn(U:Addr->List Int->Prop):List (List Int)->List (Int×Xd)->Prop
 | nil:KeysIn U [] []
 | cons {k:List Int} {a:Addr} {ks:List (List Int)} {l:List (Int×Xd)} (h:U a k) (t:KeysIn U ks l):KeysIn U (k :: ks) ((hT k,.ref a) :: l)
theorem KeysIn.len{U:Addr->List Int->Prop}{ks:List (List Int)}{l:List (Int×Xd)}(h:KeysIn U ks l):ks.length=l.length:=by
 induction h with
 | nil=>rfl
 | cons _ _ ih=>rw[Bg,Bg,ih]
theorem KeysIn.hash{U:Addr->List Int->Prop}{ks:List (List Int)}{l:List (Int×Xd)}(h:KeysIn U ks l):l.map (·.1)=ks.map hT:=by
 induction h with
 | nil=>rfl
 | cons _ _ ih=>rw[Qe,Qe,ih]
noncomputable abbrev IK(prog:X8)(w:Qs)(h:Heap)(k:List Int)(a:Addr):Prop:=IsTupleKey (intKind prog w) h k a
theorem items_int{ks:List Int}{vs:List Xd}(h:ItemsAre (intKind prog w) ks vs):∀v∈vs,∃i t,v= .int i t:=by
 induction h with
 | nil=>exact λ_ m=>nomatch m
 | cons h _ ih=>
  intro v hv
  rcases Xp.mp hv with rfl|hv
  ·obtain⟨t,e⟩:=Value.isInt_shape h
   exact⟨_,t,e⟩
  ·exact ih v hv
theorem KeysIn.at{U:Addr->List Int->Prop}{ks:List (List Int)}{es:Array (Int×Xd)}(h:KeysIn U ks es.toList)(i:Nat):(es[i]?.map (·.1)).getD 0=hAt ks i:=by
 unfold hAt
 rw[←Xn,←h.hash,Xn,Vx]
end
section
variable {prog:X8}{w:Qs}{A:Qo}{R:Result->Xg->Prop}{I:Addr}{fp wr:List Addr}{n:Nat}{Pv:Nat->Xd->Prop}{St:Nat->Heap->Prop}
end
inductive Z9x(H:Hp):List V->List (List Int)->Prop
 | nil:Z9x H [] []
 | cons {a:Addr} {k:List Int} {xs:List V} {ks:List (List Int)} (h:H a=some (.tup (k.map V.int))) (t:Z9x H xs ks):Z9x H (.ref a :: xs) (k :: ks)
section
variable {X:Cx}{p c:Bool}{io:List Nat}{a e:Expr}{pos pos' pl pr:Pos}{t:TA}{mr:MAt}{ra:FA}
end
section
variable {G:Xb}{io:List Nat}{p pt pe:Bool}{own:List Str}{caps:List Nat}{g:MGt}{mt:MTt}{me:MEt}{i:Nat}
noncomputable def Zkm:List OT->Bool
 | []=>true
 | .fz _ :: r=>Zkm r
 | _ :: _=>false
theorem Owns.fz_das{H:Hp}{L:Addr->Prop}:∀{ts:List OT} {xs:List V} {bs:List Addr},Owns G H L xs ts bs->Zkm ts=true->Das G H L xs (OT.datas ts):=fun{ts}=>by
 induction ts with
 | nil=>
  intro xs bs h _
  cases h
  rw[Zey];exact .nil
 | cons t ts ih=>
  intro xs bs h a
  cases t with
  | fz d=>
   cases h with
   | cons h r=>
    cases h with
    | fz q=>
     rw[Zdl,OT.data_fz]
     exact .cons q (ih r a)
  | nd _=>cases a
  | tp _=>cases a
  | dc _ _ _=>cases a
end
section
variable {X:Cx}{io:List Nat}{p pt pe:Bool}{own:List Str}{caps:List Nat}{N':List Str}{sc:Vw}{i:Nat}{x:Str}{px:Pos}{tg elt:Expr}{ifs:List Expr}{g:MGt}{mt:MTt}{me:MEt}{pos:Pos}
noncomputable def Z28(o:Option (Option OT)):Option (List OT):=match o with|some (some (.nd ts))=>if Zkm ts=true then some ts else none|_=>none
theorem Zt8{o:Option (Option OT)}{ts:List OT}(h:Z28 o=some ts):o=some (some (.nd ts))∧Zkm ts=true:=by
 unfold Z28 at h
 split at h
 ·split at h
  ·cases h;exact⟨rfl,‹_›⟩
  ·cases h
 ·cases h
end
noncomputable abbrev Ydp(h:Heap)(T:Addr)(a b c:Xd):Prop:=h.get? T=some { cls:=.type "tuple",data:=.seq #[a,b,c] }
structure Z3A(z TI TO i1 i2 i3:Addr)(f1 f2 f3:List Addr):Prop where
 TIz:TI≠z
 TOz:TO≠z
 a1:∀c∈f1,c≠z∧c≠TO∧c≠i2∧c≠i3
 a2:∀c∈f2,c≠z∧c≠TO∧c≠i1∧c≠i3
 a3:∀c∈f3,c≠z∧c≠TO∧c≠i1∧c≠i2
section
variable {P:X8}{w:Qs}{A:Qo}{E:Xd->Xg->Prop}{s:Xg}
end
noncomputable abbrev z3A(h:Heap)(a:Addr):Heap:=h.push { cls:=.type "list_iterator",data:=.fields #[.ref a,.int 0 0] }
noncomputable abbrev z3B(h:Heap)(a b:Addr):Heap:=z3A (z3A h a) b
noncomputable abbrev z3C(h:Heap)(a b c:Addr):Heap:=z3A (z3B h a b) c
noncomputable abbrev z3D(h:Heap)(a b c:Addr):Heap:=(z3C h a b c).push { cls:=.type "tuple",data:=.seq #[.ref h.objs.size,.ref (z3A h a).objs.size,.ref (z3B h a b).objs.size] }
noncomputable abbrev z3E(h:Heap)(a b c:Addr):Heap:=(z3D h a b c).push { cls:=.type "tuple",data:=.seq #[.none,.none,.none] }
noncomputable abbrev z3F(h:Heap)(a b c:Addr):Heap:=(z3E h a b c).push { cls:=.type "zip",data:=.fields #[.none,.bool false,.bool false,.ref (z3C h a b c).objs.size,.ref (z3D h a b c).objs.size] }
section
variable {P:X8}{w:Qs}{A:Qo}{E:Xd->Xg->Prop}{s:Xg}
end
section
variable {X:Cx}{io:List Nat}{p c:Bool}{a b e:Expr}{mr:MAt}{ra:FA}
end
variable {G:Xb}
section
variable {X:Cx}{io:List Nat}{p c:Bool}{e:Expr}{m:MEt}{pos apos cpos px:Pos}{i:Nat}{x:Str}{st:Stmt}{fa:FE}
noncomputable def Zjx(i:Nat)(m:MEt):MSt:=λD δ=>match δ[i]? with
 | some (some (.nd _))=>m δ λr δ1=>match r,δ1[i]? with
  | .nd rs,some (some (.nd ts))=>ts.length+rs.length≤Xr∧D.nx (δ1.set i (some (.nd (ts ++ (OT.datas rs).map OT.fz))))
  | _,_=>False
 | _=>False
theorem Owns.app{H:Hp}{L:Addr->Prop}{ds:List Xa}:∀{zs xs:List V} {ts:List OT} {bs:List Addr},Owns G H L xs ts bs->Das G H L zs ds->Owns G H L (xs ++ zs) (ts ++ ds.map OT.fz) bs:=by
 induction ds with
 | nil=>
  intro zs xs ts bs h g
  cases g
  rw[QL,List.map_nil,QL];exact h
 | cons d ds ih=>
  intro zs xs ts bs h g
  cases g with
  | cons q g=>
   have:=ih (h.snoc (.fz q)) g
   rw[QL,JV,JV]at this
   exact this
theorem Zk8(i:Nat)(he:ME X io p true e m)(hN:X.N[i]? =some x:=by rfl)(hv:Vis X.env.scope x:=by first|exact Qq rfl|exact Qj (Qq rfl)|exact Qj (Qj rfl))(hd:(x==("__debug__" : Str))=false:=by decide)
  (hcd:(x==("__classdict__" : Str))=false:=by decide)
  (hbase:V6 (.Name x px) "extend" X.env (eval (.Name x px) X.env)=eval (.Name x px) X.env:=by rfl)
  (hfew:((QW cpos (Xo [e] X.env)).all (λx=>!x.1)&&(backToKw cpos (keywordEach [] X.env)).all (λx=>x.1.isSome)
   &&decide ([e].length+([]:List VG).length+(if([]:List VG).isEmpty then 0 else 1)<30))=true:=by rfl)
  (hline:(apos.endLine==cpos.line)=true:=by rfl) (hs:Xo [e] X.env=(false,eval e X.env) :: Xo [] X.env:=by rfl) (hplain:(QW cpos (Xo [] X.env)).any (·.1)=false:=by rfl)
  (hsw:Vo (.Call (.Attribute (.Name x px) "extend" apos) [e] [] cpos) none pos.line X.env=pure false:=by rfl) :
  MS X io (.Expr (.Call (.Attribute (.Name x px) "extend" apos) [e] [] cpos) pos) (Zjx i m):=by
 obtain⟨_,A,s⟩:=he
 refine⟨_,Zst (Zz3 Ur PySem.F.slot_list_extend PySem.F.type_list_extend Zrl (pv i hN hv hd hcd) (Zbl A Zen hs) hbase hfew hline hs hplain) hsw,λC H σ δ fp ex D D' R h E=>?_⟩
 unfold Zjx at h
 split at h
 case h_2=>exact h.elim
 rename_i ts0 hi0
 obtain⟨a',xs0,bs0,hv0,hx0,_,_⟩:=R.ownNd hi0
 refine⟨_,hv0,.inl ⟨rfl,xs0,.inl (.inl hx0)⟩,?_⟩
 refine s C H σ δ fp ex _ _ R h λH1 v r δ1 fp1 new r1 h1=>?_
 split at h1
 case h_2=>exact h1.elim
 rename_i rs ts1 hi1
 have R1:=r1.base
 obtain⟨a1,xs1,bs1,hv1,hx1,o1,hf1⟩:=R1.ownNd hi1
 rw[hv0]at hv1
 cases hv1
 obtain⟨b,zs,rfl,hb,lz,qs⟩:∃b zs,v= .ref b∧H1 b=some (.lst zs)∧zs.length=rs.length∧Das X.K H1 (Lf C fp1 ex) zs (OT.datas rs):=by
  have ow:=r1.own
  have nw:∀a∈new,Lf C fp1 ex a:=λa m=>by
   refine⟨λqz=>?_,(R.newOk (r1.fresh a m)).2.1,.inr (R.newOk (r1.fresh a m)).2.2⟩
   obtain⟨i,z⟩:=qz
   exact r1.rel.dx i a z (.inr m)
  cases ow with
  | nd hb r=>exact⟨_,_,rfl,hb,r.length,r.das (λa l _=>⟨(l rfl).1,λz=>(l rfl).2.1 (.inl z),(l rfl).2.2⟩) λa m=>nw a (.tail _ m)⟩
 refine⟨a',b,xs1,zs,rfl,rfl,hx1,hb,by rw[o1.length,lz];exact h1.1,?_⟩
 obtain⟨R2,S2⟩:=R1.top hi1 hv0 hf1 hx1 (o1.app qs) (List.Sublist.refl _)
 exact E.nx _ σ _ _ R2 (r1.stp.kp.trans S2.kp) h1.2
noncomputable def Zcw(i:Nat)(e:FE):FS:=λδ=>match δ[i]? with
 | some (some (.nd _))=>wE e (λr δ1=>match r,δ1[i]? with
  | .nd rs,some (some (.nd ts))=>if ts.length+rs.length≤Xr then .nx (δ1.set i (some (.nd (ts ++ (OT.datas rs).map OT.fz))))else .bad
  | _,_=>.bad) δ
 | _=>.bad
theorem Zkp(h:MS X io st (Zjx i (o2 fa))):MS X io st (oS (Zcw i fa)):=h.weak λD δ h=>by
 unfold oS Zcw at h;unfold Zjx
 split at h
 case h_2=>exact h.elim
 rename_i q;(try rw[q])
 refine(Zqq h).imp λr δ' z=>?_
 split at z
 ·rename_i q2;(try rw[q2]);exact Zn9 z
 ·exact z.elim
end
noncomputable def Up(xs:List Nat):Prop:=xs.Pairwise (·<·)
structure Tb(b:Bool)(t:SetTable):Prop where
 led:t.led=b
 up:t.plain=true->Up t.place.toList
noncomputable def vI:Xd->Int
 | .int k _=>k
 | _=>0
noncomputable def SetI(prog:X8)(w:Qs)(b:Bool)(h:Heap)(S:Addr)(ks:List Int):Prop :=
 ∃o es ep t,h.get? S=some o∧o.ExactSet∧o.data= .set es ep t∧ElemsOf (intKind prog w) es.toList∧es.size<scanBound∧t.fits es.size=true∧Tb b t∧es.toList.map (λe=>vI e.2)=ks
section
variable {prog:X8}{w:Qs}{A:Qo}{E:Xd->Xg->Prop}{s:Xg}{b:Bool}
theorem SetI.len{h:Heap}{S:Addr}{ks:List Int}(hS:SetI prog w b h S ks):ks.length<scanBound:=by
 obtain⟨o,es,ep,t,_,_,_,_,l,_,_,rfl⟩:=hS
 rw[Xc,V0];exact l
end
noncomputable def OfL{α:Type}(ks ns:List α):Prop:=ks.Nodup∧∀x,x∈ks↔x∈ns
noncomputable abbrev Of(ks ns:List Int):Prop:=OfL ks ns
structure Yel{τ:Type}(prog:X8)(w:Qs)(A:Qo)(S:Addr)(T:Heap->List τ->Prop)(h0:Heap)(n:Nat)(Ok:Xd->τ->Prop):Prop where
 stay:∀h h' ks,T h ks->(∀o,h.get? S=some o->h'.get? S=some o)->T h' ks
 add:∀(s:Xg) (E:Xd->Xg->Prop) (v:Xd) (k:τ) (ks:List τ) (Q:Bool->Xg->Prop),Ok v k->(∀b o,b<S->h0.get? b=some o->s.heap.get? b=some o)->T s.heap ks->ks.length<n->(∀c h' tk ks',Vj S s.heap h'->T h' ks'->(k∈ks->ks'=ks)->(k∉ks->ks'.Perm (ks ++ [k]))->Q c { s with heap:=h',toks:=tk })->X4 (Qd prog w) A (setAdd S v) Q E s
section
variable {prog:X8}{w:Qs}{A:Qo}{R:Result->Xg->Prop}{I S:Addr}{fp wr:List Addr}{n:Nat}{Pv:Nat->Xd->Prop}{St:Nat->Heap->Prop}{τ:Type}{T:Heap->List τ->Prop}{h0:Heap}{Ok:Xd->τ->Prop}
end
section
variable {prog:X8}{w:Qs}{A:Qo}{E:Xd->Xg->Prop}{s:Xg}
end
section
variable {κ:Type}[DecidableEq κ]
noncomputable def Zuc(kvs:List (κ×V))(k:κ):Option V:=(kvs.find? λkv=>decide (kv.1=k)).map (·.2)
noncomputable def putK(kvs:List (κ×V))(k:κ)(v:V):List (κ×V) :=
 if(kvs.any λkv=>decide (kv.1=k))=true then kvs.map (λkv=>if kv.1=k then(kv.1,v)else kv)else kvs ++ [(k,v)]
theorem Zvi{p:κ×V}{r:List (κ×V)}{k:κ}(e:p.1=k):Zuc (p :: r) k=some p.2:=by simp[Zuc,List.find?_cons,e]
theorem Zuz{p:κ×V}{r:List (κ×V)}{k:κ}(e:¬p.1=k):Zuc (p :: r) k=Zuc r k:=by simp[Zuc,List.find?_cons,e]
theorem RelO.getD{o:Option V}{u:Option Xd}{d:V}{d':Xd}(r:RelO o u)(rd:RelV d d'):RelV (o.getD d) (u.getD d'):=by
 cases o with
 | none=>cases u with
  | none=>exact rd
  | some _=>exact(show False from r).elim
 | some _=>cases u with
  | none=>exact(show False from r).elim
  | some _=>exact r
theorem KV.length{kvs:List (κ×V)}{vs:List (κ×Xd)}(r:KV kvs vs):kvs.length=vs.length:=Paired.length r
end
noncomputable abbrev KT(H:Hp):List (List Key×V)->List (List Key×Addr×Xd)->Prop:=Paired λp q=>p.1=q.1∧H q.2.1=some (.tup (p.1.map kV))∧RelV p.2 q.2.2
section
variable {P:X8}{w:Qs}{H:Hp}{h:Heap}{a:Addr}
end
noncomputable def DGet(H:Hp)(a:Addr)(y:V)(r:Option V):Prop :=
 (∃ kvs k,Rd H a (.dK kvs)∧y=kV k∧r=Zuc kvs k)∨∃kvs k b,Rd H a (.dT kvs)∧y= .ref b∧H b=some (.tup (k.map kV))∧r=Zuc kvs k
noncomputable def DPut(H:Hp)(a:Addr)(y v:V)(H':Hp):Prop :=
 (∃ kvs k,H a=some (.dK kvs)∧y=kV k∧kvs.length<Xr∧H'=upd H a (.dK (putK kvs k v)))∨
 ∃kvs k b,H a=some (.dT kvs)∧y= .ref b∧H b=some (.tup (k.map kV))∧kvs.length<Xr∧H'=upd H a (.dT (putK kvs k v))
theorem DGet.k{H:Hp}{a:Addr}{kvs:List (Key×V)}{k:Key}(e:H a=some (.dK kvs)):DGet H a (kV k) (Zuc kvs k):=.inl ⟨kvs,k,.inl e,rfl,rfl⟩
theorem DGet.t{H:Hp}{a b:Addr}{kvs:List (List Key×V)}{k:List Key}(e:H a=some (.dT kvs))(eb:H b=some (.tup (k.map kV))):DGet H a (.ref b) (Zuc kvs k):=.inr ⟨kvs,k,b,.inl e,rfl,eb,rfl⟩
theorem DPut.k{H:Hp}{a:Addr}{kvs:List (Key×V)}{k:Key}{v:V}(e:H a=some (.dK kvs))(hl:kvs.length<Xr):DPut H a (kV k) v (upd H a (.dK (putK kvs k v))):=.inl ⟨kvs,k,e,rfl,hl,rfl⟩
theorem DPut.t{H:Hp}{a b:Addr}{kvs:List (List Key×V)}{k:List Key}{v:V}(e:H a=some (.dT kvs))(eb:H b=some (.tup (k.map kV)))(hl:kvs.length<Xr) :
  DPut H a (.ref b) v (upd H a (.dT (putK kvs k v))):=.inr ⟨kvs,k,b,e,rfl,eb,hl,rfl⟩
section
variable {X:Cx}{pins:List (Addr×Obj)}{σ:St}{H:Hp}{s:Xg}{a:Addr}{y v:V}{u r:Xd}{o:Option V}{A:Qo}{E:Xd->Xg->Prop}
end
section
variable {X:Cx}{pins:List (Addr×Obj)}{σ:St}{H:Hp}{s:Xg}{a:Addr}{kvs:List (Key×V)}{k:Key}{u:Xd}{A:Qo}{E:Xd->Xg->Prop}
end
section
variable {X:Cx}{o i e value:Expr}{pos pos' tpos:Pos}{td ty tv:TE}
end
section
variable {X:Cx}{pos:Pos}
end
noncomputable abbrev VV:List (V×V)->List (Xd×Xd)->Prop:=Paired λp q=>RelV p.1 q.1∧RelV p.2 q.2
structure M1(X:Cx)(o:Expr)(m:Str)(apos:Pos)(e:Expr)(cpos:Pos):Prop where
 base:V6 o m X.env (eval o X.env)=eval o X.env
 few:((QW cpos (Xo [e] X.env)).all (λx=>!x.1)&&(backToKw cpos (keywordEach [] X.env)).all (λx=>x.1.isSome)
  &&decide (([e]:List Expr).length+([]:List VG).length+(if([]:List VG).isEmpty then 0 else 1)<30))=true
 line:(apos.endLine==cpos.line)=true
 trees:QW cpos (Xo [e] X.env)=[(false,eval e X.env)]
structure M2(X:Cx)(o:Expr)(m:Str)(apos:Pos)(e f:Expr)(cpos:Pos):Prop where
 base:V6 o m X.env (eval o X.env)=eval o X.env
 few:((QW cpos (Xo [e,f] X.env)).all (λx=>!x.1)&&(backToKw cpos (keywordEach [] X.env)).all (λx=>x.1.isSome)
  &&decide (([e,f]:List Expr).length+([]:List VG).length+(if([]:List VG).isEmpty then 0 else 1)<30))=true
 line:(apos.endLine==cpos.line)=true
 trees:QW cpos (Xo [e,f] X.env)=[(false,eval e X.env),(false,eval f X.env)]
section
variable {X:Cx}{pins:List (Addr×Obj)}{σ:St}{H:Hp}{s:Xg}{a:Addr}{y d:V}{u r:Xd}{o:Option V}{A:Qo}{E:Xd->Xg->Prop}
end
section
variable {X:Cx}{o e f:Expr}{apos cpos:Pos}{td ty tx:TE}
end
variable {G:Xb}
noncomputable def Yag(k:KY):List KY->List Xa->Option Xa
 | [],_=>none
 | _ :: _,[]=>none
 | j :: ks,d :: ds=>if j=k then some d else Yag k ks ds
section
variable {H:Hp}{L:Addr->Prop}{κ:Type}[DecidableEq κ]{f:κ->KY}
noncomputable def Ybf(G:Xb)(H:Hp)(L:Addr->Prop)(a:Option V)(b:Option Xa):Prop:=(∃v d,a=some v∧b=some d∧Da G H L v d)∨(a=none∧b=none)
theorem look(hf:∀a b,f a=f b->a=b)(k:κ)(kvs:List (κ×V)):∀ds,Das G H L (kvs.map (·.2)) ds->Ybf G H L (Zuc kvs k) (Yag (f k) (kvs.map λp=>f p.1) ds):=by
 induction kvs with
 | nil=>exact λds _=>.inr ⟨rfl,rfl⟩
 | cons p kvs ih=>
  intro ds h
  cases h with
  | cons h r=>
   rename_i d ds
   show Ybf G H L _ (if f p.1=f k then some d else Yag (f k) (kvs.map λp=>f p.1) ds)
   by_cases e:p.1=k
   ·rw[Zvi e,if_pos (congrArg f e)]
    exact .inl ⟨_,_,rfl,rfl,h⟩
   ·rw[Zuz e,if_neg λz=>e (hf _ _ z)]
    exact ih _ r
end
section
variable {H:Hp}{L:Addr->Prop}{y:V}{e:Xa}
end
end L2
namespace L2
open PySem PySem.Spec PyProof.Rows PySem.W PySem.SeqAt
variable {G:Xb}
section
variable {prog:X8}{w:Qs}{A:Qo}{E:Xd->Xg->Prop}{s:Xg}
end
theorem Paired.at{α β:Type}{R:α->β->Prop}{as:List α}{bs:List β}(h:PySem.Paired R as bs):∀{i:Nat} {y:β},bs[i]? =some y->∃x,as[i]? =some x∧R x y:=by
 induction h with
 | nil=>intro i y z;cases z
 | cons h t ih=>
  intro i y z
  cases i with
  | zero=>cases z;exact⟨_,rfl,h⟩
  | succ i=>exact ih z
end L2
namespace L2
open PySem PySem.Spec PyProof.Rows
variable {G:Xb}
noncomputable def Z6k(K:Xb):R2:=λx y H Q=>Z7a K x y H Q∨∃a b ys,x= .ref a∧y= .ref b∧SqT K H a []∧SqT K H b ys∧Q (.ref b) H
theorem Z15{X:Cx}:OpR X (BL .Add) (Z6k X.K):=by
 intro pins s σ H x y v u Q I rx ry h
 rcases h with h|h
 ·exact Z1i pins s σ H x y v u Q I rx ry h
 ·obtain⟨a,b,ys,rfl,rfl,ha,hb,q⟩:=h
  cases rx
  cases ry
  obtain⟨its,r1,p1,_⟩:=I.tuple ha
  obtain⟨its2,r2,p2,_⟩:=I.tuple hb
  cases r1
  obtain⟨⟨cls,dd,data,sl⟩,ho,hc,n,hd⟩:=id p1
  obtain⟨⟨cls2,dd2,data2,sl2⟩,ho2,hc2,n2,hd2⟩:=id p2
  simp only at hc hd hc2 hd2
  subst hc hd hc2 hd2
  exact concat_meets ⟨_,ho,rfl⟩ ⟨_,ho2,rfl⟩ noFill_tuple_add seq_tuple_add UJ Us (Uh _ _)
   (tuple_addW0 a b _ its2.toArray n n2 dd dd2 sl sl2 rfl) ⟨ho,ho2,.ref b,H,I,rfl,q⟩
noncomputable def Zqj:Xa->Xa->Option OT:=λd e=>match d,e with| .tuple ds,.tuple es=>if ds.length+es.length≤Xr then some (.fz (.tuple (ds ++ es)))else none|_,_=>none
noncomputable def Z6u:Xa->Xa->(OT->Prop)->Prop:=λd e k=>∃r,Zqj d e=some r∧k r
theorem Z4k:ByO Zqj Z6u:=λ_ _ r _ h hk=>⟨r,h,hk⟩
theorem Z2q:P2 G (Z6k G) Z6u:=λH L x y d e k Q hx hy h kk=>by
 obtain⟨r,h,hk⟩:=h
 unfold Zqj at h
 split at h
 case h_2=>cases h
 rename_i ds es
 by_cases c:ds.length+es.length≤Xr
 ·rw[if_pos c]at h
  cases h
  have same:∀v,Da G H L v (.tuple (ds ++ es))->Q v H:=λv q=>kk H v _ [] (Same.refl _) (.fz (q.wide λa l _=>⟨.inl l,λm=>nomatch m⟩)) .nil (λa m=>nomatch m) hk
  cases hx with
  | tup e1 r1=>
   cases hy with
   | tup e2 r2=>
    rename_i a1 xs1 a2 xs2
    by_cases z:xs1=[]
    ·subst z
     cases r1
     exact .inr ⟨_,_,_,rfl,rfl,.inl (.inl e1),.inl (.inl e2),same _ (.tup e2 r2)⟩
    ·refine .inl ⟨_,_,_,_,rfl,rfl,.inl (.inl e1),.inl (.inl e2),z,by rw[r1.length,r2.length];exact c,λw=>?_,λw p hp=>?_⟩
     ·subst w
      cases r2
      rw[QL]at same
      exact same _ (.tup e1 r1)
     ·exact kk _ _ _ [] (Z2 hp _) (.fz (.tup Z7 (((r1.append r2).wide λa l _=>⟨.inl l,λm=>nomatch m⟩).same (Z2 hp _)))) .nil (λa m=>nomatch m) hk
 ·rw[if_neg c]at h;cases h
noncomputable def Ybj(o:Option (Option OT))(δ:Zi):Option (OT×Zi):=match o with|some (some (.fz d))=>some (.fz d,δ)|_=>none
theorem Z0x(d:Xa)(δ:Zi):Ybj (some (some (.fz d))) δ=some (.fz d,δ):=rfl
noncomputable def Z3t(o:Option (Option OT))(δ:Zi):Option (OT×Zi):=match o with|some (some t)=>some (.fz t.data,δ)|_=>none
theorem Z0b(t:OT)(δ:Zi):Z3t (some (some t)) δ=some (.fz t.data,δ):=rfl
theorem Zz1(i:Nat)(δ:Zi):Ze i δ=Ybj δ[i]? δ:=rfl
theorem Z1r(i:Nat)(δ:Zi):Zkb i δ=Z3t δ[i]? δ:=rfl
theorem Z45(d:Xa)(δ:Zi):fC d δ=some (.fz d,δ):=rfl
theorem Zwc(g:Xa->Xa->Option Xa)(a b:FE)(δ:Zi):Zf g a b δ=(a δ).bind λp=>(b p.2).bind λq=>(g p.1.data q.1.data).bind λd=>some (.fz d,q.2):=rfl
theorem Zzh(g:Xa->Xa->Option OT)(a b:FE)(δ:Zi):Yi g a b δ=(a δ).bind λp=>(b p.2).bind λq=>(g p.1.data q.1.data).bind λd=>some (d,q.2):=rfl
theorem Z4f(g:Xa->Option Xa)(a:FE)(δ:Zi):fUn g a δ=(a δ).bind λp=>(g p.1.data).bind λd=>some (.fz d,p.2):=rfl
noncomputable def onB{α:Type}(d:Xa)(x y:Option α):Option α:=match d with| .bool true=>x| .bool false=>y|_=>none
theorem Z8o{α:Type}(x y:Option α):onB (.bool true) x y=x:=rfl
theorem Yeh{α:Type}(x y:Option α):onB (.bool false) x y=y:=rfl
theorem Z0v(a b:FE)(δ:Zi):Zue a b δ=(a δ).bind λp=>onB p.1.data (b p.2) (some (.fz (.bool false),p.2)):=by
 unfold Zue onB
 cases a δ with
 | none=>rfl
 | some p=>first|rfl|(simp only[Xf];done)|(simp only[Xf];generalize p.1.data=d;cases d<;>first|rfl|(rename_i b;cases b<;>rfl))
theorem Ybr(a b:FE)(δ:Zi):fOr a b δ=(a δ).bind λp=>onB p.1.data (some (.fz (.bool true),p.2)) (b p.2):=by
 unfold fOr onB
 cases a δ with
 | none=>rfl
 | some p=>first|rfl|(simp only[Xf];done)|(simp only[Xf];generalize p.1.data=d;cases d<;>first|rfl|(rename_i b;cases b<;>rfl))
theorem Ycs(t:FT)(a b:FE)(δ:Zi):fIf t a b δ=(t δ).bind λp=>if p.1=true then a p.2 else b p.2:=rfl
noncomputable def Z9j(t:OT)(δ:Zi):Option (Bool×Zi):=match t with| .fz (.bool b)=>some (b,δ)|_=>none
theorem Z7b(b:Bool)(δ:Zi):Z9j (.fz (.bool b)) δ=some (b,δ):=rfl
theorem Z81(e:FE)(δ:Zi):tV e δ=(e δ).bind λp=>Z9j p.1 p.2:=by
 unfold tV Z9j
 cases e δ with
 | none=>rfl
 | some p=>rfl
theorem Z6g(t:FT)(δ:Zi):tNo t δ=(t δ).bind λp=>some (!p.1,p.2):=rfl
theorem Ya2(t u:FT)(δ:Zi):tAn t u δ=(t δ).bind λp=>if p.1=true then u p.2 else some (false,p.2):=rfl
theorem Z7c(t u:FT)(δ:Zi):tO t u δ=(t δ).bind λp=>if p.1=true then some (true,p.2)else u p.2:=rfl
theorem Z96(e:FE)(δ:Zi):tD e δ=(e δ).bind λp=>(Zuk p.1.data).bind λb=>some (b,p.2):=rfl
theorem Z8p(δ:Zi):Zd0 δ=some (true,δ):=rfl
theorem Yas(δ:Zi):Zn δ=some ([],δ):=rfl
theorem Zu3(e:FE)(a:FA)(δ:Zi):Zc e a δ=(e δ).bind λp=>(a p.2).bind λq=>some (p.1 :: q.1,q.2):=rfl
theorem Z03(a:FA)(δ:Zi):Zf6 a δ=(a δ).bind λp=>if p.1.length≤Xr then some (.fz (.tuple (OT.datas p.1)),p.2)else none:=rfl
theorem Zrk(a:FA)(δ:Zi):Zdn a δ=(a δ).bind λp=>if p.1.length≤Xr then some (.nd p.1,p.2)else none:=rfl
theorem Z7p(a:FA)(δ:Zi):Yao a δ=(a δ).bind λp=>if p.1.length≤Xr then some (.tp p.1,p.2)else none:=rfl
theorem Zvy(e:FE)(δ:Zi):Zth e δ=(e δ).bind λp=>if Zbh p.1.data=true then some (.fz p.1.data,p.2)else none:=rfl
theorem Z7f(e:FE)(δ:Zi):Z5r e δ=(e δ).bind λp=>if Z0p p.1=true then some (p.1,p.2)else none:=rfl
noncomputable def okO(x:RF)(δ:Zi):Option (OT×Zi):=match x with| .ok r=>some (r,δ)|_=>none
theorem Z25(r:OT)(δ:Zi):okO (.ok r) δ=some (r,δ):=rfl
theorem Zoj(F:FD)(a:FA)(δ:Zi):Zt F a δ=(a δ).bind λp=>okO (F (OT.datas p.1)) p.2:=by
 unfold Zt okO
 cases a δ with
 | none=>rfl
 | some p=>rfl
noncomputable def atO{α:Type}(o:Option (Option OT))(k:OT->Option α):Option α:=match o with|some (some t)=>k t|_=>none
theorem Ydl{α:Type}(t:OT)(k:OT->Option α):atO (some (some t)) k=k t:=rfl
theorem Z3l(i:Nat)(F:FIO)(a:FA)(δ:Zi):Zxv i F a δ=atO δ[i]? λ_=>(a δ).bind λp=>atO p.2[i]? λt=>(F t (OT.datas p.1)).bind λq=>some (q.1,p.2.set i (some q.2)):=by
 unfold Zxv
 generalize δ[i]? =o
 rcases o with _|_|t
 ·rfl
 ·rfl
 ·show(a δ).bind _=(a δ).bind _
  cases a δ with
  | none=>rfl
  | some p=>
   show(λo:Option (Option OT)=>(match o with|some (some t)=>(F t (OT.datas p.1)).bind λq=>some (q.1,p.2.set i (some q.2))|_=>none)) p.2[i]? =atO p.2[i]? _
   generalize p.2[i]? =o
   rcases o with _|_|t<;>rfl
theorem Z2p(g:List Xa->Option Xa)(a:FA)(δ:Zi):Zaf g a δ=(a δ).bind λp=>(g (OT.datas p.1)).bind λd=>some (.fz d,p.2):=rfl
theorem Z3j(g:List Xa->Option OT)(a:FA)(δ:Zi):fBl g a δ=(a δ).bind λp=>(g (OT.datas p.1)).bind λd=>some (d,p.2):=rfl
theorem Z1y(T:String)(e:FE)(δ:Zi):Zm0 T e δ=(e δ).bind λp=>if Zgp p.1.data=true then none else some (.fz (.bool (Zok T p.1.data)),p.2):=rfl
theorem Z4n(δ:Zi):oN δ=some (none,δ):=rfl
noncomputable def asInt{α:Type}(d:Xa)(k:Int->Option α):Option α:=match d with| .int i=>k i|_=>none
theorem Zjg{α:Type}(i:Int)(k:Int->Option α):asInt (.int i) k=k i:=rfl
noncomputable def Zqz{α:Type}(d:Xa)(k:List Xa->Option α):Option α:=match d with| .list i=>k i|_=>none
theorem Zs2{α:Type}(i:List Xa)(k:List Xa->Option α):Zqz (.list i) k=k i:=rfl
noncomputable def Zy1{α:Type}(d:Xa)(k:List Xa->Option α):Option α:=match d with| .tuple i=>k i|_=>none
theorem Z9m{α:Type}(i:List Xa)(k:List Xa->Option α):Zy1 (.tuple i) k=k i:=rfl
theorem Z6z(e:FE)(δ:Zi):oI e δ=(e δ).bind λp=>asInt p.1.data λi=>some (some i,p.2):=by
 unfold oI asInt
 cases e δ with
 | none=>rfl
 | some p=>rfl
theorem Z57(e:FE)(lo hi:FO)(δ:Zi):fSl e lo hi δ=(e δ).bind λp=>(lo p.2).bind λq=>(hi q.2).bind λr=>Zqz p.1.data λds=>some (.nd ((cutD ds q.1 r.1).map OT.fz),r.2):=by
 unfold fSl Zqz;rfl
theorem Z0m(e:FE)(δ:Zi):Zei e δ=(e δ).bind λp=>Zqz p.1.data λds=>some (ds,p.2):=by
 unfold Zei Zqz;rfl
theorem Ybu(e:FE)(δ:Zi):iTp e δ=(e δ).bind λp=>Zy1 p.1.data λds=>some (ds,p.2):=by
 unfold iTp Zy1;rfl
noncomputable def as1{α:Type}(ds:List Xa)(k:Int->Option α):Option α:=match ds with|[.int i]=>k i|_=>none
theorem Zy6{α:Type}(i:Int)(k:Int->Option α):as1 [.int i] k=k i:=rfl
noncomputable def as2{α:Type}(ds:List Xa)(k:Int->Int->Option α):Option α:=match ds with|[.int i,.int j]=>k i j|_=>none
theorem Z86{α:Type}(i j:Int)(k:Int->Int->Option α):as2 [.int i,.int j] k=k i j:=rfl
theorem Zx8(a:FA)(δ:Zi):iRa a δ=(a δ).bind λp=>as1 (OT.datas p.1) λj=>if rOk j=true then some (Zcg 0 j.toNat,p.2)else none:=by
 unfold iRa as1;rfl
theorem Z53(a:FA)(δ:Zi):iRb a δ=(a δ).bind λp=>as2 (OT.datas p.1) λi j=>if(rOk i&&rOk j)=true then some (Zcg i (j-i).toNat,p.2)else none:=by
 unfold iRb as2;rfl
theorem Zzu(a:FA)(δ:Zi):Z0l a δ=(a δ).bind λp=>as1 (OT.datas p.1) λj=>if rOk j=true∧j.toNat≤Xr then some (.nd ((Zcg 0 j.toNat).map OT.fz),p.2)else none:=by
 unfold Z0l as1;rfl
theorem Zrf(a b:FE)(δ:Zi):Zuf a b δ=(a δ).bind λp=>(b p.2).bind λq=>asInt q.1.data λk=>if rOk k=true∧k.toNat≤Xr then some (.nd (Xv k.toNat (.fz p.1.data)),p.2)else none:=by
 unfold Zuf asInt;rfl
noncomputable def Z8q{α:Type}(ds:List Xa)(k:List Xa->List Xa->Option α):Option α:=match ds with|[.list i,.list j]=>k i j|_=>none
theorem Ybq{α:Type}(i j:List Xa)(k:List Xa->List Xa->Option α):Z8q [.list i,.list j] k=k i j:=rfl
theorem Z7v(a:FA)(δ:Zi):Z66 a δ=(a δ).bind λp=>Z8q (OT.datas p.1) λas bs=>some (Zj8 as bs,p.2):=by
 unfold Z66 Z8q;rfl
theorem Ybs(i:Nat)(d:Xa)(δ:Zi):gNm i d δ=some (δ.set i (some (.fz d))):=rfl
theorem Z8y(i:Nat)(d:Xa)(δ:Zi):Yd8 i d δ=if Zbh d=true then some (δ.set i (some (.fz d)))else none:=rfl
theorem Ycn(δ:Zi):gNl [] δ=some δ:=rfl
theorem Ycm(g:FG)(gs:FGs)(d:Xa)(r:List Xa)(δ:Zi):gCn g gs (d :: r) δ=(g d δ).bind (gs r):=rfl
theorem Ybb(n:Nat)(gs:FGs)(ds:List Xa)(δ:Zi):gTp n gs (.tuple ds) δ=if ds.length=n then gs ds δ else none:=rfl
theorem Ybp(n:Nat)(gs:FGs)(ds:List Xa)(δ:Zi):gLs n gs (.list ds) δ=if ds.length=n then gs ds δ else none:=rfl
noncomputable def RS.thn(r:RS)(g:FS):RS:=match r with| .nx δ=>g δ|r=>r
theorem Z3a(δ:Zi)(g:FS):(RS.nx δ).thn g=g δ:=rfl
theorem Z3e(r:OT)(δ:Zi)(g:FS):(RS.rt r δ).thn g= .rt r δ:=rfl
theorem Ya7(δ:Zi)(g:FS):(RS.bk δ).thn g= .bk δ:=rfl
theorem Ybx(δ:Zi)(g:FS):(RS.ct δ).thn g= .ct δ:=rfl
theorem Yby(c:Str)(δ:Zi)(g:FS):(RS.ex c δ).thn g= .ex c δ:=rfl
theorem Zra(f g:FS)(δ:Zi):Z1 f g δ=(f δ).thn g:=rfl
theorem Ybn(δ:Zi):fNx δ= .nx δ:=rfl
theorem Z8b(δ:Zi):Ydv δ= .bk δ:=rfl
theorem Z9s(δ:Zi):Yc8 δ= .ct δ:=rfl
theorem Z3o(c:Str)(δ:Zi):Zl3 c δ= .ex c δ:=rfl
theorem Z7l(δ:Zi):Z99 δ= .rt (.fz .none) δ:=rfl
noncomputable def onO{α:Type}(o:Option (α×Zi))(k:α->Zi->RS):RS:=match o with|some (r,δ')=>k r δ'|none=>.bad
theorem Ws{α:Type}(r:α)(δ:Zi)(k:α->Zi->RS):onO (some (r,δ)) k=k r δ:=rfl
theorem Zeu(e:FE)(k:OT->Zi->RS)(δ:Zi):wE e k δ=onO (e δ) k:=by
 unfold wE onO
 cases e δ<;>rfl
noncomputable def onF(x:RF)(δ:Zi)(k:OT->Zi->RS):RS:=match x with| .ok r=>k r δ| .exn c=>.ex c δ| .bad=>.bad
theorem Yce(r:OT)(δ:Zi)(k:OT->Zi->RS):onF (.ok r) δ k=k r δ:=rfl
theorem Yb2(c:Str)(δ:Zi)(k:OT->Zi->RS):onF (.exn c) δ k= .ex c δ:=rfl
theorem Yc2(F:FD)(a:FA)(k:OT->Zi->RS)(δ:Zi):wX F a k δ=onO (a δ) λrs δ1=>onF (F (OT.datas rs)) δ1 k:=by
 unfold wX onO onF
 cases a δ with
 | none=>rfl
 | some p=>rfl
theorem Zrm(t:FT)(u w:FS)(δ:Zi):Zad t u w δ=onO (t δ) λb δ'=>if b=true then u δ' else w δ':=by
 unfold Zad onO
 cases t δ<;>rfl
theorem Z18(it:FI)(g:FG)(u:FS)(δ:Zi):Jq it g u δ=onO (it δ) λds δ1=>forLoop g u ds δ1:=by
 unfold Jq onO
 cases it δ<;>rfl
theorem Z7m(r:OT)(δ:Zi):Z8v r δ= .nx δ:=rfl
theorem Z2j(r:OT)(δ:Zi):Jo r δ= .rt r δ:=rfl
theorem Z7z(r:OT)(δ:Zi):Z9g r δ=if Zbh r.data=true then .rt (.fz r.data) δ else .bad:=rfl
theorem Ztz(i:Nat)(r:OT)(δ:Zi):Yw i r δ= .nx (δ.set i (some (.fz r.data))):=rfl
theorem Z72(i:Nat)(r:OT)(δ:Zi):Z97 i r δ=if Zbh r.data=true then .nx (δ.set i (some (.fz r.data)))else .bad:=rfl
theorem Zwd(i:Nat)(r:OT)(δ:Zi):J8 i r δ= .nx (δ.set i (some r)):=rfl
noncomputable def onD(o:Option Zi):RS:=match o with|some δ=>.nx δ|none=>.bad
theorem Z74(δ:Zi):onD (some δ)= .nx δ:=rfl
theorem Z98(g:FG)(r:OT)(δ:Zi):Z4v g r δ=onD (g r.data δ):=rfl
noncomputable def onT(o:Option (Option OT))(k:OT->RS):RS:=match o with|some (some t)=>k t|_=>.bad
theorem Zzn(t:OT)(k:OT->RS):onT (some (some t)) k=k t:=rfl
theorem Zoc(i:Nat)(δ:Zi):Zb5 i δ=onT δ[i]? λt=>.rt t (δ.set i none):=rfl
theorem Zql(i:Nat)(u:FS)(δ:Zi):Zd5 i u δ=onT δ[i]? λt=>u (δ.set i (some (.fz t.data))):=rfl
noncomputable def onN(o:Option (Option OT))(k:List OT->RS):RS:=match o with|some (some (.nd ts))=>k ts|_=>.bad
theorem Z6b(t:List OT)(k:List OT->RS):onN (some (some (.nd t))) k=k t:=rfl
theorem Zp8(i:Nat)(e:FE)(δ:Zi):Wm i e δ=onN δ[i]? λ_=>onO (e δ) λr δ1=>onN δ1[i]? λts=>if ts.length<Xr then .nx (δ1.set i (some (.nd (ts ++ [.fz r.data]))))else .bad:=by
 unfold Wm
 generalize δ[i]? =o
 rcases o with _|_|(_|_|_|_)
 ·rfl
 ·rfl
 ·rfl
 ·show wE e _ δ=onO (e δ) _
  rw[Zeu]
  congr 1
 ·rfl
 ·rfl
theorem Zzd(i:Nat)(e:FE)(δ:Zi):Znr i e δ=onN δ[i]? λ_=>onO (e δ) λr δ1=>onN δ1[i]? λts=>if ts.length<Xr then .nx (δ1.set i (some (.nd (ts ++ [r]))))else .bad:=by
 unfold Znr
 generalize δ[i]? =o
 rcases o with _|_|(_|_|_|_)
 ·rfl
 ·rfl
 ·rfl
 ·show wE e _ δ=onO (e δ) _
  rw[Zeu]
  congr 1
 ·rfl
 ·rfl
noncomputable def onI(d:Xa)(k:Int->RS):RS:=match d with| .int i=>k i|_=>.bad
theorem Yc3(i:Int)(k:Int->RS):onI (.int i) k=k i:=rfl
noncomputable def onX(o:Option Nat)(k:Nat->RS):RS:=match o with|some i=>k i|_=>.bad
theorem Ydg(i:Nat)(k:Nat->RS):onX (some i) k=k i:=rfl
theorem Z8n(i:Nat)(e j:FE)(δ:Zi):Yax i e j δ=onO (e δ) λr δ1=>onN δ1[i]? λts=>onO (j δ1) λn _=>onI n.data λk=>onX (ixN ts.length k) λj=>.nx (δ1.set i (some (.nd (ts.set j (.fz r.data))))):=by
 unfold Yax
 rw[Zeu]
 congr 1
 funext r δ1
 generalize δ1[i]? =o
 rcases o with _|_|(_|_|_|_)
 ·rfl
 ·rfl
 ·rfl
 ·show wE j _ δ1=onO (j δ1) _
  rw[Zeu]
  congr 1
  funext n δ2
  generalize n.data=d
  cases d<;>try rfl
  show(match ixN _ _ with|some j=>_|none=>_)=onX (ixN _ _) _
  generalize ixN _ _=x
  cases x<;>rfl
 ·rfl
 ·rfl
noncomputable def onU(o:Option OT)(k:List OT->RS):RS:=match o with|some (.nd ts)=>k ts|_=>.bad
theorem Yc5(t:List OT)(k:List OT->RS):onU (some (.nd t)) k=k t:=rfl
noncomputable def onP(o:Option (Option OT))(k:List OT->RS):RS:=match o with|some (some (.tp ts))=>k ts|_=>.bad
theorem Ycz(t:List OT)(k:List OT->RS):onP (some (some (.tp t))) k=k t:=rfl
theorem Z5z(i c:Nat)(e:FE)(δ:Zi):Zxn i c e δ=onP δ[i]? λts=>onU ts[c]? λus=>onO (e δ) λr _=>if us.length<Xr then .nx (δ.set i (some (.tp (ts.set c (.nd (us ++ [.fz r.data]))))))else .bad:=by
 unfold Zxn
 generalize δ[i]? =o
 rcases o with _|_|(_|_|ts|_)
 ·rfl
 ·rfl
 ·rfl
 ·rfl
 ·show(match ts[c]? with|some (.nd us)=>wE e _ δ|_=>_)=onU ts[c]? _
  generalize ts[c]? =o
  rcases o with _|(_|_|_|_)
  ·rfl
  ·rfl
  ·show wE e _ δ=onO (e δ) _
   rw[Zeu]
  ·rfl
  ·rfl
 ·rfl
noncomputable def on2(ds:List Xa)(k:Xa->Xa->RS):RS:=match ds with|[d,e]=>k d e|_=>.bad
theorem Ydr(d e:Xa)(k:Xa->Xa->RS):on2 [d,e] k=k d e:=rfl
theorem Z9e(i j:Nat)(a:FA)(δ:Zi):Yaz i j a δ=onO (a δ) λrs δ1=>on2 (OT.datas rs) λd e=>.nx ((δ1.set i (some (.fz d))).set j (some (.fz e))):=by
 unfold Yaz onO on2
 cases a δ<;>rfl
theorem Zto{np n:Nat}{S:FS}{ds:List Xa}(h:ds.length=np):Js np n S ds=(S (Zfy n ds)).told:=by
 unfold Js;rw[if_pos h]
theorem Z88(δ:Zi):(RS.nx δ).told= .ok (.fz .none):=rfl
theorem Zsz(r:OT)(δ:Zi):(RS.rt r δ).told= .ok r:=rfl
theorem Yap(c:Str)(δ:Zi):(RS.ex c δ).told= .exn c:=rfl
theorem Ycf(i j:Int):Zaj (.int i) (.int j)=some (.int (i+j)):=rfl
theorem Yeb(i j:Int):gSb (.int i) (.int j)=some (.int (i-j)):=rfl
theorem Yc9(i j:Int):gLt (.int i) (.int j)=some (.bool (decide (i<j))):=rfl
theorem Ydi(i j:Int):gLe (.int i) (.int j)=some (.bool (decide (i≤j))):=rfl
theorem Z9v(i j:Int):gGt (.int i) (.int j)=some (.bool (decide (j<i))):=rfl
theorem Z8a(i j:Int):gGe (.int i) (.int j)=some (.bool (decide (j≤i))):=rfl
theorem Zdh{i j:Int}(h:Z1s i j=true):Zcp (.int i) (.int j)=some (.int (i*j)):=by
 unfold Zcp i2c;dsimp only;rw[if_pos h]
theorem Zgm{i j:Int}(h:Z30 i j=true):Jp (.int i) (.int j)=some (.int (i.fdiv j)):=by
 unfold Jp i2c;dsimp only;rw[if_pos h]
theorem Z42{i j:Int}(h:j≠0):Zcb (.int i) (.int j)=some (.int (i.fmod j)):=by
 unfold Zcb i2c Ya0;dsimp only;rw[if_pos (decide_eq_true h)]
theorem Zda{m n:Nat}{x y:Int}(h:Bt m x)(k:Bt n y)(hmn:m+n≤100000000:=by decide):Z1s x y=true:=Zgk.mpr (h.mulOk k hmn)
theorem Zyo{x y:Int}(h:x.natAbs<2^64):Z1s x y=true:=Zgk.mpr (.of_left (intBits_le_64 (by omega) (by omega)))
theorem Z5g{x y:Int}(h:y.natAbs<2^64):Z1s x y=true:=Zgk.mpr (.of_right (intBits_le_64 (by omega) (by omega)))
theorem Zhl{n:Nat}{i j:Int}(h0:j≠0)(h:Bt n j)(hn:n≤9000:=by decide):Z30 i j=true:=by
 obtain⟨h1,h2⟩:=DivOk.of (i:=i) h0 h hn
 unfold Z30
 rw[decide_eq_true h1,decide_eq_true h2];rfl
theorem Z9b(i j:Int):gEq (.int i) (.int j)=some (.bool (decide (i=j))):=by
 show some (PyData.bool (i==j))=_
 rw[show(i==j)=decide (i=j)from rfl]
theorem Yab(i j:Int):gNe (.int i) (.int j)=some (.bool (!decide (i=j))):=by
 show some (PyData.bool (!(i==j)))=_
 rw[show(i==j)=decide (i=j)from rfl]
theorem Yec(d:Xa):gIs d .none=some (.bool (Ze5 d)):=rfl
theorem Z75(d:Xa):Zkg d .none=some (.bool (!Ze5 d)):=rfl
theorem Zpi(ds:List Xa)(i:Int):gIx (.list ds) (.int i)=(atI ds i).bind λx=>some (.fz x):=rfl
theorem Z8s(ds:List Xa)(i:Int):gIx (.tuple ds) (.int i)=(atI ds i).bind λx=>some (.fz x):=rfl
theorem Zlc(ds:List Xa):Za3 [.list ds]=some (.int ds.length):=rfl
theorem Zxj(ds:List Xa):Za3 [.tuple ds]=some (.int ds.length):=rfl
theorem Zrh(i:Int):Z20 [.int i]=some (.int (i.natAbs:Int)):=by
 show some (Xk (if i<0 then -i else i))=_
 congr 2;split<;>omega
theorem Z69(i j:Int):Z4m [.int i,.int j]=some (.int (if j>i then j else i)):=rfl
theorem Z64(i j:Int):Zyh [.int i,.int j]=some (.int (if j<i then j else i)):=rfl
theorem Ycp(i:Int):Ycl [.int i]=some (.int i):=rfl
theorem Yat(b:Bool):Ycl [.bool b]=some (.int (if b then 1 else 0)):=rfl
theorem Yaq(ds:List Xa):Zri [.list ds]=some (.nd (ds.map OT.fz)):=rfl
theorem Z1f(ds:List Xa):Zri [.tuple ds]=some (.nd (ds.map OT.fz)):=rfl
theorem Z3v{ds es:List Xa}(h:ds.length+es.length≤Xr):Zug (.list ds) (.list es)=some (.nd ((ds ++ es).map OT.fz)):=by
 unfold Zug;dsimp only;rw[if_pos h]
theorem Z4d(i:Int):Zr8 (.int i)=some (.int (-i)):=rfl
theorem Ybv(b:Bool):Z7s (.bool b)=some (.bool (!b)):=rfl
theorem Ybh(b:Bool):Zuk (.bool b)=some b:=rfl
theorem Ycj(i:Int):Zuk (.int i)=some (i !=0):=rfl
theorem Yav:Zuk .none=some false:=rfl
theorem Ybw(ds:List Xa):Zuk (.list ds)=some (!ds.isEmpty):=rfl
theorem Zor{gg:FG}{u:FS}{ds:List Xa}{δ:Zi}(I:Nat->Zi->Prop)(h0:I 0 δ)
  (turn:∀(i:Nat) (d:Xa) (δ:Zi),ds[i]? =some d->I i δ->∃δ1 δ2,gg d δ=some δ1∧(u δ1= .nx δ2∨u δ1= .ct δ2)∧I (i+1) δ2):∃δ',forLoop gg u ds δ= .nx δ'∧I ds.length δ':=by
 induction ds generalizing δ I with
 | nil=>exact⟨δ,rfl,h0⟩
 | cons d ds ih=>
  obtain⟨δ1,δ2,e1,e2,h1⟩:=turn 0 d δ rfl h0
  obtain⟨δ',e3,h3⟩:=ih (δ:=δ2) (λi δ=>I (i+1) δ) h1 λi d' δ hd hi=>turn (i+1) d' δ (by simpa using hd) hi
  refine⟨δ',?_,h3⟩
  rw[J4,e1]
  dsimp only
  rcases e2 with e2|e2<;>rw[e2]<;>exact e3
noncomputable def Goes(r:RS)(Q:Zi->Prop):Prop:=∃δ,(r= .nx δ∨r= .ct δ)∧Q δ
theorem Goes.nx{δ:Zi}{Q:Zi->Prop}(h:Q δ):Goes (.nx δ) Q:=⟨δ,.inl rfl,h⟩
theorem Goes.ct{δ:Zi}{Q:Zi->Prop}(h:Q δ):Goes (.ct δ) Q:=⟨δ,.inr rfl,h⟩
theorem Zua{α:Type}{me:FE}{cs:Zi}(mk:α->Xa)(f:α->OT):∀(xs:List α) (z:Option OT),(∀x∈xs,me (some (.fz (mk x)) :: cs)=some (f x,some (.fz (mk x)) :: cs)) ->
  ∃z',compLoop (gNm 0) Zd0 me (xs.map mk) (z :: cs)=some (xs.map f,z' :: cs)
 | [],z,_=>⟨z,rfl⟩
 | x :: xs,z,h=>by
  obtain⟨z',e⟩:=Zua mk f xs (some (.fz (mk x))) λy hy=>h y (.tail _ hy)
  refine⟨z',?_⟩
  rw[Qe,compLoop]
  show(some (some (OT.fz (mk x)) :: cs)).bind _=_
  rw[Xf]
  show(some (true,some (OT.fz (mk x)) :: cs)).bind _=_
  rw[Xf,if_pos rfl,h x (.head _),Xf,e];rfl
theorem Znm{α:Type}{t:FT}{me:FE}{cs:Zi}(mk:α->Xa)(p:α->Bool)(f:α->OT):∀(xs:List α) (z:Option OT),(∀x∈xs,t (some (.fz (mk x)) :: cs)=some (p x,some (.fz (mk x)) :: cs))->(∀x∈xs,p x=true->me (some (.fz (mk x)) :: cs)=some (f x,some (.fz (mk x)) :: cs)) ->
  ∃z',compLoop (gNm 0) t me (xs.map mk) (z :: cs)=some ((xs.filter p).map f,z' :: cs)
 | [],z,_,_=>⟨z,rfl⟩
 | x :: xs,z,ht,h=>by
  obtain⟨z',e⟩:=Znm mk p f xs (some (.fz (mk x))) (λy hy=>ht y (.tail _ hy)) λy hy=>h y (.tail _ hy)
  refine⟨z',?_⟩
  rw[Qe,compLoop]
  show(some (some (OT.fz (mk x)) :: cs)).bind _=_
  rw[Xf,ht x (.head _),Xf]
  dsimp only
  by_cases hp:p x=true
  ·rw[if_pos hp,h x (.head _) hp,Xf,e,U4 hp];rfl
  ·rw[if_neg hp,e,U5 hp]
theorem Zj0{α:Type}{caps:List Nat}{it:FI}{me:FE}{cs δ δ1:Zi}(xs:List α)(mk:α->Xa)(f:α->OT)(hi:it δ=some (xs.map mk,δ1))(hz:xs.length≤Xr)(hb:blk 1 caps δ1=none :: cs)
  (h:∀x∈xs,me (some (.fz (mk x)) :: cs)=some (f x,some (.fz (mk x)) :: cs)):Yv 1 caps it (gNm 0) Zd0 me δ=some (.nd (xs.map f),δ1):=by
 unfold Yv
 rw[hi,Xf]
 dsimp only
 rw[if_pos (by rw[Xc];exact hz),hb]
 obtain⟨z',e⟩:=Zua (me:=me) (cs:=cs) mk f xs none h
 rw[e];rfl
theorem Zt6{α:Type}{caps:List Nat}{it:FI}{t:FT}{me:FE}{cs δ δ1:Zi}(xs:List α)(mk:α->Xa)(p:α->Bool)(f:α->OT)(hi:it δ=some (xs.map mk,δ1))(hz:xs.length≤Xr)(hb:blk 1 caps δ1=none :: cs)
  (ht:∀x∈xs,t (some (.fz (mk x)) :: cs)=some (p x,some (.fz (mk x)) :: cs)) (h:∀x∈xs,p x=true->me (some (.fz (mk x)) :: cs)=some (f x,some (.fz (mk x)) :: cs)):Yv 1 caps it (gNm 0) t me δ=some (.nd ((xs.filter p).map f),δ1):=by
 unfold Yv
 rw[hi,Xf]
 dsimp only
 rw[if_pos (by rw[Xc];exact hz),hb]
 obtain⟨z',e⟩:=Znm (t:=t) (me:=me) (cs:=cs) mk p f xs none ht h
 rw[e];rfl
theorem Yef:(2≤Xr)=True:=by simp[Qg]
theorem Yee:(1≤Xr)=True:=by simp[Qg]
theorem Yc6:(0≤Xr)=True:=by simp
theorem Z9z:(3≤Xr)=True:=by simp[Qg]
theorem Ziw{α:Type}(f:α->Xa)(xs:List α):(xs.map λx=>OT.fz (f x)).map OT.data=xs.map f:=by
 rw[XJ];exact XH λx _=>OT.data_fz _
theorem Zzm{α:Type}{j:Int}{x:α}(h0:0≤j)(h1:j≤1000000):(if rOk j=true then some x else none)=some x:=if_pos (Zhs (by omega) h1)
theorem Z1q{α:Type}{i j:Int}{x:α}(h0:0≤i)(h1:i≤1000000)(h2:0≤j)(h3:j≤1000000):(if(rOk i&&rOk j)=true then some x else none)=some x:=if_pos (by rw[Zhs (by omega) h1,Zhs (by omega) h3];rfl)
theorem Z7g{r:RS}{k:Nat}(h:k≤1000000):(if k<Xr then r else .bad)=r:=if_pos (by rw[Qg];omega)
noncomputable def EvV(e:FE)(δ:Zi)(d:Xa):Prop:=∃t,e δ=some (t,δ)∧t.data=d
noncomputable def EvA(a:FA)(δ:Zi)(ds:List Xa):Prop:=∃ts,a δ=some (ts,δ)∧OT.datas ts=ds
noncomputable def EvT(t:FT)(δ:Zi)(b:Bool):Prop:=t δ=some (b,δ)
noncomputable def Told(F:FD)(ds:List Xa)(d:Xa):Prop:=∃t,F ds= .ok t∧t.data=d
section
variable {e a b:FE}{as:FA}{δ δ':Zi}{x y d:Xa}{xs ds:List Xa}{i j:Nat}{p q:Bool}{t u:FT}{S S':FS}{r:RS}
theorem EvV.cast{e:FE}{δ:Zi}{x y:Xa}(h:EvV e δ x)(k:x=y):EvV e δ y:=k▸h
theorem Za(h:δ[i]? =some (some (.fz d)):=by rfl):EvV (Ze i) δ d:=⟨_,by rw[Zz1,h,Z0x],OT.data_fz _⟩
theorem Zsa{t:OT}(h:δ[i]? =some (some t))(hd:t.data=d):EvV (Zkb i) δ d:=⟨_,by rw[Z1r,h,Z0b],by rw[OT.data_fz,hd]⟩
theorem Zz:EvV (fC d) δ d:=⟨_,rfl,OT.data_fz _⟩
theorem Zq{g:Xa->Xa->Option Xa}(ha:EvV a δ x)(hb:EvV b δ y)(h:g x y=some d):EvV (Zf g a b) δ d:=by
 obtain⟨_,e1,d1⟩:=ha
 obtain⟨_,e2,d2⟩:=hb
 exact⟨_,by rw[Zwc,e1,Xf,e2,Xf,d1,d2,h,Xf],OT.data_fz _⟩
theorem Zsr{g:Xa->Xa->Option OT}{o:OT}(ha:EvV a δ x)(hb:EvV b δ y)(h:g x y=some o)(hd:o.data=d):EvV (Yi g a b) δ d:=by
 obtain⟨_,e1,d1⟩:=ha
 obtain⟨_,e2,d2⟩:=hb
 exact⟨_,by rw[Zzh,e1,Xf,e2,Xf,d1,d2,h,Xf],hd⟩
theorem W7(ha:EvV a δ x)(hb:EvV b δ y)(h:gIx x y=some (.fz d)):EvV (Yi gIx a b) δ d:=Zsr ha hb h (OT.data_fz _)
theorem Ys{i j:Int}(ha:EvV a δ (.int i))(hb:EvV b δ (.int j)):EvV (Zf Zaj a b) δ (.int (i+j)):=Zq ha hb rfl
theorem Ziu{i j:Int}(ha:EvV a δ (.int i))(hb:EvV b δ (.int j)):EvV (Zf gSb a b) δ (.int (i-j)):=Zq ha hb rfl
theorem Z26{g:Xa->Option Xa}(ha:EvV a δ x)(h:g x=some d):EvV (fUn g a) δ d:=by
 obtain⟨_,e1,d1⟩:=ha
 exact⟨_,by rw[Z4f,e1,Xf,d1,h,Xf],OT.data_fz _⟩
theorem Zev(ha:EvV a δ (.bool true))(hb:EvV b δ d):EvV (Zue a b) δ d:=by
 obtain⟨_,e1,d1⟩:=ha
 obtain⟨_,e2,d2⟩:=hb
 exact⟨_,by rw[Z0v,e1,Xf,d1,Z8o,e2],d2⟩
theorem Zex{T:String}(ha:EvV a δ x)(hf:Zgp x=false:=by rfl):EvV (Zm0 T a) δ (.bool (Zok T x)):=by
 obtain⟨_,e1,d1⟩:=ha
 exact⟨_,by rw[Z1y,e1,Xf,d1,if_neg (by rw[hf];decide)],OT.data_fz _⟩
theorem Zg:EvA Zn δ []:=⟨_,rfl,Zey⟩
theorem Zb(h:EvV e δ d)(k:EvA as δ ds):EvA (Zc e as) δ (d :: ds):=by
 obtain⟨_,e1,d1⟩:=h
 obtain⟨_,e2,d2⟩:=k
 exact⟨_,by rw[Zu3,e1,Xf,e2,Xf],by rw[Zdl,d1,d2]⟩
theorem Zk{F:FD}(h:EvA as δ ds)(k:Told F ds d):EvV (Zt F as) δ d:=by
 obtain⟨_,e1,d1⟩:=h
 obtain⟨_,e2,d2⟩:=k
 exact⟨_,by rw[Zoj,e1,Xf,d1,e2,Z25],d2⟩
theorem Zax{g:List Xa->Option Xa}(h:EvA as δ ds)(k:g ds=some d):EvV (Zaf g as) δ d:=by
 obtain⟨_,e1,d1⟩:=h
 exact⟨_,by rw[Z2p,e1,Xf,d1,k,Xf],OT.data_fz _⟩
theorem Zwf{g:List Xa->Option OT}{o:OT}(h:EvA as δ ds)(k:g ds=some o)(hd:o.data=d):EvV (fBl g as) δ d:=by
 obtain⟨_,e1,d1⟩:=h
 exact⟨_,by rw[Z3j,e1,Xf,d1,k,Xf],hd⟩
theorem Ze0:∀ts:List OT,(OT.datas ts).length=ts.length
 | []=>by rw[Zey];rfl
 | t :: ts=>by rw[Zdl,Bg,Bg,Ze0 ts]
theorem datas_map:∀ts:List OT,OT.datas ts=ts.map OT.data
 | []=>Zey
 | t :: ts=>by rw[Zdl,Qe,datas_map ts]
theorem J6(h:EvA as δ ds)(hl:ds.length≤1000):EvV (Zf6 as) δ (.tuple ds):=by
 obtain⟨ts,e1,d1⟩:=h
 have:=Ze0 ts
 rw[d1]at this
 exact⟨_,by rw[Z03,e1,Xf,if_pos (by rw[Qg];show ts.length≤_;omega)],by rw[OT.data_fz];exact congrArg _ d1⟩
theorem Zce(h:EvA as δ ds)(hl:ds.length≤1000):EvV (Zdn as) δ (.list ds):=by
 obtain⟨ts,e1,d1⟩:=h
 have:=Ze0 ts
 rw[d1]at this
 exact⟨_,by rw[Zrk,e1,Xf,if_pos (by rw[Qg];show ts.length≤_;omega)],by rw[OT.data_nd,←datas_map,d1]⟩
theorem Zlk{o:OT}{b:Bool}(h:o.data= .bool b):o= .fz (.bool b):=by
 cases o with
 | fz d=>rw[OT.data_fz]at h;rw[h]
 | nd ts=>rw[OT.data_nd]at h;cases h
 | tp ts=>rw[OT.data_tp]at h;cases h
 | dc _ _ _=>rw[OT.data_dc]at h;cases h
theorem Za4(h:EvV e δ (.bool p)):EvT (tV e) δ p:=by
 obtain⟨_,e1,d1⟩:=h
 unfold EvT
 rw[Z81,e1,Xf,Zlk d1,Z7b]
theorem Z7r(h:EvV e δ d)(k:Zuk d=some p):EvT (tD e) δ p:=by
 obtain⟨_,e1,d1⟩:=h
 unfold EvT
 rw[Z96,e1,Xf,d1,k,Xf]
theorem Zh1(h:EvV e δ (.bool p)):EvT (tD e) δ p:=Z7r h rfl
theorem Zrz(h:EvT t δ p):EvT (tNo t) δ (!p):=by
 unfold EvT at h⊢
 rw[Z6g,h,Xf]
theorem Z35(h:EvT t δ false)(k:EvT u δ p):EvT (tO t u) δ p:=by
 unfold EvT at h k⊢
 rw[Z7c,h,Xf,if_neg XC,k]
theorem Z5b(h:EvT t δ true):EvT (tO t u) δ true:=by
 unfold EvT at h⊢
 rw[Z7c,h,Xf,if_pos rfl]
theorem Yl(h:S δ= .nx δ')(k:S' δ'=r):Z1 S S' δ=r:=by rw[Zra,h,Z3a,k]
theorem Zre{o:OT}(h:S δ= .rt o δ'):Z1 S S' δ= .rt o δ':=by rw[Zra,h,Z3e]
theorem Zv(h:EvV e δ d):wE e (Yw i) δ= .nx (δ.set i (some (.fz d))):=by
 obtain⟨_,e1,d1⟩:=h
 rw[Zeu,e1,Ws,Ztz,d1]
theorem Zyg(h:EvV e δ d):∃o,wE e Jo δ= .rt o δ∧o.data=d:=by
 obtain⟨_,e1,d1⟩:=h
 exact⟨_,by rw[Zeu,e1,Ws,Z2j],d1⟩
theorem Jt(h:EvT t δ true)(k:S δ=r):Zad t S S' δ=r:=by
 unfold EvT at h
 rw[Zrm,h,Ws,if_pos rfl,k]
theorem Z9(h:EvT t δ false)(k:S' δ=r):Zad t S S' δ=r:=by
 unfold EvT at h
 rw[Zrm,h,Ws,if_neg (by decide),k]
noncomputable def Zma(S:FS)(δ:Zi)(d:Xa):Prop:=∃o δ',S δ= .rt o δ'∧o.data=d
theorem Zy(h:S δ= .nx δ')(k:Zma S' δ' d):Zma (Z1 S S') δ d:=by
 obtain⟨o,δ2,e,hd⟩:=k
 exact⟨o,δ2,Yl h e,hd⟩
theorem J0(k:Zma S δ d):Zma (Z1 S S') δ d:=by
 obtain⟨o,δ2,e,hd⟩:=k
 exact⟨o,δ2,Zre e,hd⟩
theorem Yd(h:EvV e δ d):Zma (wE e Jo) δ d:=by
 obtain⟨o,e1,hd⟩:=Zyg h
 exact⟨o,δ,e1,hd⟩
theorem Zbz(h:EvT t δ true)(k:Zma S δ d):Zma (Zad t S S') δ d:=by
 obtain⟨o,δ2,e,hd⟩:=k
 exact⟨o,δ2,Jt h e,hd⟩
theorem Zx{np n:Nat}(hl:xs.length=np)(k:Zma S (Zfy n xs) d):Told (Js np n S) xs d:=by
 obtain⟨o,δ2,e,hd⟩:=k
 exact⟨o,by rw[Zto hl,e,Zsz],hd⟩
noncomputable def EvO(o:FO)(δ:Zi)(l:Option Int):Prop:=o δ=some (l,δ)
theorem Yds:EvO oN δ none:=rfl
theorem Yd4{i:Int}(h:EvV e δ (.int i)):EvO (oI e) δ (some i):=by
 obtain⟨_,e1,d1⟩:=h
 unfold EvO
 rw[Z6z,e1,Xf,d1,Zjg]
theorem Z89{lo hi:FO}{l h:Option Int}(he:EvV e δ (.list ds))(hl:EvO lo δ l)(hh:EvO hi δ h):EvV (fSl e lo hi) δ (.list (cutD ds l h)):=by
 obtain⟨_,e1,d1⟩:=he
 unfold EvO at hl hh
 exact⟨_,by rw[Z57,e1,Xf,hl,Xf,hh,Xf,d1,Zs2],by rw[OT.data_nd,OT.map_fz]⟩
theorem Zob{es:List Xa}(ha:EvV a δ (.list ds))(hb:EvV b δ (.list es))(h:ds.length+es.length≤1000000):EvV (Yi Zug a b) δ (.list (ds ++ es)) :=
 Zsr ha hb (Z3v (by rw[Qg];omega)) (by rw[OT.data_nd,OT.map_fz])
noncomputable def EvI(it:FI)(δ:Zi)(ds:List Xa):Prop:=it δ=some (ds,δ)
theorem W3(h:EvV e δ (.list ds)):EvI (Zei e) δ ds:=by
 obtain⟨_,e1,d1⟩:=h
 unfold EvI
 rw[Z0m,e1,Xf,d1,Zs2]
theorem Zg3{n:Nat}(h:EvA as δ [.int n])(hn:n≤1000000):EvI (iRa as) δ (Zcg 0 n):=by
 obtain⟨_,e1,d1⟩:=h
 unfold EvI
 rw[Zx8,e1,Xf,d1,Zy6,Zzm (by omega) (by omega),QH]
theorem Zdc{it:FI}{g:FG}(h:EvI it δ ds)(k:forLoop g S ds δ=r):Jq it g S δ=r:=by
 unfold EvI at h
 rw[Z18,h,Ws,k]
theorem Zb9{α:Type}{caps:List Nat}{it:FI}{me:FE}{cs:Zi}(xs:List α)(mk f:α->Xa)(hi:EvI it δ (xs.map mk))(hz:xs.length≤1000000)(hb:blk 1 caps δ=none :: cs)(h:∀x∈xs,EvV me (some (.fz (mk x)) :: cs) (f x)):EvV (Yv 1 caps it (gNm 0) Zd0 me) δ (.list (xs.map f)):=by
 have g:∀x,∃o:OT,x∈xs->me (some (.fz (mk x)) :: cs)=some (o,some (.fz (mk x)) :: cs)∧o.data=f x:=λx=>by
  by_cases c:x∈xs
  ·obtain⟨o,h1,h2⟩:=h x c
   exact⟨o,λ_=>⟨h1,h2⟩⟩
  ·exact⟨.fz .none,λz=>absurd z c⟩
 obtain⟨o,ho⟩:=Classical.axiomOfChoice g
 unfold EvI at hi
 refine⟨_,Zj0 (cs:=cs) xs mk o hi (by rw[Qg];omega) hb (λx hx=>(ho x hx).1),?_⟩
 rw[OT.data_nd,XJ]
 exact congrArg _ (XH λx hx=>(ho x hx).2)
theorem Zgr{ts:List OT}(h:EvV e δ d)(hi:δ[i]? =some (some (.nd ts)))(hl:ts.length≤1000000):Wm i e δ= .nx (δ.set i (some (.nd (ts ++ [.fz d])))):=by
 obtain⟨_,e1,d1⟩:=h
 rw[Zp8,hi,Z6b,e1,Ws,hi,Z6b,Z7g hl,d1]
theorem Zd9{o:OT}(h:e δ=some (o,δ)):wE e (J8 i) δ= .nx (δ.set i (some o)):=by rw[Zeu,h,Ws,Zwd]
theorem Z2x{o:OT}(h:δ[i]? =some (some o))(hd:o.data=d):Zma (Zb5 i) δ d:=⟨o,_,by rw[Zoc,h,Zzn],hd⟩
theorem Zke{o:OT}(h:δ[i]? =some (some o))(k:S (δ.set i (some (.fz o.data)))=r):Zd5 i S δ=r:=by rw[Zql,h,Zzn,k]
theorem Told.ok{F:FD}{b:Bool}(h:Told F ds (.bool b)):F ds= .ok (.fz (.bool b)):=by
 obtain⟨o,e1,d1⟩:=h
 rw[e1,Zlk d1]
theorem Zji{o:OT}{i:Int}(h:o.data= .int i):o= .fz (.int i):=by
 cases o with
 | fz d=>rw[OT.data_fz]at h;rw[h]
 | nd ts=>rw[OT.data_nd]at h;cases h
 | tp ts=>rw[OT.data_tp]at h;cases h
 | dc _ _ _=>rw[OT.data_dc]at h;cases h
theorem Told.int{F:FD}{i:Int}(h:Told F ds (.int i)):F ds= .ok (.fz (.int i)):=by
 obtain⟨o,e1,d1⟩:=h
 rw[e1,Zji d1]
theorem Zq1{o:OT}(h:o.data= .none):o= .fz .none:=by
 cases o with
 | fz d=>rw[OT.data_fz]at h;rw[h]
 | nd ts=>rw[OT.data_nd]at h;cases h
 | tp ts=>rw[OT.data_tp]at h;cases h
 | dc _ _ _=>rw[OT.data_dc]at h;cases h
theorem Told.of{F:FD}{o:OT}(h:F ds= .ok o)(hd:o.data=d):Told F ds d:=⟨o,h,hd⟩
end
section
variable {e a b:FE}{as:FA}{δ δ':Zi}{x y d:Xa}{xs ds:List Xa}{i j:Int}{k:Nat}{p q:Bool}{t u:FT}{S S':FS}{r:RS}{Q:Xa->Prop}
theorem Wa(ha:EvV a δ (.int i))(hb:EvV b δ (.int j))(h:j≠0):EvV (Zf Zcb a b) δ (.int (i.fmod j)):=Zq ha hb (Z42 h)
theorem Z3n{i j:Int}(h:(decide (0<j)&&decide (j<18446744073709551616))=true):Jp (.int i) (.int j)=some (.int (i.fdiv j)):=by
 rw[XN,decide_eq_true_eq,decide_eq_true_eq]at h
 exact Zgm (Zhl (n:=64) (by omega) (Bt.of_lt (by omega) (by omega)))
theorem Zaa(ha:EvV a δ (.int i))(hb:EvV b δ (.int j))(h:(decide (0<j)&&decide (j<18446744073709551616))=true:=by decide):EvV (Zf Jp a b) δ (.int (i.fdiv j)):=Zq ha hb (Z3n h)
theorem Zbf(ha:EvV a δ (.int i))(hb:EvV b δ (.int j))(h:i.natAbs<2^64:=by decide):EvV (Zf Zcp a b) δ (.int (i*j)):=Zq ha hb (Zdh (Zyo h))
theorem Zm5(ha:EvV a δ (.int i))(hb:EvV b δ (.int j))(h:j.natAbs<2^64:=by decide):EvV (Zf Zcp a b) δ (.int (i*j)):=Zq ha hb (Zdh (Z5g h))
theorem Zfc(ha:EvV a δ (.int i))(hb:EvV b δ (.int j))(h:decide (i<j)=p):EvV (Zf gLt a b) δ (.bool p):=h▸Zq ha hb rfl
theorem Z3q(ha:EvV a δ (.int i))(hb:EvV b δ (.int j))(h:decide (i≤j)=p):EvV (Zf gLe a b) δ (.bool p):=h▸Zq ha hb rfl
theorem Zpb(ha:EvV a δ (.int i))(hb:EvV b δ (.int j))(h:decide (j<i)=p):EvV (Zf gGt a b) δ (.bool p):=h▸Zq ha hb (Z9v _ _)
theorem Z4y(ha:EvV a δ (.int i))(hb:EvV b δ (.int j))(h:decide (j≤i)=p):EvV (Zf gGe a b) δ (.bool p):=h▸Zq ha hb (Z8a _ _)
theorem Zg1(ha:EvV a δ (.int i))(hb:EvV b δ (.int j))(h:decide (i=j)=p):EvV (Zf gEq a b) δ (.bool p):=h▸Zq ha hb (Z9b _ _)
theorem Zq7(ha:EvV a δ (.int i))(hb:EvV b δ (.int j))(h:(!decide (i=j))=p):EvV (Zf gNe a b) δ (.bool p):=h▸Zq ha hb (Yab _ _)
theorem Zo2(ha:EvV a δ (.int i)):EvV (fUn Zr8 a) δ (.int (-i)):=Z26 ha (Z4d _)
theorem Zf0{ds:List Xa}(h:EvV e δ (.list ds)):EvV (Zaf Za3 (Zc e Zn)) δ (.int ds.length):=Zax (Zb h Zg) (Zlc ds)
theorem Zx5(ha:EvV a δ (.list ds))(hb:EvV b δ (.int i))(h:atI ds i=some d):EvV (Yi gIx a b) δ d:=W7 ha hb (by rw[Zpi,h];rfl)
noncomputable def Zo4(S:FS)(δ:Zi)(Q:Xa->Prop):Prop:=∃d,Zma S δ d∧Q d
theorem Wl(h:S δ= .nx δ')(k:Zo4 S' δ' Q):Zo4 (Z1 S S') δ Q:=k.imp λ_ k=>⟨Zy h k.1,k.2⟩
theorem Znp(k:Zo4 S δ Q):Zo4 (Z1 S S') δ Q:=k.imp λ_ k=>⟨J0 k.1,k.2⟩
theorem Zkn(h:EvV e δ d)(k:Q d):Zo4 (wE e Jo) δ Q:=⟨d,Yd h,k⟩
theorem Zqw(h:EvT t δ true)(k:Zo4 S δ Q):Zo4 (Zad t S S') δ Q:=k.imp λ_ k=>⟨Zbz h k.1,k.2⟩
theorem Z3d{o:OT}(h:δ[k]? =some (some o))(hd:Q o.data):Zo4 (Zb5 k) δ Q:=⟨_,Z2x h rfl,hd⟩
theorem Zka{np n:Nat}(hl:xs.length=np)(h:Zo4 S (Zfy n xs) Q):∃d,Told (Js np n S) xs d∧Q d:=h.imp λ_ k=>⟨Zx hl k.1,k.2⟩
theorem Zii{it:FI}{g:FG}(I:Nat->Zi->Prop)(hi:EvI it δ ds)(h0:I 0 δ)(turn:∀(i:Nat) (d:Xa) (δ:Zi),ds[i]? =some d->I i δ->∃δ1 δ2,g d δ=some δ1∧(S δ1= .nx δ2∨S δ1= .ct δ2)∧I (i+1) δ2)(k:∀δ',I ds.length δ'->Zo4 S' δ' Q):Zo4 (Z1 (Jq it g S) S') δ Q:=by
 obtain⟨δ',e,h⟩:=Zor I h0 turn
 exact Wl (Zdc hi e) (k δ' h)
theorem Zha{it:FI}{g:FG}(I:Nat->Zi->Prop)(hi:EvI it δ ds)(h0:I 0 δ)(turn:∀(i:Nat) (d:Xa) (δ:Zi),ds[i]? =some d->I i δ->∃δ1 δ2,g d δ=some δ1∧(S δ1= .nx δ2∨S δ1= .ct δ2)∧I (i+1) δ2)(k:∀δ',I ds.length δ'->Zma S' δ' d):Zma (Z1 (Jq it g S) S') δ d:=by
 obtain⟨δ',e,h⟩:=Zor I h0 turn
 exact Zy (Zdc hi e) (k δ' h)
theorem Zfh{it:FI}{g:FG}(I:Nat->Zi->Prop)(hi:EvI it δ ds)(h0:I 0 δ)(turn:∀(i:Nat) (d:Xa) (δ:Zi),ds[i]? =some d->I i δ->∃δ1 δ2,g d δ=some δ1∧(S δ1= .nx δ2∨S δ1= .ct δ2)∧I (i+1) δ2):∃δ',Jq it g S δ= .nx δ'∧I ds.length δ':=by
 obtain⟨δ',e,h⟩:=Zor I h0 turn
 exact⟨δ',Zdc hi e,h⟩
theorem Zzp{m n:Nat}(h:EvA as δ [.int m,.int n])(hm:m≤1000000)(hn:n≤1000000):EvI (iRb as) δ (Zcg m (n-m)):=by
 obtain⟨_,e1,d1⟩:=h
 unfold EvI
 rw[Z53,e1,Xf,d1,Z86,Z1q (by omega) (by omega) (by omega) (by omega),show((n:Int)-(m:Int)).toNat=n-m by omega]
theorem Zf5:wE (Zdn Zn) (J8 k) δ= .nx (δ.set k (some (.nd []))):=Zd9 (by rw[Zrk];rfl)
theorem Ju{i:Int}(h:0<j):0≤i.fmod j:=by rw[Zej h];exact Int.emod_nonneg _ (by omega)
theorem Jy{i:Int}(h:0<j):i.fmod j<j:=by rw[Zej h];exact Int.emod_lt_of_pos _ h
theorem Zel(i:Int){n:Nat}(h:0<n):∃m:Nat,i.fmod (n:Int)=m∧m<n:=by
 have h0:=Ju (i:=i) (j:=n) (by omega)
 have h1:=Jy (i:=i) (j:=n) (by omega)
 exact⟨(i.fmod n).toNat,by omega,by omega⟩
theorem Z3k{n:Int}(h:EvA as δ [.int n])(h0:0≤n)(h1:n≤1000000):EvV (Z0l as) δ (.list (Zcg 0 n.toNat)):=by
 obtain⟨_,e1,d1⟩:=h
 exact⟨_,by rw[Zzu,e1,Xf,d1,Zy6,if_pos ⟨Zhs (by omega) (by omega),by rw[Qg];omega⟩],by rw[OT.data_nd,OT.map_fz]⟩
theorem Zsv{es:List Xa}(h:EvA as δ ds)(hz:Z2v ds=some es):EvI (Zfm as) δ es:=by
 obtain⟨_,e1,d1⟩:=h
 unfold EvI Zfm
 rw[e1,Xf,d1,hz,Xf]
theorem Zy0{n:Nat}(hn:n≤1000000){v:Option OT}:(Zuf (fC d) (Ze 1)) [v,some (.fz (.int n))]=some (.nd (Xv n (.fz d)),[v,some (.fz (.int n))]):=by
 obtain⟨_,e1,d1⟩:=Za (δ:=[v,some (.fz (.int n))]) (i:=1) (d:=.int n)
 rw[Zrf,Z45,Xf,e1,Xf,d1,Zjg,if_pos ⟨Zhs (by omega) (by omega),by rw[Qg];omega⟩,QH,OT.data_fz]
theorem Zw7{δ:Zi}{v:Option OT}(h:δ[k]? =some v):δ.set k v=δ:=by
 obtain⟨hk,e⟩:=Xu.mp h
 rw[←e,List.set_getElem_self]
theorem Zn3{it:FI}{g gg:FG}{δ1:Zi}(I:Nat->Zi->Prop){J:Zi->Prop}(hg:gg d δ=some δ1)(hi:EvI it δ1 ds)(h0:I 0 δ1)(turn:∀(i:Nat) (d:Xa) (δ:Zi),ds[i]? =some d->I i δ->∃δ1 δ2,g d δ=some δ1∧(S δ1= .nx δ2∨S δ1= .ct δ2)∧I (i+1) δ2)(hJ:∀δ',I ds.length δ'->J δ'):∃δ1 δ2,gg d δ=some δ1∧(Jq it g S δ1= .nx δ2∨Jq it g S δ1= .ct δ2)∧J δ2:=by
 obtain⟨δ',e,h⟩:=Zor I h0 turn
 exact⟨δ1,δ',hg,.inl (Zdc hi e),hJ δ' h⟩
theorem Zny{T:String}(ha:EvV a δ x)(h:Zok T x=p)(hf:Zgp x=false:=by rfl):EvV (Zm0 T a) δ (.bool p):=(Zex ha hf).cast (by rw[h])
theorem Zmi{a b:FE}{bs es:List Xa}{as:List Xa}(ha:EvV a δ (.list as))(hb:EvV b δ (.list bs))(hz:Zj8 as bs=es):EvI (Zfm (Zc a (Zc b Zn))) δ es:=Zsv (Zb ha (Zb hb Zg)) (congrArg some hz)
theorem Zzr(ha:EvV a δ (.list ds)):EvI (Zu2 (Zc a Zn)) δ (Zju ds):=by
 obtain⟨_,e1,d1⟩:=Zb ha Zg
 unfold EvI Zu2
 rw[e1,Xf]
 dsimp only
 rw[d1]
theorem Zwb{y:Str}{F:FD}(h:δ[k]? =some (some (.fz (fnD y))))(ha:EvA as δ ds)(hF:Told F ds d):EvV (Ze4 k y F as) δ d:=by
 obtain⟨o,e1,d1⟩:=Zk ha hF
 refine⟨o,?_,d1⟩
 unfold Ze4
 rw[h]
 dsimp only
 rw[if_pos (Z0k y),e1]
theorem Zo0{α:Type}{caps:List Nat}{it:FI}{me:FE}{t:FT}{cs:Zi}(xs:List α)(mk:α->Xa)(pr:α->Bool)(hi:EvI it δ (xs.map mk))(hz:xs.length≤1000000)(hb:blk 1 caps δ=none :: cs)(ht:∀x∈xs,EvT t (some (.fz (mk x)) :: cs) (pr x))(h:∀x∈xs,pr x=true->me (some (.fz (mk x)) :: cs)=some (.fz (mk x),some (.fz (mk x)) :: cs)):EvV (Yv 1 caps it (gNm 0) t me) δ (.list ((xs.filter pr).map mk)):=by
 unfold EvI at hi
 refine⟨_,Zt6 (cs:=cs) xs mk pr (λx=>.fz (mk x)) hi (by rw[Qg];omega) hb (λx hx=>ht x hx) h,?_⟩
 rw[OT.data_nd,XJ]
 exact congrArg _ (XH λx _=>OT.data_fz _)
theorem Told.none{F:FD}(h:Told F ds .none):F ds= .ok (.fz .none):=by
 obtain⟨o,e1,d1⟩:=h
 rw[e1,Zq1 d1]
end
end L2
namespace My
open PySem L2 PySem.Spec
noncomputable def Jd:FS :=
 (Z1 (wE (Zaf Z20 (Zc (Ze 0) Zn)) (Yw 0))
  (Z1 (wE (Zaf Z20 (Zc (Ze 1) Zn)) (Yw 1))
  (Z1 (Zip (tV (Zf gNe (Ze 1) (fC (.int 0)))) (Z1 (wE (Zf Zcb (Ze 0) (Ze 1)) (Yw 2))
  (Z1 (wE (Ze 1) (Yw 0))
  (wE (Ze 2) (Yw 1)))))
  (wE (Ze 0) Jo))))
noncomputable def Yb:FD:=Js 2 3 Jd
theorem Zjd{f1 f2:Int->Int->Option OT->Zi}{t:FT}{u:FS}(ht:∀x y z,t (f1 x y z)=some (!decide (y=0),f1 x y z))(hu:∀x y z,y≠0->∃z',u (f1 x y z)= .nx (f1 y (x.fmod y) z')) :
  ∀(n:Nat) (x y:Int) (z:Option OT),0≤x->0≤y->y.toNat<n->∃z',whileLoop t u n (f1 x y z)= .nx (f1 (JH x y:Int) 0 z')
 | 0,_,_,_,_,_,h=>absurd h (BV _)
 | n+1,x,y,z,hx,hy,h=>by
  unfold whileLoop
  rw[ht]
  dsimp only
  by_cases c:y=0
  ·subst c
   refine⟨z,?_⟩
   simp only[decide_true,Bool.not_true,BJ,if_false]
   rw[Int.gcd_zero_right]
   congr 2
   omega
  ·simp only[c,decide_false,Bool.not_false,if_true]
   obtain⟨z1,e1⟩:=hu x y z c
   rw[e1]
   dsimp only
   have hm:x.fmod y=x%y:=Zej (by omega)
   have h1:0≤x%y:=Int.emod_nonneg x c
   have h2:x%y<y:=Int.emod_lt_of_pos x (by omega)
   obtain⟨z2,e2⟩:=Zjd (f1:=f1) (f2:=f2) ht hu n y (x.fmod y) z1 hy (by omega) (by omega)
   exact⟨z2,by rw[e2,Zxd hx (by omega)]⟩
theorem Za2(a b:Int):Yb [.int a,.int b]= .ok (.fz (.int (JH a b:Int))):=by
 obtain⟨z',e⟩:=Zjd (f1:=λx y z=>[some (.fz (.int x)),some (.fz (.int y)),z]) (f2:=λx y z=>[]) (t:=tV (Zf gNe (Ze 1) (fC (.int 0)))) (u:=Z1 (wE (Zf Zcb (Ze 0) (Ze 1)) (Yw 2)) (Z1 (wE (Ze 1) (Yw 0)) (wE (Ze 2) (Yw 1)))) (λx y z=>Za4 (Zq7 Za Zz rfl)) (λx y z hy=>⟨_,Yl (Zv (Wa Za Za hy)) (Yl (Zv Za) (Zv Za))⟩) ((b.natAbs:Int).toNat+1) (a.natAbs:Int) (b.natAbs:Int) none (by omega) (by omega) (by omega)
 rw[BW,Uj,Uj]at e
 exact Told.int<|Zx rfl<|Zy (Zv (Zax (Zb Za Zg) (Zrh a)))<|Zy (Zv (Zax (Zb Za Zg) (Zrh b)))<|Zy (Zl9 _ e (by intro z;cases z)) (Yd Za)
noncomputable def Zdf:FS :=
 (Z1 (wE (Zt Yb (Zc (Ze 0) (Zc (Ze 1) Zn))) (Yw 2))
  (Z1 (Zad (tV (Zf gLt (Ze 1) (fC (.int 0))))
  (wE (fUn Zr8 (Ze 2)) (Yw 2))
  fNx)
  (wE (Zf6 (Zc (Zf Jp (Ze 0) (Ze 2)) (Zc (Zf Jp (Ze 1) (Ze 2)) Zn))) Jo)))
noncomputable def Wq:FD:=Js 2 3 Zdf
theorem Z6j{n:Nat}{t b:Int}(hb:b≠0)(hB:Bt n b)(hn:n≤9000)(s:Int)(e:s=shr t b):Jp (.int t) (.int s)=some (.int (Xw t b).num)∧Jp (.int b) (.int s)=some (.int ((Xw t b).den:Int)):=by
 subst e
 rw[Zgm (Zhl (Zyt hb) (Zx4 hb hB) hn),Zgm (Zhl (Zyt hb) (Zx4 hb hB) hn),Z2e hb,Zzk hb]
 exact⟨rfl,rfl⟩
theorem Zef{n:Nat}{t b:Int}(hb:b≠0)(hB:Bt n b)(hn:n≤9000:=by decide):Told Wq [.int t,.int b] (frD (Xw t b)):=by
 have fin:∀{δ:Zi} {s:Int},s=shr t b->δ[0]? =some (some (.fz (.int t)))->δ[1]? =some (some (.fz (.int b)))->δ[2]? =some (some (.fz (.int s)))->Zma (wE (Zf6 (Zc (Zf Jp (Ze 0) (Ze 2)) (Zc (Zf Jp (Ze 1) (Ze 2)) Zn))) Jo) δ (frD (Xw t b)):=λe h0 h1 h2=>by
  obtain⟨e1,e2⟩:=Z6j hb hB hn _ e
  exact Yd (J6 (Zb (Zq (Za h0) (Za h2) e1) (Zb (Zq (Za h1) (Za h2) e2) Zg)) (show 2≤1000 by decide))
 have g:Told Yb [.int t,.int b] _:=.of (Za2 t b) (OT.data_fz _)
 by_cases c:b<0
 ·exact Zx rfl<|Zy (Zv (Zk (Zb Za (Zb Za Zg)) g))<|Zy (Jt (Za4 (Zfc Za Zz (decide_eq_true c))) (Zv (Zo2 Za))) (fin (by unfold shr;rw[if_pos c]) rfl rfl rfl)
 ·exact Zx rfl<|Zy (Zv (Zk (Zb Za (Zb Za Zg)) g))<|Zy (Z9 (Za4 (Zfc Za Zz (decide_eq_false c))) rfl) (fin (by unfold shr;rw[if_neg c]) rfl rfl rfl)
noncomputable def Zc9:FS :=
 (wE (Zue (Zm0 "int" (Ze 0)) (fUn Z7s (Zm0 "bool" (Ze 0)))) Jo)
noncomputable def Wr:FD:=Js 1 1 Zc9
theorem Zlh(i:Int):Wr [.int i]= .ok (.fz (.bool true)):=rfl
noncomputable def Zcq:FS :=
 (Z1 (Zad (tO (tNo (tD (Zt Wr (Zc (Ze 0) Zn)))) (tO (tNo (tD (Zt Wr (Zc (Ze 1) Zn)))) (tV (Zf gEq (Ze 1) (fC (.int 0))))))
  (Zl3 "NoNumber")
  fNx)
  (wE (Zt Wq (Zc (Ze 0) (Zc (Ze 1) Zn))) Jo))
noncomputable def Jh:FD:=Js 2 2 Zcq
theorem Znf{n:Nat}{t b:Int}(hb:b≠0)(hB:Bt n b)(hn:n≤9000:=by decide):Told Jh [.int t,.int b] (frD (Xw t b)):=by
 have w:∀{i:Int},Told Wr [.int i] (.bool true):=fun{i}=>.of (Zlh i) (OT.data_fz _)
 exact Zx rfl<|Zy (Z9 (Z35 (Zrz (p:=true) (Zh1 (Zk (Zb Za Zg) w))) (Z35 (Zrz (p:=true) (Zh1 (Zk (Zb Za Zg) w))) (Za4 (Zg1 Za Zz (decide_eq_false hb))))) rfl) (Yd (Zk (Zb Za (Zb Za Zg)) (Zef hb hB hn)))
noncomputable def Zah:FS :=
 (Z1 (wE (fC (.int 1)) (Yw 1))
  (Z1 (Jq (Zei (Ze 0)) (gNm 2)
  (wE (Zf Zcp (Zf Jp (Ze 1) (Zt Yb (Zc (Ze 1) (Zc (Yi gIx (Ze 2) (fC (.int 1))) Zn)))) (Yi gIx (Ze 2) (fC (.int 1)))) (Yw 1)))
  (wE (Ze 1) Jo)))
noncomputable def Y0:FD:=Js 1 3 Zah
noncomputable def prD(p:Int×Int):Xa:=.tuple [.int p.1,.int p.2]
theorem Zwz{a b B:Int}(ha:0<a)(hb:0<b)(h1:a∣B)(h2:b∣B)(hB:0<B):0<a.fdiv (JH a b)*b∧a∣a.fdiv (JH a b)*b∧b∣a.fdiv (JH a b)*b∧a.fdiv (JH a b)*b∣B:=by
 have hg:0<(JH a b:Int):=Zem (by omega)
 have d1:(JH a b:Int)∣a:=Int.gcd_dvd_left ..
 have d2:(JH a b:Int)∣b:=Int.gcd_dvd_right ..
 rw[Wk hg]
 have e:a/(JH a b:Int)*b=(Int.lcm a b:Int):=by
  have q:=Int.gcd_mul_lcm a b
  have h3:(JH a b:Int)*(Int.lcm a b:Int)=a*b:=by
   rw[←Int.natCast_mul,q,Int.natCast_mul,Int.natAbs_of_nonneg (by omega),Int.natAbs_of_nonneg (by omega)]
  obtain⟨k,hk⟩:=d1
  have e1:a/(JH a b:Int)=k:=Int.ediv_eq_of_eq_mul_right (by omega) hk
  rw[e1]
  apply Int.eq_of_mul_eq_mul_left (a:=(JH a b:Int)) (by omega)
  rw[h3,←Int.mul_assoc,←hk]
 rw[e]
 refine⟨?_,Int.dvd_lcm_left ..,Int.dvd_lcm_right ..,Int.coe_lcm_dvd h1 h2⟩
 have:Int.lcm a b≠0:=by
  rw[Ne,Int.lcm_eq_zero_iff]
  omega
 omega
theorem Zkj{n:Nat}{a B:Int}(hB:0<B)(h:a∣B)(b:Bt n B):Bt n a:=by
 refine Bt.of_le b ?_
 have:=Int.natAbs_dvd_natAbs.mpr h
 exact Nat.le_of_dvd (by omega) this
theorem Zf9{n:Nat}{B:Int}(hB:0<B)(bB:Bt n B)(hn:n≤9000:=by decide)(ps:List (Int×Int))(h:∀p∈ps,0<p.2∧p.2∣B) :
  ∃m,Told Y0 [.list (ps.map prD)] (.int m)∧0<m∧(∀p∈ps,p.2∣m)∧m∣B:=by
 have key:∃d,Told Y0 [.list (ps.map prD)] d∧∃m,d= .int m∧0<m∧(∀p∈ps,p.2∣m)∧m∣B:=by
  refine Zka rfl<|Wl (Zv Zz)<|Zii (ds:=ps.map prD) (λi δ=>∃m z,δ=[some (.fz (.list (ps.map prD))),some (.fz (.int m)),z]∧0<m∧(∀j p,j<i->ps[j]? =some p->p.2∣m)∧m∣B) (W3 Za) ⟨1,none,rfl,by decide,λj p hj=>absurd hj (BV j),Int.one_dvd _⟩ (λi d δ hd hi=>?_) λδ' hi=>?_
  ·obtain⟨m,z,hδ,h1,h2,h3⟩:=hi
   subst hδ
   rw[Xn]at hd
   cases e:ps[i]? with
   | none=>rw[e]at hd;cases hd
   | some p=>
    rw[e]at hd
    cases hd
    obtain⟨q1,q2⟩:=h p (Qi e)
    obtain⟨s1,s2,s3,s4⟩:=Zwz h1 q1 h3 q2 hB
    have g0:0<(JH m p.2:Int):=Zem (by omega)
    have bg:Bt n (JH m p.2:Int):=Zkj hB (Int.dvd_trans (Int.gcd_dvd_right ..) q2) bB
    have bm:Bt n (m.fdiv (JH m p.2)):=by
     rw[Wk g0]
     exact Bt.of_le (Zkj hB h3 bB) (Uu _ _)
    have at1:∀{δ:Zi},δ[2]? =some (some (.fz (prD p)))->EvV (Yi gIx (Ze 2) (fC (.int 1))) δ (.int p.2):=λh=>W7 (Za h) Zz rfl
    refine⟨_,_,rfl,.inl (Zv (Zq (Zq Za (Zk (Zb Za (Zb (at1 rfl) Zg)) (.of (Za2 m p.2) (OT.data_fz _))) (Zgm (Zhl (by omega) bg hn))) (at1 rfl) (Zdh (Zda bm (Zkj hB q2 bB) (by omega))))),_,_,rfl,s1,λj p' hj hp=>?_,s4⟩
    by_cases z:j=i
    ·subst z
     rw[e]at hp;cases hp
     exact s3
    ·exact Int.dvd_trans (h2 j p' (by omega) hp) s2
  ·obtain⟨m,z,rfl,h1,h2,h3⟩:=hi
   refine Zkn Za ⟨m,rfl,h1,λp hp=>?_,h3⟩
   obtain⟨j,hj⟩:=Bp hp
   exact h2 j p (by have:=(Xu.mp hj).1;rwa[Xc]) hj
 obtain⟨d,h,m,rfl,hm⟩:=key
 exact⟨m,h,hm⟩
noncomputable def Zat:FS :=
 (Z1 (wE (fC (.int 1)) (Yw 1))
  (Z1 (Jq (Zei (Ze 0)) (gNm 2)
  (wE (Zt Y0 (Zc (Yi Zug (Zdn (Zc (Zf6 (Zc (fC (.int 1)) (Zc (Ze 1) Zn))) Zn)) (Ze 2)) Zn)) (Yw 1)))
  (wE (Ze 1) Jo)))
noncomputable def Yg:FD:=Js 1 3 Zat
theorem Z2m(r:List Rat):r.map frD=(r.map λq=>(q.num,(q.den:Int))).map prD:=by rw[XJ];rfl
noncomputable def Z6o(T:List (List Rat))(B:Int):Prop:=∀r∈T,∀q∈r,(q.den:Int)∣B
theorem Zhn{n:Nat}{B:Int}(hB:0<B)(bB:Bt n B)(hn:n≤9000:=by decide)(T:List (List Rat))(hz:∀r∈T,r.length≤1000)(h:Z6o T B) :
  ∃m,Told Yg [tbD T] (.int m)∧0<m∧Z6o T m∧m∣B:=by
 have key:∃d,Told Yg [.list (T.map Zmd)] d∧∃m,d= .int m∧0<m∧Z6o T m∧m∣B:=by
  refine Zka rfl<|Wl (Zv Zz)<|Zii (ds:=T.map Zmd) (λi δ=>∃m z,δ=[some (.fz (.list (T.map Zmd))),some (.fz (.int m)),z]∧0<m∧(∀j r,j<i->T[j]? =some r->∀q∈r,(q.den:Int)∣m)∧m∣B) (W3 Za) ⟨1,none,rfl,by decide,λj p hj=>absurd hj (BV j),Int.one_dvd _⟩ (λi d δ hd hi=>?_) λδ' hi=>?_
  ·obtain⟨m,z,hδ,h1,h2,h3⟩:=hi
   subst hδ
   rw[Xn]at hd
   cases e:T[i]? with
   | none=>rw[e]at hd;cases hd
   | some r=>
    rw[e]at hd
    cases hd
    have hr:=Qi e
    obtain⟨m',e1,p1,p2,p3⟩:=Zf9 hB bB hn ((1,m) :: r.map λq=>(q.num,(q.den:Int))) λp hp=>by
     rcases Xp.mp hp with rfl|hp
     ·exact⟨h1,h3⟩
     ·obtain⟨q,hq,rfl⟩:=XQ.mp hp
      exact⟨Jb q,h r hr q hq⟩
    rw[Qe,←Z2m]at e1
    have hl:=hz r hr
    refine⟨_,_,rfl,.inl (Zv (Zk (Zb (Zob (ds:=[prD (1,m)]) (es:=r.map frD) (Zce (Zb (J6 (Zb Zz (Zb Za Zg)) (show 2≤1000 by decide)) Zg) (show 1≤1000 by decide)) Za (by rw[Xc,Vy];omega)) Zg) e1)),m',_,rfl,p1,λj r' hj hr' q hq=>?_,p3⟩
    by_cases z:j=i
    ·subst z
     rw[e]at hr';cases hr'
     exact p2 (q.num,(q.den:Int)) (.tail _ (XQ.mpr ⟨q,hq,rfl⟩))
    ·exact Int.dvd_trans (h2 j r' (by omega) hr' q hq) (p2 (1,m) (.head _))
  ·obtain⟨m,z,rfl,h1,h2,h3⟩:=hi
   refine Zkn Za ⟨m,rfl,h1,λr hr q hq=>?_,h3⟩
   obtain⟨j,hj⟩:=Bp hr
   exact h2 j r (by have:=(Xu.mp hj).1;rwa[Xc]) hj q hq
 obtain⟨d,h,m,rfl,hm⟩:=key
 exact⟨m,h,hm⟩
noncomputable def scI(m:Int)(q:Rat):Int:=q.num*(m/(q.den:Int))
theorem Zyy{m:Int}{q:Rat}(h:(q.den:Int)∣m):(scI m q:Rat)=q*(m:Rat):=by
 obtain⟨k,rfl⟩:=h
 unfold scI
 rw[Int.mul_ediv_cancel_left _ (Zmb q)]
 rw[Rat.intCast_mul,Rat.intCast_mul,Yed,Rat.mul_assoc]
noncomputable def Zck:FS :=
 (wE (Yv 1 [0] (Zei (Ze 1)) (gNm 0) Zd0 (Zf Zcp (Yi gIx (Ze 0) (fC (.int 0))) (Zf Jp (Ze 1) (Yi gIx (Ze 0) (fC (.int 1)))))) Jo)
noncomputable def J9:FD:=Js 2 2 Zck
theorem Zku{n:Nat}{m:Int}(hm:0<m)(bm:Bt n m)(r:List Rat)(hz:r.length≤1000)(h:∀q∈r,(q.den:Int)∣m∧Bt n q.num)(hn:n≤9000:=by decide) :
  Told J9 [.int m,Zmd r] (.list (r.map λq=>.int (scI m q))) :=
 Zx rfl<|Yd<|Zb9 (cs:=[some (.fz (.int m))]) r frD (λq=>.int (scI m q)) (W3 Za) (by omega) rfl λq hq=>by
  obtain⟨h1,h2⟩:=h q hq
  refine(Zq (W7 (d:=.int q.num) Za Zz rfl) (Zq Za (W7 (d:=.int (q.den:Int)) Za Zz rfl) (Zgm (Zhl (Zmb q) (Zkj hm h1 bm) hn))) (Zdh ?_)).cast ?_
  ·rw[Wk (Jb q)]
   exact Zda h2 (Bt.of_le bm (Uu _ _)) (by omega)
  ·rw[Wk (Jb q)];rfl
noncomputable def Zbw:FS :=
 (wE (Yv 1 [0] (Zei (Ze 1)) (gNm 0) Zd0 (Zt J9 (Zc (Ze 1) (Zc (Ze 0) Zn)))) Jo)
noncomputable def Y7:FD:=Js 2 2 Zbw
theorem Zi5{n:Nat}{m:Int}(hm:0<m)(bm:Bt n m)(T:List (List Rat))(hT:T.length≤1000)(hz:∀r∈T,r.length≤1000)(h:Z6o T m)(hb:∀r∈T,∀q∈r,Bt n q.num)(hn:n≤9000:=by decide) :
  Told Y7 [.int m,tbD T] (.list (T.map λr=>.list (r.map λq=>.int (scI m q)))) :=
 Zx rfl<|Yd<|Zb9 (cs:=[some (.fz (.int m))]) T Zmd (λr=>.list (r.map λq=>.int (scI m q))) (W3 Za) (by omega) rfl λr hr=>Zk (Zb Za (Zb Za Zg)) (Zku hm bm r (hz r hr) (λq hq=>⟨h r hr q hq,hb r hr q hq⟩) hn)
noncomputable def Zg2:FS :=
 (Z1 (wE (Zdn Zn) (J8 1))
  (Z1 (Jq (iRa (Zc (Ze 0) Zn)) (gNm 2)
  (Jq (iRb (Zc (Zf Zaj (Ze 2) (fC (.int 1))) (Zc (Ze 0) Zn))) (gNm 3)
  (Wm 1 (Zf6 (Zc (Ze 2) (Zc (Ze 3) Zn))))))
  (Zb5 1)))
noncomputable def Ztq:FD:=Js 1 4 Zg2
end My
namespace My
open PySem L2 PySem.Spec
noncomputable def Zbc:FS :=
 (Z1 (Zad (tV (Zf gLt (Ze 1) (Zaf Za3 (Zc (Ze 0) Zn))))
  (wE (Yi gIx (Ze 0) (Ze 1)) Jo)
  fNx)
  (wE (fC (.int 0)) Jo))
noncomputable def Yj:FD:=Js 2 2 Zbc
noncomputable def Zdk:FS :=
 (Z1 (Zad (tV (Zf gEq (Zf Zcb (Zf Jp (Ze 0) (fC (.int 7))) (fC (.int 8))) (fC (.int 3))))
  (wE (Zf Zaj (Zf Zaj (Ze 2) (fC (.int 1))) (Zf Zcb (Zf Jp (Ze 0) (fC (.int 56))) (Zf gSb (Ze 3) (Ze 2)))) Jo)
  fNx)
  (wE (Zf Zaj (Ze 1) (Zf Zcb (Ze 0) (Zf gSb (Zf Zaj (Ze 2) (fC (.int 1))) (Ze 1)))) Jo))
noncomputable def Ji:FD:=Js 4 4 Zdk
noncomputable def Zcs:FS :=
 (Z1 (wE (Zf Zcb (Zf Zcp (Zf Zaj (Zf Zaj (Zf Zcb (Ze 0) (fC (.int 2147483629))) (Zf Zcp (fC (.int 9973)) (Ze 1))) (fC (.int 5))) (fC (.int 48271))) (fC (.int 2147483647))) (Yw 2))
  (Z1 (wE (Zf Zcb (Zf Zcp (Ze 2) (Ze 2)) (fC (.int 2147483587))) (Yw 2))
  (wE (Zf Jp (Zf Zcb (Zf Zcp (Zf Zaj (Ze 2) (Zf Zcp (fC (.int 7919)) (Ze 1))) (fC (.int 16807))) (fC (.int 2147483563))) (fC (.int 8))) Jo)))
noncomputable def Zw:FD:=Js 2 3 Zcs
noncomputable def Za9:FS :=
 (Z1 (wE (Zdn Zn) (J8 2))
  (Z1 (wE (Ze 0) (Yw 3))
  (Z1 (Jq (iRa (Zc (Ze 1) Zn)) (gNm 4)
  (Z1 (wE (Zt Zw (Zc (Ze 0) (Zc (Ze 4) Zn))) (Yw 5))
  (Z1 (Zad (tV (Zf gGe (Ze 0) (Zf Zps (fC (.int 10)) (fC (.int 18)))))
  (wE (Zf Zcb (Ze 3) (fC (.int 720720))) (Yw 5))
  fNx)
  (Z1 (wE (Zf Jp (Ze 3) (fC (.int 720720))) (Yw 3))
  (Wm 2 (Ze 5))))))
  (Zb5 2))))
noncomputable def Wh:FD:=Js 2 6 Za9
noncomputable def Zj(p:List Int):Xa:=.list (p.map Xk)
theorem Zoo{p:List Int}{i:Int}(h0:0≤i)(h1:i<p.length):atI (p.map Xk) i=some (.int (p.getD i.toNat 0)):=by
 rw[Zkf h0,Xn,Xi (by omega)]
 simp[Xe,Xi (show i.toNat<p.length by omega)]
theorem W0{a b:FE}{δ:Zi}{p:List Int}{i:Int}(ha:EvV a δ (Zj p))(hb:EvV b δ (.int i))(h0:0≤i)(h1:i<p.length):EvV (Yi gIx a b) δ (.int (p.getD i.toNat 0)):=Zx5 ha hb (Zoo h0 h1)
theorem Zal{a:FE}{δ:Zi}{p:List Int}(ha:EvV a δ (Zj p)):EvV (Zaf Za3 (Zc a Zn)) δ (.int p.length):=by
 have:=Zf0 (ds:=p.map Xk) ha
 rwa[Xc]at this
theorem Yb0:Zps (.int 10) (.int 18)=some (.int 1000000000000000000):=rfl
theorem Zfa(ns:List Int){k:Int}(h0:0≤k):∃c,Yj [Zj ns,.int k]= .ok (.fz (.int c)):=by
 by_cases c:k<ns.length
 ·exact⟨_,Told.int<|Zx rfl<|J0 (Zbz (Za4 (Zfc Za (Zal Za) (decide_eq_true c))) (Yd (W0 Za Za h0 c)))⟩
 ·exact⟨_,Told.int<|Zx rfl<|Zy (Z9 (Za4 (Zfc Za (Zal Za) (decide_eq_false c))) rfl) (Yd Zz)⟩
theorem Z0s(c:Int){a b d:Int}(h1:a≤b)(h2:b<d):∃n:Int,Ji [.int c,.int a,.int b,.int d]= .ok (.fz (.int n))∧a≤n∧n≤d:=by
 by_cases k:(c.fdiv 7).fmod 8=3
 ·have q0:=Ju (i:=c.fdiv 56) (j:=d-b) (by omega)
  have q1:=Jy (i:=c.fdiv 56) (j:=d-b) (by omega)
  exact⟨_,Told.int<|Zx rfl<|J0 (Zbz (Za4 (Zg1 (Wa (Zaa Za Zz) Zz (by decide)) Zz (decide_eq_true k)))
   (Yd (Ys (Ys Za Zz) (Wa (Zaa Za Zz) (Ziu Za Za) (by omega))))),by omega,by omega⟩
 ·have q0:=Ju (i:=c) (j:=b+1-a) (by omega)
  have q1:=Jy (i:=c) (j:=b+1-a) (by omega)
  exact⟨_,Told.int<|Zx rfl<|Zy (Z9 (Za4 (Zg1 (Wa (Zaa Za Zz) Zz (by decide)) Zz (decide_eq_false k))) rfl)
   (Yd (Ys Za (Wa Za (Ziu (Ys Za Zz) Za) (by omega)))),by omega,by omega⟩
theorem Zeh(c k:Int):∃v,Told Zw [.int c,.int k] (.int v):=by
 have n0:=Ju (i:=(c.fmod 2147483629+9973*k+5)*48271) (j:=2147483647) (by decide)
 have n1:=Jy (i:=(c.fmod 2147483629+9973*k+5)*48271) (j:=2147483647) (by decide)
 exact⟨_,Zx rfl<|Zy (Zv (Wa (Zm5 (Ys (Ys (Wa Za Zz (by decide)) (Zbf Zz Za)) Zz) Zz) Zz (by decide)))<|
  Zy (Zv (Wa (Zbf Za Za (by omega)) Zz (by decide)))<|
  Yd (Zaa (Wa (Zm5 (Ys Za (Zbf Zz Za)) Zz) Zz (by decide)) Zz)⟩
theorem Zja{i:Nat}{e:FE}{δ:Zi}{vs:List Int}{v:Int}(h:EvV e δ (.int v))(hi:δ[i]? =some (some (.nd (vs.map λv=>.fz (.int v)))))(hl:vs.length≤1000000):Wm i e δ= .nx (δ.set i (some (.nd ((vs ++ [v]).map λv=>.fz (.int v))))):=by
 rw[Zgr h hi (by rw[Xc];exact hl),Qh];rfl
theorem Zsf(p:List Int):(OT.nd ((p.map Xk).map OT.fz)).data=Zj p:=by
 rw[OT.data_nd,OT.map_fz];rfl
theorem Zge(vs:List Int):(OT.nd (vs.map λv=>OT.fz (.int v))).data=Zj vs:=by rw[OT.data_nd,Ziw];rfl
theorem Zp5(c:Int)(m:Nat)(hm:m≤1000):∃vs:List Int,Told Wh [.int c,.int m] (Zj vs)∧vs.length=m:=by
 have key:∃d,Told Wh [.int c,.int m] d∧∃vs,d=Zj vs∧vs.length=m :=
  Zka rfl<|Wl Zf5<|Wl (Zv Za)<|Zii (ds:=Zcg 0 m) (λi δ=>∃(vs:List Int) (x:Int) (z1 z2:Option OT),δ=[some (.fz (.int c)),some (.fz (.int m)),some (.nd (vs.map λv=>.fz (.int v))),some (.fz (.int x)),z1,z2]∧vs.length=i)
   (Zg3 (Zb Za Zg) (by omega)) ⟨[],c,none,none,rfl,rfl⟩ (λi d δ hd q91=>by
    obtain⟨vs,x,z1,z2,e,hl⟩:=q91
    subst e
    obtain⟨hi,rfl⟩:=J1 hd
    obtain⟨v,ev⟩:=Zeh c (0+(i:Int))
    by_cases q:1000000000000000000≤c
    ·exact⟨_,_,rfl,.inl (Yl (Zv (Zk (Zb Za (Zb Za Zg)) ev))<|Yl (Jt (Za4 (Z4y Za (Zq Zz Zz Yb0) (decide_eq_true q))) (Zv (Wa Za Zz (by decide))))<|
      Yl (Zv (Zaa Za Zz)) (Zja (vs:=vs) Za rfl (by omega))),_,_,_,_,rfl,by rw[XX,hl];rfl⟩
    ·exact⟨_,_,rfl,.inl (Yl (Zv (Zk (Zb Za (Zb Za Zg)) ev))<|Yl (Z9 (Za4 (Z4y Za (Zq Zz Zz Yb0) (decide_eq_false q))) rfl)<|
      Yl (Zv (Zaa Za Zz)) (Zja (vs:=vs) Za rfl (by omega))),_,_,_,_,rfl,by rw[XX,hl];rfl⟩)
   λδ' q92=>by
    obtain⟨vs,x,z1,z2,e,hl⟩:=q92
    subst e
    rw[W8]at hl
    exact Z3d rfl ⟨vs,Zge vs,hl⟩
 obtain⟨d,h,vs,rfl,hl⟩:=key
 exact⟨vs,h,hl⟩
end My
namespace L2
open PySem PySem.Spec PyProof.Rows
variable {G:Xb}
noncomputable def Sg(z:Str)(t:Tok)(it:Addr)(i:Nat)(h:Heap):Prop:=h.IsStrIter it "str_ascii_iterator" z t i∨h.IsStrIter it "str_iterator" z t i
section
variable {P:X8}{w:Qs}{A:Qo}{E:Xd->Xg->Prop}{s:Xg}
structure Ap(z TI TO i1 i2:Addr):Prop where
 a1:TI≠z
 a2:TO≠z
 a3:i1≠z
 a4:i2≠z
 a5:i1≠TO
 a6:i2≠TO
 a7:i1≠i2
 a8:TI≠TO
 a9:TI≠i1
 a10:TI≠i2
noncomputable abbrev yT1(h:Heap)(x:Str)(t:Tok):Heap:=h.push { cls:=.type (strIterType x),data:=.fields #[.str x t,.int 0 0] }
noncomputable abbrev yT2(h:Heap)(x y:Str)(t u:Tok):Heap:=yT1 (yT1 h x t) y u
noncomputable abbrev yT3(h:Heap)(x y:Str)(t u:Tok):Heap:=(yT2 h x y t u).push { cls:=.type "tuple",data:=.seq #[.ref h.objs.size,.ref (yT1 h x t).objs.size] }
noncomputable abbrev yT4(h:Heap)(x y:Str)(t u:Tok):Heap:=(yT3 h x y t u).push { cls:=.type "tuple",data:=.seq #[.none,.none] }
noncomputable abbrev yT5(h:Heap)(x y:Str)(t u:Tok):Heap:=(yT4 h x y t u).push { cls:=.type "zip",data:=.fields #[.none,.bool false,.bool false,.ref (yT2 h x y t u).objs.size,.ref (yT3 h x y t u).objs.size] }
theorem Sg.at{h:Heap}{x:Str}{t:Tok}{it:Addr}(e:h.get? it=some { cls:=.type (strIterType x),data:=.fields #[.str x t,.int 0 0] }):Sg x t it 0 h:=by
 unfold strIterType at e
 split at e
 ·exact .inl ⟨_,e,rfl,rfl⟩
 ·exact .inr ⟨_,e,rfl,rfl⟩
end
section
variable {X:Cx}{io:List Nat}{p c:Bool}{a b:Expr}{mr:MAt}{ra:FA}
end
end L2
namespace L2
open PySem PySem.Spec PyProof.Rows PySem.W
structure Tot(lt:Nat->Nat->Bool)(n:Nat):Prop where
 tr:∀i j k,i<n->j<n->k<n->lt i j=true->lt j k=true->lt i k=true
 tot:∀i j,i<n->j<n->i≠j->lt i j=false->lt j i=true
 asy:∀i j,i<n->j<n->lt i j=true->lt j i=false
section
variable {lt:Nat->Nat->Bool}{n:Nat}
noncomputable abbrev gD(p:Array Nat)(i:Nat):Nat:=p.getD i 0
variable (T:Tot lt n)
include T
end
end L2
namespace L2
open PySem PySem.Spec PyProof.Rows
variable {G:Xb}
noncomputable def Zzb(m:MEt):MEt:=λδ K=>m δ λr δ1=>match r with| .nd ts=>K (.nd ((OT.datas ts).map OT.fz)) δ1|_=>False
section
variable {X:Cx}{io:List Nat}{p c:Bool}{e b:Expr}{m mb:MEt}{i:Nat}{x:Str}{px pp pos:Pos}
theorem Z9d{t:TE}(s:SE G io p true t m):SE G io p true t (Zzb m):=by
 refine λC H σ δ fp ex K Q R h kk=>s C H σ δ fp ex _ _ R h λH1 v r δ1 fp1 new r1 h1=>?_
 split at h1
 case h_2=>exact h1.elim
 rename_i ts
 obtain⟨rel,stp,own,nd,fresh⟩:=r1
 generalize et:OT.nd ts=o at own
 cases own with
 | nd e1 ow=>
  rename_i a xs ts' bs
  cases et
  have hn:=Qp.mp nd
  refine kk H1 (.ref a) _ δ1 fp1 [a] ⟨rel.drop λb z=>z.imp id λz=>by rw[Xq.mp z];exact .head _,stp,.nd e1 (Das.owns (ow.das (λb l q hc=>?_) λb hb hc=>?_)),Qp.mpr ⟨(λz=>nomatch z),.nil⟩,λb hb=>by rw[Xq.mp hb];exact fresh a (.head _)⟩ h1
  ·exact⟨(l hc).1,λz=>(l hc).2.1 (z.imp id λz=>by rw[Xq.mp z];exact .head _),(l hc).2.2⟩
  ·have ok:=R.newOk (fresh b (.tail _ hb))
   refine⟨λz=>?_,λz=>z.elim ok.2.1 λz=>hn.1 (by rw[←Xq.mp z];exact hb),.inr ok.2.2⟩
   obtain⟨j,z⟩:=z
   exact rel.dx j b z (.inr (.tail _ hb))
 | _=>cases et
theorem Zmf{ci pt pe:Bool}{g:MGt}{mt:MTt}{me:MEt}{mi:MIt}{own:List Str}{caps:List Nat}{N':List Str}{sc:Vw}{tg elt iter:Expr}{ifs:List Expr}{y:Str}{py spos:Pos}(hN:X.N.Nodup)(hy:X.N[i]? =some y)(hx:Loc X.env.scope y)(S:CompScope X own caps N' sc)(hc:X.calm=true)(nd:caps.Nodup)(hi:MI X io p ci tg iter mi)
  (hg:∀C cells s₂ H₂ fp,MG (Yz X N' sc C cells s₂ H₂ fp) (J2 own.length caps) ci tg g) (ht:∀C cells s₂ H₂ fp,MIfs (Yz X N' sc C cells s₂ H₂ fp) (J2 own.length caps) pt ifs mt) (he:∀C cells s₂ H₂ fp,ME (Yz X N' sc C cells s₂ H₂ fp) (J2 own.length caps) pe true elt me)
  (hp:(pt&&pe)=true:=by rfl) (hio:i∉io:=by decide)
  (hsw:Vo (.ListComp elt [⟨tg,iter,ifs,0⟩] sc pos) (some (.Name y py)) spos.line X.env=pure true:=by rfl)
  (hs:∀x,JL iter X.env x=pure x:=by intro _;rfl) (hf:X.fn y=true∨X.env.scope.names.lookup y=some .local:=by first|exact .inl rfl|exact .inr rfl|assumption) :
  MS X io (.Assign [.Name y py] (.ListComp elt [⟨tg,iter,ifs,0⟩] sc pos) spos) (Zl2 i (Zzb (Ze7 own.length caps mi g mt me))):=by
 obtain⟨_,A,si⟩:=hi
 exact⟨_,Zif (g:=gM X.K (J2 own.length caps) ci g) (tt:=ttM X.K (J2 own.length caps) pt mt) (te:=tM X.K (J2 own.length caps) pe true me) hN hy hx S hc A (λC cells s₂ H₂ fp=>(hg C cells s₂ H₂ fp).canon) (λC cells s₂ H₂ fp=>(ht C cells s₂ H₂ fp).canon) (λC cells s₂ H₂ fp=>(he C cells s₂ H₂ fp).canon) hsw hs hf,Z0u (Z9d (Zv1 si nd hp)) hio⟩
noncomputable def Zyr(i:Nat):MEt:=λδ K=>∃ts,δ[i]? =some (some (.nd ts))∧Zkm ts=true∧K (.nd ((OT.datas ts).map OT.fz)) δ
theorem Zzs(i:Nat)(hg:Gl X "list")(hm:X.mg "list"=none)(hvb:X3 "list"=some (.type "list"))
  (hN:X.N[i]? =some x:=by rfl) (hv:Vis X.env.scope x:=by first|exact Qq rfl|exact Qj (Qq rfl)|exact Qj (Qj rfl)) (hd:(x==("__debug__" : Str))=false:=by decide) (hcd:(x==("__classdict__" : Str))=false:=by decide)
  (he:Xo [.Name x px] X.env=(false,eval (.Name x px) X.env) :: Xo [] X.env:=by rfl) (hpl:(QW pos (Xo [] X.env)).any (·.1)=false:=by rfl):ME X io true true (.Call (.Name "list" pp) [.Name x px] [] pos) (Zyr i):=by
 refine⟨_,Zcr (Zit rfl) hg hm hvb (Zbl (pv i hN hv hd hcd) Zen he) (by decide) (by decide) he hpl,λC H σ δ fp ex K Q R h kk=>?_⟩
 obtain⟨ts,hi,hz,h⟩:=h
 obtain⟨a',xs,bs,hv0,hx,ow,hfp⟩:=R.ownNd hi
 refine⟨_,hv0,a',xs,rfl,.inl (.inl (.inl hx)),λl hl=>?_⟩
 have s:=Z2 hl (.lst xs)
 refine kk _ (.ref l) _ δ fp [l] (RE.tree R R (Stp.refl true H δ fp) s (λa m=>by rw[Xq.mp m];exact hl) (Qp.mpr ⟨(λz=>nomatch z),.nil⟩) (.nd Z7 (Das.owns (((ow.fz_das hz).wide (L':=λa=>((true=true->Lf C fp ex a)∨H a=none)∧a∉[l]) λa q n=>⟨.inl λ_=>q,λz=>n (by rw[Xq.mp z];exact hl)⟩).same s)))) h
noncomputable def Yb9(i:Nat)(mb:MEt):MEt:=λδ K=>∃ts,δ[i]? =some (some (.nd ts))∧Zkm ts=true∧mb δ λn δ1=>asI n.data λk=>match atI (OT.datas ts) k with|some d=>K (.fz d) δ|none=>False
theorem Z8i(i:Nat)(hb:ME X io true c b mb)(hs:Zhv b)
  (hN:X.N[i]? =some x:=by rfl) (hv:Vis X.env.scope x:=by first|exact Qq rfl|exact Qj (Qq rfl)|exact Qj (Qj rfl)) (hd:(x==("__debug__" : Str))=false:=by decide) (hcd:(x==("__classdict__" : Str))=false:=by decide):ME X io true true (.Subscript (.Name x px) b pos) (Yb9 i mb):=by
 obtain⟨_,B,sb⟩:=hb
 refine⟨_,Zz7 (Zrg rfl) (pv i hN hv hd hcd) B hs,λC H σ δ fp ex K Q R h kk=>?_⟩
 obtain⟨ts,hi,hz,h⟩:=h
 obtain⟨a',xs,bs,hv0,hx,ow,hfp⟩:=R.ownNd hi
 refine⟨_,hv0,sb.pureAfter R h λH2 w n R2 s2 q2 h2=>?_⟩
 obtain⟨k,e2,h2⟩:=q2.intInv h2
 subst e2
 split at h2
 case h_2=>exact h2.elim
 rename_i d ed
 have qs:=(ow.fz_das hz).same s2
 obtain⟨v,e3,q⟩:=qs.atI ed
 exact .inl ⟨a',xs,k,v,rfl,rfl,.inl (.inl (s2 _ _ hx)),e3,kk H2 v _ δ fp [] (.fz R2 (.same s2 s2.al) (q.wide λa l _ _=>l)) h2⟩
end
noncomputable def Zus(e:FE):FE:=λδ=>(e δ).bind λp=>match p.1 with| .nd ts=>some (.nd ((OT.datas ts).map OT.fz),p.2)|_=>none
noncomputable def Zoe(i:Nat):FE:=λδ=>(Z28 δ[i]?).bind λts=>some (.nd ((OT.datas ts).map OT.fz),δ)
noncomputable def Z77(i:Nat)(b:FE):FE:=λδ=>(Z28 δ[i]?).bind λts=>(b δ).bind λq=>match q.1.data with
 | .int k=>(atI (OT.datas ts) k).bind λd=>some (.fz d,δ)
 | _=>none
section
variable {X:Cx}{io:List Nat}{p c:Bool}{e:Expr}{fa fb:FE}{i:Nat}
theorem Zwh{st:Stmt}{n:Nat}{caps:List Nat}{it:FI}{gg:FG}{t:FT}{me:FE}(h:MS X io st (Zl2 i (Zzb (Ze7 n caps (o2 it) (oG gg) (o2 t) (o2 me))))):MS X io st (oS (wE (Zus (Yv n caps it gg t me)) (J8 i))):=h.weak λD δ h=>by
 obtain⟨r,δ',h,k⟩:=Zqq h
 obtain⟨⟨x,δ1⟩,h1,h⟩:=bs h
 refine Zo5 ⟨x,δ1,h1,?_⟩
 try dsimp only at h⊢
 split at h
 case h_2=>cases h
 cases h
 exact k
theorem Zv2(h:ME X io p c e (Zyr i)):ME X io p c e (o2 (Zoe i)):=h.weak λδ K h=>by
 obtain⟨r,δ',h,k⟩:=h
 obtain⟨ts,h1,h⟩:=bs h
 obtain⟨e1,e2⟩:=Zt8 h1
 cases h
 exact⟨ts,e1,e2,k⟩
theorem Z36(h:ME X io p c e (Yb9 i (o2 fb))):ME X io p c e (o2 (Z77 i fb)):=h.weak λδ K h=>by
 obtain⟨r,δ',h,k⟩:=h
 obtain⟨ts,h1,h⟩:=bs h
 obtain⟨e1,e2⟩:=Zt8 h1
 obtain⟨⟨y,δ2⟩,h2,h⟩:=bs h
 refine⟨ts,e1,e2,y,δ2,h2,?_⟩
 try dsimp only at h⊢
 split at h
 case h_2=>cases h
 rename_i n q
 obtain⟨d,h3,h⟩:=bs h
 cases h
 rw[q]
 show(match atI (OT.datas ts) n with|some d=>K (.fz d) δ|none=>False)
 rw[h3]
 exact k
end
variable {G:Xb}
section
variable {prog:X8}{w:Qs}{A:Qo}{E:Xd->Xg->Prop}{s:Xg}
noncomputable def Zpu(h:Heap)(vs:List Xd):Heap:=(h.push (JK "list" #[] 0)).update h.objs.size (Q4 (· ++ vs.toArray))
theorem Zm2{l:Addr}{vs:List Xd}{Q:List Xd->Xg->Prop}(hl:UT s.heap l vs.toArray)(hz:vs.length≤Xr)(h:Q vs { s with heap:=Zpu s.heap vs }):X4 (Qd prog w) A (collect (.ref l)) Q E s:=by
 obtain⟨o,o1,oc,n,od⟩:=id hl
 have o2:(s.heap.push (JK "list" #[] 0)).get? l=some o:=Xl _ o1
 have o3:(s.heap.push (JK "list" #[] 0)).get? s.heap.objs.size=some (JK "list" #[] 0):=X5 _ rfl
 unfold collect
 refine Xh (wpAny_runValue (Ue entry_proto_collect' ?_));show X4 _ _ (do again (.builtin "list.__iadd__" ⟨[←newList [],.ref l],[]⟩)) _ _ s
 refine Xh (wpAny_newList (X7 ⟨Code.quiet_builtin _ (by decide +kernel),Ue entry_list_iadd' ?_⟩));show X4 _ _ (Builtin.List.listExtendWith (.ref s.heap.objs.size) (.ref l) (.ref s.heap.objs.size)) _ _ { s with heap:=s.heap.push (JK "list" #[] 0) }
 unfold Builtin.List.listExtendWith
 refine Xh (wpAny_typeOf (T :="tuple") ⟨o,o2,oc⟩ ?_)
 rw[if_pos (by rw[show(Value.type "tuple"==Value.type "tuple")=true from rfl,Bool.or_true])]
 refine Xh (listItems_at o2 od (Xh (listItems_at (xs:=#[]) (n:=0) o3 rfl ?_)))
 rw[if_neg (by simp)]
 refine Xh (listUpdate_at (xs:=#[]) (n:=0) o3 rfl (X7 ?_) (Q7 _) (by show(#[] ++ vs.toArray).size≤Xr+1;simp only[Array.size_append,Xx,List.length_nil];omega))
 refine Xh (wpAny_load (get?_update_seq o3 _) ?_)
 show X4 _ _ (pure ((#[]:Array Xd) ++ vs.toArray).toList) Q E _
 have ev:((#[]:Array Xd) ++ vs.toArray).toList=vs:=by simp
 rw[ev]
 exact X7 h
theorem Zqb{l:Addr}{vs:List Xd}{ns:List Int}{Q:Xd->Xg->Prop}(hl:UT s.heap l vs.toArray)(hI:Bs vs ns)(h64:vs.length<64)
  (h:∀(out:Array Xd) (ns':List Int),Bs out.toList ns'->ns'.Perm ns->ns'.Pairwise (·≤·)->Q (.ref (s.heap.objs.size+1)) { s with heap:=sortedAll s.heap vs out }):X4 (Qd prog w) A (call (.builtin "sorted") [.ref l]) Q E s:=by
 have zs:(Zpu s.heap vs).objs.size=s.heap.objs.size+1:=by unfold Zpu;rw[Heap.size_update,size_push']
 have oL:((Zpu s.heap vs).push (JK "list" vs.toArray 0)).get? (s.heap.objs.size+1)=some (JK "list" vs.toArray 0):=by rw[←zs];exact X5 _ rfl
 refine Calls.call_function_entry kind_sorted plain_sorted entry_sorted (args_sorted1 _) ?_
 unfold Builtin.«sorted»
 refine Xh (m:=checkCount "sorted" 1 1 _) (X7 (Xh (Zm2 hl (by rw[Qg];omega) (Xh (wpAny_newList ?_ (by rw[Qg];omega))))))
 show X4 _ _ _ _ _ { s with heap:=(Zpu s.heap vs).push (JK "list" vs.toArray 0) }
 rw[show({ s with heap:=Zpu s.heap vs }:Xg).heap.objs.size=s.heap.objs.size+1 from zs]
 exact Xh (V4 (Vn slot_list_sort ⟨_,oL,rfl⟩ entry_list_sort (list_sort_tree oL hI h64 λout ns' a1 a2 a3=>⟨_,rfl,X7 ⟨_,rfl,h out ns' a1 a2 a3⟩⟩) (args_list_sort _)))
end
noncomputable def Zye(K:Xb):List V->Hp->VK->Prop:=λxs H Q=>∃(a:Addr) (ns:List Int),xs=[.ref a]∧SqT K H a (ns.map V.int)∧ns.length<64∧∀l,H l=none->Q (.ref l) (upd H l (.lst ((Wg ns).map V.int)))
theorem Zqh{X:Cx}{K:Xb}(hK:X.K=K):Zbt X (.builtin "sorted") (Zye K):=by
 subst hK
 intro pins s σ H xs us Q I r h
 obtain⟨l,ns,rfl,hs,h64,q⟩:=h
 obtain⟨u,rfl,ru⟩:=vals1 r
 cases(show u=Qw l from ru)
 obtain⟨its,rv,pl,hz⟩:=I.tuple hs
 have hl:=rv.length
 rw[Xc]at hl
 refine Zqb pl (Zgd rv) (by omega) λout ns' a1 a2 a3=>?_
 obtain⟨e,he⟩:=sortedAll_at s.heap its out
 cases(Zb3 (a2.trans (Jv ns).symm) a3 (Zcx ns):ns'=Wg ns)
 refine⟨.ref (s.heap.objs.size+1),_,I.laid (t':=s.toks) (o:=.lst ((Wg ns).map V.int)) (λb ob q=>sortedAll_old q) (by omega) ⟨?_,out.toList,e,Z08 a1,he⟩,rfl,q _ (I.hok.fresh (by omega))⟩
 rw[Xc,(Jv ns).length_eq,Qg];omega
noncomputable def Zyf:List Xa->(OT->Prop)->Prop:=λds k=>n1 (λd=>∃ns:List Int,d= .tuple (ns.map Xk)∧ns.length<64∧k (.nd (((Wg ns).map Xk).map OT.fz))) ds
theorem Zws:PN G (Zye G) Zyf:=λH L xs ds k Q hx h kk=>by
 obtain⟨v,d,rfl,rfl,q,ns,e,h64,h⟩:=hx.one h
 have fin:∀(p:Addr),H p=none->Q (.ref p) (upd H p (.lst ((Wg ns).map V.int))):=λp hp=>kk _ _ _ [p] (Z2 hp _) (Own.list hp (Das.ints _)) (Zdg p) (Zau hp) h
 subst e
 generalize ed:Xa.tuple (ns.map Xk)=d at q
 cases q with
 | tup e r=>
  cases ed
  exact⟨_,ns,rfl,.inl (.inl (by rw[r.int_inv]at e;exact e)),h64,fin⟩
 | _=>cases ed
noncomputable def Zox:List Xa->Option OT:=λds=>match ds with|[.tuple es]=>(Zew es).bind λns=>if ns.length<64 then some (.nd (((Wg ns).map Xk).map OT.fz))else none|_=>none
theorem Zz0:∀ds r k,Zox ds=some r->k r->Zyf ds k:=λds r k h hk=>by
 unfold Zox at h
 split at h
 case h_2=>cases h
 obtain⟨ns,h1,h⟩:=bs h
 (try split at h)
 case isFalse=>cases h
 rename_i h2
 cases h
 exact⟨ns,by rw[Ze2 h1],h2,hk⟩
end L2
namespace My
open PySem L2 PySem.Spec
noncomputable def Wc(R:FD):FS :=
 (Z1 (Zad (tD (Zm0 "int" (Ze 1)))
  (wE (Zue (Zm0 "int" (Ze 0)) (Zue (fUn Z7s (Zm0 "bool" (Ze 0))) (Zf gEq (Ze 0) (Ze 1)))) Jo)
  fNx)
  (Z1 (Zad (tD (Zm0 "str" (Ze 1)))
  (wE (Zue (Zm0 "str" (Ze 0)) (Zf gEq (Ze 0) (Ze 1))) Jo)
  fNx)
  (Z1 (Zad (tO (tV (Zf gNe (Zm0 "tuple" (Ze 1)) (Zm0 "tuple" (Ze 0)))) (tV (Zf gNe (Zm0 "list" (Ze 1)) (Zm0 "list" (Ze 0)))))
  (wE (fC (.bool false)) Jo)
  fNx)
  (Z1 (Zad (tV (Zf gNe (Zaf Za3 (Zc (Ze 0) Zn)) (Zaf Za3 (Zc (Ze 1) Zn))))
  (wE (fC (.bool false)) Jo)
  fNx)
  (Z1 (Jq (Zfm (Zc (Ze 0) (Zc (Ze 1) Zn))) (gTp 2 (gCn (gNm 2) (gCn (gNm 3) gNl)))
  (Zad (tNo (tD (Zt R (Zc (Ze 2) (Zc (Ze 3) Zn)))))
  (wE (fC (.bool false)) Jo)
  fNx))
  (wE (fC (.bool true)) Jo))))))
noncomputable def Zr:Nat->FD
 | 0=>λ_=>RF.bad
 | k+1=>Js 2 4 (Wc (Zr k))
noncomputable def Zbu:FS :=
 (wE (Yi gIx (Zdn (Zc (fC (.int 1)) (Zc (fC (.int 2)) (Zc (fC (.int 6)) (Zc (Zf Zaj (Zf Zps (fC (.int 10)) (fC (.int 15))) (fC (.int 37))) Zn))))) (Zf Zcb (Zf Jp (Ze 0) (fC (.int 3))) (fC (.int 4)))) Jo)
noncomputable def Wt:FD:=Js 1 1 Zbu
noncomputable def Zao:FS :=
 (Z1 (wE (Zt Wh (Zc (Ze 0) (Zc (Zf Zcp (fC (.int 2)) (Ze 1)) Zn))) (Yw 2))
  (Z1 (wE (Zus (Yv 1 [] (iRb (Zc (fC (.int 1)) (Zc (Ze 1) Zn))) (gNm 0) Zd0 (Zdn (Zc (Ze 0) Zn)))) (J8 3))
  (Z1 (wE (Zoe 3) (J8 4))
  (Z1 (Jq (iRa (Zc (Zf gSb (Ze 1) (fC (.int 2))) Zn)) (gNm 5)
  (Z1 (wE (Z2u 3 (Zf Zcb (Yi gIx (Ze 2) (Zf Zcp (fC (.int 2)) (Ze 5))) (Zaf Za3 (Zc (Zkb 3) Zn)))) (Yw 6))
  (Z1 (wE (Z2u 3 (Zf Zcb (Yi gIx (Ze 2) (Zf Zaj (Zf Zcp (fC (.int 2)) (Ze 5)) (fC (.int 1)))) (Zaf Za3 (Zc (Zkb 3) Zn)))) (Yw 7))
  (Z1 (Wm 3 (fBl Zno (Zc (Yi Zug (Ze 6) (Ze 7)) Zn)))
  (Wm 4 (Z77 3 (fUn Zr8 (fC (.int 1)))))))))
  (Zb5 4)))))
noncomputable def Z6:FD:=Js 2 8 Zao
noncomputable def Zci:FS :=
 (Z1 (wE (Yv 1 [2] (iRa (Zc (Ze 2) Zn)) (gNm 0) Zd0 (Zuf (fC (.int 0)) (Ze 1))) (J8 5))
  (Z1 (Jq (iRa (Zc (Ze 2) Zn)) (gNm 6)
  (Jq (iRa (Zc (Ze 6) Zn)) (gNm 7)
  (Z1 (wE (Zf Zaj (Zf Jp (Zf Zcp (Ze 6) (Zf gSb (Ze 6) (fC (.int 1)))) (fC (.int 2))) (Ze 7)) (Yw 8))
  (Z1 (wE (Zt Zw (Zc (Ze 4) (Zc (Zf Zaj (fC (.int 90)) (Ze 8)) Zn))) (Yw 9))
  (Z1 (Zad (tV (Zf gLt (Zf Zaj (Ze 1) (Ze 8)) (Zaf Za3 (Zc (Ze 0) Zn))))
  (wE (Yi gIx (Ze 0) (Zf Zaj (Ze 1) (Ze 8))) (Yw 9))
  fNx)
  (Z1 (Zg5 5 (Zf Zcb (Ze 9) (Ze 3)) (Ze 6) (Ze 7))
  (Zg5 5 (Zf Zcb (Ze 9) (Ze 3)) (Ze 7) (Ze 6))))))))
  (Zb5 5)))
noncomputable def W4:FD:=Js 5 10 Zci
noncomputable def Zcv:FS :=
 (Z1 (wE (Yv 1 [0] (iRa (Zc (Ze 0) Zn)) (gNm 0) Zd0 (Zuf (fC (.int 0)) (Ze 1))) (J8 3))
  (Z1 (Jq (Zfm (Zc (Ze 1) (Zc (Ze 2) Zn))) (gTp 2 (gCn (gNm 4) (gCn (gNm 5) gNl)))
  (Jq (iRa (Zc (Ze 0) Zn)) (gNm 6)
  (Jq (iRa (Zc (Ze 0) Zn)) (gNm 7)
  (Zad (tV (Zf gNe (Zf (Zrr false) (Ze 6) (Ze 4)) (Zf (Zrr false) (Ze 7) (Ze 4))))
  (Zg5 3 (Zf Zaj (Yi gIx (Yi gIx (Zkb 3) (Ze 6)) (Ze 7)) (Ze 5)) (Ze 6) (Ze 7))
  fNx))))
  (Zb5 3)))
noncomputable def Y6:FD:=Js 3 8 Zcv
noncomputable def Zbb:FS :=
 (Z1 (wE (Yi gIx (Zdn (Zc (fC (.int 3)) (Zc (fC (.int 12)) (Zc (Zf Zps (fC (.int 10)) (fC (.int 20))) Zn)))) (Zf Zcb (Ze 3) (fC (.int 3)))) (Yw 4))
  (Z1 (wE (Zdn Zn) (J8 5))
  (Z1 (Jq (iRa (Zc (Ze 2) Zn)) (gNm 6)
  (Z1 (wE (Zt Zw (Zc (Ze 3) (Zc (Zf Zaj (fC (.int 50)) (Ze 6)) Zn))) (Yw 7))
  (Z1 (Zad (tV (Zf gLt (Zf Zaj (Ze 1) (Ze 6)) (Zaf Za3 (Zc (Ze 0) Zn))))
  (wE (Yi gIx (Ze 0) (Zf Zaj (Ze 1) (Ze 6))) (Yw 7))
  fNx)
  (Wm 5 (Zf Zcb (Ze 7) (Ze 4))))))
  (Zb5 5))))
noncomputable def Yk:FD:=Js 4 8 Zbb
noncomputable def Zcj:FS :=
 (Z1 (wE (Zf Zcb (Zf Jp (Ze 3) (fC (.int 12))) (fC (.int 5))) (Yw 4))
  (Z1 (Zad (tV (Zf gEq (Ze 4) (fC (.int 4))))
  (wE (Zt W4 (Zc (Ze 0) (Zc (Ze 1) (Zc (Ze 2) (Zc (Yi gIx (Zdn (Zc (fC (.int 2)) (Zc (fC (.int 3)) (Zc (fC (.int 5)) (Zc (Zf Zps (fC (.int 10)) (fC (.int 20))) Zn))))) (Zf Zcb (Zf Jp (Ze 3) (fC (.int 60))) (fC (.int 4)))) (Zc (Ze 3) Zn)))))) Jo)
  fNx)
  (Z1 (wE (Zt Z6 (Zc (Zf Jp (Ze 3) (fC (.int 60))) (Zc (Ze 2) Zn))) (Yw 5))
  (Z1 (wE (Zt Y6 (Zc (Ze 2) (Zc (Ze 5) (Zc (Zt Yk (Zc (Ze 0) (Zc (Ze 1) (Zc (Zaf Za3 (Zc (Ze 5) Zn)) (Zc (Ze 3) Zn))))) Zn)))) (J8 6))
  (Z1 (Zad (tV (Zf gEq (Ze 4) (fC (.int 2))))
  (Z1 (wE (Zt Z6 (Zc (Zt Zw (Zc (Ze 3) (Zc (fC (.int 40)) Zn))) (Zc (Ze 2) Zn))) (Yw 5))
  (Z1 (wE (Zt Y6 (Zc (Ze 2) (Zc (Ze 5) (Zc (Zt Yk (Zc (Ze 0) (Zc (Zf Zaj (Ze 1) (fC (.int 9))) (Zc (Zaf Za3 (Zc (Ze 5) Zn)) (Zc (Ze 3) Zn))))) Zn)))) (Yw 7))
  (Zd5 6 (wE (Yv 2 [] (Zfm (Zc (Ze 6) (Zc (Ze 7) Zn))) (gTp 2 (gCn (gNm 0) (gCn (gNm 1) gNl))) Zd0 (Yv 2 [] (Zfm (Zc (Ze 0) (Zc (Ze 1) Zn))) (gTp 2 (gCn (gNm 0) (gCn (gNm 1) gNl))) Zd0 (Zf Zaj (Ze 0) (Ze 1)))) (J8 6)))))
  fNx)
  (Z1 (Zad (tO (tV (Zf gEq (Ze 4) (fC (.int 1)))) (tV (Zf gEq (Ze 4) (fC (.int 3)))))
  (Z1 (wE (Zf Zcb (Zt Zw (Zc (Ze 3) (Zc (fC (.int 41)) Zn))) (Ze 2)) (Yw 8))
  (Z1 (wE (Zf Zcb (Zt Zw (Zc (Ze 3) (Zc (fC (.int 42)) Zn))) (Ze 2)) (Yw 9))
  (Z1 (wE (Yi gIx (Zdn (Zc (fC (.int 1)) (Zc (Zf Zcp (fC (.int 2)) (Ze 4)) (Zc (Zf Zps (fC (.int 10)) (fC (.int 21))) Zn)))) (Zf Zcb (Zt Zw (Zc (Ze 3) (Zc (fC (.int 43)) Zn))) (fC (.int 3)))) (Yw 10))
  (Zad (tV (Zf gNe (Ze 8) (Ze 9)))
  (Z1 (Zg5 6 (Zaf Z4m (Zc (fC (.int 0)) (Zc (Zf Zaj (Yi gIx (Yi gIx (Zkb 6) (Ze 8)) (Ze 9)) (Zf Zcp (Zf gSb (fC (.int 2)) (Ze 4)) (Ze 10))) Zn))) (Ze 8) (Ze 9))
  (Zg5 6 (Zth (Yi gIx (Yi gIx (Zkb 6) (Ze 8)) (Ze 9))) (Ze 9) (Ze 8)))
  fNx))))
  fNx)
  (Zb5 6)))))))
noncomputable def W6:FD:=Js 4 11 Zcj
noncomputable def Zcf:FS :=
 (Z1 (Zad (tV (Zf gLt (Ze 0) (fC (.int 4))))
  (wE (Zdn (Zc (Z0l (Zc (Ze 0) Zn)) Zn)) Jo)
  fNx)
  (Z1 (wE (Zdn Zn) (J8 1))
  (Z1 (Jq (iRa (Zc (Ze 0) Zn)) (gNm 2)
  (Jq (iRa (Zc (Ze 2) Zn)) (gNm 3)
  (Jq (iRa (Zc (Ze 3) Zn)) (gNm 4)
  (Zcw 1 (Yv 1 [4,3,2] (iRa (Zc (Ze 4) Zn)) (gNm 0) Zd0 (Zdn (Zc (Ze 0) (Zc (Ze 1) (Zc (Ze 2) (Zc (Ze 3) Zn))))))))))
  (Zb5 1))))
noncomputable def Zab:FD:=Js 1 5 Zcf
noncomputable def Zdt:FS :=
 (Z1 (wE (Zaf Z20 (Zc (Ze 0) Zn)) (Yw 2))
  (Z1 (wE (Ze 1) (Yw 3))
  (Z1 (Zip (tV (Zf gNe (Ze 3) (fC (.int 0)))) (Z1 (wE (Zf Zcb (Ze 2) (Ze 3)) (Yw 4))
  (Z1 (wE (Ze 3) (Yw 2))
  (wE (Ze 4) (Yw 3)))))
  (wE (Zf6 (Zc (Zf Jp (Ze 0) (Ze 2)) (Zc (Zf Jp (Ze 1) (Ze 2)) Zn))) Jo))))
noncomputable def W2:FD:=Js 2 5 Zdt
noncomputable def Zcm:FS :=
 (wE (Yv 1 [1] (Zei (Ze 0)) (gNm 0) Zd0 (Yv 1 [1] (Zei (Ze 0)) (gNm 0) Zd0 (Zt W2 (Zc (Ze 0) (Zc (Ze 1) Zn))))) Jo)
noncomputable def Zac:FD:=Js 2 2 Zcm
noncomputable def Zdd:FS :=
 (wE (Zl1 (λi j=>decide (i≤j)) (λi j=>decide (i<j)) (fC (.int 0)) (Ze 1) (Zaf Za3 (Zc (Ze 0) Zn))) Jo)
noncomputable def Zan:FD:=Js 2 2 Zdd
noncomputable def Zdr:FS :=
 (Z1 (Jq (Zei (Ze 1)) (gNm 2)
  (Zad (tNo (tD (Zt Zan (Zc (Ze 0) (Zc (Ze 2) Zn)))))
  (wE (fC (.bool false)) Jo)
  fNx))
  (wE (Zue (Zf gGt (Zaf Za3 (Zc (Ze 1) Zn)) (fC (.int 0))) (Zf gEq (Zjr (Zc (Ze 1) Zn)) (Zaf Za3 (Zc (Ze 1) Zn)))) Jo))
noncomputable def Zbi:FD:=Js 2 3 Zdr
noncomputable def Zdu:FS :=
 (Z1 (Zad (tNo (tD (Zt Zbi (Zc (Ze 0) (Zc (Ze 1) Zn)))))
  (Zl3 "NoPoint")
  fNx)
  (Z1 (wE (Zdn Zn) (J8 2))
  (Z1 (Jq (Zei (Ze 1)) (gNm 3)
  (Wm 2 (Yv 1 [0,3] (Zei (Ze 1)) (gNm 0) Zd0 (Yi gIx (Yi gIx (Ze 1) (Ze 2)) (Ze 0)))))
  (Zb5 2))))
noncomputable def Yx:FD:=Js 2 4 Zdu
noncomputable def Zc2:FS :=
 (wE (Zf gLt (Zf Zcp (Yi gIx (Ze 0) (fC (.int 0))) (Yi gIx (Ze 1) (fC (.int 1)))) (Zf Zcp (Yi gIx (Ze 1) (fC (.int 0))) (Yi gIx (Ze 0) (fC (.int 1))))) Jo)
noncomputable def Wo:FD:=Js 2 2 Zc2
noncomputable def Zfz:FS :=
 (wE (Zt Wq (Zc (Zf Zcp (Yi gIx (Ze 0) (fC (.int 0))) (Yi gIx (Ze 1) (fC (.int 0)))) (Zc (Zf Zcp (Yi gIx (Ze 0) (fC (.int 1))) (Yi gIx (Ze 1) (fC (.int 1)))) Zn))) Jo)
noncomputable def Zcy:FD:=Js 2 2 Zfz
noncomputable def Zbe:FS :=
 (Z1 (Zad (tD (Zt Wo (Zc (Ze 0) (Zc (Zf6 (Zc (fC (.int 0)) (Zc (fC (.int 1)) Zn))) Zn))))
  (Zl3 "NoNumber")
  fNx)
  (Z1 (wE (Zdn Zn) (J8 2))
  (Z1 (Jq (Zei (Ze 1)) (gNm 3)
  (Wm 2 (Yv 1 [0] (Zei (Ze 3)) (gNm 0) Zd0 (Zt Zcy (Zc (Ze 1) (Zc (Ze 0) Zn))))))
  (Zb5 2))))
noncomputable def Yu:FD:=Js 2 4 Zbe
noncomputable def Wj:FS :=
 (Z1 (wE (fBl Zox (Zc (Ze 0) Zn)) (Yw 1))
  (wE (Zf gLt (Yi gIx (Ze 1) (fC (.int 1))) (Yi gIx (Ze 1) (fC (.int 2)))) Jo))
noncomputable def Z8:FD:=Js 1 2 Wj
noncomputable def Zag:FS :=
 (Z1 (wE (Zdn (Zc (Zf6 Zn) Zn)) (Yw 2))
  (Z1 (Jq (iRa (Zc (Ze 1) Zn)) (gNm 3)
  (Z1 (wE (Zdn Zn) (J8 4))
  (Z1 (Jq (Zei (Ze 2)) (gNm 5)
  (Z1 (wE (fIf (tV (Zf gGt (Zaf Za3 (Zc (Ze 5) Zn)) (fC (.int 0)))) (Zf Zaj (Yi gIx (Ze 5) (fUn Zr8 (fC (.int 1)))) (fC (.int 1))) (fC (.int 0))) (Yw 6))
  (Zcw 4 (Yv 1 [5] (iRb (Zc (Ze 6) (Zc (Ze 0) Zn))) (gNm 0) Zd0 (Yi Zqj (Ze 1) (Zf6 (Zc (Ze 0) Zn)))))))
  (Zd5 4 (wE (Ze 4) (Yw 2))))))
  (wE (Ze 2) Jo)))
noncomputable def Wv:FD:=Js 2 7 Zag
noncomputable def Zbo:FS :=
 (wE (Zf6 (Zc (Zf Zaj (Yi gIx (Yi gIx (Ze 0) (Ze 1)) (Ze 2)) (Yi gIx (Yi gIx (Ze 0) (Ze 3)) (Ze 4))) (Zc (Zf Zaj (Yi gIx (Yi gIx (Ze 0) (Ze 1)) (Ze 3)) (Yi gIx (Yi gIx (Ze 0) (Ze 2)) (Ze 4))) (Zc (Zf Zaj (Yi gIx (Yi gIx (Ze 0) (Ze 1)) (Ze 4)) (Yi gIx (Yi gIx (Ze 0) (Ze 2)) (Ze 3))) Zn)))) Jo)
noncomputable def Z4:FD:=Js 5 5 Zbo
noncomputable def Zbm:FS :=
 (Z1 (Jq (Zei (Zt Wv (Zc (Zaf Za3 (Zc (Ze 0) Zn)) (Zc (fC (.int 4)) Zn)))) (gTp 4 (gCn (gNm 1) (gCn (gNm 2) (gCn (gNm 3) (gCn (gNm 4) gNl)))))
  (Zad (tD (Zt Z8 (Zc (Zt Z4 (Zc (Ze 0) (Zc (Ze 1) (Zc (Ze 2) (Zc (Ze 3) (Zc (Ze 4) Zn)))))) Zn)))
  (wE (Zf6 (Zc (Ze 1) (Zc (Ze 2) (Zc (Ze 3) (Zc (Ze 4) Zn))))) Jo)
  fNx))
  (wE (fC .none) Jo))
noncomputable def Jx:FD:=Js 1 5 Zbm
noncomputable def Zhb:FS :=
 (wE (Zt Wq (Zc (Zf Zaj (Zf Zcp (Yi gIx (Ze 0) (fC (.int 0))) (Yi gIx (Ze 1) (fC (.int 1)))) (Zf Zcp (Yi gIx (Ze 1) (fC (.int 0))) (Yi gIx (Ze 0) (fC (.int 1))))) (Zc (Zf Zcp (Yi gIx (Ze 0) (fC (.int 1))) (Yi gIx (Ze 1) (fC (.int 1)))) Zn))) Jo)
noncomputable def Zd1:FD:=Js 2 2 Zhb
noncomputable def Za6:FS :=
 (wE (Zt Wo (Zc (Zt Zd1 (Zc (Yi gIx (Yi gIx (Ze 0) (Ze 1)) (Ze 2)) (Zc (Yi gIx (Yi gIx (Ze 0) (Ze 2)) (Ze 3)) Zn))) (Zc (Yi gIx (Yi gIx (Ze 0) (Ze 1)) (Ze 3)) Zn))) Jo)
noncomputable def Jj:FD:=Js 4 4 Za6
noncomputable def Za8:FS :=
 (Z1 (wE (Zaf Za3 (Zc (Ze 0) Zn)) (Yw 1))
  (Z1 (Jq (iRa (Zc (Ze 1) Zn)) (gNm 2)
  (Jq (iRa (Zc (Ze 1) Zn)) (gNm 3)
  (Jq (iRa (Zc (Ze 1) Zn)) (gNm 4)
  (Zad (tD (Zt Jj (Zc (Ze 0) (Zc (Ze 2) (Zc (Ze 3) (Zc (Ze 4) Zn))))))
  (wE (Zf6 (Zc (Ze 2) (Zc (Ze 3) (Zc (Ze 4) Zn)))) Jo)
  fNx))))
  (wE (fC .none) Jo)))
noncomputable def Wi:FD:=Js 1 5 Za8
noncomputable def Zbr:FS :=
 (Z1 (wE (Zt Wi (Zc (Ze 0) Zn)) (Yw 1))
  (Z1 (Zad (tV (Zf Zkg (Ze 1) (fC .none)))
  (wE (Ze 1) Jo)
  fNx)
  (wE (Zt Jx (Zc (Zt Y7 (Zc (Zt Yg (Zc (Ze 0) Zn)) (Zc (Ze 0) Zn))) Zn)) Jo)))
noncomputable def Jw:FD:=Js 1 2 Zbr
noncomputable def Zch:FS :=
 (wE (Zf gSb (Zaf Zyh (Zc (Yi gIx (Ze 0) (fC (.int 1))) (Zc (Yi gIx (Ze 0) (fC (.int 2))) Zn))) (Yi gIx (Ze 0) (fC (.int 0)))) Jo)
noncomputable def Yn:FD:=Js 1 1 Zch
noncomputable def Zc4:FS :=
 (Z1 (wE (Zdn (Zc (Zdn Zn) Zn)) (Yw 1))
  (Z1 (Jq (iRb (Zc (fC (.int 1)) (Zc (Ze 0) Zn))) (gNm 2)
  (wE (Yi Zug (Ze 1) (Yv 1 [2] (Zei (Ze 1)) (gNm 0) Zd0 (Yi Zug (Ze 0) (Zdn (Zc (Ze 1) Zn))))) (Yw 1)))
  (wE (Yv 1 [] (Zei (fBl (Zij kdL ltI) (Zc (Ze 1) Zn))) (gNm 0) (tV (Zf gGt (Zaf Za3 (Zc (Ze 0) Zn)) (fC (.int 0)))) (Ze 0)) Jo)))
noncomputable def Y5:FD:=Js 1 3 Zc4
noncomputable def Zbq:FS :=
 (Z1 (wE (Zdn Zn) (J8 1))
  (Z1 (Jq (Zu2 (Zc (Ze 0) Zn)) (gTp 2 (gCn (gNm 2) (gCn (gNm 3) gNl)))
  (Jq (Zei (fSl (Ze 0) (oI (Ze 2)) oN)) (gNm 4)
  (Wm 1 (Zf6 (Zc (Ze 3) (Zc (Ze 4) Zn))))))
  (Zb5 1)))
noncomputable def Wu:FD:=Js 1 5 Zbq
noncomputable def Jm:FS :=
 (Z1 (wE (Yv 1 [1] (iRa (Zc (Zaf Za3 (Zc (Ze 0) Zn)) Zn)) (gNm 0) (tV (Zf (Zrr true) (Ze 0) (Ze 1))) (Ze 0)) (Yw 3))
  (Z1 (wE (Zt Wu (Zc (Ze 3) Zn)) (Yw 4))
  (Z1 (wE (Ze4 2 "tree_rule" Yn (Zc (Zt Z4 (Zc (Ze 0) (Zc (Yi gIx (Ze 1) (fC (.int 0))) (Zc (Yi gIx (Ze 1) (fC (.int 0))) (Zc (fC (.int 0)) (Zc (fC (.int 0)) Zn)))))) Zn)) (Yw 5))
  (Z1 (Jq (Zei (Zt Wu (Zc (Ze 1) Zn))) (gTp 2 (gCn (gNm 6) (gCn (gNm 7) gNl)))
  (Z1 (Jq (Zei (Ze 4)) (gTp 2 (gCn (gNm 8) (gCn (gNm 9) gNl)))
  (wE (Zaf Zyh (Zc (Ze 5) (Zc (Ze4 2 "tree_rule" Yn (Zc (Zt Z4 (Zc (Ze 0) (Zc (Ze 6) (Zc (Ze 7) (Zc (Ze 8) (Zc (Ze 9) Zn)))))) Zn)) Zn))) (Yw 5)))
  (Zad (tV (Zf gLe (Ze 5) (fC (.int 0))))
  (wE (fC (.int 0)) Jo)
  fNx)))
  (wE (Ze 5) Jo)))))
noncomputable def Yc:FD:=Js 3 10 Jm
noncomputable def Zba:FS :=
 (Z1 (wE (Zt Yg (Zc (Ze 0) Zn)) (Yw 2))
  (Z1 (wE (Zt Y7 (Zc (Ze 2) (Zc (Ze 0) Zn))) (Yw 3))
  (Z1 (wE (Zdn Zn) (J8 4))
  (Z1 (Jq (Zei (Zt Y5 (Zc (Zaf Za3 (Zc (Ze 0) Zn)) Zn))) (gNm 5)
  (Z1 (wE (Zt Yc (Zc (Ze 3) (Zc (Ze 5) (Zc (Ze 1) Zn)))) (Yw 6))
  (Zad (tV (Zf gGt (Ze 6) (fC (.int 0))))
  (Wm 4 (Zf6 (Zc (Ze 5) (Zc (Zt Jh (Zc (Ze 6) (Zc (Zf Zcp (fC (.int 2)) (Ze 2)) Zn))) Zn))))
  fNx)))
  (Zb5 4)))))
noncomputable def Jk:FD:=Js 2 7 Zba
noncomputable def Zcl:FS :=
 (Z1 (wE (Zt Jw (Zc (Ze 0) Zn)) (Yw 1))
  (Z1 (Zad (tV (Zf Zkg (Ze 1) (fC .none)))
  (wE (Zf6 (Zc (fC (.str "bars")) (Zc (Ze 1) Zn))) Jo)
  fNx)
  (wE (Zf6 (Zc (fC (.str "tree")) (Zc (Zt Jk (Zc (Ze 0) (Zc (fC (fnD "tree_rule")) Zn))) Zn))) Jo)))
noncomputable def Zo:FD:=Js 1 2 Zcl
noncomputable def Zih:FS :=
 (Z1 (wE (Zt Ji (Zc (Zt Yj (Zc (Ze 0) (Zc (fC (.int 0)) Zn))) (Zc (fC (.int 1)) (Zc (fC (.int 5)) (Zc (fC (.int 6)) Zn))))) (Yw 1))
  (Z1 (wE (Zt Yj (Zc (Ze 0) (Zc (fC (.int 1)) Zn))) (Yw 2))
  (Z1 (wE (Zt Wt (Zc (Ze 2) Zn)) (Yw 3))
  (Z1 (wE (Zt Zac (Zc (Zt W6 (Zc (Ze 0) (Zc (fC (.int 3)) (Zc (Ze 1) (Zc (Ze 2) Zn))))) (Zc (Ze 3) Zn))) (Yw 4))
  (Z1 (wE (Zt Zo (Zc (Ze 4) Zn)) (Z4v (gTp 2 (gCn (gNm 5) (gCn (gNm 6) gNl)))))
  (Z1 (wE (Yv 1 [4] (Zei (Zt Zab (Zc (Ze 1) Zn))) (gNm 0) Zd0 (Yi gIx (Zt Zo (Zc (Zt Yx (Zc (Ze 1) (Zc (Ze 0) Zn))) Zn)) (fC (.int 0)))) (Yw 7))
  (Z1 (Zad (tO (tV (Zf (Zrr true) (Ze 5) (Zf6 (Zc (fC (.str "tree")) (Zc (fC (.str "bars")) Zn))))) (tV (Zf gNe (Zf gEq (Ze 5) (fC (.str "tree"))) (Zf gEq (Ze 7) (Zuf (fC (.str "tree")) (Zaf Za3 (Zc (Ze 7) Zn)))))))
  (wE (fC (.bool false)) Jo)
  fNx)
  (Z1 (Zad (tV (Zf gNe (Yi gIx (Zt Zo (Zc (Zt Yx (Zc (Ze 4) (Zc (Zvv (Z0l (Zc (Ze 1) Zn)) oN oN (oI (fUn Zr8 (fC (.int 1))))) Zn))) Zn)) (fC (.int 0))) (Ze 5)))
  (wE (fC (.bool false)) Jo)
  fNx)
  (Z1 (wE (Zt W2 (Zc (Zf Zaj (fC (.int 1)) (Zf Zcb (Zt Yj (Zc (Ze 0) (Zc (fC (.int 2)) Zn))) (fC (.int 1000)))) (Zc (Zf Zaj (fC (.int 1)) (Zf Zcb (Zf Jp (Zt Yj (Zc (Ze 0) (Zc (fC (.int 2)) Zn))) (fC (.int 1000))) (fC (.int 7)))) Zn))) (Yw 8))
  (Z1 (Zad (tV (Zf gEq (Ze 5) (fC (.str "bars"))))
  (wE (Zue (Zf gEq (Yi gIx (Zt Zo (Zc (Zt Yx (Zc (Ze 4) (Zc (fBl Zri (Zc (Ze 6) Zn)) Zn))) Zn)) (fC (.int 0))) (fC (.str "bars"))) (Zf gEq (Zt Zo (Zc (Zt Yu (Zc (Ze 8) (Zc (Ze 4) Zn))) Zn)) (Zf6 (Zc (Ze 5) (Zc (Ze 6) Zn))))) Jo)
  fNx)
  (Z1 (wE (Yv 2 [8] (Zei (Ze 6)) (gTp 2 (gCn (gNm 0) (gCn (gNm 1) gNl))) Zd0 (Zf6 (Zc (Ze 0) (Zc (Zt W2 (Zc (Zf Zcp (Yi gIx (Ze 1) (fC (.int 0))) (Yi gIx (Ze 2) (fC (.int 0)))) (Zc (Zf Zcp (Yi gIx (Ze 1) (fC (.int 1))) (Yi gIx (Ze 2) (fC (.int 1)))) Zn))) Zn)))) (Yw 9))
  (wE (Zt (Zr 6) (Zc (Zt Zo (Zc (Zt Yu (Zc (Ze 8) (Zc (Ze 4) Zn))) Zn)) (Zc (Zf6 (Zc (fC (.str "tree")) (Zc (Ze 9) Zn))) Zn))) Jo))))))))))))
noncomputable def Zfs:FD:=Js 1 10 Zih
end My
namespace My
open PySem L2 PySem.Spec
theorem Zil{ds:List Xa}(h:∀d∈ds,Yr d=true):Yr (.list ds)=true:=by
 rw[Yr]
 induction ds with
 | nil=>rfl
 | cons d ds ih=>rw[Zar,h d (.head _),ih λe he=>h e (.tail _ he)];rfl
theorem Zp7{p:List Int}(h:p.length<64):Zno [Zj p]=some (.nd (((Wg p).map Xk).map OT.fz)):=by
 show((Zew (p.map Xk)).bind λns=>if ns.length<64 then some (OT.nd (((Wg ns).map Xk).map OT.fz))else none)=_
 rw[Zay,Xf,if_pos h]
theorem Zul{p:List Int}{i:Int}(h0:0≤i)(h1:i<p.length):gIx (Zj p) (.int i)=some (.fz (.int (p.getD i.toNat 0))):=by
 unfold Zj
 rw[Zpi,Zoo h0 h1];rfl
noncomputable def Zky(n:Int):List Int:=(Xj n.toNat).map λi:Nat=>(i:Int)
noncomputable def Zxo(n:Nat)(f:Nat->Int):Xa:=.list ((Xj n).map λj=>.int (f j))
noncomputable def Zai(n:Nat)(r:Nat->Nat->Int):Xa:=.list ((Xj n).map λi=>Zxo n (r i))
theorem Zov{α:Type}{n i:Nat}(f:Nat->α)(h:i<n):atI ((Xj n).map f) (i:Int)=some (f i):=by
 rw[Zru,Xn,QV h];rfl
theorem Z16{n j:Nat}{f:Nat->Int}(h:j<n):gIx (Zxo n f) (.int (j:Int))=some (.fz (.int (f j))):=by
 unfold Zxo;rw[Zpi,Zov _ h];rfl
theorem Zv6{n i:Nat}{r:Nat->Nat->Int}(h:i<n):gIx (Zai n r) (.int (i:Int))=some (.fz (Zxo n (r i))):=by
 unfold Zai;rw[Zpi,Zov _ h];rfl
theorem Zk0(n:Nat)(r:Nat->Nat->Int):Za3 [Zai n r]=some (.int n):=by
 unfold Zai;rw[Zlc,Xc,Xz]
theorem Ztf{t b:Int}(hb:b≠0):((Xw t b).den:Int)∣b:=by
 rw[Rat.den_divInt,if_neg hb]
 have:(b.natAbs/b.gcd t:Nat)∣b.natAbs:=Nat.div_dvd_of_dvd (by rw[BW];exact Nat.gcd_dvd_left ..)
 exact Int.ofNat_dvd_left.mpr this
theorem Zpe{a m k:Int}(hk:0<k)(hm:0<m):Xw (k*a) (m*k)=Xw a m:=by
 rw[Int.mul_comm k a]
 exact Rat.divInt_mul_right (by omega)
noncomputable def pn(p:List Int)(i:Nat):Nat:=(p.getD i 0).toNat
noncomputable def InR(n:Nat)(p:List Int):Prop:=p.length=n∧∀i,i<n->0≤p.getD i 0∧p.getD i 0<n
theorem InR.at{n:Nat}{p:List Int}(h:InR n p){i:Nat}(hi:i<n):gIx (Zj p) (.int (i:Int))=some (.fz (.int (pn p i:Nat)))∧pn p i<n:=by
 obtain⟨h1,h2⟩:=h
 obtain⟨a,b⟩:=h2 i hi
 rw[Zul (by omega) (by omega),QH]
 unfold pn
 rw[Bv a]
 exact⟨rfl,by omega⟩
theorem Ziz{n x y i j:Nat}{S:Nat->Nat->Int}{δ:Zi}(hx:x<n)(hy:y<n)(h0:δ[0]? =some (some (.fz (Zai n S))))(h1:δ[i]? =some (some (.fz (.int x))))(h2:δ[j]? =some (some (.fz (.int y)))):EvV (Yi gIx (Yi gIx (Ze 0) (Ze i)) (Ze j)) δ (.int (S x y)):=W7 (W7 (Za h0) (Za h1) (Zv6 hx)) (Za h2) (Z16 hy)
noncomputable def Za5(n:Nat)(R:Nat->Nat->Int)(b:Int):List (List Rat):=(Xj n).map λi=>(Xj n).map λj=>Xw (R i j) b
theorem Zy7(T:List (List Rat)):Za3 [tbD T]=some (.int T.length):=by
 unfold tbD
 rw[Zlc,Xc]
theorem Zoa(n:Nat)(R:Nat->Nat->Int)(b:Int):(Za5 n R b).length=n:=by unfold Za5;simp
theorem Zfb{n:Nat}{t b:Int}(hb:0<b)(hB:Bt n b)(hn:n≤9000:=by decide):Told W2 [.int t,.int b] (frD (Xw t b)):=by
 obtain⟨z',e⟩:=Zjd (f1:=λx y z=>[some (.fz (.int t)),some (.fz (.int b)),some (.fz (.int x)),some (.fz (.int y)),z]) (f2:=λx y z=>[]) (t:=tV (Zf gNe (Ze 3) (fC (.int 0)))) (u:=Z1 (wE (Zf Zcb (Ze 2) (Ze 3)) (Yw 4)) (Z1 (wE (Ze 3) (Yw 2)) (wE (Ze 4) (Yw 3)))) (λx y z=>Za4 (Zq7 Za Zz rfl)) (λx y z hy=>⟨_,Yl (Zv (Wa Za Za hy)) (Yl (Zv Za) (Zv Za))⟩) (b.toNat+1) (t.natAbs:Int) b none (by omega) (by omega) (by omega)
 have eg:(JH (t.natAbs:Int) b:Int)=shr t b:=by
  unfold shr
  rw[if_neg (by omega),BW,BW,Uj]
 obtain⟨e1,e2⟩:=Z6j (t:=t) (b:=b) (by omega) hB hn _ eg
 exact Zx rfl<|Zy (Zv (Zax (Zb Za Zg) (Zrh t)))<|Zy (Zv Za)<|Zy (Zl9 _ e (by intro z;cases z)) (Yd (J6 (Zb (Zq Za Za e1) (Zb (Zq Za Za e2) Zg)) (show 2≤1000 by decide)))
theorem Ybz:Zps (.int 10) (.int 20)=some (.int 100000000000000000000):=rfl
theorem Yd5:Zps (.int 10) (.int 15)=some (.int 1000000000000000):=rfl
theorem btc{n:Nat}{m:Int}(h1:decide (-(2^n)<m)=true)(h2:decide (m<2^n)=true):Bt n m:=Bt.of_lt (of_decide_eq_true h1) (of_decide_eq_true h2)
noncomputable def Zbs(r:List Int):OT:=.nd (r.map λx=>.fz (.int x))
noncomputable def Dr(n:Nat)(base:Int)(L:List (List Int)):Prop:=L.length=n∧∀r∈L,r.length=n∧∀x∈r,0≤x∧x<base
theorem Dr.put{n:Nat}{base v:Int}{L:List (List Int)}(h:Dr n base L)(h0:0≤v)(h1:v<base)(a b:Nat):Dr n base (L.set a ((L.getD a []).set b v)):=by
 refine⟨by rw[Bo];exact h.1,λr hr=>?_⟩
 rcases List.mem_or_eq_of_mem_set hr with hr|rfl
 ·exact h.2 r hr
 ·by_cases c:a<L.length
  ·have m:L.getD a []∈L:=by rw[Xe,Xi c];exact QQ c
   obtain⟨h3,h4⟩:=h.2 _ m
   refine⟨by rw[Bo];exact h3,λx hx=>?_⟩
   rcases List.mem_or_eq_of_mem_set hx with hx|rfl
   ·exact h4 x hx
   ·exact⟨h0,h1⟩
  ·rw[Ux (by omega)]at hr
   exact h.2 _ hr
theorem Zgy{i:Nat}{e j j2:FE}{δ:Zi}{d:Int}{L:List (List Int)}{a b:Nat}(he:EvV e δ (.int d))(hi:δ[i]? =some (some (.nd (L.map Zbs))))(hj:EvV j δ (.int a))(ha:a<L.length)(hk:EvV j2 δ (.int b))(hb:b<(L.getD a []).length) :
  Zg5 i e j j2 δ= .nx (δ.set i (some (.nd ((L.set a ((L.getD a []).set b d)).map Zbs)))):=by
 have e1:(L.map Zbs)[a]? =some (.nd ((L.getD a []).map λx=>.fz (.int x))):=by
  rw[Xn,Xi ha,Xe,Xi ha];rfl
 obtain⟨_,e2,d2⟩:=he
 obtain⟨_,e3,d3⟩:=hj
 obtain⟨_,e4,d4⟩:=hk
 unfold Zg5
 rw[Zeu,e2,Ws,hi]
 dsimp only
 rw[Zeu,e3,Ws,d3]
 dsimp only
 rw[Zo1 (by rw[Xc];exact ha)]
 dsimp only
 rw[e1]
 dsimp only
 rw[Zeu,e4,Ws,d4]
 dsimp only
 rw[Zo1 (by rw[Xc];exact hb)]
 dsimp only
 rw[d2]
 refine congrArg RS.nx (congrArg (δ.set i) (congrArg some (congrArg OT.nd ?_)))
 rw[List.map_set]
 refine congrArg _ ?_
 show _=OT.nd _
 rw[List.map_set]
noncomputable def fnL(L:List (List Int))(i j:Nat):Int:=(L.getD i []).getD j 0
theorem Zho{L:List (List Int)}{a b:Nat}{v:Int}(ha:a<L.length)(hb:b<(L.getD a []).length)(x y:Nat):fnL (L.set a ((L.getD a []).set b v)) x y=if x=a∧y=b then v else fnL L x y:=by
 unfold fnL
 rw[Xe (l:=L.set a _),List.getElem?_set]
 by_cases c:a=x
 ·subst c
  rw[if_pos rfl,if_pos ha]
  show(((L.getD a []).set b v).getD y 0)=_
  rw[Xe,List.getElem?_set]
  by_cases e:b=y
  ·subst e
   rw[if_pos rfl,if_pos hb,if_pos ⟨rfl,rfl⟩];rfl
  ·rw[if_neg e,if_neg λz=>e z.2.symm,←Xe]
 ·rw[if_neg c,if_neg λz=>c z.1.symm,←Xe]
noncomputable def Sy(n:Nat)(L:List (List Int)):Prop:=∀i j,i<n->j<n->fnL L i j=fnL L j i∧fnL L i i=0
noncomputable def Z6x(p:List Int)(lo hi:Option Int):List Int:=(p.drop (HT.sIx p.length 0 lo)).take (HT.sIx p.length p.length hi-HT.sIx p.length 0 lo)
theorem Zu7(p:List Int)(lo hi:Option Int):cutD (p.map Xk) lo hi=(Z6x p lo hi).map Xk:=by
 unfold cutD Z6x
 rw[Xc,List.map_take,List.map_drop]
theorem Zr2{p:List Int}{k:Nat}(h:k≤p.length):Z6x p (some (k:Int)) none=p.drop k:=by
 unfold Z6x
 rw[HT.sIx_none,HT.sIx_nat,Nat.min_eq_left h,List.take_of_length_le (by rw[Bf];omega)]
theorem Zwt(e:FE)(lo hi st:FO)(δ:Zi):Zvv e lo hi st δ=(e δ).bind λp=>(lo p.2).bind λq=>(hi q.2).bind λr=>(st r.2).bind λt=>(stepOf p.1.data q.1 r.1 t.1).bind λo=>some (o,t.2):=rfl
noncomputable def Pm(n:Nat)(p:List Int):Prop:=p.Perm (Zky n)
theorem Zp4{n:Nat}{x:Int}:x∈Zky n↔0≤x∧x<n:=by
 unfold Zky
 rw[QH,XQ]
 constructor
 ·rintro⟨i,hi,rfl⟩
  have:=Xm.mp hi
  omega
 ·rintro⟨h0,h1⟩
  exact⟨x.toNat,Xm.mpr (by omega),by omega⟩
theorem Zpw(n:Nat):(Zky n).length=n:=by unfold Zky;simp
theorem Pm.len{n:Nat}{p:List Int}(h:Pm n p):p.length=n:=by rw[h.length_eq,Zpw]
theorem getD_mem{p:List Int}{i:Nat}(h:i<p.length):p.getD i 0∈p:=by
 rw[Xe,Xi h];exact QQ h
theorem Yar{e:FE}{δ:Zi}{r p:List Int}{lo hi:FO}{l h:Option Int}(he:EvV e δ (Zj r))(hl:EvO lo δ l)(hh:EvO hi δ h)(hp:Z6x r l h=p):EvV (fSl e lo hi) δ (Zj p):=hp▸(Z89 (ds:=r.map Xk) he hl hh).cast (by rw[Zu7];rfl)
theorem Z43{a b:FE}{δ:Zi}{p q:List Int}(ha:EvV a δ (Zj p))(hb:EvV b δ (Zj q))(h:p.length≤1000)(k:q.length≤1000):EvV (Yi Zug a b) δ (Zj (p ++ q)):=(Zob (ds:=p.map Xk) (es:=q.map Xk) ha hb (by rw[Xc,Xc];omega)).cast (by rw[←Qh];rfl)
theorem Z5f{e:FE}{δ:Zi}{x:Int}(h:EvV e δ (.int x)):EvV (Zdn (Zc e Zn)) δ (Zj [x]):=Zce (Zb h Zg) (show 1≤1000 by decide)
theorem Zhc{α β:Type}(f:α->β):∀(l:List α) (j:Nat),(l.map f).eraseIdx j=(l.eraseIdx j).map f
 | [],_=>rfl
 | _ :: _,0=>rfl
 | a :: l,j+1=>by
  show f a :: (l.map f).eraseIdx j=f a :: (l.eraseIdx j).map f
  rw[Zhc f l j]
theorem Zkq{e:FE}{δ:Zi}{i:Nat}{ts rs:List OT}{ds:List Xa}(h:e δ=some (.nd rs,δ))(hd:OT.datas rs=ds)(hi:δ[i]? =some (some (.nd ts)))(hl:ts.length+ds.length≤1000000):Zcw i e δ= .nx (δ.set i (some (.nd (ts ++ ds.map OT.fz)))):=by
 unfold Zcw
 rw[hi]
 dsimp only
 rw[Zeu,h,Ws,hi]
 dsimp only
 have lr:rs.length=ds.length:=by rw[←hd,Ze0]
 rw[if_pos (by rw[Qg,lr];omega),hd]
theorem Zmu{α:Type}{caps:List Nat}{it:FI}{me:FE}{cs:Zi}{δ:Zi}(xs:List α)(mk f:α->Xa)(hi:EvI it δ (xs.map mk))(hz:xs.length≤1000000)(hb:blk 1 caps δ=none :: cs)(h:∀x∈xs,EvV me (some (.fz (mk x)) :: cs) (f x)):∃rs,Yv 1 caps it (gNm 0) Zd0 me δ=some (.nd rs,δ)∧OT.datas rs=xs.map f:=by
 obtain⟨t,e1,e2⟩:=Zb9 xs mk f hi hz hb h
 cases t with
 | fz d=>
  unfold Yv at e1
  unfold EvI at hi
  rw[hi,Xf]at e1
  split at e1
  ·obtain⟨z,h1,h2⟩:=bs e1
   cases h2
  ·cases e1
 | tp ts=>rw[OT.data_tp]at e2;cases e2
 | dc _ _ _=>rw[OT.data_dc]at e2;cases e2
 | nd rs=>
  rw[OT.data_nd,←datas_map]at e2
  injection e2 with e2
  exact⟨rs,e1,e2⟩
theorem Zgq(neg:Bool)(x:Int)(p:List Int):Zrr neg (.int x) (Zj p)=some (.bool (if neg then !decide (x∈p)else decide (x∈p))):=by
 have e:memS (.int x) (p.map Xk)=decide (x∈p):=by
  unfold memS
  rw[List.any_map]
  rw[Bool.eq_iff_iff,List.any_eq_true,decide_eq_true_eq]
  constructor
  ·rintro⟨y,hy,h⟩
   have:(y==x)=true:=h
   rw[←eq_of_beq this];exact hy
  ·intro h
   exact⟨x,h,(show(x==x)=true from beq_self_eq_true x)⟩
 have s:(p.map Xk).all scD=true:=by
  rw[Q5]
  intro d hd
  obtain⟨y,_,rfl⟩:=XQ.mp hd
  rfl
 show(if(scD (.int x)&&(p.map Xk).all scD)=true then some (PyData.bool (if neg then !memS (.int x) (p.map Xk)else memS (.int x) (p.map Xk)))else none)=_
 rw[s,e];rfl
theorem Zod(x y:Bool):gNe (.bool x) (.bool y)=some (.bool (x !=y)):=by
 cases x<;>cases y<;>rfl
noncomputable def sd(p:List Int)(q:Nat×Nat):List Int:=(p.drop (q.1+1)).take (q.2-q.1)
theorem Pm.at{n:Nat}{p:List Int}(h:Pm n p){i:Nat}(hi:i<n):∃u,u<n∧p.getD u 0=(i:Int):=by
 have m:(i:Int)∈p:=h.mem_iff.mpr (Zp4.mpr ⟨by omega,by omega⟩)
 obtain⟨u,hu⟩:=Bp m
 exact⟨u,by rw[←h.len];exact(Xu.mp hu).1,by rw[Xe,hu];rfl⟩
theorem Zwj{T m:Int}(hm:0<m):(Xw T m).num*(m.fdiv ((Xw T m).den:Int))=T∧m.fmod ((Xw T m).den:Int)=0:=by
 have hd:((Xw T m).den:Int)∣m:=Ztf (by omega)
 have hp:=Jb (Xw T m)
 refine⟨?_,by rw[Zej hp];exact Int.emod_eq_zero_of_dvd hd⟩
 rw[Wk hp]
 have e:=Zyy hd
 have nz:(m:Rat)≠0:=by
  intro z
  have:m=0:=by exact_mod_cast z
  omega
 have:(Xw T m)*(m:Rat)=(T:Rat):=by
  rw[Qx]
  exact Ug nz
 rw[this]at e
 exact_mod_cast e
theorem list_range{α β:Type}(p:List α)(d:α)(f:α->β):p.map f=(Xj p.length).map λi=>f (p.getD i d):=by
 refine List.ext_getElem? λi=>?_
 rw[Xn,Xn]
 by_cases c:i<p.length
 ·rw[QV c,Xi c]
  simp[Xe,Xi c]
 ·rw[QZ (by omega),QZ (by simp;omega)];rfl
theorem Z09{n:Nat}{base:Int}{L:List (List Int)}(h:Dr n base L):Qk ((L.map Zbs).map OT.data)=Zai n (fnL L)∧∀i j,i<n->j<n->0≤fnL L i j∧fnL L i j<base:=by
 refine⟨?_,λi j hi hj=>?_⟩
 ·unfold Zai
  refine congrArg Qk ?_
  rw[XJ,list_range L [],h.1]
  refine XH λi hi=>?_
  have hi:i<n:=by simpa using hi
  have hr:(L.getD i []).length=n:=by
   refine(h.2 _ ?_).1
   rw[Xe,Xi (by rw[h.1];exact hi)]
   exact QQ _
  show(OT.nd _).data=Zxo n _
  rw[OT.data_nd]
  unfold Zxo
  refine congrArg Qk ?_
  rw[XJ,list_range (L.getD i []) 0,hr]
  rfl
 ·have m1:L.getD i []∈L:=by
   rw[Xe,Xi (by rw[h.1];exact hi)]
   exact QQ _
  obtain⟨h1,h2⟩:=h.2 _ m1
  exact h2 _ (getD_mem (by omega))
theorem Z48{e:FE}{δ δ':Zi}{d:Xa}{g:FG}(h:EvV e δ d)(hg:g d δ=some δ'):wE e (Z4v g) δ= .nx δ':=by
 obtain⟨t,e1,e2⟩:=h
 rw[Zeu,e1,Ws]
 show(match g t.data δ with|some δ'=>RS.nx δ'|none=>.bad)=_
 rw[e2,hg]
theorem ix3{x y z:Xa}{v:Int}(h0:0≤v)(h1:v<3):∃d,gIx (.list [x,y,z]) (.int v)=some (.fz d)∧(d=x∨d=y∨d=z):=by
 obtain⟨n,rfl⟩:∃n:Nat,v=n:=⟨v.toNat,by omega⟩
 match n with
 | 0=>exact⟨x,rfl,.inl rfl⟩
 | 1=>exact⟨y,rfl,.inr (.inl rfl)⟩
 | 2=>exact⟨z,rfl,.inr (.inr rfl)⟩
 | n+3=>exact absurd h1 (by omega)
theorem ix4{x y z w:Xa}{v:Int}(h0:0≤v)(h1:v<4):∃d,gIx (.list [x,y,z,w]) (.int v)=some (.fz d)∧(d=x∨d=y∨d=z∨d=w):=by
 obtain⟨n,rfl⟩:∃n:Nat,v=n:=⟨v.toNat,by omega⟩
 match n with
 | 0=>exact⟨x,rfl,.inl rfl⟩
 | 1=>exact⟨y,rfl,.inr (.inl rfl)⟩
 | 2=>exact⟨z,rfl,.inr (.inr (.inl rfl))⟩
 | 3=>exact⟨w,rfl,.inr (.inr (.inr rfl))⟩
 | n+4=>exact absurd h1 (by omega)
noncomputable def B20:Int:=100000000000000000000
noncomputable def wtB(cnt:FE):FS:=(Z1 (wE (Yi gIx (Zdn (Zc (fC (.int 3)) (Zc (fC (.int 12)) (Zc (Zf Zps (fC (.int 10)) (fC (.int 20))) Zn)))) (Zf Zcb (Ze 3) (fC (.int 3)))) (Yw 4))
  (Z1 (wE (Zdn Zn) (J8 5))
  (Z1 (Jq (iRa (Zc cnt Zn)) (gNm 6)
  (Z1 (wE (Zt Zw (Zc (Ze 3) (Zc (Zf Zaj (fC (.int 50)) (Ze 6)) Zn))) (Yw 7))
  (Z1 (Zad (tV (Zf gLt (Zf Zaj (Ze 1) (Ze 6)) (Zaf Za3 (Zc (Ze 0) Zn))))
  (wE (Yi gIx (Ze 0) (Zf Zaj (Ze 1) (Ze 6))) (Yw 7))
  fNx)
  (Wm 5 (Zf Zcb (Ze 7) (Ze 4))))))
  (Zb5 5))))
theorem Z9w(ns:List Int)(st:Nat)(x c:Int){cnt:FE}{m:Nat}(hm:m≤1000)(hc:∀{δ:Zi},δ[2]? =some (some (.fz (.int x)))->EvV cnt δ (.int m)):∃vs:List Int,Told (Js 4 8 (wtB cnt)) [Zj ns,.int st,.int x,.int c] (Zj vs)∧vs.length=m∧∀v∈vs,0≤v∧v<B20:=by
 obtain⟨d,e,h⟩:=ix3 (x:=.int 3) (y:=.int 12) (z:=.int B20) (v:=c.fmod 3) (Ju (by decide)) (Jy (by decide))
 obtain⟨b,rfl,b0,b1⟩:∃b:Int,d= .int b∧0<b∧b≤B20:=by
  unfold B20 at h⊢
  rcases h with h|h|h<;>exact⟨_,h,by decide,by decide⟩
 have key:∃d,Told (Js 4 8 (wtB cnt)) [Zj ns,.int st,.int x,.int c] d∧∃vs:List Int,d=Zj vs∧vs.length=m∧∀v∈vs,0≤v∧v<B20:=by
  refine Zka rfl<|Wl (Zv (W7 (Zce (Zb Zz (Zb Zz (Zb (Zq Zz Zz Ybz) Zg))) (show 3≤1000 by decide)) (Wa Za Zz (by decide)) e))<|Wl Zf5<|Zii (ds:=Zcg 0 m) (λi δ=>∃(vs:List Int) (z6 z7:Option OT),δ=[some (.fz (Zj ns)),some (.fz (.int st)),some (.fz (.int x)),some (.fz (.int c)),some (.fz (.int b)),some (.nd (vs.map λv=>.fz (.int v))),z6,z7]∧vs.length=i∧∀v∈vs,0≤v∧v<B20) (Zg3 (Zb (hc rfl) Zg) (by omega)) ⟨[],none,none,rfl,rfl,λ_ h=>nomatch h⟩ (λi d δ hd q=>?_) λδ' q=>?_
  ·obtain⟨vs,z6,z7,rfl,hl,hv⟩:=q
   obtain⟨hi,rfl⟩:=J1 hd
   rw[Bc]
   obtain⟨v,ev⟩:=Zeh c (50+(i:Int))
   obtain⟨w,e3⟩:∃w,Zad (tV (Zf gLt (Zf Zaj (Ze 1) (Ze 6)) (Zaf Za3 (Zc (Ze 0) Zn)))) (wE (Yi gIx (Ze 0) (Zf Zaj (Ze 1) (Ze 6))) (Yw 7)) fNx [some (.fz (Zj ns)),some (.fz (.int st)),some (.fz (.int x)),some (.fz (.int c)),some (.fz (.int b)),some (.nd (vs.map λv=>.fz (.int v))),some (.fz (.int i)),some (.fz (.int v))]= .nx [some (.fz (Zj ns)),some (.fz (.int st)),some (.fz (.int x)),some (.fz (.int c)),some (.fz (.int b)),some (.nd (vs.map λv=>.fz (.int v))),some (.fz (.int i)),some (.fz (.int w))]:=by
    by_cases q:(st:Int)+(i:Int)<ns.length
    ·exact⟨_,Jt (Za4 (Zfc (Ys Za Za) (Zal Za) (decide_eq_true q))) (Zv (W0 Za (Ys Za Za) (by omega) q))⟩
    ·exact⟨v,Z9 (Za4 (Zfc (Ys Za Za) (Zal Za) (decide_eq_false q))) rfl⟩
   refine⟨_,_,rfl,.inl (Yl (Zv (Zk (Zb Za (Zb (Ys Zz Za) Zg)) ev))<|Yl e3 (Zja (vs:=vs) (Wa Za Za (by omega)) rfl (by omega))),vs ++ [w.fmod b],_,_,rfl,by rw[XX,hl];rfl,λu hu=>?_⟩
   rcases Qt.mp hu with q|q
   ·exact hv u q
   ·rw[Xq.mp q]
    exact⟨Ju b0,Int.lt_of_lt_of_le (Jy b0) b1⟩
  ·obtain⟨vs,z6,z7,rfl,hl,hv⟩:=q
   rw[W8]at hl
   exact Z3d rfl ⟨vs,Zge vs,hl,hv⟩
 obtain⟨d,h,vs,rfl,r⟩:=key
 exact⟨vs,h,r⟩
theorem Z1v{np n:Nat}{S:FS}{xs:List Xa}{o:OT}{δ':Zi}(hl:xs.length=np)(k:S (Zfy n xs)= .rt o δ'):Js np n S xs= .ok o:=by rw[Zto hl,k,Zsz]
theorem Z01{δ:Zi}{i:Nat}{o:OT}(h:δ[i]? =some (some o)):Zb5 i δ= .rt o (δ.set i none):=by rw[Zoc,h,Zzn]
noncomputable def B25:Int:=10000000000000000000000000
noncomputable def sep(s:List Int)(x y:Nat):Bool:=decide ((x:Int)∈s) !=decide ((y:Int)∈s)
theorem Dr.len{n:Nat}{base:Int}{L:List (List Int)}(h:Dr n base L){k:Nat}(hk:k<n):(L.getD k []).length=n:=by
 refine(h.2 _ ?_).1
 rw[Xe,Xi (by rw[h.1];exact hk)]
 exact QQ _
theorem Zq5{δ:Zi}{a b:FE}{i x y:Nat}{n:Nat}{base:Int}{L:List (List Int)}(h:Dr n base L)(hi:δ[i]? =some (some (.nd (L.map Zbs))))(ha:EvV a δ (.int x))(hx:x<n)(hb:EvV b δ (.int y))(hy:y<n):EvV (Yi gIx (Yi gIx (Zkb i) a) b) δ (.int (fnL L x y)):=by
 have e1:EvV (Zkb i) δ (.list (L.map Zj)):=Zsa hi (by
  rw[OT.data_nd,XJ]
  exact congrArg Qk (XH λr _=>Zge r))
 have e2:EvV (Yi gIx (Zkb i) a) δ (Zj (L.getD x [])):=Zx5 e1 ha (Z19 (by rw[Xn,Xe,Xi (by rw[h.1];exact hx)];rfl))
 exact(W0 e2 hb (by omega) (by rw[h.len hx];omega)).cast (by rw[show(y:Int).toNat=y by omega];rfl)
noncomputable def rE(n:Nat)(A B:Xa)(L:List (List Int))(s:List Int)(w:Int)(z6 z7:Option OT):Zi:=[some (.fz (.int n)),some (.fz A),some (.fz B),some (.nd (L.map Zbs)),some (.fz (Zj s)),some (.fz (.int w)),z6,z7]
noncomputable def Zp6:FS:=Zad (tV (Zf gNe (Zf (Zrr false) (Ze 6) (Ze 4)) (Zf (Zrr false) (Ze 7) (Ze 4))))
  (Zg5 3 (Zf Zaj (Yi gIx (Yi gIx (Zkb 3) (Ze 6)) (Ze 7)) (Ze 5)) (Ze 6) (Ze 7))
  fNx
structure Up(n:Nat)(L0:List (List Int))(s:List Int)(w:Int)(P:Nat->Nat->Prop)(L:List (List Int)):Prop where
 dr:Dr n B25 L
 yes:∀x y,x<n->y<n->P x y->fnL L x y=fnL L0 x y+(if sep s x y=true then w else 0)
 no:∀x y,x<n->y<n->¬P x y->fnL L x y=fnL L0 x y
theorem Up.mono{n:Nat}{L0 L:List (List Int)}{s:List Int}{w:Int}{P Q:Nat->Nat->Prop}(h:Up n L0 s w P L)(e:∀x y,x<n->y<n->(P x y↔Q x y)):Up n L0 s w Q L:=⟨h.dr,λx y hx hy q=>h.yes x y hx hy ((e x y hx hy).mpr q),λx y hx hy q=>h.no x y hx hy λz=>q ((e x y hx hy).mp z)⟩
theorem Z2g{n:Nat}{A B:Xa}{L0 L:List (List Int)}{s:List Int}{w:Int}{P:Nat->Nat->Prop}{i j:Nat}(hi:i<n)(hj:j<n)(U:Up n L0 s w P L)(np:¬P i j)(lo:0≤fnL L0 i j)(w0:0≤w)(hb:fnL L0 i j+w<B25) :
  ∃L',Zp6 (rE n A B L s w (some (.fz (.int i))) (some (.fz (.int j))))= .nx (rE n A B L' s w (some (.fz (.int i))) (some (.fz (.int j))))∧Up n L0 s w (λx y=>P x y∨(x=i∧y=j)) L':=by
 have t:=Za4 (Zq (g:=gNe) (δ:=rE n A B L s w (some (.fz (.int i))) (some (.fz (.int j)))) (Zq (Za (i:=6) rfl) (Za (i:=4) rfl) (Zgq false (i:Int) s)) (Zq (Za (i:=7) rfl) (Za (i:=4) rfl) (Zgq false (j:Int) s)) (Zod _ _))
 have t:EvT _ _ (sep s i j):=t
 cases c:sep s i j with
 | false=>
  rw[c]at t
  refine⟨L,Z9 t rfl,U.dr,λx y hx hy q=>?_,λx y hx hy q=>U.no x y hx hy λz=>q (.inl z)⟩
  rcases q with q|⟨rfl,rfl⟩
  ·exact U.yes x y hx hy q
  ·rw[U.no x y hx hy np,c,if_neg XC,Int.add_zero]
 | true=>
  rw[c]at t
  have f:=Zho (L:=L) (a:=i) (b:=j) (v:=fnL L i j+w) (by rw[U.dr.1];exact hi) (by rw[U.dr.len hi];exact hj)
  have e:=U.no i j hi hj np
  refine⟨_,Jt t (Zgy (L:=L) (a:=i) (b:=j) (d:=fnL L i j+w) (Ys (Zq5 U.dr rfl (Za rfl) hi (Za rfl) hj) (Za rfl)) rfl (Za rfl) (by rw[U.dr.1];exact hi) (Za rfl) (by rw[U.dr.len hi];exact hj)),U.dr.put (by rw[e];omega) (by rw[e];exact hb) i j,λx y hx hy q=>?_,λx y hx hy q=>?_⟩
  ·rw[f]
   by_cases z:x=i∧y=j
   ·obtain⟨rfl,rfl⟩:=z
    rw[if_pos ⟨rfl,rfl⟩,e,c,if_pos rfl]
   ·rw[if_neg z]
    exact U.yes x y hx hy (q.resolve_right z)
  ·rw[f,if_neg λz=>q (.inr z)]
   exact U.no x y hx hy λz=>q (.inl z)
theorem Zu4{n:Nat}{A B:Xa}{L0 L:List (List Int)}{s:List Int}{w:Int}{i:Nat}{z7:Option OT}(n10:n≤10)(hi:i<n)(U:Up n L0 s w (λx _=>x<i) L)(lo:∀x y,x<n->y<n->0≤fnL L0 x y)(w0:0≤w)(hb:∀x y,x<n->y<n->fnL L0 x y+w<B25) :
  ∃L' z7',Jq (iRa (Zc (Ze 0) Zn)) (gNm 7) Zp6 (rE n A B L s w (some (.fz (.int i))) z7)= .nx (rE n A B L' s w (some (.fz (.int i))) z7')∧Up n L0 s w (λx _=>x<i+1) L':=by
 obtain⟨δ',e,L',z7',rfl,U'⟩:=Zfh (S:=Zp6) (g:=gNm 7) (it:=iRa (Zc (Ze 0) Zn)) (δ:=rE n A B L s w (some (.fz (.int i))) z7) (ds:=Zcg 0 n) (λj δ=>∃L' z7',δ=rE n A B L' s w (some (.fz (.int i))) z7'∧Up n L0 s w (λx y=>x<i∨(x=i∧y<j)) L') (Zg3 (Zb (Za rfl) Zg) (by omega)) ⟨L,z7,rfl,U.mono λx y _ _=>by omega⟩ λj d δ hd q=>by
  obtain⟨L',z7',rfl,U'⟩:=q
  obtain⟨hj,rfl⟩:=J1 hd
  rw[Bc]
  obtain⟨L2,e2,U2⟩:=Z2g (A:=A) (B:=B) hi hj U' (by omega) (lo i j hi hj) w0 (hb i j hi hj)
  exact⟨_,_,rfl,.inl e2,L2,_,rfl,U2.mono λx y _ _=>by omega⟩
 rw[W8]at U'
 exact⟨L',z7',e,U'.mono λx y _ hy=>by omega⟩
theorem Zvn{n:Nat}{A B:Xa}{L0:List (List Int)}{s:List Int}{w:Int}{z6 z7:Option OT}(n10:n≤10)(D:Dr n B25 L0)(lo:∀x y,x<n->y<n->0≤fnL L0 x y)(w0:0≤w)(hb:∀x y,x<n->y<n->fnL L0 x y+w<B25) :
  ∃L' z6' z7',Jq (iRa (Zc (Ze 0) Zn)) (gNm 6) (Jq (iRa (Zc (Ze 0) Zn)) (gNm 7) Zp6) (rE n A B L0 s w z6 z7)= .nx (rE n A B L' s w z6' z7')∧Dr n B25 L'∧∀x y,x<n->y<n->fnL L' x y=fnL L0 x y+(if sep s x y=true then w else 0):=by
 obtain⟨δ',e,L',z6',z7',rfl,U'⟩:=Zfh (S:=Jq (iRa (Zc (Ze 0) Zn)) (gNm 7) Zp6) (g:=gNm 6) (it:=iRa (Zc (Ze 0) Zn)) (δ:=rE n A B L0 s w z6 z7) (ds:=Zcg 0 n) (λi δ=>∃L' z6' z7',δ=rE n A B L' s w z6' z7'∧Up n L0 s w (λx _=>x<i) L') (Zg3 (Zb (Za rfl) Zg) (by omega)) ⟨L0,z6,z7,rfl,D,λ_ _ _ _ z=>absurd z (BV _),λ_ _ _ _ _=>rfl⟩ λi d δ hd q=>by
  obtain⟨L',z6',z7',rfl,U'⟩:=q
  obtain⟨hi,rfl⟩:=J1 hd
  rw[Bc]
  obtain⟨L2,z,e2,U2⟩:=Zu4 (A:=A) (B:=B) (z7:=z7') n10 hi U' lo w0 hb
  exact⟨_,_,rfl,.inl e2,L2,_,z,rfl,U2⟩
 rw[W8]at U'
 exact⟨L',z6',z7',e,U'.dr,λx y hx hy=>U'.yes x y hx hy hx⟩
theorem Zuq(s:List Int)(x y:Nat):sep s x y=sep s y x:=by unfold sep;cases decide ((x:Int)∈s)<;>cases decide ((y:Int)∈s)<;>rfl
theorem Zuj(s:List Int)(x:Nat):sep s x x=false:=by unfold sep;cases decide ((x:Int)∈s)<;>rfl
theorem Zvj{n:Nat}:Dr n B25 ((Xj n).map λ_=>Xv n 0)∧∀x y,x<n->y<n->fnL ((Xj n).map λ_=>Xv n 0) x y=0:=by
 refine⟨⟨by rw[Xc,Xz],λr hr=>?_⟩,λi j hi hj=>?_⟩
 ·obtain⟨_,_,rfl⟩:=XQ.mp hr
  exact⟨Bh,λx hx=>by rw[Vm hx];decide⟩
 ·unfold fnL
  rw[Xe (l:=List.map _ _),Xn,QV hi]
  show(Xv n (0:Int)).getD j 0=0
  rw[Xe,Bu,if_pos hj];rfl
theorem Zzv{n:Nat}(n10:n≤10){Ls:List (List Int)}{vs:List Int}(hl:Ls.length≤60)(hv:∀v∈vs,0≤v∧v<B20):∃L,Y6 [.int n,.list (Ls.map Zj),Zj vs]= .ok (.nd (L.map Zbs))∧Dr n B25 L∧Sy n L∧∀x y,x<n->y<n->0≤fnL L x y∧fnL L x y≤60*B20:=by
 obtain⟨D0,f0⟩:=Zvj (n:=n)
 have s1:wE (Yv 1 [0] (iRa (Zc (Ze 0) Zn)) (gNm 0) Zd0 (Zuf (fC (.int 0)) (Ze 1))) (J8 3) (Zfy 8 [.int n,.list (Ls.map Zj),Zj vs])= .nx [some (.fz (.int n)),some (.fz (.list (Ls.map Zj))),some (.fz (Zj vs)),some (.nd (((Xj n).map λ_=>Xv n 0).map Zbs)),none,none,none,none]:=by
  refine(Zd9 (Zj0 (cs:=[some (.fz (.int n))]) (Xj n) (λi:Nat=>Xk (0+(i:Int))) (λ_=>Zbs (Xv n 0)) (Zg3 (Zb (Za rfl) Zg) (by omega)) (by rw[Xz,Qg];omega) rfl λx _=>?_)).trans (by rw[XJ];rfl)
  unfold Zbs
  rw[V9]
  exact Zy0 (by omega)
 obtain⟨δ',e,L,z4,z5,z6,z7,rfl,D,sy,bd⟩:=Zfh (S:=Jq (iRa (Zc (Ze 0) Zn)) (gNm 6) (Jq (iRa (Zc (Ze 0) Zn)) (gNm 7) Zp6)) (g:=gTp 2 (gCn (gNm 4) (gCn (gNm 5) gNl))) (it:=Zfm (Zc (Ze 1) (Zc (Ze 2) Zn))) (δ:=[some (.fz (.int n)),some (.fz (.list (Ls.map Zj))),some (.fz (Zj vs)),some (.nd (((Xj n).map λ_=>Xv n 0).map Zbs)),none,none,none,none]) (ds:=Zj8 (Ls.map Zj) (vs.map Xk)) (λk δ=>∃(L:List (List Int)) (z4 z5 z6 z7:Option OT),δ=[some (.fz (.int n)),some (.fz (.list (Ls.map Zj))),some (.fz (Zj vs)),some (.nd (L.map Zbs)),z4,z5,z6,z7]∧Dr n B25 L∧Sy n L∧∀x y,x<n->y<n->0≤fnL L x y∧fnL L x y≤k*B20) (Zmi (Za rfl) (Za (d:=Zj vs) rfl) rfl) ⟨_,_,_,_,_,rfl,D0,λi j hi hj=>⟨by rw[f0 i j hi hj,f0 j i hj hi],f0 i i hi hi⟩,λx y hx hy=>by rw[f0 x y hx hy];exact⟨Int.le_refl _,Int.le_of_eq (by rw[Int.natCast_zero,Int.zero_mul])⟩⟩ λk d δ hd q=>by
  obtain⟨L,z4,z5,z6,z7,rfl,D,sy,bd⟩:=q
  obtain⟨a,b,ha,hb,rfl⟩:=Zi2 hd
  rw[Xn]at ha hb
  obtain⟨s,hs,rfl⟩:=JZ.mp ha
  obtain⟨w,hw,rfl⟩:=JZ.mp hb
  have k60:k<60:=Qc (Xu.mp hs).1 hl
  obtain⟨w0,w1⟩:=hv w (Qi hw)
  have kB:(k:Int)*B20≤60*B20:=VH (by omega) (by decide)
  obtain⟨L',y6,y7,e,D',f⟩:=Zvn (A:=.list (Ls.map Zj)) (B:=Zj vs) (s:=s) (z6:=z6) (z7:=z7) n10 D (λx y hx hy=>(bd x y hx hy).1) w0 λx y hx hy=>by
   have:=(bd x y hx hy).2
   have:B25=100000*B20:=by decide
   omega
  refine⟨_,_,rfl,.inl e,L',_,_,y6,y7,rfl,D',λi j hi hj=>⟨?_,?_⟩,λx y hx hy=>?_⟩
  ·rw[f i j hi hj,f j i hj hi,Zuq,(sy i j hi hj).1]
  ·rw[f i i hi hi,Zuj,if_neg XC,(sy i i hi hi).2];rfl
  ·have:=bd x y hx hy
   rw[f x y hx hy,Int.natCast_succ,Int.add_mul,Int.one_mul]
   split<;>omega
 refine⟨L,?_,D,sy,λx y hx hy=>⟨(bd x y hx hy).1,?_⟩⟩
 ·exact Z1v rfl (Yl s1 (Yl e (Z01 (i:=3) rfl)))
 ·have kl:(Zj8 (Ls.map Zj) (vs.map Xk)).length≤60:=by
   unfold Zj8
   rw[Xc,VR,Xc]
   exact Ql (Nat.min_le_left _ _) hl
  exact Be (bd x y hx hy).2 (VH (by omega) (by decide))
theorem Yae{F:FD}{as:FA}{δ:Zi}{ds:List Xa}{o:OT}(h:EvA as δ ds)(hF:F ds= .ok o):Zt F as δ=some (o,δ):=by
 obtain⟨ts,e1,d1⟩:=h
 rw[Zoj,e1,Xf]
 dsimp only
 rw[d1,hF];rfl
theorem Z0f{e:FE}{δ:Zi}{d:Xa}(h:EvV e δ d)(hf:Zbh d=true):EvV (Zth e) δ d:=by
 obtain⟨t,e1,d1⟩:=h
 exact⟨_,by rw[Zvy,e1,Xf,d1,if_pos hf],OT.data_fz _⟩
noncomputable def B30:Int:=1000000000000000000000000000000
theorem Dr.wide{n:Nat}{a b:Int}{L:List (List Int)}(h:Dr n a L)(l:a≤b):Dr n b L:=⟨h.1,λr hr=>⟨(h.2 r hr).1,λx hx=>⟨((h.2 r hr).2 x hx).1,Int.lt_of_lt_of_le ((h.2 r hr).2 x hx).2 l⟩⟩⟩
theorem Znv(L:List (List Int)):(OT.nd (L.map Zbs)).data= .list (L.map Zj):=by
 rw[OT.data_nd,XJ]
 exact congrArg Qk (XH λr _=>Zge r)
theorem Z9o{α:Type}{g:FG}{t:FT}{me:FE}{cs:Zi}(x1 x2:α->Xa)(p:α->Bool)(f:α->OT):∀(xs:List α) (z0 z1:Option OT),(∀x∈xs,∀z0 z1,g (.tuple [x1 x,x2 x]) (z0 :: z1 :: cs)=some (some (.fz (x1 x)) :: some (.fz (x2 x)) :: cs))->(∀x∈xs,t (some (.fz (x1 x)) :: some (.fz (x2 x)) :: cs)=some (p x,some (.fz (x1 x)) :: some (.fz (x2 x)) :: cs))->(∀x∈xs,p x=true->me (some (.fz (x1 x)) :: some (.fz (x2 x)) :: cs)=some (f x,some (.fz (x1 x)) :: some (.fz (x2 x)) :: cs)) ->
  ∃z0' z1',compLoop g t me (xs.map λx=>.tuple [x1 x,x2 x]) (z0 :: z1 :: cs)=some ((xs.filter p).map f,z0' :: z1' :: cs):=by
 intro xs
 induction xs with
 | nil=>exact λz0 z1 _ _ _=>⟨z0,z1,rfl⟩
 | cons x xs ih=>
  intro z0 z1 hg ht hm
  obtain⟨y0,y1,e⟩:=ih (some (.fz (x1 x))) (some (.fz (x2 x))) (λy hy=>hg y (.tail _ hy)) (λy hy=>ht y (.tail _ hy)) λy hy=>hm y (.tail _ hy)
  refine⟨y0,y1,?_⟩
  rw[Qe,compLoop,hg x (.head _),Xf,ht x (.head _),Xf]
  dsimp only
  cases hp:p x with
  | true=>rw[if_pos rfl,hm x (.head _) hp,Xf,U4 hp,Qe];dsimp only;rw[e];rfl
  | false=>rw[if_neg XC,U5 (by rw[hp];exact XC)];exact e
theorem Zsj{α:Type}{caps:List Nat}{it:FI}{g:FG}{t:FT}{me:FE}{cs δ:Zi}(xs:List α)(x1 x2:α->Xa)(p:α->Bool)(f:α->OT)(hi:EvI it δ (xs.map λx=>.tuple [x1 x,x2 x]))(hz:xs.length≤1000000)(hb:blk 2 caps δ=none :: none :: cs)
  (hg:∀x∈xs,∀z0 z1,g (.tuple [x1 x,x2 x]) (z0 :: z1 :: cs)=some (some (.fz (x1 x)) :: some (.fz (x2 x)) :: cs)) (ht:∀x∈xs,t (some (.fz (x1 x)) :: some (.fz (x2 x)) :: cs)=some (p x,some (.fz (x1 x)) :: some (.fz (x2 x)) :: cs)) (hm:∀x∈xs,p x=true->me (some (.fz (x1 x)) :: some (.fz (x2 x)) :: cs)=some (f x,some (.fz (x1 x)) :: some (.fz (x2 x)) :: cs)) :
  Yv 2 caps it g t me δ=some (.nd ((xs.filter p).map f),δ):=by
 obtain⟨z0,z1,e⟩:=Z9o x1 x2 p f xs none none hg ht hm
 unfold EvI at hi
 unfold Yv
 rw[hi,Xf]
 dsimp only
 rw[if_pos (by rw[Qg,Xc];omega),hb,e];rfl
noncomputable def Ztw(L M:List (List Int)):List (List Int):=(L.zip M).map λx=>(x.1.zip x.2).map λq=>q.1+q.2
theorem Zo3{α β:Type}(f:α->Xa)(g:β->Xa)(r:List α)(s:List β):Zj8 (r.map f) (s.map g)=(r.zip s).map λq=>.tuple [f q.1,g q.2]:=by
 unfold Zj8
 rw[List.zip_map,XJ];rfl
theorem Znk{n:Nat}{base:Int}{L:List (List Int)}(h:Dr n base L){i j:Nat}(hi:i<n)(hj:j<n):∃r,L[i]? =some r∧r[j]? =some (fnL L i j)∧r.length=n:=by
 have l1:i<L.length:=by rw[h.1];exact hi
 have l2:=(h.2 _ (QQ l1)).1
 refine⟨L[i],Xi l1,?_,l2⟩
 unfold fnL
 rw[Xe (l:=L),Xi l1]
 show L[i][j]? =some (L[i].getD j 0)
 rw[Xe,Xi (by rw[l2];exact hj)];rfl
theorem Zms{n:Nat}{a b:Int}{L M:List (List Int)}(h:Dr n a L)(k:Dr n b M){i j:Nat}(hi:i<n)(hj:j<n):fnL (Ztw L M) i j=fnL L i j+fnL M i j:=by
 obtain⟨r,r1,r2,_⟩:=Znk h hi hj
 obtain⟨s,s1,s2,_⟩:=Znk k hi hj
 have e:(Ztw L M)[i]? =some ((r.zip s).map λq=>q.1+q.2):=by
  unfold Ztw
  rw[Xn,(Um (z:=(r,s))).mpr ⟨r1,s1⟩];rfl
 have e2:((r.zip s).map λq=>q.1+q.2)[j]? =some (fnL L i j+fnL M i j):=by
  rw[Xn,(Um (z:=(fnL L i j,fnL M i j))).mpr ⟨r2,s2⟩];rfl
 show((Ztw L M).getD i []).getD j 0=_
 rw[Xe (l:=Ztw L M),e]
 show(List.map _ _).getD j 0=_
 rw[Xe,e2];rfl
theorem Dr.sum{n:Nat}{a b:Int}{L M:List (List Int)}(h:Dr n a L)(k:Dr n b M):Dr n (a+b) (Ztw L M):=by
 refine⟨?_,λr hr=>?_⟩
 ·unfold Ztw
  rw[Xc,VR,h.1,k.1,Nat.min_self]
 ·obtain⟨⟨x,y⟩,hx,rfl⟩:=XQ.mp hr
  obtain⟨h1,h2⟩:=Vp hx
  refine⟨by rw[Xc,VR,(h.2 x h1).1,(k.2 y h2).1,Nat.min_self],λv hv=>?_⟩
  obtain⟨⟨p,q⟩,hp,rfl⟩:=XQ.mp hv
  obtain⟨g1,g2⟩:=Vp hp
  have:=(h.2 x h1).2 p g1
  have:=(k.2 y h2).2 q g2
  show 0≤p+q∧p+q<a+b
  omega
theorem Z41{n:Nat}{a b:Int}{L M:List (List Int)}(hn:n≤10)(h:Dr n a L)(k:Dr n b M){δ:Zi}{i j:Nat}(hi:δ[i]? =some (some (.fz (.list (L.map Zj)))))(hj:δ[j]? =some (some (.fz (.list (M.map Zj)))))(hb:blk 2 [] δ=[none,none]) :
  Yv 2 [] (Zfm (Zc (Ze i) (Zc (Ze j) Zn))) (gTp 2 (gCn (gNm 0) (gCn (gNm 1) gNl))) Zd0 (Yv 2 [] (Zfm (Zc (Ze 0) (Zc (Ze 1) Zn))) (gTp 2 (gCn (gNm 0) (gCn (gNm 1) gNl))) Zd0 (Zf Zaj (Ze 0) (Ze 1))) δ=some (.nd ((Ztw L M).map Zbs),δ):=by
 have g:∀x y:Xa,∀z0 z1:Option OT,gTp 2 (gCn (gNm 0) (gCn (gNm 1) gNl)) (.tuple [x,y]) [z0,z1]=some [some (.fz x),some (.fz y)]:=λ_ _ _ _=>rfl
 have lz:(L.zip M).length≤10:=by rw[VR,h.1];omega
 refine(Zsj (cs:=[]) (L.zip M) (λx=>Zj x.1) (λx=>Zj x.2) (λ_=>true) (λx=>Zbs ((x.1.zip x.2).map λq=>q.1+q.2)) ?_ (by omega) hb (λx _ z0 z1=>g _ _ _ _) (λx _=>rfl) λx hx _=>?_).trans ?_
 ·rw[←Zo3]
  exact Zmi (Za hi) (Za hj) rfl
 ·obtain⟨h1,_⟩:=Vp hx
  have lx:(x.1.zip x.2).length≤10:=by rw[VR,(h.2 _ h1).1];omega
  refine(Zsj (cs:=[]) (x.1.zip x.2) (λq=>.int q.1) (λq=>.int q.2) (λ_=>true) (λq=>.fz (.int (q.1+q.2))) ?_ (by omega) rfl (λq _ z0 z1=>g _ _ _ _) (λq _=>rfl) λq _ _=>?_).trans ?_
  ·rw[←Zo3]
   exact Zmi (Za (d:=Zj x.1) rfl) (Za (d:=Zj x.2) rfl) rfl
  ·obtain⟨t,e,d⟩:=Ys (Za (δ:=[some (.fz (.int q.1)),some (.fz (.int q.2))]) (i:=0) (d:=.int q.1) rfl) (Za (i:=1) (d:=.int q.2) rfl)
   rw[e,Zji d]
  ·rw[List.filter_eq_self.mpr λ_ _=>rfl]
   unfold Zbs
   rw[XJ];rfl
 ·rw[List.filter_eq_self.mpr λ_ _=>rfl]
  unfold Ztw
  rw[XJ];rfl
theorem Zlv{n:Nat}(hn:n≤10)(R:Nat->Nat->Int){b:Int}(hb:0<b)(bb:Bt 300 b):Told Zac [Zai n R,.int b] (tbD (Za5 n R b)):=by
 have e:tbD (Za5 n R b)= .list ((Xj n).map λi=>.list ((Xj n).map λj=>frD (Xw (R i j) b))):=by
  unfold tbD Za5
  rw[XJ]
  refine congrArg Qk (XH λi _=>?_)
  show Zmd _=_
  unfold Zmd
  rw[XJ];rfl
 rw[e]
 exact Zx rfl<|Yd<|Zb9 (cs:=[some (.fz (.int b))]) (Xj n) (λi=>Zxo n (R i)) (λi=>.list ((Xj n).map λj=>frD (Xw (R i j) b))) (W3 Za) (by rw[Xz];omega) rfl λi _=>
  Zb9 (cs:=[some (.fz (.int b))]) (Xj n) (λj=>.int (R i j)) (λj=>frD (Xw (R i j) b)) (W3 Za) (by rw[Xz];omega) rfl λj _=>Zk (Zb Za (Zb Za Zg)) (Zfb hb bb)
noncomputable def ctD(p:List Int×Rat):Xa:=.tuple [Zj p.1,frD p.2]
noncomputable def Zom(L:List (List Int×Rat)):Xa:=.list (L.map ctD)
theorem Z2c{T m:Int}(hm:0<m):(T<0->(Xw T m).num<0)∧(0≤T->0≤(Xw T m).num):=by
 have lb:=(Zwj (T:=T) hm).1
 have dp:=Jb (Xw T m)
 have f0:0≤m.fdiv ((Xw T m).den:Int):=Int.fdiv_nonneg (by omega) (by omega)
 constructor
 ·intro h
  refine Int.not_le.mp λy=>?_
  have:=Int.mul_nonneg y f0
  omega
 ·intro h
  refine Int.not_lt.mp λy=>?_
  rcases Int.lt_or_eq_of_le f0 with z|z
  ·have:=Int.mul_neg_of_neg_of_pos y z
   omega
  ·rw[←z,Int.mul_zero]at lb
   rw[←lb,Rat.zero_divInt]at y
   exact absurd y (by decide)
theorem Zmg{d:Xa}{n:Nat}(h:Sh n d)(hn:n≤64)(hp:Yr d=true):gEq d d=some (.bool true)∧gNe d d=some (.bool false):=by
 have s:=(h.shp hn).ok
 unfold gEq gNe
 rw[if_pos (by rw[s];rfl),if_pos (by rw[s];rfl),Zvl hp]
 exact⟨rfl,rfl⟩
theorem Zf7{w:Str}(h:Vq w=true):Sh 0 (.str w):=⟨by rw[JQ];exact h,Nat.le_of_eq rfl⟩
theorem Zaw(w:Str):Yr (.str w)=true:=by rw[Yr]
theorem Zgf{w:Str}(h:Vq w=true):gNe (.str w) (.str w)=some (.bool false)∧gEq (.str w) (.str w)=some (.bool true):=by
 have:=Zmg (Zf7 h) (by decide) (Zaw w)
 exact⟨this.2,this.1⟩
theorem Zxp{a b:Str}(ha:Vq a=true)(hb:Vq b=true)(h:a≠b):gNe (.str a) (.str b)=some (.bool true)∧gEq (.str a) (.str b)=some (.bool false):=by
 have s1:=((Zf7 ha).shp (by decide)).ok
 have s2:=((Zf7 hb).shp (by decide)).ok
 unfold gNe gEq
 rw[if_pos (by rw[s1,s2];rfl),if_pos (by rw[s1,s2];rfl),Z3s (Zaw a) (Zaw b) λz=>h (Xa.str.inj z)]
 exact⟨rfl,rfl⟩
theorem Zhj(k:Nat)(i:Int):Told (Zr (k+1)) [.int i,.int i] (.bool true) :=
 show Told (Js 2 4 (Wc (Zr k))) [.int i,.int i] (.bool true)from Zx rfl<|J0<|Zbz (Z7r (Zex Za) rfl)<|Yd (Zev (Zny Za rfl) (Zev (Z26 (Zex Za) rfl) (Zg1 Za Za (decide_eq_true rfl))))
theorem Zsx(k:Nat){w:Str}(h:Vq w=true):Told (Zr (k+1)) [.str w,.str w] (.bool true) :=
 show Told (Js 2 4 (Wc (Zr k))) [.str w,.str w] (.bool true)from Zx rfl<|Zy (Z9 (Z7r (Zex Za) rfl) rfl)<|J0<|Zbz (Z7r (Zex Za) rfl)<|Yd (Zev (Zny Za rfl) (Zq Za Za (Zgf h).2))
theorem Zc6{k:Nat}{x:Xa}{ds:List Xa}(hx:x= .list ds∨x= .tuple ds)(h:∀d∈ds,Told (Zr k) [d,d] (.bool true)):Told (Zr (k+1)) [x,x] (.bool true):=by
 have key:Zok "int" x=false->Zok "str" x=false->Zgp x=false->Za3 [x]=some (.int ds.length)->Z2v [x,x]=some (Zj8 ds ds)->Told (Zr (k+1)) [x,x] (.bool true):=λh1 h2 hf hl hz=>
  show Told (Js 2 4 (Wc (Zr k))) [x,x] (.bool true)from Zx rfl<|Zy (Z9 (Zh1 (Zny Za h1 hf)) rfl)<|Zy (Z9 (Zh1 (Zny Za h2 hf)) rfl)<|
   Zy (Z9 (Z35 (Za4 (Zq (Zex Za hf) (Zex Za hf) ((Zod _ _).trans (by rw[bne_self_eq_false])))) (Za4 (Zq (Zex Za hf) (Zex Za hf) ((Zod _ _).trans (by rw[bne_self_eq_false]))))) rfl)<|
   Zy (Z9 (Za4 (Zq7 (Zax (Zb Za Zg) hl) (Zax (Zb Za Zg) hl) (by rw[decide_eq_true rfl];rfl))) rfl)<|
   Zha (ds:=Zj8 ds ds) (λi δ=>∃z1 z2,δ=[some (.fz x),some (.fz x),z1,z2]) (Zsv (Zb Za (Zb Za Zg)) hz) ⟨none,none,rfl⟩ (λi d δ hd q=>by
    obtain⟨z1,z2,rfl⟩:=q
    obtain⟨a,b,ha,hb,rfl⟩:=Zi2 hd
    rw[ha]at hb
    cases hb
    exact⟨_,_,rfl,.inl (Z9 (Zrz (p:=true) (Zh1 (Zk (Zb Za (Zb Za Zg)) (h a (Qi ha))))) rfl),_,_,rfl⟩) λδ' _=>Yd Zz
 rcases hx with rfl|rfl
 ·exact key rfl rfl rfl (Zlc ds) rfl
 ·exact key rfl rfl rfl (Zxj ds) rfl
theorem Zux(k:Nat)(q:Rat):Told (Zr (k+2)) [frD q,frD q] (.bool true):=Zc6 (ds:=[.int q.num,.int (q.den:Int)]) (.inr rfl) λd m=>by
 rcases Xp.mp m with rfl|m
 ·exact Zhj k _
 ·rw[Xq.mp m];exact Zhj k _
theorem Zwa{α:Type}{caps:List Nat}{it:FI}{g:FG}{t:FT}{me:FE}{cs δ:Zi}(xs:List α)(x1 x2:α->Xa)(p:α->Bool)(f:α->Xa)(hi:EvI it δ (xs.map λx=>.tuple [x1 x,x2 x]))(hz:xs.length≤1000000)(hb:blk 2 caps δ=none :: none :: cs)
  (hg:∀x∈xs,∀z0 z1,g (.tuple [x1 x,x2 x]) (z0 :: z1 :: cs)=some (some (.fz (x1 x)) :: some (.fz (x2 x)) :: cs)) (ht:∀x∈xs,EvT t (some (.fz (x1 x)) :: some (.fz (x2 x)) :: cs) (p x)) (hm:∀x∈xs,p x=true->EvV me (some (.fz (x1 x)) :: some (.fz (x2 x)) :: cs) (f x)) :
  EvV (Yv 2 caps it g t me) δ (.list ((xs.filter p).map f)):=by
 have ch:∀x,∃o:OT,x∈xs->p x=true->me (some (.fz (x1 x)) :: some (.fz (x2 x)) :: cs)=some (o,some (.fz (x1 x)) :: some (.fz (x2 x)) :: cs)∧o.data=f x:=λx=>by
  by_cases c:x∈xs∧p x=true
  ·obtain⟨o,h⟩:=hm x c.1 c.2
   exact⟨o,λ_ _=>h⟩
  ·exact⟨.fz .none,λa b=>absurd ⟨a,b⟩ c⟩
 obtain⟨F,hF⟩:=Classical.axiomOfChoice ch
 refine⟨_,Zsj xs x1 x2 p F hi hz hb hg ht λx m q=>(hF x m q).1,?_⟩
 rw[OT.data_nd,XJ]
 exact congrArg Qk (XH λx m=>(hF x (QR.mp m).1 (QR.mp m).2).2)
theorem Zjz{a b:FE}{δ:Zi}{i j:Int}{m n:Nat}(ha:EvV a δ (.int i))(hb:EvV b δ (.int j))(h:Bt m i)(k:Bt n j)(hmn:m+n≤100000000:=by decide):EvV (Zf Zcp a b) δ (.int (i*j)):=Zq ha hb (Zdh (Zda h k hmn))
theorem Zlz{e:FE}{δ:Zi}{q:Rat}(h:EvV e δ (frD q)):EvV (Yi gIx e (fC (.int 0))) δ (.int q.num):=W7 h Zz rfl
theorem Zkl{e:FE}{δ:Zi}{q:Rat}(h:EvV e δ (frD q)):EvV (Yi gIx e (fC (.int 1))) δ (.int (q.den:Int)):=W7 h Zz rfl
theorem Zvk{q r:Rat}(hq:BQ 400 q)(hr:BQ 400 r):Told Zcy [frD q,frD r] (frD (q*r)):=by
 rw[←Zkh]
 exact Zx rfl<|Yd<|Zk (Zb (Zjz (Zlz Za) (Zlz Za) hq.1 hr.1) (Zb (Zjz (Zkl Za) (Zkl Za) hq.2 hr.2) Zg)) (Zef (n:=800) (Int.mul_ne_zero (Zmb q) (Zmb r)) (hq.2.mul hr.2))
noncomputable def rwT(n:Nat)(f:Nat->Nat->Rat)(i:Nat):Xa:=.list ((Xj n).map λj=>frD (f i j))
noncomputable def mt(n:Nat)(f:Nat->Nat->Rat):Xa:=.list ((Xj n).map (rwT n f))
theorem Zxh(n:Nat)(R:Nat->Nat->Int)(b:Int):tbD (Za5 n R b)=mt n λi j=>Xw (R i j) b:=by
 unfold tbD Za5 mt
 rw[XJ]
 refine congrArg Qk (XH λi _=>?_)
 show Zmd _=_
 unfold Zmd
 rw[XJ];rfl
theorem Zun{n:Nat}{f g:Nat->Nat->Rat}(h:∀i j,i<n->j<n->f i j=g i j):mt n f=mt n g:=by
 unfold mt rwT
 refine congrArg Qk (XH λi hi=>congrArg Qk (XH λj hj=>?_))
 rw[h i j (Xm.mp hi) (Xm.mp hj)]
theorem Zpy(f:Nat->Xa)(i:Nat):((Xj i).map λx=>OT.fz (f x)) ++ [OT.fz (f i)]=(Xj (i+1)).map λx=>OT.fz (f x):=by rw[List.range_succ,Qh];rfl
theorem Zsc{α:Type}{n i:Nat}{f:Nat->α}{d:α}(h:((Xj n).map f)[i]? =some d):i<n∧d=f i:=by
 rw[Xn]at h
 obtain⟨j,e,rfl⟩:=JZ.mp h
 obtain⟨l,e⟩:=Xu.mp e
 rw[List.getElem_range]at e
 rw[Xz]at l
 exact⟨l,by rw[e]⟩
theorem Zhy{n:Nat}(hn:n≤10){q:Rat}{f:Nat->Nat->Rat}(q0:0≤q.num)(hq:BQ 400 q)(hf:∀i j,i<n->j<n->BQ 400 (f i j)):Told Yu [frD q,mt n f] (mt n λi j=>q*f i j):=by
 have ib:Told Wo [frD q,.tuple [.int 0,.int 1]] (.bool false):=Zx rfl<|Yd<|Zfc (Zm5 (Zlz Za) (W7 (d:=.int 1) Za Zz rfl) (by decide)) (Zbf (W7 (d:=.int 0) Za Zz rfl) (Zkl Za) (by decide)) (decide_eq_false (by omega))
 refine Zx rfl<|Zy (Z9 (Zh1 (Zk (Zb Za (Zb (J6 (Zb Zz (Zb Zz Zg)) (show 2≤1000 by decide)) Zg)) ib)) rfl)<|Zy Zf5<|
  Zha (ds:=(Xj n).map (rwT n f)) (λi δ=>∃z3,δ=[some (.fz (frD q)),some (.fz (mt n f)),some (.nd ((Xj i).map λx=>OT.fz (rwT n (λi j=>q*f i j) x))),z3]) (W3 Za) ⟨none,rfl⟩ (λi d δ hd r=>?_) λδ' r=>?_
 ·obtain⟨z3,rfl⟩:=r
  obtain⟨hi,rfl⟩:=Zsc hd
  refine⟨_,_,rfl,.inl (Zgr (d:=rwT n (λi j=>q*f i j) i) ?_ rfl (by rw[Xc,Xz];omega)),some (.fz (rwT n f i)),?_⟩
  ·exact Zb9 (cs:=[some (.fz (frD q))]) (Xj n) (λj=>frD (f i j)) (λj=>frD (q*f i j)) (W3 (Za (i:=3) (d:=rwT n f i) rfl)) (by rw[Xz];omega) rfl λj hj=>Zk (Zb Za (Zb Za Zg)) (Zvk hq (hf i j hi (Xm.mp hj)))
  ·rw[Zpy];rfl
 ·obtain⟨z3,rfl⟩:=r
  rw[Xc,Xz]
  exact Z2x rfl (by rw[OT.data_nd,Ziw];rfl)
theorem Zp3(ns:List Int)(st:Nat)(m:Nat)(c:Int)(hm:m≤1000):∃vs:List Int,Told Yk [Zj ns,.int st,.int m,.int c] (Zj vs)∧vs.length=m∧∀v∈vs,0≤v∧v<B20:=Z9w ns st m c (cnt:=Ze 2) hm λh=>Za h
noncomputable def lO(L:List (List Int)):OT:=.nd ((L.map Zj).map OT.fz)
theorem Zjw(L:List (List Int)):(lO L).data= .list (L.map Zj):=by unfold lO;rw[OT.data_nd,OT.map_fz]
theorem Zrb(L:List (List Int))(x:List Int):lO (L ++ [x])= .nd ((L.map Zj).map OT.fz ++ [OT.fz (Zj x)]):=by
 unfold lO
 rw[Qh,Qh];rfl
theorem Zo7(L:List (List Int)):OT.datas ((L.map Zj).map OT.fz)=L.map Zj:=by
 have:=Zjw L
 unfold lO at this
 rw[OT.data_nd]at this
 rw[OT.datas_map]
 exact PyData.list.inj this
theorem Yad(L:List (List Int)):Zkm ((L.map Zj).map OT.fz)=true:=by
 induction L with
 | nil=>rfl
 | cons x L ih=>exact ih
theorem Zrj{δ:Zi}{i:Nat}{L:List (List Int)}(h:δ[i]? =some (some (lO L))):Z28 δ[i]? =some ((L.map Zj).map OT.fz):=by
 rw[h]
 show(if Zkm ((L.map Zj).map OT.fz)=true then some ((L.map Zj).map OT.fz)else none)=_
 rw[if_pos (Yad L)]
theorem Zxf{δ:Zi}{i:Nat}{L:List (List Int)}(h:δ[i]? =some (some (lO L))):Zoe i δ=some (lO L,δ):=by
 unfold Zoe
 rw[Zrj h,Xf,Zo7];rfl
theorem Ybc{i:Nat}{a:FE}{δ:Zi}{l:List (List Int)}{j:Nat}(hi:δ[i]? =some (some (lO l)))(ha:EvV a δ (.int j))(hj:j<l.length)(hl:l.length≤1000) :
  Z2u i a δ=some (.fz (Zj (l.getD j [])),δ.set i (some (lO (l.eraseIdx j)))):=by
 obtain⟨t,e0,d0⟩:=ha
 rw[Zji d0]at e0
 have e1:((l.map Zj).map OT.fz)[j]? =some (.fz (Zj (l.getD j []))):=by
  rw[Xn,Xn,Xe,Xi hj];rfl
 unfold lO at hi⊢
 unfold Z2u
 rw[hi]
 dsimp only
 rw[e0,Xf]
 dsimp only
 rw[hi]
 dsimp only
 rw[OT.data_fz]
 dsimp only
 rw[Zo1 (by rw[Xc,Xc];exact hj)]
 dsimp only
 rw[e1]
 dsimp only
 rw[if_pos (by rw[Xc,Xc,Qg];omega),Zhc,Zhc]
theorem popS{e:FE}{δ δ':Zi}{o:OT}{i:Nat}(h:e δ=some (o,δ')):wE e (Yw i) δ= .nx (δ'.set i (some (.fz o.data))):=by
 rw[Zeu,h,Ws,Ztz]
theorem Zv4{δ:Zi}{i:Nat}{L:List (List Int)}{x:List Int}(h:δ[i]? =some (some (lO (L ++ [x])))):EvV (Z77 i (fUn Zr8 (fC (.int 1)))) δ (Zj x):=by
 obtain⟨t,e,d⟩:=Zo2 (Zz (δ:=δ) (d:=.int 1))
 refine⟨.fz (Zj x),?_,OT.data_fz _⟩
 unfold Z77
 rw[Zrj h,Xf,e,Xf]
 dsimp only
 rw[d,Zo7,Qh]
 dsimp only
 rw[show atI (L.map Zj ++ [x].map Zj) (-1)=some (Zj x)from Zvq _ _];rfl
noncomputable def sL(l:List (List Int)):Nat:=(l.map List.length).sum
theorem Zjl:∀(l:List (List Int)) (j:Nat),j<l.length->sL (l.eraseIdx j)+(l.getD j []).length=sL l
 | [],_,h=>by simp at h
 | a :: l,0,_=>by unfold sL;rw[Qe,List.sum_cons];exact Nat.add_comm _ _
 | a :: l,j+1,h=>by
  have:=Zjl l j (by simpa using h)
  unfold sL at this⊢
  rw[Qe,List.sum_cons,←this]
  show(a.length+_)+_=_
  exact Nat.add_assoc _ _ _
theorem Z0o{it:FI}{g:FG}{S S':FS}{δ:Zi}{ds:List Xa}{Q:Xa->Prop}(I:Nat->Zi->Prop)(hi:EvI it δ ds)(h0:I 0 δ)(turn:∀(i:Nat) (d:Xa) (δ:Zi),ds[i]? =some d->I i δ->(∃δ1 δ2,g d δ=some δ1∧S δ1= .nx δ2∧I (i+1) δ2)∨∃δ1,g d δ=some δ1∧Zo4 S δ1 Q)(fin:∀δ',I ds.length δ'->Zo4 S' δ' Q):Zo4 (Z1 (Jq it g S) S') δ Q:=by
 have key:(∃δ',forLoop g S ds δ= .nx δ'∧I ds.length δ')∨∃o δ',forLoop g S ds δ= .rt o δ'∧Q o.data:=by
  clear fin hi
  induction ds generalizing δ I with
  | nil=>exact .inl ⟨δ,rfl,h0⟩
  | cons d ds ih=>
   rcases turn 0 d δ rfl h0 with⟨δ1,δ2,e1,e2,h1⟩|⟨δ1,e1,d',⟨o,δ2,e2,hd⟩,hq⟩
   ·rcases ih (δ:=δ2) (λi δ=>I (i+1) δ) h1 λi d' δ hd hi=>turn (i+1) d' δ (by simpa using hd) hi with⟨δ',e3,h3⟩|⟨o,δ',e3,h3⟩
    ·refine .inl ⟨δ',?_,h3⟩
     rw[J4,e1]
     dsimp only
     rw[e2]
     exact e3
    ·refine .inr ⟨o,δ',?_,h3⟩
     rw[J4,e1]
     dsimp only
     rw[e2]
     exact e3
   ·refine .inr ⟨o,δ2,?_,by rw[hd];exact hq⟩
    rw[J4,e1]
    dsimp only
    rw[e2]
 rcases key with⟨δ',e,h⟩|⟨o,δ',e,h⟩
 ·exact Wl (Zdc hi e) (fin δ' h)
 ·exact Znp ⟨_,⟨o,δ',Zdc hi e,rfl⟩,h⟩
noncomputable def rl(S:Nat->Nat->Int)(i j k l:Nat):Int:=min (S i k+S j l) (S i l+S j k)-(S i j+S k l)
theorem Zek{n i j k l:Nat}{S:Nat->Nat->Int}(hi:i<n)(hj:j<n)(hk:k<n)(hl:l<n):Told Z4 [Zai n S,.int i,.int j,.int k,.int l] (.tuple [.int (S i j+S k l),.int (S i k+S j l),.int (S i l+S j k)]) :=
 Zx rfl<|Yd<|J6 (Zb (Ys (Ziz hi hj rfl rfl rfl) (Ziz hk hl rfl rfl rfl)) (Zb (Ys (Ziz hi hk rfl rfl rfl) (Ziz hj hl rfl rfl rfl)) (Zb (Ys (Ziz hi hl rfl rfl rfl) (Ziz hj hk rfl rfl rfl)) Zg))) (show 3≤1000 by decide)
theorem Z21(i j:Int):(if j<i then j else i)=min i j:=by
 by_cases c:j<i
 ·rw[if_pos c,VJ (by omega)]
 ·rw[if_neg c,V3 (by omega)]
theorem Zxt{a b:FE}{δ:Zi}{i j:Int}(ha:EvV a δ (.int i))(hb:EvV b δ (.int j)):EvV (Zaf Zyh (Zc a (Zc b Zn))) δ (.int (min i j)):=Z21 i j▸Zax (Zb ha (Zb hb Zg)) (Z64 i j)
theorem Zlg(x y z:Int):Told Yn [.tuple [.int x,.int y,.int z]] (.int (min y z-x)) :=
 Zx rfl<|Yd<|Ziu (Zxt (W7 Za Zz rfl) (W7 Za Zz rfl)) (W7 Za Zz rfl)
noncomputable def Zki(p:List Int)(i:Nat):List (Int×Int):=(Xj i).flatMap λk=>(p.drop k).map λy=>(p.getD k 0,y)
noncomputable def dbl(p:List Int):List (Int×Int):=Zki p p.length
theorem Zim(p:List Int)(i:Nat):Zki p (i+1)=Zki p i ++ (p.drop i).map λy=>(p.getD i 0,y):=by
 unfold Zki;rw[List.range_succ,V2,List.flatMap_cons,List.flatMap_nil,QL]
theorem Zq8(p:List Int)(i:Nat):(Zki p i).length≤i*p.length:=by
 induction i with
 | zero=>exact Q7 _
 | succ i ih=>
  rw[Zim,XX,Xc,Bf,Nat.succ_mul]
  omega
theorem Zhd{p:List Int}{x:Int×Int}:x∈dbl p↔∃k j,k≤j∧j<p.length∧x=(p.getD k 0,p.getD j 0):=by
 unfold dbl Zki
 rw[U0]
 constructor
 ·rintro⟨k,hk,h⟩
  obtain⟨y,hy,rfl⟩:=XQ.mp h
  obtain⟨j,hj,rfl⟩:=Vl hy
  rw[Bf]at hj
  refine⟨k,k+j,by omega,by omega,?_⟩
  rw[List.getElem_drop,Xe (i:=k+j),Xi (by omega)];rfl
 ·rintro⟨k,j,h1,h2,rfl⟩
  refine⟨k,Xm.mpr (by omega),XQ.mpr ⟨_,?_,rfl⟩⟩
  have:p.getD j 0=(p.drop k).getD (j-k) 0:=by
   rw[Xe,Xe,List.getElem?_drop,show k+(j-k)=j by omega]
  rw[this]
  exact getD_mem (by rw[Bf];omega)
theorem Ziy{p:List Int}{x:Int×Int}(h:x∈dbl p):x.1∈p∧x.2∈p:=by
 obtain⟨k,j,h1,h2,rfl⟩:=Zhd.mp h
 exact⟨getD_mem (by omega),getD_mem h2⟩
theorem Zrt{p:List Int}{i:Nat}{d:Xa}(h:(p.map Xk)[i]? =some d):i<p.length∧d= .int (p.getD i 0):=by
 rw[Xn]at h
 cases e:p[i]? with
 | none=>rw[e]at h;cases h
 | some x=>
  rw[e]at h
  cases h
  exact⟨(Xu.mp e).1,by rw[Xe,e];rfl⟩
theorem Zez(p:List Int)(hl:p.length≤100):Told Wu [Zj p] (.list ((dbl p).map prD)):=by
 refine Zx rfl<|Zy Zf5<|Zha (ds:=Zju (p.map Xk)) (λi δ=>∃z1 z2 z3,δ=[some (.fz (Zj p)),some (.nd (((Zki p i).map prD).map OT.fz)),z1,z2,z3]) (Zzr Za) ⟨_,_,_,rfl⟩ (λi d δ hd q=>?_) λδ' q=>?_
 ·obtain⟨z1,z2,z3,rfl⟩:=q
  obtain⟨x,hx,rfl⟩:=Zk2 hd
  obtain⟨hi,rfl⟩:=Zrt hx
  have ln:=Zq8 p i
  have l2:i*p.length≤100*100:=Nat.mul_le_mul (by omega) hl
  refine Zn3 (ds:=(p.drop i).map Xk) (λj δ=>∃z,δ=[some (.fz (Zj p)),some (.nd (((Zki p i ++ ((p.drop i).take j).map λy=>(p.getD i 0,y)).map prD).map OT.fz)),some (.fz (.int i)),some (.fz (.int (p.getD i 0))),z]) rfl (W3 (Yar Za (Yd4 Za) Yds (Zr2 (by omega)))) ⟨z3,by rw[List.take_zero,List.map_nil,QL];rfl⟩ (λj d δ hd q=>?_) λδ' q=>?_
  ·obtain⟨z,rfl⟩:=q
   obtain⟨hj,rfl⟩:=Zrt hd
   refine⟨_,_,rfl,.inl (Zgr (J6 (Zb Za (Zb Za Zg)) (show 2≤1000 by decide)) rfl (by rw[Xc,Xc,XX,Xc,U3,Bf];omega)),some (.fz (.int ((p.drop i).getD j 0))),?_⟩
   have e:(p.drop i).take (j+1)=(p.drop i).take j ++ [(p.drop i).getD j 0]:=by
    rw[List.take_succ,Xe,Xi hj];rfl
   rw[e]
   simp only[Qh,JV]
   rfl
  ·obtain⟨z,rfl⟩:=q
   rw[Xc,UV,←Zim]
   exact⟨_,_,_,rfl⟩
 ·obtain⟨z1,z2,z3,rfl⟩:=q
  refine Z2x rfl ?_
  rw[OT.data_nd,OT.map_fz]
  unfold Zju
  rw[Xc,List.length_zipIdx,Xc];rfl
noncomputable def away(n:Nat)(p:List Int):List Int:=((Xj n).filter λi:Nat=>!decide ((i:Int)∈p)).map λi:Nat=>(i:Int)
theorem Zb8{n:Nat}{p:List Int}{x:Int}:x∈away n p↔0≤x∧x<n∧x∉p:=by
 unfold away
 rw[XQ]
 constructor
 ·rintro⟨i,hi,rfl⟩
  obtain⟨h1,h2⟩:=QR.mp hi
  have:=Xm.mp h1
  exact⟨by omega,by omega,by simpa using h2⟩
 ·rintro⟨h1,h2,h3⟩
  refine⟨x.toNat,QR.mpr ⟨Xm.mpr (by omega),?_⟩,by omega⟩
  rw[show((x.toNat:Nat):Int)=x by omega,decide_eq_false h3];rfl
theorem Zu0(n:Nat)(p:List Int):(away n p).length≤n:=by
 unfold away
 rw[Xc]
 exact Ql (Vz _ _) (Nat.le_of_eq Xz)
theorem Zzt{n:Nat}{p:List Int}{caps:List Nat}{it:FI}{δ:Zi}(hi:EvI it δ (Zcg 0 n))(hn:n≤1000)(hb:blk 1 caps δ=[none,some (.fz (Zj p))]):EvV (Yv 1 caps it (gNm 0) (tV (Zf (Zrr true) (Ze 0) (Ze 1))) (Ze 0)) δ (Zj (away n p)):=by
 refine(Zo0 (cs:=[some (.fz (Zj p))]) (Xj n) (λi:Nat=>Xk (0+(i:Int))) (λi=>!decide ((i:Int)∈p)) hi (by rw[Xz];omega) hb (λx _=>Za4 (Zq Za Za ?_)) λx _ _=>rfl).cast ?_
 ·rw[Zgq,Bc];rfl
 ·unfold away Zj
  rw[XJ]
  refine congrArg Qk (XH λi _=>?_)
  show Xk (0+(i:Int))=Xk i
  rw[Bc]
noncomputable def rlI(S:Nat->Nat->Int)(p q:Int×Int):Int:=rl S p.1.toNat p.2.toNat q.1.toNat q.2.toNat
noncomputable def Lst(S:Nat->Nat->Int)(A B:List Int)(m:Int):Prop:=(∃p∈dbl A,∃q∈dbl B,m=rlI S p q)∧∀p∈dbl A,∀q∈dbl B,m≤rlI S p q
theorem Lst.exists(S:Nat->Nat->Int){A B:List Int}{p q:Int×Int}(hp:p∈dbl A)(hq:q∈dbl B):∃m,Lst S A B m:=by
 obtain⟨vs,hv⟩:∃vs,vs=(dbl A).flatMap λp=>(dbl B).map λq=>rlI S p q:=⟨_,rfl⟩
 have mem:∀x,x∈vs↔∃p∈dbl A,∃q∈dbl B,x=rlI S p q:=λx=>by
  rw[hv,U0]
  constructor
  ·rintro⟨p,hp,h⟩
   obtain⟨q,hq,rfl⟩:=XQ.mp h
   exact⟨p,hp,q,hq,rfl⟩
  ·rintro⟨p,hp,q,hq,rfl⟩
   exact⟨p,hp,XQ.mpr ⟨q,hq,rfl⟩⟩
 have hm:=(mem _).mpr ⟨p,hp,q,hq,rfl⟩
 obtain⟨h1,h2⟩:=Ztt (ns:=vs) (List.length_pos_of_mem hm)
 exact⟨Yan vs,(mem _).mp h1,λp hp q hq=>h2 _ ((mem _).mpr ⟨p,hp,q,hq,rfl⟩)⟩
theorem Ztk{n:Nat}{S:Nat->Nat->Int}{δ:Zi}{ea eb ec ee:FE}{a b c e:Int}(h0:δ[0]? =some (some (.fz (Zai n S))))(h2:δ[2]? =some (some (.fz (fnD "tree_rule"))))(ha:EvV ea δ (.int a))(hb:EvV eb δ (.int b))(hc:EvV ec δ (.int c))(he:EvV ee δ (.int e))(ba:0≤a∧a<n)(bb:0≤b∧b<n)(bc:0≤c∧c<n)(be:0≤e∧e<n) :
  EvV (Ze4 2 "tree_rule" Yn (Zc (Zt Z4 (Zc (Ze 0) (Zc ea (Zc eb (Zc ec (Zc ee Zn)))))) Zn)) δ (.int (rlI S (a,b) (c,e))):=by
 have t:=Zek (S:=S) (n:=n) (i:=a.toNat) (j:=b.toNat) (k:=c.toNat) (l:=e.toNat) (by omega) (by omega) (by omega) (by omega)
 rw[Bv ba.1,Bv bb.1,Bv bc.1,Bv be.1]at t
 exact Zwb h2 (Zb (Zk (Zb (Za h0) (Zb ha (Zb hb (Zb hc (Zb he Zg))))) t) Zg) (Zlg _ _ _)
noncomputable def Z6a(n:Nat)(S:Nat->Nat->Int)(A B:List Int)(least:Int)(z6 z7 z8 z9:Option OT):Zi:=[some (.fz (Zai n S)),some (.fz (Zj A)),some (.fz (fnD "tree_rule")),some (.fz (Zj B)),some (.fz (.list ((dbl B).map prD))),some (.fz (.int least)),z6,z7,z8,z9]
theorem Zuv{n:Nat}{S:Nat->Nat->Int}{A:List Int}(hn:n≤100)(hl:A.length≤100)(hA:∀x∈A,1≤x∧x<n)(ne:A≠[]):∃m,Lst S A (away n A) m∧Told Yc [Zai n S,Zj A,fnD "tree_rule"] (.int (max 0 m)):=by
 have hp:0<A.length:=List.length_pos_iff.mpr ne
 have n0:0<n:=by have:=hA _ (getD_mem hp);omega
 obtain⟨B,hB⟩:∃B,B=away n A:=⟨_,rfl⟩
 have b0:(0:Int)∈B:=by rw[hB];exact Zb8.mpr ⟨by decide,by omega,λz=>absurd (hA 0 z).1 (by decide)⟩
 have inB:∀x∈B,0≤x∧x<n:=λx hx=>by rw[hB]at hx;obtain⟨h1,h2,_⟩:=Zb8.mp hx;exact⟨h1,h2⟩
 have inA:∀x∈A,0≤x∧x<n:=λx hx=>⟨Be (by decide) (hA x hx).1,(hA x hx).2⟩
 have a00:(A.getD 0 0,A.getD 0 0)∈dbl A:=Zhd.mpr ⟨0,0,Qa _,hp,rfl⟩
 have b00:((0:Int),(0:Int))∈dbl B:=by
  obtain⟨j,hj,e⟩:=Vl b0
  exact Zhd.mpr ⟨j,j,Qa _,hj,by rw[Xe,Xi hj,e];rfl⟩
 obtain⟨m,hm⟩:=Lst.exists S a00 b00
 rw[←hB]
 refine⟨m,hm,?_⟩
 have lB:B.length≤100:=by rw[hB];exact Ql (Zu0 n A) hn
 have inner:∀(p:Int×Int) (least:Int) (z8 z9:Option OT),p∈dbl A->(∃p∈dbl A,∃q∈dbl B,least=rlI S p q)->∃δ',Jq (Zei (Ze 4)) (gTp 2 (gCn (gNm 8) (gCn (gNm 9) gNl)))
   (wE (Zaf Zyh (Zc (Ze 5) (Zc (Ze4 2 "tree_rule" Yn (Zc (Zt Z4 (Zc (Ze 0) (Zc (Ze 6) (Zc (Ze 7) (Zc (Ze 8) (Zc (Ze 9) Zn)))))) Zn)) Zn))) (Yw 5))
   (Z6a n S A B least (some (.fz (.int p.1))) (some (.fz (.int p.2))) z8 z9)= .nx δ'∧
   ∃least' z8 z9,δ'=(Z6a n S A B least' (some (.fz (.int p.1))) (some (.fz (.int p.2))) z8 z9)∧(∃p∈dbl A,∃q∈dbl B,least'=rlI S p q)∧least'≤least∧∀q∈dbl B,least'≤rlI S p q:=λp least z8 z9 hp hin=>by
  obtain⟨p1,p2⟩:=Ziy hp
  obtain⟨δ',e,least',z8,z9,rfl,h1,h2,h3⟩:=Zfh (S:=wE (Zaf Zyh (Zc (Ze 5) (Zc (Ze4 2 "tree_rule" Yn (Zc (Zt Z4 (Zc (Ze 0) (Zc (Ze 6) (Zc (Ze 7) (Zc (Ze 8) (Zc (Ze 9) Zn)))))) Zn)) Zn))) (Yw 5)) (g:=gTp 2 (gCn (gNm 8) (gCn (gNm 9) gNl))) (it:=Zei (Ze 4)) (ds:=(dbl B).map prD) (δ:=(Z6a n S A B least (some (.fz (.int p.1))) (some (.fz (.int p.2))) z8 z9))
   (λi δ=>∃least' z8 z9,δ=(Z6a n S A B least' (some (.fz (.int p.1))) (some (.fz (.int p.2))) z8 z9)∧(∃p∈dbl A,∃q∈dbl B,least'=rlI S p q)∧least'≤least∧∀j q,j<i->(dbl B)[j]? =some q->least'≤rlI S p q) (W3 Za) ⟨least,z8,z9,rfl,hin,Int.le_refl _,λj q hj=>absurd hj (BV j)⟩ λi d δ hd q=>by
   obtain⟨least',z8,z9,rfl,h1,h2,h3⟩:=q
   rw[Xn]at hd
   cases e:(dbl B)[i]? with
   | none=>rw[e]at hd;cases hd
   | some q=>
    rw[e]at hd
    cases hd
    have hq:=Qi e
    obtain⟨q1,q2⟩:=Ziy hq
    refine⟨_,_,rfl,.inl (Zv (Zxt Za (Ztk rfl rfl Za Za Za Za (inA _ p1) (inA _ p2) (inB _ q1) (inB _ q2)))),min least' (rlI S p q),some (.fz (.int q.1)),some (.fz (.int q.2)),rfl,?_,Be (Int.min_le_left ..) h2,λj q' hj hq'=>?_⟩
    ·rcases Int.le_total least' (rlI S p q)with z|z
     ·rw[V3 z];exact h1
     ·rw[VJ z];exact⟨p,hp,q,hq,rfl⟩
    ·by_cases cj:j=i
     ·subst cj;rw[e]at hq';cases hq';exact Int.min_le_right ..
     ·exact Be (Int.min_le_left ..) (h3 j q' (Nat.lt_of_le_of_ne (Nat.le_of_lt_succ hj) cj) hq')
  refine⟨_,e,least',z8,z9,rfl,h1,h2,λq hq=>?_⟩
  obtain⟨j,hj⟩:=Bp hq
  exact h3 j q (by rw[Xc];exact(Xu.mp hj).1) hj
 have key:∃d,Told Yc [Zai n S,Zj A,fnD "tree_rule"] d∧d= .int (max 0 m):=by
  refine Zka rfl<|Wl (Zv (hB▸Zzt (Zg3 (Zb (Zax (Zb Za Zg) (Zk0 n S)) Zg) (Ql hn (by decide))) (Ql hn (by decide)) rfl))<|Wl (Zv (Zk (Zb Za Zg) (Zez B lB)))<|
   Wl (Zv (Ztk rfl rfl (W0 Za Zz (by decide) (by omega)) (W0 Za Zz (by decide) (by omega)) Zz Zz (inA _ (getD_mem hp)) (inA _ (getD_mem hp)) ⟨by decide,by omega⟩ ⟨by decide,by omega⟩))<|
   Z0o (ds:=(dbl A).map prD) (λi δ=>∃least z6 z7 z8 z9,δ=(Z6a n S A B least z6 z7 z8 z9)∧(∃p∈dbl A,∃q∈dbl B,least=rlI S p q)∧(∀j p,j<i->(dbl A)[j]? =some p->∀q∈dbl B,least≤rlI S p q)∧(0<i->0<least))
    (W3 (Zk (Zb Za Zg) (Zez A hl))) ⟨_,none,none,none,none,rfl,⟨_,a00,_,b00,rfl⟩,λj p hj=>absurd hj (BV j),λz=>absurd z (VM 0)⟩ (λi d δ hd q=>?_) λδ' q=>?_
  ·obtain⟨least,z6,z7,z8,z9,rfl,h1,h2,h3⟩:=q
   rw[Xn]at hd
   cases e:(dbl A)[i]? with
   | none=>rw[e]at hd;cases hd
   | some p=>
    rw[e]at hd
    cases hd
    have hp':=Qi e
    obtain⟨δ',e1,least',z8,z9,rfl,g1,g2,g3⟩:=inner p least z8 z9 hp' h1
    by_cases c:least'≤0
    ·refine .inr ⟨_,rfl,Wl e1 (Zqw (Za4 (Z3q Za Zz (decide_eq_true c))) (Zkn Zz ?_))⟩
     obtain⟨p',hp2,q',hq2,e2⟩:=g1
     have:=hm.2 p' hp2 q' hq2
     rw[←e2]at this
     rw[Int.max_eq_left (Be this c)]
    ·refine .inl ⟨_,_,rfl,Yl e1 (Z9 (Za4 (Z3q Za Zz (decide_eq_false c))) rfl),least',_,_,_,_,rfl,g1,λj p' hj hp2 q hq=>?_,λ_=>Int.lt_of_not_ge c⟩
     by_cases cj:j=i
     ·subst cj;rw[e]at hp2;cases hp2;exact g3 q hq
     ·exact Be g2 (h2 j p' (Nat.lt_of_le_of_ne (Nat.le_of_lt_succ hj) cj) hp2 q hq)
  ·obtain⟨least,z6,z7,z8,z9,rfl,h1,h2,h3⟩:=q
   rw[Xc]at h2 h3
   refine Zkn Za ?_
   have l0:=h3 (List.length_pos_of_mem a00)
   have e:least=m:=by
    refine Int.le_antisymm ?_ ?_
    ·obtain⟨⟨p,hp',q,hq,e⟩,_⟩:=hm
     rw[e]
     obtain⟨j,hj⟩:=Bp hp'
     exact h2 j p (Xu.mp hj).1 hj q hq
    ·obtain⟨p,hp',q,hq,e⟩:=h1
     rw[e]
     exact hm.2 p hp' q hq
   rw[←e,Int.max_eq_right (Int.le_of_lt l0)]
 obtain⟨d,h,rfl⟩:=key
 exact h
theorem Zzf{k x y:Int}(hk:0<k):min (k*x) (k*y)=k*min x y:=by
 rcases Int.le_total x y with h|h
 ·rw[V3 h,V3 (Bx h (by omega))]
 ·rw[VJ h,VJ (Bx h (by omega))]
theorem Zof{k x:Int}(hk:0<k):max 0 (k*x)=k*max 0 x:=by
 rcases Int.le_total 0 x with h|h
 ·rw[Int.max_eq_right h,Int.max_eq_right (Int.mul_nonneg (by omega) h)]
 ·rw[Int.max_eq_left h,Int.max_eq_left (Bk (by omega) h),Int.mul_zero]
theorem Ztb{S R:Nat->Nat->Int}{k:Int}(hk:0<k){n i j l m:Nat}(h:∀i j,i<n->j<n->k*S i j=R i j)(hi:i<n)(hj:j<n)(hl:l<n)(hm:m<n):rl R i j l m=k*rl S i j l m:=by
 unfold rl
 rw[←h i l hi hl,←h j m hj hm,←h i m hi hm,←h j l hj hl,←h i j hi hj,←h l m hl hm,←By,←By,←By,Zzf hk,←Int.mul_sub]
theorem Lst.scaled{S R:Nat->Nat->Int}{k:Int}(hk:0<k){n:Nat}{A B:List Int}(h:∀i j,i<n->j<n->k*S i j=R i j)(hA:∀x∈A,0≤x∧x<n)(hB:∀x∈B,0≤x∧x<n){m:Int}(hm:Lst S A B m):Lst R A B (k*m):=by
 have e:∀p∈dbl A,∀q∈dbl B,rlI R p q=k*rlI S p q:=λp hp q hq=>by
  obtain⟨p1,p2⟩:=Ziy hp
  obtain⟨q1,q2⟩:=Ziy hq
  have:=hA _ p1
  have:=hA _ p2
  have:=hB _ q1
  have:=hB _ q2
  exact Ztb hk h (by omega) (by omega) (by omega) (by omega)
 obtain⟨⟨p,hp,q,hq,e1⟩,h2⟩:=hm
 exact⟨⟨p,hp,q,hq,by rw[e p hp q hq,e1]⟩,λp hp q hq=>by rw[e p hp q hq];exact Bx (h2 p hp q hq) (by omega)⟩
noncomputable def tv(R:Nat->Nat->Int)(a b c e:Int):Int:=R a.toNat c.toNat+R b.toNat e.toNat-R a.toNat b.toNat-R c.toNat e.toNat
theorem Zxk{p:List Int}{x y:Int}(hx:x∈p)(hy:y∈p):(x,y)∈dbl p∨(y,x)∈dbl p:=by
 obtain⟨i,hi,rfl⟩:=Vl hx
 obtain⟨j,hj,rfl⟩:=Vl hy
 have g:∀k (h:k<p.length),p[k]=p.getD k 0:=λk h=>by rw[Xe,Xi h];rfl
 rw[g i hi,g j hj]
 rcases Nat.le_total i j with h|h
 ·exact .inl (Zhd.mpr ⟨i,j,h,hj,rfl⟩)
 ·exact .inr (Zhd.mpr ⟨j,i,h,hi,rfl⟩)
noncomputable def Zdq(n:Nat)(f:Nat->Nat->Xa):Xa:=.list ((Xj n).map λi=>.list ((Xj n).map λj=>f i j))
noncomputable def Zg8{α:Type}(I:Zi->Prop)(u:FS)(δ1:Zi)(r:Option Xa):Prop:=match r with
 | none=>∃δ2,u δ1= .nx δ2∧I δ2
 | some v=>∃o δ2,u δ1= .rt o δ2∧o.data=v
theorem Zwi{α:Type}{I:Zi->Prop}{g:FG}{u:FS}(mk:α->Xa)(f:α->Option Xa):∀(xs:List α) (δ:Zi),I δ->(∀x∈xs,∀δ,I δ->∃δ1,g (mk x) δ=some δ1∧Zg8 (α:=α) I u δ1 (f x))->Zg8 (α:=α) I (forLoop g u (xs.map mk)) δ (xs.findSome? f):=by
 intro xs
 induction xs with
 | nil=>exact λδ h _=>⟨δ,rfl,h⟩
 | cons x xs ih=>
  intro δ h t
  obtain⟨δ1,e1,r⟩:=t x (.head _) δ h
  rw[List.findSome?_cons]
  cases q:f x with
  | none=>
   rw[q]at r
   obtain⟨δ2,e2,h2⟩:=r
   have e:forLoop g u ((x :: xs).map mk) δ=forLoop g u (xs.map mk) δ2:=by
    rw[Qe,forLoop,e1]
    dsimp only
    rw[e2]
   unfold Zg8
   rw[e]
   exact ih δ2 h2 λy hy=>t y (.tail _ hy)
  | some v=>
   rw[q]at r
   obtain⟨o,δ2,e2,d⟩:=r
   refine⟨o,δ2,?_,d⟩
   rw[Qe,forLoop,e1]
   dsimp only
   rw[e2]
theorem Zi9{α β:Type}{I J:Zi->Prop}{it:FI}{g:FG}{u:FS}{δ:Zi}(mk:α->Xa)(f:α->Option Xa)(xs:List α)(hi:EvI it δ (xs.map mk))(h0:J δ)(hJ:∀δ,J δ->I δ)(t:∀x∈xs,∀δ,J δ->∃δ1,g (mk x) δ=some δ1∧Zg8 (α:=α) J u δ1 (f x)):Zg8 (α:=β) I (Jq it g u) δ (xs.findSome? f):=by
 have h:=Zwi (I:=J) (g:=g) (u:=u) mk f xs δ h0 t
 cases q:xs.findSome? f with
 | none=>
  rw[q]at h
  obtain⟨δ2,e,h2⟩:=h
  exact⟨δ2,Zdc hi e,hJ δ2 h2⟩
 | some v=>
  rw[q]at h
  obtain⟨o,δ2,e,d⟩:=h
  exact⟨o,δ2,Zdc hi e,d⟩
theorem Zkr{α:Type}{I:Zi->Prop}{t:FT}{S S':FS}{δ:Zi}{r:Option Xa}(h:EvT t δ true)(k:Zg8 (α:=α) I S δ r):Zg8 (α:=α) I (Zad t S S') δ r:=by
 cases r with
 | none=>
  obtain⟨δ2,e,h2⟩:=k
  exact⟨δ2,Jt h e,h2⟩
 | some v=>
  obtain⟨o,δ2,e,d⟩:=k
  exact⟨o,δ2,Jt h e,d⟩
theorem Zk6{α:Type}{I:Zi->Prop}{t:FT}{S:FS}{δ:Zi}(h:EvT t δ false)(k:I δ):Zg8 (α:=α) I (Zad t S fNx) δ none:=⟨δ,Z9 h rfl,k⟩
theorem Zn0{α:Type}{I:Zi->Prop}{e:FE}{δ:Zi}{v:Xa}(h:EvV e δ v):Zg8 (α:=α) I (wE e Jo) δ (some v):=by
 obtain⟨o,h1,h2⟩:=Zyg h
 exact⟨o,δ,h1,h2⟩
theorem Zl7{α:Type}{I:Zi->Prop}{S S':FS}{δ:Zi}{r:Option Xa}{v0:Xa}(h:Zg8 (α:=α) I S δ r)(k:∀δ,I δ->Zma S' δ v0):Zma (Z1 S S') δ (r.getD v0):=by
 cases r with
 | none=>
  obtain⟨δ2,e,h2⟩:=h
  exact Zy e (k δ2 h2)
 | some v=>
  obtain⟨o,δ2,e,d⟩:=h
  exact J0 ⟨o,δ2,e,d⟩
noncomputable def frG(T:Nat->Nat->Rat):Nat->Nat->Xa:=λi j=>frD (T i j)
theorem Zwe{q r:Rat}(bq:Bt 400 q.num)(dq:Bt 400 (q.den:Int))(br:Bt 400 r.num)(dr:Bt 400 (r.den:Int)):Told Zd1 [frD q,frD r] (frD (q+r)):=by
 rw[←Zon]
 exact Zx rfl<|Yd<|Zk (Zb (Ys (Zq (W7 (d:=.int q.num) Za Zz rfl) (W7 (d:=.int (r.den:Int)) Za Zz rfl) (Zdh (Zda bq dr))) (Zq (W7 (d:=.int r.num) Za Zz rfl) (W7 (d:=.int (q.den:Int)) Za Zz rfl) (Zdh (Zda br dq)))) (Zb (Zq (W7 (d:=.int (q.den:Int)) Za Zz rfl) (W7 (d:=.int (r.den:Int)) Za Zz rfl) (Zdh (Zda dq dr))) Zg)) (Zef (Int.ne_of_gt (Uz (Jb q) (Jb r))) (dq.mul dr))
theorem Zu9{q r:Rat}{m n:Nat}(bq:Bt m q.num)(dq:Bt m (q.den:Int))(br:Bt n r.num)(dr:Bt n (r.den:Int))(hmn:m+n≤100000000:=by decide):Told Wo [frD q,frD r] (.bool (decide (q<r))) :=
 Zx rfl<|Yd<|Zfc (Zq (W7 (d:=.int q.num) Za Zz rfl) (W7 (d:=.int (r.den:Int)) Za Zz rfl) (Zdh (Zda bq dr hmn))) (Zq (W7 (d:=.int r.num) Za Zz rfl) (W7 (d:=.int (q.den:Int)) Za Zz rfl) (Zdh (Zda br dq (by omega)))) (decide_eq_decide.mpr (Zq2 q r))
structure Tq(T:Nat->Nat->Rat):Prop where
 num:∀i j,Bt 400 (T i j).num
 den:∀i j,Bt 400 ((T i j).den:Int)
theorem Zur{n a b i0 i9 i10:Nat}{f:Nat->Nat->Xa}{δ:Zi}(ha:a<n)(hb:b<n)(h6:δ[i0]? =some (some (.fz (Zdq n f))))(h9:δ[i9]? =some (some (.fz (.int a))))(h10:δ[i10]? =some (some (.fz (.int b)))):EvV (Yi gIx (Yi gIx (Ze i0) (Ze i9)) (Ze i10)) δ (f a b):=by
 refine W7 (W7 (Za h6) (Za h9) (d:=.list ((Xj n).map λj=>f a j)) ?_) (Za h10) ?_
 ·unfold Zdq
  rw[Zpi,Zru,Xn,QV ha];rfl
 ·rw[Zpi,Zru,Xn,QV hb];rfl
theorem Zxb{n:Nat}{T:Nat->Nat->Rat}(h:Tq T){i j k:Nat}(hi:i<n)(hj:j<n)(hk:k<n):Told Jj [Zdq n (frG T),.int i,.int j,.int k] (.bool (decide (T i j+T j k<T i k))):=by
 have e:T i j+T j k=Xw ((T i j).num*((T j k).den:Int)+(T j k).num*((T i j).den:Int)) (((T i j).den:Int)*((T j k).den:Int)):=(Zon _ _).symm
 have dp:((T i j).den:Int)*((T j k).den:Int)≠0:=Int.ne_of_gt (Uz (Jb _) (Jb _))
 have bn:Bt 2000 (T i j+T j k).num:=by
  rw[e]
  exact Zoh dp ((((h.num i j).mul (h.den j k)).add ((h.num j k).mul (h.den i j))).mono (by decide))
 have bd:Bt 2000 ((T i j+T j k).den:Int):=by
  rw[e]
  exact Zrv dp (((h.den i j).mul (h.den j k)).mono (by decide))
 exact Zx rfl<|Yd<|Zk (Zb (Zk (Zb (Zur (i0:=0) (i9:=1) (i10:=2) hi hj rfl rfl rfl) (Zb (Zur (i0:=0) (i9:=2) (i10:=3) hj hk rfl rfl rfl) Zg)) (Zwe (h.num i j) (h.den i j) (h.num j k) (h.den j k))) (Zb (Zur (i0:=0) (i9:=1) (i10:=3) hi hk rfl rfl rfl) Zg)) (Zu9 bn bd (h.num i k) (h.den i k))
noncomputable def mkI(i:Nat):Xa:=.int (i:Int)
theorem Z71{n:Nat}{as:FA}{δ:Zi}(h:EvA as δ [.int n])(hn:n≤10):EvI (iRa as) δ ((Xj n).map mkI):=by
 have e:Zcg 0 n=(Xj n).map mkI:=by
  unfold Zcg
  exact XH λi _=>congrArg Xk (Bc _)
 exact e▸Zg3 h (by omega)
noncomputable def sc3(n:Nat)(c:Nat->Nat->Nat->Bool)(v:Nat->Nat->Nat->Xa):Option Xa:=(Xj n).findSome? λi=>(Xj n).findSome? λj=>(Xj n).findSome? λk=>if c i j k=true then some (v i j k)else none
theorem Zw2{n:Nat}{c:Nat->Nat->Nat->Bool}{v:Nat->Nat->Nat->Xa}:(∀i j k,i<n->j<n->k<n->c i j k=false)∧sc3 n c v=none∨(∃i j k,i<n∧j<n∧k<n∧c i j k=true)∧∃i j k,sc3 n c v=some (v i j k):=by
 cases q:sc3 n c v with
 | none=>
  refine .inl ⟨λi j k hi hj hk=>?_,rfl⟩
  unfold sc3 at q
  have:=Vg.mp q i (Xm.mpr hi)
  have:=Vg.mp this j (Xm.mpr hj)
  have:=Vg.mp this k (Xm.mpr hk)
  cases e:c i j k with
  | false=>rfl
  | true=>rw[if_pos e]at this;cases this
 | some d=>
  unfold sc3 at q
  obtain⟨i,hi,q⟩:=QB q
  obtain⟨j,hj,q⟩:=QB q
  obtain⟨k,hk,q⟩:=QB q
  by_cases e:c i j k=true
  ·rw[if_pos e]at q
   cases q
   exact .inr ⟨⟨i,j,k,Xm.mp hi,Xm.mp hj,Xm.mp hk,e⟩,i,j,k,rfl⟩
  ·rw[if_neg e]at q;cases q
theorem Z49{n:Nat}(hn:n≤10){t:FT}{S S':FS}{d0 v0:Xa}(c:Nat->Nat->Nat->Bool)(v:Nat->Nat->Nat->Xa)(ht:∀i j k,i<n->j<n->k<n->EvT t [some (.fz d0),some (.fz (.int n)),some (.fz (mkI i)),some (.fz (mkI j)),some (.fz (mkI k))] (c i j k))(hS:∀i j k,Zg8 (α:=Nat) (λ_=>False) S [some (.fz d0),some (.fz (.int n)),some (.fz (mkI i)),some (.fz (mkI j)),some (.fz (mkI k))] (some (v i j k)))
  (hS':∀z2 z3 z4,Zma S' [some (.fz d0),some (.fz (.int n)),z2,z3,z4] v0):Zma (Z1 (Jq (iRa (Zc (Ze 1) Zn)) (gNm 2) (Jq (iRa (Zc (Ze 1) Zn)) (gNm 3) (Jq (iRa (Zc (Ze 1) Zn)) (gNm 4) (Zad t S fNx)))) S') [some (.fz d0),some (.fz (.int n)),none,none,none] ((sc3 n c v).getD v0):=by
 refine Zl7 (α:=Nat) (I:=λδ=>∃z2 z3 z4,δ=[some (.fz d0),some (.fz (.int n)),z2,z3,z4]) ?_ λδ q=>?_
 ·refine Zi9 (α:=Nat) (J:=λδ=>∃z2 z3 z4,δ=[some (.fz d0),some (.fz (.int n)),z2,z3,z4]) mkI _ (Xj n) (Z71 (Zb Za Zg) hn) ⟨none,none,none,rfl⟩ (λ_ h=>h) λi hi δ q=>?_
  obtain⟨z2,z3,z4,rfl⟩:=q
  refine⟨_,rfl,Zi9 (α:=Nat) (J:=λδ=>∃z3 z4,δ=[some (.fz d0),some (.fz (.int n)),some (.fz (mkI i)),z3,z4]) mkI _ (Xj n) (Z71 (Zb Za Zg) hn) ⟨z3,z4,rfl⟩ (λδ h=>by obtain⟨z3,z4,e⟩:=h;exact⟨_,z3,z4,e⟩) λj hj δ q=>?_⟩
  obtain⟨z3,z4,rfl⟩:=q
  refine⟨_,rfl,Zi9 (α:=Nat) (J:=λδ=>∃z4,δ=[some (.fz d0),some (.fz (.int n)),some (.fz (mkI i)),some (.fz (mkI j)),z4]) mkI _ (Xj n) (Z71 (Zb Za Zg) hn) ⟨z4,rfl⟩ (λδ h=>by obtain⟨z4,e⟩:=h;exact⟨_,z4,e⟩) λk hk δ q=>?_⟩
  obtain⟨z4,rfl⟩:=q
  refine⟨_,rfl,?_⟩
  have:=ht i j k (Xm.mp hi) (Xm.mp hj) (Xm.mp hk)
  cases e:c i j k with
  | true=>
   rw[e]at this
   rw[if_pos rfl]
   exact Zkr this (hS i j k)
  | false=>
   rw[e]at this
   rw[if_neg XC]
   exact Zk6 this ⟨_,rfl⟩
 ·obtain⟨z2,z3,z4,rfl⟩:=q
  exact hS' z2 z3 z4
theorem Z5m{n:Nat}{f:Nat->Nat->Xa}{δ:Zi}(h:δ[0]? =some (some (.fz (Zdq n f)))):EvV (Zaf Za3 (Zc (Ze 0) Zn)) δ (.int n):=by
 have:=Zf0 (δ:=δ) (e:=Ze 0) (ds:=(Xj n).map λi=>.list ((Xj n).map λj=>f i j)) (Za h)
 rwa[Xc,Xz]at this
noncomputable def shR(T:Nat->Nat->Rat)(i j k:Nat):Bool:=decide (T i j+T j k<T i k)
noncomputable def tpI(i j k:Nat):Xa:=.tuple [.int i,.int j,.int k]
theorem Zh3{n:Nat}(hn:n≤10){T:Nat->Nat->Rat}(h:Tq T):Told Wi [Zdq n (frG T)] ((sc3 n (shR T) tpI).getD .none) :=
 Zx rfl<|Zy (Zv (Z5m rfl))<|Z49 hn (shR T) tpI (λi j k hi hj hk=>Zh1 (Zk (Zb Za (Zb Za (Zb Za (Zb Za Zg)))) (Zxb h hi hj hk))) (λi j k=>Zn0 (J6 (Zb Za (Zb Za (Zb Za Zg))) (show 3≤1000 by decide))) λ_ _ _=>Yd Zz
noncomputable def shI(R:Nat->Nat->Int)(i j k:Nat):Bool:=decide (R i j+R j k<R i k)
theorem Zmy(n:Nat)(R:Nat->Nat->Int)(b:Int):tbD (Za5 n R b)=Zdq n (frG λi j=>Xw (R i j) b):=by
 unfold tbD Za5 Zdq
 rw[XJ]
 refine congrArg Qk (XH λi _=>?_)
 show Zmd _=_
 unfold Zmd
 rw[XJ];rfl
theorem Zy8{x y z b:Int}(hb:0<b)(h:x≤y+z):Xw x b≤Xw y b+Xw z b:=by
 have e:Xw y b+Xw z b=Xw (y+z) b:=by
  rw[Qx,Qx,Qx,Vh,Vh,Vh,Rat.intCast_add,Rat.add_mul]
 rw[e]
 refine(Rat.le_iff_sub_nonneg _ _).mpr ?_
 have e2:Xw (y+z) b-Xw x b=Xw (y+z-x) b:=by
  rw[Qx,Qx,Qx,Vh,Vh,Vh,Rat.intCast_sub,Rat.sub_eq_add_neg,Rat.sub_eq_add_neg,Rat.add_mul,Rat.neg_mul]
 rw[e2]
 exact Ztm (by omega) hb
theorem Z1c{y z b:Int}:Xw y b+Xw z b=Xw (y+z) b:=by
 rw[Qx,Qx,Qx,Vh,Vh,Vh,Rat.intCast_add,Rat.add_mul]
theorem Z4i{x y z b:Int}(hb:0<b):Xw y b+Xw z b<Xw x b↔y+z<x:=by
 constructor
 ·intro h
  refine Int.not_le.mp λz=>?_
  exact absurd h (Rat.not_lt.mpr (Zy8 hb z))
 ·intro h
  refine Rat.not_le.mp λw=>?_
  rw[Z1c]at w
  have nb:((b:Int):Rat)≠0:=by
   intro e
   have:b=0:=by exact_mod_cast e
   omega
  have b0:(0:Rat)≤((b:Int):Rat):=by exact_mod_cast Int.le_of_lt hb
  have w2:=Rat.mul_le_mul_of_nonneg_right w b0
  rw[Qx,Qx,Ug nb,Ug nb]at w2
  have:x≤y+z:=by exact_mod_cast w2
  omega
theorem Z94{R:Nat->Nat->Int}{b:Int}(hb:0<b):(shR λi j=>Xw (R i j) b)=shI R:=by
 funext i j k
 exact decide_eq_decide.mpr (Z4i hb)
theorem Z85{R:Nat->Nat->Int}{b:Int}(hb:0<b)(bb:Bt 300 b)(bR:∀i j,Bt 300 (R i j)):Tq λi j=>Xw (R i j) b where
 num:=λi j=>Zoh (by omega) ((bR i j).mono (by decide))
 den:=λi j=>Zrv (by omega) (bb.mono (by decide))
noncomputable def Z5x(L:List (List Int×Rat)):OT:=.nd ((L.map ctD).map OT.fz)
theorem Zrw(L:List (List Int×Rat)):(Z5x L).data=Zom L:=by unfold Z5x Zom;rw[OT.data_nd,OT.map_fz]
theorem Z0q{t:FT}{a b:FE}{δ:Zi}{d:Xa}(h:EvT t δ true)(k:EvV a δ d):EvV (fIf t a b) δ d:=by
 obtain⟨o,e1,e2⟩:=k
 exact⟨o,by unfold fIf;unfold EvT at h;rw[h];exact e1,e2⟩
theorem Z11{t:FT}{a b:FE}{δ:Zi}{d:Xa}(h:EvT t δ false)(k:EvV b δ d):EvV (fIf t a b) δ d:=by
 obtain⟨o,e1,e2⟩:=k
 exact⟨o,by unfold fIf;unfold EvT at h;rw[h];exact e1,e2⟩
noncomputable def sdL:Nat->List (List Int)
 | 0=>[[]]
 | k+1=>sdL k ++ (sdL k).map λs=>s ++ [(k:Int)+1]
theorem Zzw(k:Nat):(sdL k).length=2^k:=by
 induction k with
 | zero=>rfl
 | succ k ih=>rw[sdL,XX,Xc,ih,Nat.pow_succ];omega
theorem Zn5(k:Nat):∀s∈sdL k,s.length≤k∧s.Pairwise (·<·)∧∀x∈s,1≤x∧x≤k:=by
 induction k with
 | zero=>intro s hs;rw[Xq.mp hs];exact⟨Qa _,.nil,λ_ m=>nomatch m⟩
 | succ k ih=>
  intro s hs
  rcases Qt.mp hs with hs|hs
  ·obtain⟨h1,h2,h3⟩:=ih s hs
   exact⟨by omega,h2,λx hx=>by have:=h3 x hx;omega⟩
  ·obtain⟨r,hr,rfl⟩:=XQ.mp hs
   obtain⟨h1,h2,h3⟩:=ih r hr
   refine⟨by rw[XX];exact U7 h1,List.pairwise_append.mpr ⟨h2,UW ..,λx hx y hy=>?_⟩,λx hx=>?_⟩
   ·rw[Xq.mp hy]
    have:=h3 x hx
    omega
   ·rcases Qt.mp hx with z|z
    ·have:=h3 x z;omega
    ·rw[Xq.mp z];omega
theorem members{α β:Type}{f:α->β}{L:List α}:∀{l:List β},(∀d∈l,∃p∈L,d=f p)->∃L1:List α,l=L1.map f∧(∀p∈L1,p∈L)∧L1.length=l.length
 | [],_=>⟨[],rfl,(λ_ m=>nomatch m),rfl⟩
 | d :: l,h=>by
  obtain⟨p,hp,rfl⟩:=h d (.head _)
  obtain⟨L1,e,h1,h2⟩:=members λd m=>h d (.tail _ m)
  exact⟨p :: L1,by rw[e];rfl,λq hq=>(Xp.mp hq).elim (λe=>e▸hp) (h1 q),congrArg Nat.succ h2⟩
theorem sorted_ints(L:List (List Int))(h:L.length<64):∃L1:List (List Int),Zij kdL ltI [.list (L.map Zj)]=some (.nd ((L1.map Zj).map OT.fz))∧(∀p∈L1,p∈L)∧L1.length=L.length:=by
 have pm:=Zhf Ui (lk kdL ltI (L.map Zj)) (L.map Zj)
 obtain⟨L1,e,h1,h2⟩:=members (f:=Zj) (L:=L) (l:=sLay Ui (lk kdL ltI (L.map Zj)) (L.map Zj)) λd m=>by
  obtain⟨p,hp,rfl⟩:=XQ.mp (pm.mem_iff.mp m)
  exact⟨p,hp,rfl⟩
 refine⟨L1,?_,h1,by rw[h2,pm.length_eq,Xc]⟩
 show(if(decide ((L.map Zj).length<64)&&(L.map Zj).all λd=>(kdL d).isSome)=true then some (OT.nd ((sLay Ui (lk kdL ltI (L.map Zj)) (L.map Zj)).map OT.fz))else none)=_
 rw[if_pos,e]
 rw[XN,decide_eq_true_eq,Xc,Q5]
 refine⟨h,λd m=>?_⟩
 obtain⟨p,_,rfl⟩:=XQ.mp m
 show(Zew (p.map Xk)).isSome=true
 rw[Zay];rfl
noncomputable def tpN(l:List Nat):Xa:=.tuple (l.map λx:Nat=>.int (x:Int))
noncomputable def lst(p:List Nat):Nat:=if p.length>0 then p.getD (p.length-1) 0+1 else 0
noncomputable def ext(n:Nat)(p:List Nat):List (List Nat):=(Xj (n-lst p)).map λj=>p ++ [lst p+j]
noncomputable def rs(n:Nat):Nat->List (List Nat)
 | 0=>[[]]
 | m+1=>(rs n m).flatMap (ext n)
theorem Z5y{n k:Nat}(hn:n≤10)(hk:k≤4):(rs n k).length≤300:=by
 have:∀m:Fin 11,∀k:Fin 5,(rs m k).length≤300:=by decide +kernel
 exact this ⟨n,by omega⟩ ⟨k,by omega⟩
theorem Zpf{n:Nat}:∀{k:Nat} {p:List Nat},p∈rs n k->p.length=k∧p.Pairwise (·<·)∧(∀x∈p,x<n)∧∀x∈p,x<lst p
 | 0,p,h=>by
  rw[Xq.mp h]
  exact⟨rfl,.nil,(λ_ m=>nomatch m),λ_ m=>nomatch m⟩
 | k+1,p,h=>by
  obtain⟨q,hq,hp⟩:=U0.mp h
  obtain⟨h1,h2,h3,h4⟩:=Zpf hq
  obtain⟨j,hj,rfl⟩:=XQ.mp hp
  have hj:=Xm.mp hj
  have hl:lst (q ++ [lst q+j])=lst q+j+1:=by
   show(if(q ++ [lst q+j]).length>0 then(q ++ [lst q+j]).getD ((q ++ [lst q+j]).length-1) 0+1 else 0)=_
   rw[if_pos (by rw[XX];exact Nat.succ_pos _),XX,Vy,Nat.add_sub_cancel,Xe,JF (Qa _),Nat.sub_self];rfl
  refine⟨by rw[XX,h1];rfl,?_,λx hx=>?_,λx hx=>?_⟩
  ·rw[List.pairwise_append]
   exact⟨h2,UW _ _,λx hx y hy=>by rw[Xq.mp hy];have:=h4 x hx;omega⟩
  ·rcases Qt.mp hx with hx|hx
   ·exact h3 x hx
   ·rw[Xq.mp hx];omega
  ·rw[hl]
   rcases Qt.mp hx with hx|hx
   ·have:=h4 x hx;omega
   ·rw[Xq.mp hx];omega
theorem Z4x{n:Nat}{p:List Nat}(h:∀x∈p,x<n):lst p≤n:=by
 unfold lst
 by_cases c:p.length>0
 ·rw[if_pos c,Xe,Xi (by omega)]
  exact h _ (QQ (by omega))
 ·rw[if_neg c];exact Q7 _
theorem Zjv{n k x:Nat}{p:List Nat}(h:p∈rs n k)(h1:lst p≤x)(h2:x<n):p ++ [x]∈rs n (k+1) :=
 U0.mpr ⟨p,h,XQ.mpr ⟨x-lst p,Xm.mpr (by omega),by rw[show lst p+(x-lst p)=x by omega]⟩⟩
theorem rs3{n x y z:Nat}(h1:x<y)(h2:y<z)(h3:z<n):[x,y,z]∈rs n 3 :=
 Zjv (p:=[x,y]) (Zjv (p:=[x]) (Zjv (p:=[]) (Xq.mpr rfl) (Q7 _) (by omega)) (show x+1≤y from h1) (by omega)) (show y+1≤z from h2) h3
theorem rs4{n x y z w:Nat}(h1:x<y)(h2:y<z)(h3:z<w)(h4:w<n):[x,y,z,w]∈rs n 4:=Zjv (p:=[x,y,z]) (rs3 h1 h2 (by omega)) (show z+1≤w from h3) h4
theorem Zw0{p:List Nat}{δ:Zi}(h:δ[5]? =some (some (.fz (tpN p)))):EvV (fIf (tV (Zf gGt (Zaf Za3 (Zc (Ze 5) Zn)) (fC (.int 0)))) (Zf Zaj (Yi gIx (Ze 5) (fUn Zr8 (fC (.int 1)))) (fC (.int 1))) (fC (.int 0))) δ (.int (lst p:Nat)):=by
 have ln:Za3 [tpN p]=some (.int (p.length:Nat)):=by unfold tpN;rw[Zxj,Xc]
 unfold lst
 by_cases c:p.length>0
 ·rw[if_pos c]
  refine Z0q (Za4 (Zpb (Zax (Zb (Za h) Zg) ln) Zz (decide_eq_true (by omega)))) ((Ys (W7 (d:=.int (p.getD (p.length-1) 0:Nat)) (Za h) (Zo2 Zz) ?_) Zz).cast (by rw[Int.natCast_add];rfl))
  unfold tpN
  rw[Z8s]
  have:atI (p.map λx:Nat=>Xk (x:Int)) (-1)=some (.int (p.getD (p.length-1) 0:Nat)):=by
   unfold atI ixN
   rw[Xc,if_neg (by decide),if_pos (by omega),Xf,Xn,show(-1+(p.length:Int)).toNat=p.length-1 by omega,Xe,Xi (by omega)];rfl
  rw[this];rfl
 ·rw[if_neg c]
  exact Z11 (Za4 (Zpb (Zax (Zb (Za h) Zg) ln) Zz (decide_eq_false (by omega)))) Zz
theorem Ztg{n m:Nat}(hn:n≤10)(hm:m≤4):Told Wv [.int n,.int m] (.list ((rs n m).map tpN)):=by
 refine Zx rfl<|Zy (Zv (d:=.list [tpN []]) (Zce (Zb (J6 Zg (show 0≤1000 by decide)) Zg) (show 1≤1000 by decide))) ?_
 refine Zha (ds:=Zcg 0 m) (λk δ=>∃z3 z4 z5 z6,δ=[some (.fz (.int n)),some (.fz (.int m)),some (.fz (.list ((rs n k).map tpN))),z3,z4,z5,z6]) (Zg3 (Zb Za Zg) (by omega)) ⟨none,none,none,none,rfl⟩ (λk d δ hd q=>?_) λδ' q=>by obtain⟨z3,z4,z5,z6,rfl⟩:=q;rw[W8];exact Yd Za
 obtain⟨z3,z4,z5,z6,rfl⟩:=q
 obtain⟨hk,rfl⟩:=J1 hd
 rw[Bc]
 have L1:=Z5y (k:=k+1) hn (by omega)
 obtain⟨δ',e,z5',z6',rfl⟩:=Zfh (it:=Zei (Ze 2)) (g:=gNm 5) (S:=Z1 (wE (fIf (tV (Zf gGt (Zaf Za3 (Zc (Ze 5) Zn)) (fC (.int 0)))) (Zf Zaj (Yi gIx (Ze 5) (fUn Zr8 (fC (.int 1)))) (fC (.int 1))) (fC (.int 0))) (Yw 6))
  (Zcw 4 (Yv 1 [5] (iRb (Zc (Ze 6) (Zc (Ze 0) Zn))) (gNm 0) Zd0 (Yi Zqj (Ze 1) (Zf6 (Zc (Ze 0) Zn)))))) (δ:=[some (.fz (.int n)),some (.fz (.int m)),some (.fz (.list ((rs n k).map tpN))),some (.fz (.int k)),some (.nd []),z5,z6]) (ds:=(rs n k).map tpN) (λt δ=>∃z5 z6,δ=[some (.fz (.int n)),some (.fz (.int m)),some (.fz (.list ((rs n k).map tpN))),some (.fz (.int k)),some (.nd (((((rs n k).take t).flatMap (ext n)).map tpN).map OT.fz)),z5,z6]) (W3 Za) ⟨z5,z6,rfl⟩ (λt d δ hd q=>by
   obtain⟨z5,z6,rfl⟩:=q
   rw[Xn]at hd
   obtain⟨p,hp,rfl⟩:=JZ.mp hd
   obtain⟨pl,_,px,_⟩:=Zpf (Qi hp)
   have tk:(rs n k).take (t+1)=(rs n k).take t ++ [p]:=by rw[List.take_succ,hp];rfl
   have ls:(((rs n k).take (t+1)).flatMap (ext n)).length≤300:=by
    have:((rs n k).take (t+1)).flatMap (ext n) ++ ((rs n k).drop (t+1)).flatMap (ext n)=rs n (k+1):=by rw[←V2,List.take_append_drop];rfl
    have:=congrArg List.length this
    rw[XX]at this
    omega
   rw[tk,V2,XX]at ls
   have le:ext n p=[p].flatMap (ext n):=by rw[List.flatMap_cons,List.flatMap_nil,QL]
   have lx:(ext n p).length=n-lst p:=by unfold ext;rw[Xc,Xz]
   rw[←le,lx]at ls
   obtain⟨rr,e1,e2⟩:=Zmu (δ:=[some (.fz (.int n)),some (.fz (.int m)),some (.fz (.list ((rs n k).map tpN))),some (.fz (.int k)),some (.nd (((((rs n k).take t).flatMap (ext n)).map tpN).map OT.fz)),some (.fz (tpN p)),some (.fz (.int (lst p:Nat)))]) (caps:=[5]) (cs:=[some (.fz (tpN p))]) (me:=Yi Zqj (Ze 1) (Zf6 (Zc (Ze 0) Zn))) (it:=iRb (Zc (Ze 6) (Zc (Ze 0) Zn))) (Xj (n-lst p)) (λj:Nat=>Xk ((lst p:Nat)+(j:Int))) (λj=>tpN (p ++ [lst p+j])) (by
     exact Zzp (m:=lst p) (Zb Za (Zb Za Zg)) (Ql (Z4x px) (by omega)) (by omega)) (by rw[Xz];omega) rfl λj _=>(Zsr (o:=.fz (tpN (p ++ [lst p+j]))) Za (J6 (Zb Za Zg) (show 1≤1000 by decide)) (by
     unfold tpN
     show(if(p.map λx:Nat=>Xk (x:Int)).length+[Xk ((lst p:Nat)+(j:Int))].length≤Xr then some (OT.fz (.tuple ((p.map λx:Nat=>Xk (x:Int)) ++ [Xk ((lst p:Nat)+(j:Int))])))else none)=_
     rw[if_pos (by rw[Qg,Xc,Vy];omega),Qh,List.map_singleton,Int.natCast_add]) (OT.data_fz _))
   refine⟨_,_,rfl,.inl (Yl (Zv (Zw0 rfl)) (Zkq e1 e2 rfl (by rw[Xc,Xc,Xc,Xz];omega))),some (.fz (tpN p)),some (.fz (.int (lst p:Nat))),?_⟩
   rw[tk,V2,←le,Qh,Qh]
   have em:(Xj (n-lst p)).map (λj=>tpN (p ++ [lst p+j]))=(ext n p).map tpN:=by unfold ext;rw[XJ];rfl
   rw[em];rfl)
 rw[Xc,UV]at e
 refine⟨_,_,rfl,.inl (Yl Zf5 (Yl e (Zke rfl (Zv Za)))),some (.fz (.int k)),some (.fz (.list ((rs n (k+1)).map tpN))),z5',z6',?_⟩
 rw[OT.data_nd,OT.map_fz];rfl
structure Zxz(n:Nat)(s:List Int):Prop where
 ne:s≠[]
 up:s.Pairwise (·<·)
 pt:∀x∈s,1≤x∧x<n
theorem Z34:∀{s t:List Int},s.Pairwise (·<·)->t.Pairwise (·<·)->(∀x,x∈s↔x∈t)->s=t:=by
 intro s
 induction s with
 | nil=>
  intro t _ _ h
  cases t with
  | nil=>rfl
  | cons y t=>exact absurd ((h y).mpr (.head _)) (λz=>nomatch z)
 | cons x s ih=>
  intro t hs ht h
  cases t with
  | nil=>exact absurd ((h x).mp (.head _)) (λz=>nomatch z)
  | cons y t=>
   have h1:∀{z:Int},z∈s->x<z:=λm=>List.rel_of_pairwise_cons hs m
   have h2:∀{z:Int},z∈t->y<z:=λm=>List.rel_of_pairwise_cons ht m
   have e:x=y:=by
    rcases Xp.mp ((h x).mp (.head _))with e|m
    ·exact e
    ·rcases Xp.mp ((h y).mpr (.head _))with e|m'
     ·exact e.symm
     ·have:=h1 m';have:=h2 m;omega
   subst e
   refine congrArg (x :: ·) (ih hs.tail ht.tail λz=>⟨λm=>?_,λm=>?_⟩)
   ·rcases Xp.mp ((h z).mp (.tail _ m))with e|m'
    ·have:=h1 m;omega
    ·exact m'
   ·rcases Xp.mp ((h z).mpr (.tail _ m))with e|m'
    ·have:=h2 m;omega
    ·exact m'
noncomputable def kd(a b c e:Bool):Bool:=(a==b)&&(c==e)&&(a !=c)
theorem Z40{as:FA}{δ:Zi}{j:Int}(h:EvA as δ [.int j])(h0:-1000≤j)(h1:j≤1000000):EvI (iRa as) δ (Zcg 0 j.toNat):=by
 obtain⟨_,e1,d1⟩:=h
 unfold EvI
 rw[Zx8,e1,Xf,d1,Zy6,if_pos (Zhs (by omega) h1)]
theorem Z1z:∀(k:Nat) (s:List Int),s.Pairwise (·<·)->(∀x∈s,1≤x∧x≤(k:Int))->s∈sdL k:=by
 intro k
 induction k with
 | zero=>
  intro s _ h
  cases s with
  | nil=>exact .head _
  | cons x s=>have:=h x (.head _);omega
 | succ k ih=>
  intro s hs h
  by_cases c:((k:Int)+1)∈s
  ·refine Qt.mpr (.inr (XQ.mpr ⟨s.filter λx=>decide (x≤(k:Int)),ih _ (hs.filter _) λx hx=>?_,?_⟩))
   ·obtain⟨h1,h2⟩:=QR.mp hx
    exact⟨(h x h1).1,of_decide_eq_true h2⟩
   ·refine Z34 (List.pairwise_append.mpr ⟨hs.filter _,UW ..,λx hx y hy=>?_⟩) hs λx=>?_
    ·rw[Xq.mp hy]
     have:=of_decide_eq_true (QR.mp hx).2
     omega
    ·rw[Qt,QR,decide_eq_true_eq,Xq]
     constructor
     ·rintro(⟨q,_⟩|rfl)
      ·exact q
      ·exact c
     ·intro q
      have:=(h x q).2
      by_cases e:x=(k:Int)+1
      ·exact .inr e
      ·exact .inl ⟨q,by omega⟩
  ·refine Qt.mpr (.inl (ih s hs λx hx=>⟨(h x hx).1,?_⟩))
   have:=(h x hx).2
   have:x≠(k:Int)+1:=λe=>c (e▸hx)
   omega
theorem Ztj:∀k,(sdL k).Nodup:=by
 intro k
 induction k with
 | zero=>exact Qp.mpr ⟨(λz=>nomatch z),.nil⟩
 | succ k ih=>
  refine Va.mpr ⟨ih,?_,λs hs t ht e=>?_⟩
  ·unfold QC
   rw[List.pairwise_map]
   exact ih.imp λq e=>q (List.append_cancel_right e)
  ·obtain⟨r,_,rfl⟩:=XQ.mp ht
   have:=((Zn5 k s hs).2.2 ((k:Int)+1) (by rw[e];exact Qt.mpr (.inr (.head _)))).2
   omega
theorem Zt1(L:List (List Int))(h:L.length<64):∃L1:List (List Int),Zij kdL ltI [.list (L.map Zj)]=some (.nd ((L1.map Zj).map OT.fz))∧L1.Perm L:=by
 obtain⟨L1,e,h1,h2⟩:=sorted_ints L h
 refine⟨L1,e,?_⟩
 have pm:=Zhf Ui (lk kdL ltI (L.map Zj)) (L.map Zj)
 have e2:Zij kdL ltI [.list (L.map Zj)]=some (.nd ((sLay Ui (lk kdL ltI (L.map Zj)) (L.map Zj)).map OT.fz)):=by
  show(if(decide ((L.map Zj).length<64)&&(L.map Zj).all λd=>(kdL d).isSome)=true then some (OT.nd ((sLay Ui (lk kdL ltI (L.map Zj)) (L.map Zj)).map OT.fz))else none)=_
  rw[if_pos]
  rw[XN,decide_eq_true_eq,Xc,Q5]
  refine⟨h,λd m=>?_⟩
  obtain⟨p,_,rfl⟩:=XQ.mp m
  show(Zew (p.map Xk)).isSome=true
  rw[Zay];rfl
 rw[e2]at e
 injection e with e
 injection e with e
 have e3:=(List.map_inj_right (λx y z=>by injection z)).mp e
 rw[e3]at pm
 have gi:∀s:List Int,(kdL (Zj s)).getD []=s:=λs=>by
  show(Zew (s.map Xk)).getD []=s
  rw[Zay];rfl
 have:=pm.map λd=>(kdL d).getD []
 rw[XJ,XJ]at this
 rwa[show((λd=>(kdL d).getD [])∘Zj)=id from funext gi,List.map_id,List.map_id]at this
theorem Zsk(n:Nat)(h1:1≤n)(s:List Int):s∈sdL (n-1)∧s≠[]↔Zxz n s:=by
 constructor
 ·rintro⟨a,b⟩
  obtain⟨_,h2,h3⟩:=Zn5 _ s a
  exact⟨b,h2,λx hx=>by have:=h3 x hx;omega⟩
 ·rintro⟨a,b,c⟩
  exact⟨Z1z _ s b λx hx=>by have:=c x hx;omega,a⟩
theorem Zmr{n:Nat}(h0:1≤n)(hn:n≤6):∃Ls:List (List Int),Told Y5 [.int n] (.list (Ls.map Zj))∧(∀s,s∈Ls↔Zxz n s)∧Ls.Nodup∧Ls.length<64:=by
 have p2:∀{k:Nat},k≤5->(sdL k).length≤32:=fun{k} hk=>by
  rw[Zzw]
  exact Ql (VP (by decide) hk) (by decide)
 have l64:(sdL (n-1)).length<64:=Nat.lt_of_le_of_lt (p2 (by omega)) (by decide)
 obtain⟨L1,eS,pS⟩:=Zt1 (sdL (n-1)) l64
 refine⟨L1.filter λs=>decide (0<s.length),?_,λs=>?_,(pS.nodup_iff.mpr (Ztj _)).filter _,Nat.lt_of_le_of_lt (Vz ..) (pS.length_eq▸l64)⟩
 ·refine Zx rfl<|Zy (Zv (Zce (Zb (Zce Zg (show 0≤1000 by decide)) Zg) (show 1≤1000 by decide)))<|
   Zha (ds:=Zcg 1 (n-1)) (λk δ=>∃z2,δ=[some (.fz (.int n)),some (.fz (.list ((sdL k).map Zj))),z2]) (Zzp (m:=1) (Zb Zz (Zb Za Zg)) (by decide) (by omega)) ⟨none,rfl⟩ (λk d δ hd q=>?_) λδ' q=>?_
  ·obtain⟨z2,rfl⟩:=q
   obtain⟨hk,rfl⟩:=J1 hd
   have lk:=p2 (k:=k) (by omega)
   refine⟨_,_,rfl,.inl (Zv (EvV.cast (Zob (ds:=(sdL k).map Zj) (es:=(sdL k).map λs=>Zj (s ++ [(k:Int)+1])) Za (Zb9 (cs:=[some (.fz (.int (1+(k:Int))))]) (sdL k) Zj (λs=>Zj (s ++ [(k:Int)+1])) (W3 Za) (by omega) rfl λs hs=>?_) (by rw[Xc,Xc];omega)) (y:=.list ((sdL (k+1)).map Zj)) ?_)),_,rfl⟩
   ·have ls:=(Zn5 k s hs).1
    exact(Zob (ds:=s.map Xk) (es:=[.int (1+(k:Int))]) Za (Zce (Zb Za Zg) (show 1≤1000 by decide)) (by rw[Xc];show _+1≤_;omega)).cast (by unfold Zj;rw[Qh,Int.add_comm];rfl)
   ·rw[sdL,Qh,XJ];rfl
  ·obtain⟨z2,rfl⟩:=q
   rw[W8]
   refine Yd (Zo0 (cs:=[]) L1 Zj (λs=>decide (0<s.length)) (W3 (Zwf (Zb Za Zg) eS (by rw[OT.data_nd,OT.map_fz]))) (by rw[pS.length_eq];omega) rfl (λs _=>Za4 (Zpb (Zf0 (ds:=s.map Xk) Za) Zz (decide_eq_decide.mpr (by rw[Xc];omega)))) λs _ _=>rfl)
 ·rw[QR,decide_eq_true_eq,List.length_pos_iff,pS.mem_iff]
  exact Zsk n h0 s
theorem Zsw{n:Nat}(hn:n≤100){R:Nat->Nat->Int}{b:Int}(hb:0<b)(bb:Bt 300 b)(bR:∀i j,i<n->j<n->Bt 300 (R i j)):∃(m k:Int) (S:Nat->Nat->Int),Told Yg [tbD (Za5 n R b)] (.int m)∧Told Y7 [.int m,tbD (Za5 n R b)] (Zai n S)∧0<m∧0<k∧b=m*k∧Bt 300 m∧∀x y,x<n->y<n->k*S x y=R x y:=by
 have hz:∀r∈Za5 n R b,r.length≤1000:=λr hr=>by
  unfold Za5 at hr
  obtain⟨x,_,rfl⟩:=XQ.mp hr
  rw[Xc,Xz];omega
 have hB:Z6o (Za5 n R b) b:=λr hr q hq=>by
  unfold Za5 at hr
  obtain⟨x,_,rfl⟩:=XQ.mp hr
  obtain⟨y,_,rfl⟩:=XQ.mp hq
  exact Ztf (by omega)
 have hN:∀r∈Za5 n R b,∀q∈r,Bt 300 q.num:=λr hr q hq=>by
  unfold Za5 at hr
  obtain⟨x,hx,rfl⟩:=XQ.mp hr
  obtain⟨y,hy,rfl⟩:=XQ.mp hq
  exact Zoh (by omega) (bR x y (Xm.mp hx) (Xm.mp hy))
 obtain⟨m,e1,m0,hm,k,rfl⟩:=Zhn hb bb (by decide) (Za5 n R b) hz hB
 have k0:0<k:=by
  by_cases c:0<k
  ·exact c
  ·have:=Bk (a:=m) (b:=k) (by omega) (by omega)
   omega
 have bm:Bt 300 m:=Zkj hb ⟨k,rfl⟩ bb
 have e2:=Zi5 m0 bm (Za5 n R (m*k)) (by rw[Zoa];omega) hz hm hN
 have er:Qk ((Za5 n R (m*k)).map λr=>.list (r.map λq=>.int (scI m q)))=Zai n λi j=>scI m (Xw (R i j) (m*k)):=by
  unfold Za5 Zai
  rw[XJ]
  refine congrArg Qk (XH λi _=>?_)
  show Qk _=Zxo _ _
  rw[XJ];rfl
 rw[er]at e2
 refine⟨m,k,_,e1,e2,m0,k0,rfl,bm,λx y hx hy=>?_⟩
 have hd:((Xw (R x y) (m*k)).den:Int)∣m:=hm _ (XQ.mpr ⟨x,Xm.mpr hx,rfl⟩) _ (XQ.mpr ⟨y,Xm.mpr hy,rfl⟩)
 have:=Zyy hd
 have e:((k*scI m (Xw (R x y) (m*k)):Int):Rat)=((R x y:Int):Rat):=by
  have nk:((k:Int):Rat)≠0:=by
   intro z
   have:k=0:=by exact_mod_cast z
   omega
  have nm:((m:Int):Rat)≠0:=by
   intro z
   have:m=0:=by exact_mod_cast z
   omega
  rw[Rat.intCast_mul,this,Qx,Rat.intCast_mul]
  rw[Rat.mul_comm,Rat.mul_assoc]
  exact Ug (λz=>(Rat.mul_eq_zero.mp z).elim nm nk)
 exact_mod_cast e
noncomputable def wtL(Ls:List (List Int))(W:List Int->Int)(b:Int):List (List Int×Rat):=(Ls.filter λA=>decide (0<W A)).map λA=>(A,Xw (W A) (2*b))
theorem Z0n{n:Nat}{R:Nat->Nat->Int}{b:Int}{δ:Zi}(h:δ[0]? =some (some (.fz (tbD (Za5 n R b))))):EvV (Zaf Za3 (Zc (Ze 0) Zn)) δ (.int n):=Zax (Zb (Za h) Zg) (by rw[Zy7,Zoa])
theorem Znh{n:Nat}(hn:n≤10){R:Nat->Nat->Int}{b:Int}(hb:0<b)(bb:Bt 300 b)(bR:∀i j,i<n->j<n->Bt 300 (R i j)){Ls:List (List Int)}(eC:Told Y5 [.int n] (.list (Ls.map Zj)))(hL:∀s∈Ls,Zxz n s)(lL:Ls.length≤1000){W:List Int->Int}(hW:∀A∈Ls,∀m,Lst R A (away n A) m->max 0 m=W A):Told Jk [tbD (Za5 n R b),fnD "tree_rule"] (Zom (wtL Ls W b)):=by
 obtain⟨m,k,S,e1,e2,m0,k0,rfl,bm,sc⟩:=Zsw (n:=n) (by omega) hb bb bR
 obtain⟨δ',e3,z5,z6,rfl⟩:=Zfh (it:=Zei (Zt Y5 (Zc (Zaf Za3 (Zc (Ze 0) Zn)) Zn))) (g:=gNm 5) (S:=(Z1 (wE (Zt Yc (Zc (Ze 3) (Zc (Ze 5) (Zc (Ze 1) Zn)))) (Yw 6))
  (Zad (tV (Zf gGt (Ze 6) (fC (.int 0))))
  (Wm 4 (Zf6 (Zc (Ze 5) (Zc (Zt Jh (Zc (Ze 6) (Zc (Zf Zcp (fC (.int 2)) (Ze 2)) Zn))) Zn))))
  fNx))) (δ:=[some (.fz (tbD (Za5 n R (m*k)))),some (.fz (fnD "tree_rule")),some (.fz (.int m)),some (.fz (Zai n S)),some (.nd []),none,none]) (ds:=Ls.map Zj)
  (λi δ=>∃z5 z6,δ=[some (.fz (tbD (Za5 n R (m*k)))),some (.fz (fnD "tree_rule")),some (.fz (.int m)),some (.fz (Zai n S)),some (Z5x (wtL (Ls.take i) W (m*k))),z5,z6]) (W3 (Zk (Zb (Z0n rfl) Zg) eC)) ⟨none,none,rfl⟩ (λi d δ hd q=>by
   obtain⟨z5,z6,rfl⟩:=q
   rw[Xn]at hd
   cases e:Ls[i]? with
   | none=>rw[e]at hd;cases hd
   | some s=>
    rw[e]at hd
    cases hd
    have gs:=hL s (Qi e)
    have ls:s.length≤100:=by
     obtain⟨x,hx⟩:=List.exists_mem_of_ne_nil s gs.ne
     have n1:1≤n:=by have:=gs.pt x hx;omega
     have:=(Zn5 _ s ((Zsk n n1 s).mpr gs).1).1
     omega
    obtain⟨mS,hm,eL⟩:=Zuv (S:=S) (A:=s) (n:=n) (by omega) ls gs.pt gs.ne
    have hR:=hW s (Qi e) _ (hm.scaled k0 sc (λx hx=>⟨by have:=(gs.pt x hx).1;omega,(gs.pt x hx).2⟩) λx hx=>by
     obtain⟨a1,a2,_⟩:=Zb8.mp hx
     exact⟨a1,a2⟩)
    rw[Zof k0]at hR
    have eF:=Znf (n:=302) (t:=max 0 mS) (b:=2*m) (by omega) (Bt.mul (m:=2) (Bt.of_lt (by decide) (by decide)) bm)
    have eD:Xw (W s) (2*(m*k))=Xw (max 0 mS) (2*m):=by rw[←hR,show 2*(m*k)=(2*m)*k by rw[Int.mul_assoc],Zpe k0 (by omega)]
    have cw:0<max 0 mS↔0<W s:=by
     rw[←hR]
     exact⟨λq=>Uz k0 q,λq=>Int.not_le.mp λz=>by have:=Bk (a:=k) (by omega) z;omega⟩
    have et:wtL (Ls.take (i+1)) W (m*k)=wtL (Ls.take i) W (m*k) ++ if 0<W s then[(s,Xw (W s) (2*(m*k)))]else[]:=by
     unfold wtL
     rw[List.take_succ,e,Option.toList_some,List.filter_append,Qh]
     by_cases c:0<W s
     ·rw[if_pos c,U4 (p:=λA=>decide (0<W A)) (decide_eq_true c)];rfl
     ·rw[if_neg c,U5 (p:=λA=>decide (0<W A)) (by rw[decide_eq_false c];exact XC)];rfl
    have ll:(wtL (Ls.take i) W (m*k)).length≤1000:=by
     unfold wtL
     rw[Xc]
     exact Ql (Vz ..) (Ql (List.length_take_le' ..) lL)
    by_cases c:0<max 0 mS
    ·refine⟨_,_,rfl,.inl (Yl (Zv (Zk (Zb Za (Zb Za (Zb Za Zg))) eL)) (Jt (Za4 (Zpb Za Zz (decide_eq_true c))) (Zgr (d:=ctD (s,Xw (max 0 mS) (2*m))) (ts:=((wtL (Ls.take i) W (m*k)).map ctD).map OT.fz) (J6 (Zb Za (Zb (Zk (Zb Za (Zb (Zbf Zz Za) Zg)) eF) Zg)) (show 2≤1000 by decide)) rfl (by rw[Xc,Xc];omega)))),some (.fz (Zj s)),some (.fz (.int (max 0 mS))),?_⟩
     rw[et,if_pos (cw.mp c),eD]
     show _=[_,_,_,_,some (Z5x (wtL (Ls.take i) W (m*k) ++ [(s,Xw (max 0 mS) (2*m))])),some (.fz (Zj s)),some (.fz (.int (max 0 mS)))]
     unfold Z5x
     rw[Qh,Qh];rfl
    ·refine⟨_,_,rfl,.inl (Yl (Zv (Zk (Zb Za (Zb Za (Zb Za Zg))) eL)) (Z9 (Za4 (Zpb Za Zz (decide_eq_false c))) rfl)),some (.fz (Zj s)),some (.fz (.int (max 0 mS))),?_⟩
     rw[et,if_neg (λz=>c (cw.mpr z)),QL];rfl)
 rw[Xc,UV]at e3
 exact Zx rfl<|Zy (Zv (Zk (Zb Za Zg) e1))<|Zy (Zv (Zk (Zb Za (Zb Za Zg)) e2))<|Zy Zf5<|Zy e3 (Z2x rfl (Zrw _))
noncomputable def al3(x y z:Int):Bool:=decide ((Wg [x,y,z]).getD 1 0<(Wg [x,y,z]).getD 2 0)
theorem Zmt{ns:List Int}(h:ns.length<64):Zox [.tuple (ns.map Xk)]=some (.nd (((Wg ns).map Xk).map OT.fz)):=by
 show((Zew (ns.map Xk)).bind λns=>if ns.length<64 then some (OT.nd (((Wg ns).map Xk).map OT.fz))else none)=_
 rw[Zay,Xf,if_pos h]
theorem Zv7(x y z:Int):Told Z8 [.tuple [.int x,.int y,.int z]] (.bool (al3 x y z)):=by
 have l3:(Wg [x,y,z]).length=3:=(Jv _).length_eq
 exact Zx rfl<|Zy (Zv (Zwf (Zb (Za (d:=.tuple ([x,y,z].map Xk)) rfl) Zg) (Zmt (show 3<64 by decide)) (Zsf _))) (Yd (Zfc (W0 Za (Zz (d:=.int 1)) (by decide) (by rw[l3];decide)) (W0 Za (Zz (d:=.int 2)) (by decide) (by rw[l3];decide)) rfl))
theorem Zmp{x y z:Int}:al3 x y z=true↔(x<z∧y<z)∨(x<y∧z<y)∨(y<x∧z<x):=by
 unfold al3
 rw[decide_eq_true_iff]
 by_cases a:y≤z
 ·have e1:Wg [y,z]=[y,z]:=by show(if y≤z then _ else _)=_;rw[if_pos a]
  by_cases b:x≤y
  ·have:Wg [x,y,z]=[x,y,z]:=by show insI x (Wg [y,z])=_;rw[e1];show(if x≤y then _ else _)=_;rw[if_pos b]
   rw[this];show y<z↔_;omega
  ·by_cases c:x≤z
   ·have:Wg [x,y,z]=[y,x,z]:=by show insI x (Wg [y,z])=_;rw[e1];show(if x≤y then _ else y :: if x≤z then _ else _)=_;rw[if_neg b,if_pos c]
    rw[this];show x<z↔_;omega
   ·have:Wg [x,y,z]=[y,z,x]:=by show insI x (Wg [y,z])=_;rw[e1];show(if x≤y then _ else y :: if x≤z then _ else _)=_;rw[if_neg b,if_neg c];rfl
    rw[this];show z<x↔_;omega
 ·have e1:Wg [y,z]=[z,y]:=by show(if y≤z then _ else _)=_;rw[if_neg a];rfl
  by_cases b:x≤z
  ·have:Wg [x,y,z]=[x,z,y]:=by show insI x (Wg [y,z])=_;rw[e1];show(if x≤z then _ else _)=_;rw[if_pos b]
   rw[this];show z<y↔_;omega
  ·by_cases c:x≤y
   ·have:Wg [x,y,z]=[z,x,y]:=by show insI x (Wg [y,z])=_;rw[e1];show(if x≤z then _ else z :: if x≤y then _ else _)=_;rw[if_neg b,if_pos c]
    rw[this];show x<y↔_;omega
   ·have:Wg [x,y,z]=[z,y,x]:=by show insI x (Wg [y,z])=_;rw[e1];show(if x≤z then _ else z :: if x≤y then _ else _)=_;rw[if_neg b,if_neg c];rfl
    rw[this];show y<x↔_;omega
noncomputable def alS(S:Nat->Nat->Int)(p:List Nat):Bool:=match p with
 | [i,j,k,l]=>al3 (S i j+S k l) (S i k+S j l) (S i l+S j k)
 | _=>false
noncomputable def Zwn(n:Nat)(S:Nat->Nat->Int):Option Xa:=(rs n 4).findSome? λp=>if alS S p=true then some (tpN p)else none
theorem Zi0{n:Nat}(hn:n≤10)(S:Nat->Nat->Int):Told Jx [Zai n S] ((Zwn n S).getD .none):=by
 have hle:∀{δ:Zi},δ[0]? =some (some (.fz (Zai n S)))->EvV (Zaf Za3 (Zc (Ze 0) Zn)) δ (.int n):=λh=>Zax (Zb (Za h) Zg) (Zk0 n S)
 refine Zx rfl<|Zl7 (α:=Nat) (I:=λδ=>∃z1 z2 z3 z4,δ=[some (.fz (Zai n S)),z1,z2,z3,z4]) (Zi9 (α:=List Nat) (J:=λδ=>∃z1 z2 z3 z4,δ=[some (.fz (Zai n S)),z1,z2,z3,z4]) tpN _ (rs n 4) (W3 (Zk (Zb (hle rfl) (Zb Zz Zg)) (Ztg hn (by decide)))) ⟨none,none,none,none,rfl⟩ (λ_ h=>h) λp hp δ q=>?_) λδ q=>?_
 ·obtain⟨z1,z2,z3,z4,rfl⟩:=q
  obtain⟨l4,_,lt,_⟩:=Zpf hp
  match p,l4 with
  | [i,j,k,l],_=>
   have hi:=lt i (.head _)
   have hj:=lt j (.tail _ (.head _))
   have hk:=lt k (.tail _ (.tail _ (.head _)))
   have hl:=lt l (.tail _ (.tail _ (.tail _ (.head _))))
   have et:EvT (tD (Zt Z8 (Zc (Zt Z4 (Zc (Ze 0) (Zc (Ze 1) (Zc (Ze 2) (Zc (Ze 3) (Zc (Ze 4) Zn)))))) Zn))) [some (.fz (Zai n S)),some (.fz (.int i)),some (.fz (.int j)),some (.fz (.int k)),some (.fz (.int l))] (alS S [i,j,k,l]):=Zh1 (Zk (Zb (Zk (Zb Za (Zb Za (Zb Za (Zb Za (Zb Za Zg))))) (Zek hi hj hk hl)) Zg) (Zv7 _ _ _))
   refine⟨_,rfl,?_⟩
   cases c:alS S [i,j,k,l]with
   | true=>
    rw[c]at et
    rw[if_pos rfl]
    exact Zkr et (Zn0 (J6 (Zb Za (Zb Za (Zb Za (Zb Za Zg)))) (show 4≤1000 by decide)))
   | false=>
    rw[c]at et
    rw[if_neg XC]
    exact Zk6 et ⟨_,_,_,_,rfl⟩
 ·obtain⟨z1,z2,z3,z4,rfl⟩:=q
  exact Yd Zz
noncomputable def clp(n:Nat)(R:Nat->Nat->Int)(i j:Nat):Int:=if i<n∧j<n then R i j else 0
theorem Zn6{n:Nat}{R:Nat->Nat->Int}{i j:Nat}(hi:i<n)(hj:j<n):clp n R i j=R i j:=if_pos ⟨hi,hj⟩
theorem Zvo(n:Nat)(R:Nat->Nat->Int)(b:Int):Za5 n R b=Za5 n (clp n R) b:=by
 unfold Za5
 exact XH λi hi=>XH λj hj=>by rw[Zn6 (Xm.mp hi) (Xm.mp hj)]
theorem Zgx{α β:Type}{f g:α->Option β}:∀{l:List α},(∀x∈l,f x=g x)->l.findSome? f=l.findSome? g
 | [],_=>rfl
 | x :: l,h=>by rw[List.findSome?_cons,List.findSome?_cons,h x (.head _),Zgx λy hy=>h y (.tail _ hy)]
theorem Zsd{n:Nat}{c c':Nat->Nat->Nat->Bool}{v:Nat->Nat->Nat->Xa}(h:∀i j k,i<n->j<n->k<n->c i j k=c' i j k):sc3 n c v=sc3 n c' v:=by
 unfold sc3
 exact Zgx λi hi=>Zgx λj hj=>Zgx λk hk=>by rw[h i j k (Xm.mp hi) (Xm.mp hj) (Xm.mp hk)]
theorem Zro{n:Nat}(hn:n≤10){R:Nat->Nat->Int}{b:Int}(hb:0<b)(bb:Bt 300 b)(bR:∀i j,i<n->j<n->Bt 300 (R i j)):Told Wi [tbD (Za5 n R b)] ((sc3 n (shI R) tpI).getD .none):=by
 have e:=Zh3 hn (Z85 (R:=clp n R) hb bb λi j=>by
  unfold clp
  split
  ·rename_i c;exact bR i j c.1 c.2
  ·exact Bt.mono (m:=1) (Bt.of_lt (by decide) (by decide)) (by decide))
 rw[Z94 hb,←Zmy,←Zvo]at e
 rwa[Zsd (c:=shI (clp n R)) (c':=shI R) λi j k hi hj hk=>by unfold shI;rw[Zn6 hi hj,Zn6 hj hk,Zn6 hi hk]]at e
theorem Zll{k x y:Int}(hk:0<k):k*x<k*y↔x<y:=⟨λh=>Int.lt_of_mul_lt_mul_left h (by omega),λh=>Int.mul_lt_mul_of_pos_left h hk⟩
theorem Zik{k x y z:Int}(hk:0<k):al3 (k*x) (k*y) (k*z)=al3 x y z:=by
 rw[Bool.eq_iff_iff,Zmp,Zmp]
 simp only[Zll hk]
theorem Zhi{n:Nat}{R S:Nat->Nat->Int}{k:Int}(hk:0<k)(sc:∀x y,x<n->y<n->k*S x y=R x y):Zwn n S=Zwn n R:=by
 unfold Zwn
 refine Zgx λp hp=>?_
 obtain⟨l4,_,lt,_⟩:=Zpf hp
 match p,l4 with
 | [i,j,k',l],_=>
  have hi:=lt i (.head _)
  have hj:=lt j (.tail _ (.head _))
  have hk':=lt k' (.tail _ (.tail _ (.head _)))
  have hl:=lt l (.tail _ (.tail _ (.tail _ (.head _))))
  have e:alS R [i,j,k',l]=alS S [i,j,k',l]:=by
   show al3 _ _ _=al3 _ _ _
   rw[←sc i j hi hj,←sc k' l hk' hl,←sc i k' hi hk',←sc j l hj hl,←sc i l hi hl,←sc j k' hj hk',←By,←By,←By,Zik hk]
  rw[e]
noncomputable def Zcn(n:Nat)(R:Nat->Nat->Int):Option Xa:=match sc3 n (shI R) tpI with|some d=>some d|none=>Zwn n R
theorem Zn4{n:Nat}{c:Nat->Nat->Nat->Bool}{d:Xa}(h:sc3 n c tpI=some d):∃i j k,d=tpI i j k∧i<n∧j<n∧k<n∧c i j k=true:=by
 unfold sc3 at h
 obtain⟨i,hi,h⟩:=QB h
 obtain⟨j,hj,h⟩:=QB h
 obtain⟨k,hk,h⟩:=QB h
 by_cases e:c i j k=true
 ·rw[if_pos e]at h
  cases h
  exact⟨i,j,k,rfl,Xm.mp hi,Xm.mp hj,Xm.mp hk,e⟩
 ·rw[if_neg e]at h;cases h
theorem Ze3{n:Nat}{R:Nat->Nat->Int}{b:Int}(hn:n≤10)(hb:0<b)(bb:Bt 300 b)(bR:∀i j,i<n->j<n->Bt 300 (R i j)):Told Jw [tbD (Za5 n R b)] ((Zcn n R).getD .none):=by
 have e:=Zro hn hb bb bR
 unfold Zcn
 cases q:sc3 n (shI R) tpI with
 | some d=>
  rw[q]at e
  obtain⟨i,j,k,rfl,_⟩:=Zn4 q
  exact Zx rfl<|Zy (Zv (Zk (Zb Za Zg) e))<|J0 (Zbz (Za4 (Zq (Za (d:=tpI i j k) rfl) Zz rfl)) (Yd (Za (d:=tpI i j k) rfl)))
 | none=>
  rw[q]at e
  obtain⟨m,k,S,e1,e2,m0,k0,rfl,bm,sc⟩:=Zsw (n:=n) (by omega) hb bb bR
  have e3:=Zi0 hn S
  rw[Zhi k0 sc]at e3
  exact Zx rfl<|Zy (Zv (Zk (Zb Za Zg) e))<|Zy (Z9 (Za4 (Zq (Za (d:=.none) rfl) Zz rfl)) rfl) (Yd (Zk (Zb (Zk (Zb (Zk (Zb Za Zg) e1) (Zb Za Zg)) e2) Zg) e3))
theorem Zm4{n:Nat}{R:Nat->Nat->Int}{d:Xa}(h:Zwn n R=some d):∃p,d=tpN p∧p∈rs n 4∧alS R p=true:=by
 obtain⟨p,hp,h⟩:=QB h
 by_cases e:alS R p=true
 ·rw[if_pos e]at h
  cases h
  exact⟨p,rfl,hp,e⟩
 ·rw[if_neg e]at h;cases h
theorem Zrs{n:Nat}{R:Nat->Nat->Int}{d:Xa}(h:Zcn n R=some d):∃ds,d= .tuple ds:=by
 unfold Zcn at h
 cases q:sc3 n (shI R) tpI with
 | some e=>
  rw[q]at h
  cases h
  obtain⟨i,j,k,rfl,_⟩:=Zn4 q
  exact⟨_,rfl⟩
 | none=>
  rw[q]at h
  obtain⟨p,rfl,_⟩:=Zm4 h
  exact⟨_,rfl⟩
theorem Zhq{n:Nat}{R:Nat->Nat->Int}{b:Int}(hn:n≤10)(hb:0<b)(bb:Bt 300 b)(bR:∀i j,i<n->j<n->Bt 300 (R i j)){d:Xa}(h:Zcn n R=some d):Told Zo [tbD (Za5 n R b)] (.tuple [.str "bars",d]):=by
 have e:=Ze3 hn hb bb bR
 rw[h]at e
 obtain⟨ds,rfl⟩:=Zrs h
 exact Zx rfl<|Zy (Zv (Zk (Zb Za Zg) e))<|J0 (Zbz (Za4 (Zq (Za (d:=.tuple ds) rfl) Zz rfl)) (Yd (J6 (Zb Zz (Zb (Za (d:=.tuple ds) rfl) Zg)) (show 2≤1000 by decide))))
theorem Zq0{n:Nat}{R:Nat->Nat->Int}{b:Int}(hn:n≤10)(hb:0<b)(bb:Bt 300 b)(bR:∀i j,i<n->j<n->Bt 300 (R i j)){Ls:List (List Int)}(eC:Told Y5 [.int n] (.list (Ls.map Zj)))(hL:∀s∈Ls,Zxz n s)(lL:Ls.length≤1000){W:List Int->Int}(hW:∀A∈Ls,∀m,Lst R A (away n A) m->max 0 m=W A)(h:Zcn n R=none):Told Zo [tbD (Za5 n R b)] (.tuple [.str "tree",Zom (wtL Ls W b)]):=by
 have e:=Ze3 hn hb bb bR
 rw[h]at e
 exact Zx rfl<|Zy (Zv (Zk (Zb Za Zg) e))<|Zy (Z9 (Za4 (Zq (Za (d:=.none) rfl) Zz rfl)) rfl) (Yd (J6 (Zb Zz (Zb (Zk (Zb Za (Zb Zz Zg)) (Znh hn hb bb bR eC hL lL hW)) Zg)) (show 2≤1000 by decide)))
theorem Zuw(ns:List Int)(n:Nat)(hn:n≤10){base:Int}(hb:0<base)(c:Int):∃L,Told W4 [Zj ns,.int 3,.int n,.int base,.int c] (OT.nd (L.map Zbs)).data∧Dr n base L∧Sy n L:=by
 have e0:∀{δ:Zi},δ[2]? =some (some (.fz (.int n)))->blk 1 [2] δ=[none,some (.fz (.int n))]->(Yv 1 [2] (iRa (Zc (Ze 2) Zn)) (gNm 0) Zd0 (Zuf (fC (.int 0)) (Ze 1))) δ=some (.nd ((Xj n).map λ_=>Zbs (Xv n 0)),δ):=λh2 hb=>Zj0 (cs:=[some (.fz (.int n))]) (Xj n) (λi:Nat=>Xk (0+(i:Int))) (λ_=>Zbs (Xv n 0)) (Zg3 (Zb (Za h2) Zg) (by omega)) (by rw[Xz,Qg];omega) hb λx _=>by
  unfold Zbs
  rw[V9]
  exact Zy0 (by omega)
 have len:∀{L:List (List Int)} (k:Nat),Dr n base L->k<n->(L.getD k []).length=n:=fun{L} k h hk=>by
  refine(h.2 _ ?_).1
  rw[Xe,Xi (by rw[h.1];exact hk)]
  exact QQ _
 have key:∃d,Told W4 [Zj ns,(.int 3),.int n,.int base,.int c] d∧∃L,d=(OT.nd (L.map Zbs)).data∧Dr n base L∧Sy n L:=by
  refine Zka rfl<|Wl (Zd9 (e0 rfl rfl))<|Zii (ds:=Zcg 0 n) (λi δ=>∃(L:List (List Int)) (z1 z2 z3 z4:Option OT),δ=[some (.fz (Zj ns)),some (.fz (.int 3)),some (.fz (.int n)),some (.fz (.int base)),some (.fz (.int c)),some (.nd (L.map Zbs)),z1,z2,z3,z4]∧Dr n base L∧Sy n L) (Zg3 (Zb Za Zg) (by omega)) ⟨(Xj n).map λ_=>Xv n 0,none,none,none,none,by rw[XJ];rfl,⟨by rw[Xc,Xz],λr hr=>by
   obtain⟨_,_,rfl⟩:=XQ.mp hr
   exact⟨Bh,λx hx=>by rw[Vm hx];omega⟩⟩,λi j hi hj=>by
   have z:∀i j,i<n->j<n->fnL ((Xj n).map λ_=>Xv n 0) i j=0:=λi j hi hj=>by
    unfold fnL
    rw[Xe (l:=List.map _ _),Xn,QV hi]
    show(Xv n (0:Int)).getD j 0=0
    rw[Xe,Bu,if_pos hj];rfl
   exact⟨by rw[z i j hi hj,z j i hj hi],z i i hi hi⟩⟩ (λi d δ hd q=>?_) λδ' q=>by obtain⟨L,z1,z2,z3,z4,rfl,hL,sy⟩:=q;exact Z3d rfl ⟨L,rfl,hL,sy⟩
  obtain⟨L,z1,z2,z3,z4,rfl,hL,sy⟩:=q
  obtain⟨hi,rfl⟩:=J1 hd
  rw[Bc]
  refine Zn3 (ds:=Zcg 0 i) (λj δ=>∃(L:List (List Int)) (z2 z3 z4:Option OT),δ=[some (.fz (Zj ns)),some (.fz (.int 3)),some (.fz (.int n)),some (.fz (.int base)),some (.fz (.int c)),some (.nd (L.map Zbs)),some (.fz (.int i)),z2,z3,z4]∧Dr n base L∧Sy n L) rfl (Zg3 (Zb Za Zg) (by omega)) ⟨L,z2,z3,z4,rfl,hL,sy⟩ (λj d δ hd q=>?_) λδ' q=>by obtain⟨L,z2,z3,z4,e,hL,sy⟩:=q;exact⟨L,_,_,_,_,e,hL,sy⟩
  ·obtain⟨L,z2,z3,z4,rfl,hL,sy⟩:=q
   obtain⟨hj,rfl⟩:=J1 hd
   rw[Bc]
   obtain⟨at',hat,a0⟩:∃k,((i:Int)*((i:Int)-1)).fdiv 2+(j:Int)=k∧0≤k:=by
    refine⟨_,rfl,?_⟩
    have hsm:0≤(i:Int)*((i:Int)-1):=Int.mul_nonneg (by omega) (by omega)
    rw[Wk (by decide)]
    omega
   obtain⟨v,ev⟩:=Zeh c (90+at')
   have w1:∀{δ:Zi},δ[6]? =some (some (.fz (.int i)))->δ[7]? =some (some (.fz (.int j)))->EvV (Zf Zaj (Zf Jp (Zf Zcp (Ze 6) (Zf gSb (Ze 6) (fC (.int 1)))) (fC (.int 2))) (Ze 7)) δ (.int at'):=λh6 h7=>hat▸Ys (Zaa (Zbf (Za h6) (Ziu (Za h6) Zz) (by omega)) Zz) (Za h7)
   have w3:∀{δ:Zi},δ[0]? =some (some (.fz (Zj ns)))->δ[1]? =some (some (.fz (.int 3)))->δ[8]? =some (some (.fz (.int at')))->δ[9]? =some (some (.fz (.int v)))->∃w,Zad (tV (Zf gLt (Zf Zaj (Ze 1) (Ze 8)) (Zaf Za3 (Zc (Ze 0) Zn)))) (wE (Yi gIx (Ze 0) (Zf Zaj (Ze 1) (Ze 8))) (Yw 9)) fNx δ= .nx (δ.set 9 (some (.fz (.int w)))):=fun{δ} h0 h1 h8 h9=>by
    by_cases q:3+at'<ns.length
    ·exact⟨_,Jt (Za4 (Zfc (Ys (Za h1) (Za h8)) (Zal (Za h0)) (decide_eq_true q))) (Zv (W0 (Za h0) (Ys (Za h1) (Za h8)) (by omega) q))⟩
    ·exact⟨v,(Z9 (Za4 (Zfc (Ys (Za h1) (Za h8)) (Zal (Za h0)) (decide_eq_false q))) rfl).trans (congrArg RS.nx (Zw7 h9).symm)⟩
   obtain⟨w,e3⟩:=w3 (δ:=[some (.fz (Zj ns)),some (.fz (.int 3)),some (.fz (.int n)),some (.fz (.int base)),some (.fz (.int c)),some (.nd (L.map Zbs)),some (.fz (.int i)),some (.fz (.int j)),some (.fz (.int at')),some (.fz (.int v))]) rfl rfl rfl rfl
   have w0:0≤w.fmod base:=Ju hb
   have w1':w.fmod base<base:=Jy hb
   have D1:=hL.put w0 w1' i j
   exact⟨_,_,rfl,.inl (Yl (Zv (w1 rfl rfl))<|Yl (Zv (Zk (Zb Za (Zb (Ys Zz Za) Zg)) ev))<|Yl e3<|
    Yl (Zgy (L:=L) (a:=i) (b:=j) (Wa Za Za (by omega)) rfl Za (by rw[hL.1];exact hi) Za (by rw[len i hL hi];omega)) (Zgy (L:=L.set i ((L.getD i []).set j (w.fmod base))) (a:=j) (b:=i) (Wa Za Za (by omega)) rfl Za (by rw[D1.1];omega) Za (by rw[len j D1 (by omega)];omega))),_,_,_,_,rfl,D1.put w0 w1' j i,λx y hx hy=>by
     have f2:=Zho (L:=L.set i ((L.getD i []).set j (w.fmod base))) (a:=j) (b:=i) (v:=w.fmod base) (by rw[D1.1];omega) (by rw[len j D1 (by omega)];exact hi)
     have f1:=Zho (L:=L) (a:=i) (b:=j) (v:=w.fmod base) (by rw[hL.1];exact hi) (by rw[len i hL hi];omega)
     rw[f2,f2,f2,f1,f1,f1]
     obtain⟨s1,s2⟩:=sy x y hx hy
     refine⟨?_,by rw[if_neg (by omega),if_neg (by omega)];exact s2⟩
     by_cases c1:x=j∧y=i
     ·rw[if_pos c1,if_neg (by omega),if_pos ⟨c1.2,c1.1⟩]
     ·rw[if_neg c1]
      by_cases c2:x=i∧y=j
      ·rw[if_pos c2,if_pos ⟨c2.2,c2.1⟩]
      ·rw[if_neg c2,if_neg (by omega),if_neg (by omega)];exact s1⟩
 obtain⟨d,h,L,rfl,hL,sy⟩:=key
 exact⟨L,h,hL,sy⟩
theorem Zmm(c:Int){n:Nat}(h3:1≤n)(hn:n≤10):∃Ls:List (List Int),Told Z6 [.int c,.int n] (.list (Ls.map Zj))∧Ls.length≤20:=by
 obtain⟨vs,e0,hv⟩:=Zp5 c (2*n) (by omega)
 have s0:EvV (Zf Zcp (fC (.int 2)) (Ze 1)) (Zfy 8 [.int c,.int n]) (.int (2*n:Nat)):=(Zbf Zz Za (by decide)).cast (congrArg Xk (by omega))
 have e1:Zus (Yv 1 [] (iRb (Zc (fC (.int 1)) (Zc (Ze 1) Zn))) (gNm 0) Zd0 (Zdn (Zc (Ze 0) Zn))) [some (.fz (.int c)),some (.fz (.int n)),some (.fz (Zj vs)),none,none,none,none,none]=some (lO ((Xj (n-1)).map λi:Nat=>[1+(i:Int)]),[some (.fz (.int c)),some (.fz (.int n)),some (.fz (Zj vs)),none,none,none,none,none]):=by
  obtain⟨rs,h1,h2⟩:=Zmu (caps:=[]) (it:=iRb (Zc (fC (.int 1)) (Zc (Ze 1) Zn))) (me:=Zdn (Zc (Ze 0) Zn)) (cs:=[]) (δ:=[some (.fz (.int c)),some (.fz (.int n)),some (.fz (Zj vs)),none,none,none,none,none]) (Xj (n-1)) (λi:Nat=>Xk (1+(i:Int))) (λi:Nat=>Zj [1+(i:Int)]) (Zzp (m:=1) (n:=n) (Zb Zz (Zb Za Zg)) (by decide) (by omega)) (by rw[Xz];omega) rfl λi _=>Z5f Za
  unfold Zus
  rw[h1,Xf]
  dsimp only
  rw[h2]
  unfold lO
  rw[XJ,XJ,XJ];rfl
 have key:∃d,Told Z6 [.int c,.int n] d∧∃Ls:List (List Int),d= .list (Ls.map Zj)∧Ls.length≤20:=by
  refine Zka rfl<|Wl (Zv (Zk (Zb Za (Zb s0 Zg)) e0))<|Wl (Zd9 e1)<|Wl (Zd9 (Zxf (i:=3) rfl))<|Zii (ds:=Zcg 0 ((n:Int)-2).toNat) (λi δ=>∃(l f:List (List Int)) (z5 z6 z7:Option OT),δ=[some (.fz (.int c)),some (.fz (.int n)),some (.fz (Zj vs)),some (lO l),some (lO f),z5,z6,z7]∧l.length+i=n-1∧sL l=n-1∧f.length=n-1+i) (Z40 (Zb (Ziu Za Zz) Zg) (by omega) (by omega)) ⟨(Xj (n-1)).map λi:Nat=>[1+(i:Int)],(Xj (n-1)).map λi:Nat=>[1+(i:Int)],_,_,_,rfl,by rw[Xc,Xz];rfl,?_,by rw[Xc,Xz];rfl⟩ (λi d δ hd q=>?_) λδ' q=>?_
  ·unfold sL
   rw[XJ]
   generalize n-1=k
   induction k with
   | zero=>rfl
   | succ k ih=>rw[List.range_succ,Qh,List.sum_append,ih];rfl
  ·obtain⟨l,f,z5,z6,z7,rfl,ll,sl,lf⟩:=q
   obtain⟨hi,rfl⟩:=J1 hd
   rw[Bc]
   obtain⟨j,ej,hj⟩:=Zel (vs.getD (2*i) 0) (n:=l.length) (by omega)
   have l1:(l.eraseIdx j).length=l.length-1:=List.length_eraseIdx_of_lt hj
   obtain⟨j2,ej2,hj2⟩:=Zel (vs.getD (2*i+1) 0) (n:=(l.eraseIdx j).length) (by omega)
   have l2:((l.eraseIdx j).eraseIdx j2).length=l.length-2:=by rw[List.length_eraseIdx_of_lt hj2,l1];omega
   have x1:=Zjl l j hj
   have x2:=Zjl (l.eraseIdx j) j2 hj2
   have p1:EvV (Zf Zcb (Yi gIx (Ze 2) (Zf Zcp (fC (.int 2)) (Ze 5))) (Zaf Za3 (Zc (Zkb 3) Zn))) [some (.fz (.int c)),some (.fz (.int n)),some (.fz (Zj vs)),some (lO l),some (lO f),some (.fz (.int i)),z6,z7] (.int j):=(Wa (j:=l.length) ((W0 (p:=vs) (i:=2*(i:Int)) Za (Zbf Zz Za (by decide)) (by omega) (by omega)).cast (by rw[show(2*(i:Int)).toNat=2*i by omega])) ((Zf0 (Zsa rfl (Zjw l))).cast (by rw[Xc])) (by omega)).cast (congrArg _ ej)
   have p2:EvV (Zf Zcb (Yi gIx (Ze 2) (Zf Zaj (Zf Zcp (fC (.int 2)) (Ze 5)) (fC (.int 1)))) (Zaf Za3 (Zc (Zkb 3) Zn))) [some (.fz (.int c)),some (.fz (.int n)),some (.fz (Zj vs)),some (lO (l.eraseIdx j)),some (lO f),some (.fz (.int i)),some (.fz (Zj (l.getD j []))),z7] (.int j2):=(Wa (j:=(l.eraseIdx j).length) ((W0 (p:=vs) (i:=2*(i:Int)+1) Za (Ys (Zbf Zz Za (by decide)) Zz) (by omega) (by omega)).cast (by rw[show(2*(i:Int)+1).toNat=2*i+1 by omega])) ((Zf0 (Zsa rfl (Zjw _))).cast (by rw[Xc])) (by omega)).cast (congrArg _ ej2)
   obtain⟨y,hy⟩:∃y,y=Wg (l.getD j [] ++ (l.eraseIdx j).getD j2 []):=⟨_,rfl⟩
   have ly:y.length=(l.getD j []).length+((l.eraseIdx j).getD j2 []).length:=by rw[hy,(Jv _).length_eq,XX]
   refine⟨_,_,rfl,.inl (Yl (popS (i:=6) (Ybc (i:=3) rfl p1 hj (by omega)))<|Yl (popS (i:=7) (Ybc (i:=3) rfl p2 hj2 (by omega)))<|Yl (δ':=[some (.fz (.int c)),some (.fz (.int n)),some (.fz (Zj vs)),some (lO ((l.eraseIdx j).eraseIdx j2 ++ [y])),some (lO f),some (.fz (.int i)),some (.fz (Zj (l.getD j []))),some (.fz (Zj ((l.eraseIdx j).getD j2 [])))]) ?_ ?_),(l.eraseIdx j).eraseIdx j2 ++ [y],f ++ [y],some (.fz (.int i)),some (.fz (Zj (l.getD j []))),some (.fz (Zj ((l.eraseIdx j).getD j2 []))),rfl,by rw[XX];show _+1+_=_;omega,?_,by rw[XX];show _+1=_;omega⟩
   ·refine(Zgr (ts:=(((l.eraseIdx j).eraseIdx j2).map Zj).map OT.fz) (d:=Zj y) ?_ rfl (by rw[Xc,Xc];omega)).trans (by rw[Zrb];rfl)
    rw[hy]
    exact Zwf (Zb (Z43 Za Za (by omega) (by omega)) Zg) (Zp7 (by rw[XX];omega)) (Zsf _)
   ·refine(Zgr (ts:=(f.map Zj).map OT.fz) (d:=Zj y) ?_ rfl (by rw[Xc,Xc];omega)).trans (by rw[Zrb f y];rfl)
    exact Zv4 rfl
   ·unfold sL
    rw[Qh,List.sum_append]
    show sL _+(y.length+0)=_
    omega
  ·obtain⟨l,f,z5,z6,z7,rfl,ll,sl,lf⟩:=q
   rw[W8]at lf
   exact Z3d (o:=lO f) rfl ⟨f,Zjw f,by omega⟩
 obtain⟨d,h,Ls,rfl,r⟩:=key
 exact⟨Ls,h,r⟩
noncomputable def GoodR(n:Nat)(d:Xa):Prop:=∃L,d=(OT.nd (L.map Zbs)).data∧Dr n B30 L∧Sy n L
noncomputable def bE(ns:List Int)(n:Nat)(c w:Int)(o5 o6 o7 o8 o9 oa:Option OT):Zi:=[some (.fz (Zj ns)),some (.fz (.int 3)),some (.fz (.int n)),some (.fz (.int c)),some (.fz (.int w)),o5,o6,o7,o8,o9,oa]
theorem Zle(ns:List Int){n:Nat}(h3:1≤n)(hn:n≤10)(c x:Int)(st:Nat):∃(Ls:List (List Int)) (vs:List Int) (L:List (List Int)),Told Z6 [.int x,.int n] (.list (Ls.map Zj))∧Told Yk [Zj ns,.int st,.int Ls.length,.int c] (Zj vs)∧Y6 [.int n,.list (Ls.map Zj),Zj vs]= .ok (.nd (L.map Zbs))∧Dr n B25 L∧Sy n L:=by
 obtain⟨Ls,T1,l1⟩:=Zmm x h3 hn
 obtain⟨vs,T2,_,hv⟩:=Zp3 ns st Ls.length c (by omega)
 obtain⟨L,e,D,sy,_⟩:=Zzv hn (Ls:=Ls) (by omega) hv
 exact⟨Ls,vs,L,T1,T2,e,D,sy⟩
theorem Sy.sum{n:Nat}{a b:Int}{L M:List (List Int)}(h:Dr n a L)(k:Dr n b M)(s:Sy n L)(t:Sy n M):Sy n (Ztw L M):=λi j hi hj=>by
 rw[Zms h k hi hj,Zms h k hj hi,Zms h k hi hi,(s i j hi hj).1,(t i j hi hj).1,(s i i hi hi).2,(t i i hi hi).2]
 exact⟨rfl,rfl⟩
theorem Sy.two{n:Nat}{base v:Int}{L:List (List Int)}(D:Dr n base L)(s:Sy n L)(h0:0≤v)(h1:v<base){i j:Nat}(hi:i<n)(hj:j<n)(ne:i≠j):Dr n base ((L.set i ((L.getD i []).set j v)).set j (((L.set i ((L.getD i []).set j v)).getD j []).set i v))∧Sy n ((L.set i ((L.getD i []).set j v)).set j (((L.set i ((L.getD i []).set j v)).getD j []).set i v))∧fnL (L.set i ((L.getD i []).set j v)) i j=v:=by
 have D1:=D.put h0 h1 i j
 have f1:=Zho (L:=L) (a:=i) (b:=j) (v:=v) (by rw[D.1];exact hi) (by rw[D.len hi];exact hj)
 have f2:=Zho (L:=L.set i ((L.getD i []).set j v)) (a:=j) (b:=i) (v:=v) (by rw[D1.1];exact hj) (by rw[D1.len hj];exact hi)
 refine⟨D1.put h0 h1 j i,λx y hx hy=>?_,by rw[f1,if_pos ⟨rfl,rfl⟩]⟩
 rw[f2,f2,f2,f1,f1,f1]
 obtain⟨s1,s2⟩:=s x y hx hy
 refine⟨?_,by rw[if_neg (by omega),if_neg (by omega)];exact s2⟩
 by_cases c1:x=j∧y=i
 ·rw[if_pos c1,if_neg (by omega),if_pos ⟨c1.2,c1.1⟩]
 ·rw[if_neg c1]
  by_cases c2:x=i∧y=j
  ·rw[if_pos c2,if_pos ⟨c2.2,c2.1⟩]
  ·rw[if_neg c2,if_neg (by omega),if_neg (by omega)];exact s1
noncomputable def Ydu:FS:=Zad (tO (tV (Zf gEq (Ze 4) (fC (.int 1)))) (tV (Zf gEq (Ze 4) (fC (.int 3)))))
  (Z1 (wE (Zf Zcb (Zt Zw (Zc (Ze 3) (Zc (fC (.int 41)) Zn))) (Ze 2)) (Yw 8))
  (Z1 (wE (Zf Zcb (Zt Zw (Zc (Ze 3) (Zc (fC (.int 42)) Zn))) (Ze 2)) (Yw 9))
  (Z1 (wE (Yi gIx (Zdn (Zc (fC (.int 1)) (Zc (Zf Zcp (fC (.int 2)) (Ze 4)) (Zc (Zf Zps (fC (.int 10)) (fC (.int 21))) Zn)))) (Zf Zcb (Zt Zw (Zc (Ze 3) (Zc (fC (.int 43)) Zn))) (fC (.int 3)))) (Yw 10))
  (Zad (tV (Zf gNe (Ze 8) (Ze 9)))
  (Z1 (Zg5 6 (Zaf Z4m (Zc (fC (.int 0)) (Zc (Zf Zaj (Yi gIx (Yi gIx (Zkb 6) (Ze 8)) (Ze 9)) (Zf Zcp (Zf gSb (fC (.int 2)) (Ze 4)) (Ze 10))) Zn))) (Ze 8) (Ze 9))
  (Zg5 6 (Zth (Yi gIx (Yi gIx (Zkb 6) (Ze 8)) (Ze 9))) (Ze 9) (Ze 8)))
  fNx))))
  fNx
theorem Ydm:Zps (.int 10) (.int 21)=some (.int 1000000000000000000000):=rfl
theorem Z5j{ns:List Int}{n:Nat}(n1:1≤n){c w:Int}(w0:0≤w)(w5:w<5){o5 o7 o8 o9 oa:Option OT}{L:List (List Int)}(D:Dr n (2*B25) L)(sy:Sy n L) :
  ∃L' o8' o9' oa',Ydu (bE ns n c w o5 (some (.nd (L.map Zbs))) o7 o8 o9 oa)= .nx (bE ns n c w o5 (some (.nd (L'.map Zbs))) o7 o8' o9' oa')∧Dr n B30 L'∧Sy n L':=by
 have wide:(2*B25)≤B30:=by decide
 obtain⟨b,T⟩:∃b,EvT (tO (tV (Zf gEq (Ze 4) (fC (.int 1)))) (tV (Zf gEq (Ze 4) (fC (.int 3))))) (bE ns n c w o5 (some (.nd (L.map Zbs))) o7 o8 o9 oa) b:=by
  have t1:=Za4 (Zg1 (δ:=bE ns n c w o5 (some (.nd (L.map Zbs))) o7 o8 o9 oa) (Za (i:=4) (d:=.int w) rfl) (Zz (d:=.int 1)) rfl)
  have t2:=Za4 (Zg1 (δ:=bE ns n c w o5 (some (.nd (L.map Zbs))) o7 o8 o9 oa) (Za (i:=4) (d:=.int w) rfl) (Zz (d:=.int 3)) rfl)
  cases e:decide (w=1)with
  | true=>rw[e]at t1;exact⟨_,Z5b t1⟩
  | false=>rw[e]at t1;exact⟨_,Z35 t1 t2⟩
 cases b with
 | false=>exact⟨L,_,_,_,Z9 T rfl,D.wide wide,sy⟩
 | true=>
  obtain⟨v1,T1⟩:=Zeh c 41
  obtain⟨v2,T2⟩:=Zeh c 42
  obtain⟨v3,T3⟩:=Zeh c 43
  obtain⟨i,ei,li⟩:=Zel v1 (n:=n) n1
  obtain⟨j,ej,lj⟩:=Zel v2 (n:=n) n1
  obtain⟨d,eb,hd⟩:=ix3 (x:=.int 1) (y:=.int (2*w)) (z:=.int 1000000000000000000000) (v:=v3.fmod 3) (Ju (by decide)) (Jy (by decide))
  obtain⟨b,rfl,b0,b1⟩:∃b:Int,d= .int b∧0≤b∧b≤1000000000000000000000:=by
   rcases hd with h|h|h<;>exact⟨_,h,by omega,by omega⟩
  have n0:(n:Int)≠0:=by omega
  have s1:∀{S:FS} {R:RS},S (bE ns n c w o5 (some (.nd (L.map Zbs))) o7 (some (.fz (.int i))) (some (.fz (.int j))) (some (.fz (.int b))))=R->Z1 _ (Z1 _ (Z1 _ S)) (bE ns n c w o5 (some (.nd (L.map Zbs))) o7 o8 o9 oa)=R:=λh=>
   Yl (δ':=bE ns n c w o5 (some (.nd (L.map Zbs))) o7 (some (.fz (.int i))) o9 oa) ((Zv (d:=.int i) ((Wa (Zk (Zb (Za (i:=3) rfl) (Zb (Zz (d:=.int 41)) Zg)) T1) (Za (i:=2) rfl) n0).cast (congrArg Xk ei)) (i:=8)).trans rfl)<|
   Yl (δ':=bE ns n c w o5 (some (.nd (L.map Zbs))) o7 (some (.fz (.int i))) (some (.fz (.int j))) oa) ((Zv (d:=.int j) ((Wa (Zk (Zb (Za (i:=3) rfl) (Zb (Zz (d:=.int 42)) Zg)) T2) (Za (i:=2) rfl) n0).cast (congrArg Xk ej)) (i:=9)).trans rfl)<|
   Yl (δ':=bE ns n c w o5 (some (.nd (L.map Zbs))) o7 (some (.fz (.int i))) (some (.fz (.int j))) (some (.fz (.int b)))) ((Zv (d:=.int b) (W7 (Zce (Zb (Zz (d:=.int 1)) (Zb (Zbf (Zz (d:=.int 2)) (Za (i:=4) rfl) (by decide)) (Zb (Zq (Zz (d:=.int 10)) (Zz (d:=.int 21)) Ydm) Zg))) (show 3≤1000 by decide)) (Wa (Zk (Zb (Za (i:=3) rfl) (Zb (Zz (d:=.int 43)) Zg)) T3) (Zz (d:=.int 3)) (by decide)) eb) (i:=10)).trans rfl) h
  by_cases ne:i=j
  ·exact⟨L,_,_,_,Jt T (s1 (Z9 (Za4 (Zq7 (Za (i:=8) (d:=.int i) rfl) (Za (i:=9) (d:=.int j) rfl) (by rw[decide_eq_true (congrArg Nat.cast ne)];rfl))) rfl)),D.wide wide,sy⟩
  ·obtain⟨v,hv⟩:∃v:Int,v=if fnL L i j+(2-w)*b>0 then fnL L i j+(2-w)*b else 0:=⟨_,rfl⟩
   have D':=D.wide wide
   obtain⟨r,r1,r2,_⟩:=Znk D li lj
   have fb:=(D.2 r (Qi r1)).2 _ (Qi r2)
   have mb:(2-w)*b≤2*1000000000000000000000:=Be (VH (show 2-w≤2 by omega) b0) (Bx b1 (by decide))
   have v0:0≤v:=by rw[hv];split<;>omega
   have v1':v<B30:=by
    have:(2*B25)+2*1000000000000000000000<B30:=by decide
    have:0<B30:=by decide
    rw[hv];split<;>omega
   obtain⟨D2,sy2,fv⟩:=Sy.two D' sy v0 v1' li lj ne
   have D1:=D'.put v0 v1' i j
   refine⟨_,_,_,_,Jt T (s1 (Jt (Za4 (Zq7 (Za (i:=8) (d:=.int i) rfl) (Za (i:=9) (d:=.int j) rfl) (by rw[decide_eq_false (show¬(i:Int)=j from λz=>ne (Int.ofNat.inj z))];rfl))) (Yl (δ':=bE ns n c w o5 (some (.nd ((L.set i ((L.getD i []).set j v)).map Zbs))) o7 (some (.fz (.int i))) (some (.fz (.int j))) (some (.fz (.int b)))) ((Zgy (L:=L) (a:=i) (b:=j) (d:=v) ?_ rfl (Za rfl) (by rw[D.1];exact li) (Za rfl) (by rw[D.len li];exact lj)).trans rfl) ((Zgy (L:=L.set i ((L.getD i []).set j v)) (a:=j) (b:=i) (d:=v) (Z0f ((Zq5 D1 rfl (Za rfl) li (Za rfl) lj).cast (by rw[fv])) (by rw[Zbh])) rfl (Za rfl) (by rw[D1.1];exact lj) (Za rfl) (by rw[D1.len lj];exact li)).trans rfl)))),D2,sy2⟩
   rw[hv]
   exact Zax (Zb Zz (Zb (Ys (Zq5 D rfl (Za rfl) li (Za rfl) lj) (Zq (Ziu Zz (Za rfl)) (Za rfl) (Zdh (Zyo (by omega))))) Zg)) (Z69 _ _)
theorem Zw8(ns:List Int){n:Nat}(h3:1≤n)(hn:n≤10)(c:Int):∃d,Told W6 [Zj ns,.int 3,.int n,.int c] d∧GoodR n d:=by
 obtain⟨w,hw⟩:∃w,w=(c.fdiv 12).fmod 5:=⟨_,rfl⟩
 have w0:0≤w:=hw▸Ju (by decide)
 have w5:w<5:=hw▸Jy (by decide)
 have s1:wE (Zf Zcb (Zf Jp (Ze 3) (fC (.int 12))) (fC (.int 5))) (Yw 4) (Zfy 11 [Zj ns,.int 3,.int n,.int c])= .nx (bE ns n c w none none none none none none):=(Zv (d:=.int w) (hw▸Wa (Zaa Za Zz) Zz (by decide))).trans rfl
 by_cases w4:w=4
 ·obtain⟨d,e,hd⟩:=ix4 (x:=.int 2) (y:=.int 3) (z:=.int 5) (w:=.int B20) (v:=(c.fdiv 60).fmod 4) (Ju (by decide)) (Jy (by decide))
  obtain⟨b,rfl,b0,b1⟩:∃b:Int,d= .int b∧0<b∧b≤B20:=by
   unfold B20 at hd⊢
   rcases hd with h|h|h|h<;>exact⟨_,h,by decide,by decide⟩
  obtain⟨L,T,D,sy⟩:=Zuw ns n hn b0 c
  exact Zka rfl<|Wl s1<|Znp (Zqw (Za4 (Zg1 (Za rfl) Zz (decide_eq_true w4))) (Zkn (Zk (Zb (Za rfl) (Zb (Za rfl) (Zb (Za rfl) (Zb (W7 (Zce (Zb Zz (Zb Zz (Zb Zz (Zb (Zq Zz Zz Ybz) Zg)))) (show 4≤1000 by decide)) (Wa (Zaa (Za rfl) Zz) Zz (by decide)) e) (Zb (Za rfl) Zg))))) T) ⟨L,rfl,D.wide (Be b1 (by decide)),sy⟩))
 obtain⟨Ls,vs,L,T1,T2,e1,D1,sy1⟩:=Zle ns h3 hn c (c.fdiv 60) 3
 have len:∀{δ:Zi} {Ls:List (List Int)},δ[5]? =some (some (.fz (.list (Ls.map Zj))))->EvV (Zaf Za3 (Zc (Ze 5) Zn)) δ (.int Ls.length):=λh=>(Zf0 (Za h)).cast (by rw[Xc])
 refine Zka rfl<|Wl s1<|Wl (Z9 (Za4 (Zg1 (Za rfl) Zz (decide_eq_false w4))) rfl)<|Wl (Zv (Zk (Zb (Zaa (Za rfl) Zz) (Zb (Za rfl) Zg)) T1))<|
  Wl (δ':=bE ns n c w (some (.fz (.list (Ls.map Zj)))) (some (.nd (L.map Zbs))) none none none none) ((Zd9 (Yae (Zb (Za rfl) (Zb (Za rfl) (Zb (Zk (Zb (Za rfl) (Zb (Za rfl) (Zb (len rfl) (Zb (Za rfl) Zg)))) T2) Zg))) e1)).trans rfl) ?_
 obtain⟨L2,o5,o7,D2,sy2,s2⟩:∃L2 o5 o7,Dr n (2*B25) L2∧Sy n L2∧(Zad (tV (Zf gEq (Ze 4) (fC (.int 2))))
  (Z1 (wE (Zt Z6 (Zc (Zt Zw (Zc (Ze 3) (Zc (fC (.int 40)) Zn))) (Zc (Ze 2) Zn))) (Yw 5))
  (Z1 (wE (Zt Y6 (Zc (Ze 2) (Zc (Ze 5) (Zc (Zt Yk (Zc (Ze 0) (Zc (Zf Zaj (Ze 1) (fC (.int 9))) (Zc (Zaf Za3 (Zc (Ze 5) Zn)) (Zc (Ze 3) Zn))))) Zn)))) (Yw 7))
  (Zd5 6 (wE (Yv 2 [] (Zfm (Zc (Ze 6) (Zc (Ze 7) Zn))) (gTp 2 (gCn (gNm 0) (gCn (gNm 1) gNl))) Zd0 (Yv 2 [] (Zfm (Zc (Ze 0) (Zc (Ze 1) Zn))) (gTp 2 (gCn (gNm 0) (gCn (gNm 1) gNl))) Zd0 (Zf Zaj (Ze 0) (Ze 1)))) (J8 6)))))
  fNx) (bE ns n c w (some (.fz (.list (Ls.map Zj)))) (some (.nd (L.map Zbs))) none none none none)= .nx (bE ns n c w o5 (some (.nd (L2.map Zbs))) o7 none none none):=by
  by_cases w2:w=2
  ·obtain⟨x,Tx⟩:=Zeh c 40
   obtain⟨Ms,us,M,U1,U2,e2,E1,ty⟩:=Zle ns h3 hn c x 12
   refine⟨Ztw L M,some (.fz (.list (Ms.map Zj))),some (.fz (.list (M.map Zj))),(D1.sum E1).wide (Int.le_of_eq (by omega)),sy1.sum D1 E1 ty,Jt (Za4 (Zg1 (Za rfl) Zz (decide_eq_true w2)))<|Yl (Zv (Zk (Zb (Zk (Zb (Za rfl) (Zb Zz Zg)) Tx) (Zb (Za rfl) Zg)) U1))<|Yl (Zv (d:=.list (M.map Zj)) (Zk (Zb (Za rfl) (Zb (Za rfl) (Zb (Zk (Zb (Za rfl) (Zb ((Ys (Za rfl) Zz).cast (show Xk (3+9)=_ from rfl)) (Zb (len rfl) (Zb (Za rfl) Zg)))) U2) Zg))) ⟨_,e2,Znv M⟩))<|Zke (o:=.nd (L.map Zbs)) rfl ?_⟩
   rw[Znv]
   exact(Zd9 (Z41 hn D1 E1 (i:=6) (j:=7) rfl rfl rfl)).trans rfl
  ·exact⟨L,_,_,D1.wide (by decide),sy1,Z9 (Za4 (Zg1 (Za rfl) Zz (decide_eq_false w2))) rfl⟩
 obtain⟨L3,o8,o9,oa,s3,D3,sy3⟩:=Z5j (ns:=ns) (c:=c) (o5:=o5) (o7:=o7) (o8:=none) (o9:=none) (oa:=none) (by omega:1≤n) w0 w5 D2 sy2
 exact Wl s2<|Wl s3<|Z3d rfl ⟨L3,rfl,D3,sy3⟩
structure Tb(n:Nat)(R:Nat->Nat->Int):Prop where
 sy:∀i j,i<n->j<n->R i j=R j i
 dg:∀i,i<n->R i i=0
 nn:∀i j,i<n->j<n->0≤R i j
noncomputable def Gf(n:Nat)(R:Nat->Nat->Int):Prop:=∀i j k l,i<n->j<n->k<n->l<n->al3 (R i j+R k l) (R i k+R j l) (R i l+R j k)=false
theorem Zoz{x y z:Int}:al3 x y z=false↔¬(x<z∧y<z)∧¬(x<y∧z<y)∧¬(y<x∧z<x):=by
 rw[Vu,Ne,Zmp]
 omega
theorem Zt2{n:Nat}{R:Nat->Nat->Int}(T:Tb n R):Zcn n R=none↔Gf n R:=by
 constructor
 ·intro h
  have hs:sc3 n (shI R) tpI=none:=by
   cases q:sc3 n (shI R) tpI with
   | none=>rfl
   | some d=>unfold Zcn at h;rw[q]at h;cases h
  have hb:Zwn n R=none:=by unfold Zcn at h;rwa[hs]at h
  have tr:∀i j k,i<n->j<n->k<n->R i k≤R i j+R j k:=by
   rcases Zw2 (n:=n) (c:=shI R) (v:=tpI)with z|⟨_,i,j,k,z⟩
   ·intro i j k hi hj hk
    have:=of_decide_eq_false (z.1 i j k hi hj hk)
    omega
   ·rw[hs]at z;cases z
  have fr:∀i j k l,i<j->j<k->k<l->l<n->al3 (R i j+R k l) (R i k+R j l) (R i l+R j k)=false:=λi j k l h1 h2 h3 h4=>by
   have m:=rs4 h1 h2 h3 h4
   have:=Vg.mp hb _ m
   cases e:alS R [i,j,k,l]with
   | false=>exact e
   | true=>rw[if_pos e]at this;cases this
  intro i j k l hi hj hk hl
  have s1:=T.sy i j hi hj
  have s2:=T.sy k l hk hl
  have s3:=T.sy i k hi hk
  have s4:=T.sy j l hj hl
  have s5:=T.sy i l hi hl
  have s6:=T.sy j k hj hk
  rw[Zoz]
  -- two of the four alike
  by_cases e1:i=j
  ·subst e1;have:=T.dg i hi;have:=tr k i l hk hi hl;omega
  by_cases e2:i=k
  ·subst e2;have:=T.dg i hi;have:=tr j i l hj hi hl;omega
  by_cases e3:i=l
  ·subst e3;have:=T.dg i hi;have:=tr j i k hj hi hk;omega
  by_cases e4:j=k
  ·subst e4;have:=T.dg j hj;have:=tr i j l hi hj hl;omega
  by_cases e5:j=l
  ·subst e5;have:=T.dg j hj;have:=tr i j k hi hj hk;omega
  by_cases e6:k=l
  ·subst e6;have:=T.dg k hk;have:=tr i k j hi hk hj;omega
  -- in any order
  have key:∀a b c d,a<b->b<c->c<d->d<n->¬(R a b+R c d<R a d+R b c∧R a c+R b d<R a d+R b c)∧¬(R a b+R c d<R a c+R b d∧R a d+R b c<R a c+R b d)∧¬(R a c+R b d<R a b+R c d∧R a d+R b c<R a b+R c d):=λa b c d h1 h2 h3 h4=>Zoz.mp (fr a b c d h1 h2 h3 h4)
  have pick:∀a b c d,a<b->b<c->c<d->d<n->¬(R a b+R c d<R a d+R b c∧R a c+R b d<R a d+R b c)∧¬(R a b+R c d<R a c+R b d∧R a d+R b c<R a c+R b d)∧¬(R a c+R b d<R a b+R c d∧R a d+R b c<R a b+R c d):=key
  rcases BP e1 with q1|q1<;>rcases BP e6 with q6|q6<;>rcases BP e2 with q2|q2<;>rcases BP e3 with q3|q3<;>rcases BP e4 with q4|q4<;>rcases BP e5 with q5|q5<;>first
   | omega
   | (have:=key i j k l (by omega) (by omega) (by omega) (by omega);omega)
   | (have:=key i j l k (by omega) (by omega) (by omega) (by omega);omega)
   | (have:=key i k j l (by omega) (by omega) (by omega) (by omega);omega)
   | (have:=key i k l j (by omega) (by omega) (by omega) (by omega);omega)
   | (have:=key i l j k (by omega) (by omega) (by omega) (by omega);omega)
   | (have:=key i l k j (by omega) (by omega) (by omega) (by omega);omega)
   | (have:=key j i k l (by omega) (by omega) (by omega) (by omega);omega)
   | (have:=key j i l k (by omega) (by omega) (by omega) (by omega);omega)
   | (have:=key j k i l (by omega) (by omega) (by omega) (by omega);omega)
   | (have:=key j k l i (by omega) (by omega) (by omega) (by omega);omega)
   | (have:=key j l i k (by omega) (by omega) (by omega) (by omega);omega)
   | (have:=key j l k i (by omega) (by omega) (by omega) (by omega);omega)
   | (have:=key k i j l (by omega) (by omega) (by omega) (by omega);omega)
   | (have:=key k i l j (by omega) (by omega) (by omega) (by omega);omega)
   | (have:=key k j i l (by omega) (by omega) (by omega) (by omega);omega)
   | (have:=key k j l i (by omega) (by omega) (by omega) (by omega);omega)
   | (have:=key k l i j (by omega) (by omega) (by omega) (by omega);omega)
   | (have:=key k l j i (by omega) (by omega) (by omega) (by omega);omega)
   | (have:=key l i j k (by omega) (by omega) (by omega) (by omega);omega)
   | (have:=key l i k j (by omega) (by omega) (by omega) (by omega);omega)
   | (have:=key l j i k (by omega) (by omega) (by omega) (by omega);omega)
   | (have:=key l j k i (by omega) (by omega) (by omega) (by omega);omega)
   | (have:=key l k i j (by omega) (by omega) (by omega) (by omega);omega)
   | (have:=key l k j i (by omega) (by omega) (by omega) (by omega);omega)
 ·intro h
  have h1:sc3 n (shI R) tpI=none:=by
   cases q:sc3 n (shI R) tpI with
   | none=>rfl
   | some d=>
    obtain⟨i,j,k,_,hi,hj,hk,c⟩:=Zn4 q
    have:=of_decide_eq_true c
    have:=Zoz.mp (h j j i k hj hj hi hk)
    have:=T.dg j hj
    have:=T.sy i j hi hj
    have:=T.nn j k hj hk
    omega
  have h2:Zwn n R=none:=by
   cases q:Zwn n R with
   | none=>rfl
   | some d=>
    obtain⟨p,_,hp,c⟩:=Zm4 q
    obtain⟨l4,_,lt,_⟩:=Zpf hp
    match p,l4 with
    | [i,j,k,l],_=>
     have:=h i j k l (lt i (.head _)) (lt j (.tail _ (.head _))) (lt k (.tail _ (.tail _ (.head _)))) (lt l (.tail _ (.tail _ (.tail _ (.head _)))))
     have c:al3 _ _ _=true:=c
     rw[this]at c;cases c
  unfold Zcn
  rw[h1]
  exact h2
noncomputable def sb(R:Nat->Nat->Int)(ps:List Nat):Nat->Nat->Int:=λi j=>R (ps.getD i 0) (ps.getD j 0)
section
variable {n:Nat}{R:Nat->Nat->Int}{p:List Nat}
theorem Zg9(hb:∀x∈p,x<n){i:Nat}(hi:i<p.length):p.getD i 0<n:=by
 rw[Xe,Xi hi]
 exact hb _ (QQ hi)
theorem Tb.sub(T:Tb n R)(hb:∀x∈p,x<n):Tb p.length (sb R p):=⟨λi j hi hj=>T.sy _ _ (Zg9 hb hi) (Zg9 hb hj),λi hi=>T.dg _ (Zg9 hb hi),λi j hi hj=>T.nn _ _ (Zg9 hb hi) (Zg9 hb hj)⟩
theorem Gf.sub(h:Gf n R)(hb:∀x∈p,x<n):Gf p.length (sb R p):=λi j k l hi hj hk hl=>h _ _ _ _ (Zg9 hb hi) (Zg9 hb hj) (Zg9 hb hk) (Zg9 hb hl)
theorem Gf.of{ps:List (List Nat)}(cov:∀i j k l,i<n->j<n->k<n->l<n->∃p∈ps,i∈p∧j∈p∧k∈p∧l∈p)(h:∀p∈ps,Gf p.length (sb R p)):Gf n R:=λi j k l hi hj hk hl=>by
 obtain⟨p,hp,mi,mj,mk,ml⟩:=cov i j k l hi hj hk hl
 have ix:∀{x:Nat},x∈p->∃a,a<p.length∧p.getD a 0=x:=λm=>by
  obtain⟨a,ha,e⟩:=Vl m
  exact⟨a,ha,by rw[Xe,Xi ha];exact e⟩
 obtain⟨a,ha,rfl⟩:=ix mi
 obtain⟨b,hb,rfl⟩:=ix mj
 obtain⟨c,hc,rfl⟩:=ix mk
 obtain⟨d,hd,rfl⟩:=ix ml
 exact h p hp a b c d ha hb hc hd
theorem Gf.scaled{k:Int}(hk:0<k):Gf n (λi j=>k*R i j)↔Gf n R:=by
 unfold Gf
 have e:∀i j a b,al3 (k*R i j+k*R a b) (k*R i a+k*R j b) (k*R i b+k*R j a)=al3 (R i j+R a b) (R i a+R j b) (R i b+R j a):=λi j a b=>by rw[←By,←By,←By,Zik hk]
 simp only[e]
theorem Zko{k:Int}(hk:0<k):Zcn n (λi j=>k*R i j)=Zcn n R:=by
 have e1:shI (λi j=>k*R i j)=shI R:=by
  funext i j l
  unfold shI
  exact decide_eq_decide.mpr (by rw[←By];exact Zll hk)
 unfold Zcn
 rw[e1,←Zhi (n:=n) (R:=λi j=>k*R i j) (S:=R) hk λ_ _ _ _=>rfl]
end
theorem Zuo{n:Nat}{R:Nat->Nat->Int}(T:Tb n R){d:Xa}(h:Zcn n R=some d):∃p:List Nat,d=tpN p∧1≤p.length∧p.length≤4∧p.Nodup∧(∀x∈p,x<n)∧¬Gf p.length (sb R p):=by
 unfold Zcn at h
 cases q:sc3 n (shI R) tpI with
 | some e=>
  rw[q]at h
  cases h
  obtain⟨i,j,k,rfl,hi,hj,hk,c⟩:=Zn4 q
  have c:=of_decide_eq_true c
  have d1:=T.dg i hi
  have d2:=T.dg j hj
  have n1:=T.nn i j hi hj
  have n2:=T.nn j k hj hk
  have n3:=T.sy i j hi hj
  have ij:i≠j:=λe=>by subst e;omega
  have jk:j≠k:=λe=>by subst e;omega
  have ik:i≠k:=λe=>by subst e;omega
  refine⟨[i,j,k],rfl,(by decide:1≤3),(by decide:3≤4),by simp[ij,jk,ik],λx hx=>?_,λg=>?_⟩
  ·simp at hx
   rcases hx with rfl|rfl|rfl<;>assumption
  ·have:=Zoz.mp (g 1 1 0 2 (by decide:1<3) (by decide:1<3) (by decide:0<3) (by decide:2<3))
   have e:∀a b,sb R [i,j,k] a b=R ([i,j,k].getD a 0) ([i,j,k].getD b 0):=λ_ _=>rfl
   simp only[e,List.getD_cons_zero,List.getD_cons_succ]at this
   omega
 | none=>
  rw[q]at h
  obtain⟨p,rfl,hp,c⟩:=Zm4 h
  obtain⟨l4,up,lt,_⟩:=Zpf hp
  refine⟨p,rfl,by omega,by omega,up.imp λz=>Xy z,lt,λg=>?_⟩
  match p,l4 with
  | [i,j,k,l],_=>
   have:=g 0 1 2 3 (by decide:0<4) (by decide:1<4) (by decide:2<4) (by decide:3<4)
   have c:al3 _ _ _=true:=c
   have e:al3 (R i j+R k l) (R i k+R j l) (R i l+R j k)=false:=this
   rw[e]at c;cases c
noncomputable def lsN(l:List Nat):Xa:=.list (l.map λx:Nat=>.int (x:Int))
theorem Zns(p:List Nat):Za3 [lsN p]=some (.int (p.length:Nat)):=by unfold lsN;rw[Zlc,Xc]
theorem Zpk{f g:Int->Int->Bool}{a b c:FE}{δ:Zi}{i j k:Int}(ha:EvV a δ (.int i))(hb:EvV b δ (.int j))(hc:EvV c δ (.int k))(h:f i j=true)(hg:g j k=true):EvV (Zl1 f g a b c) δ (.bool true):=by
 obtain⟨_,a1,a2⟩:=ha
 obtain⟨_,b1,b2⟩:=hb
 obtain⟨_,c1,c2⟩:=hc
 refine⟨.fz (.bool (g j k)),?_,by rw[hg];exact OT.data_fz _⟩
 unfold Zl1
 rw[a1,Xf,b1,Xf]
 dsimp only
 rw[a2,b2]
 dsimp only
 rw[if_pos h,c1,Xf,c2]
theorem Zze{n i:Nat}{f:Nat->Nat->Xa}{δ:Zi}(h:δ[i]? =some (some (.fz (Zdq n f)))):EvV (Zaf Za3 (Zc (Ze i) Zn)) δ (.int n):=by
 have:=Zf0 (δ:=δ) (e:=Ze i) (ds:=(Xj n).map λi=>.list ((Xj n).map λj=>f i j)) (Za h)
 rwa[Xc,Xz]at this
theorem Zqn{δ:Zi}{i:Nat}{p:List Nat}(h:δ[i]? =some (some (.fz (lsN p))))(hp:p.Nodup)(hl:p.length≤1000):EvV (Zjr (Zc (Ze i) Zn)) δ (.int (p.length:Nat)):=by
 obtain⟨_,e1,d1⟩:=Zb (Za h) Zg
 have em:p.map (λx:Nat=>Xk (x:Int))=(p.map λx:Nat=>(x:Int)).map Xk:=by rw[XJ];rfl
 refine⟨.fz (.int (Zub (p.map λx:Nat=>(x:Int)))),?_,by
  rw[Zpo ?_,Xc,OT.data_fz]
  rw[QC,List.pairwise_map]
  exact hp.imp λz e=>z (Int.ofNat.inj e)⟩
 unfold Zjr
 rw[e1,Xf]
 dsimp only
 rw[d1]
 unfold lsN
 rw[em]
 show(Zew _).bind _=_
 rw[Zay,Xf,if_pos (by rw[Xc];omega)]
theorem map_getD{α:Type}(p:List Nat)(f:Nat->α):p.map f=(Xj p.length).map λi=>f (p.getD i 0):=by
 refine List.ext_getElem (by rw[Xc,Xc,Xz]) λi h1 h2=>?_
 rw[Xc]at h1
 rw[List.getElem_map,List.getElem_map,List.getElem_range,Xe,Xi h1];rfl
section
variable {n:Nat}{f:Nat->Nat->Xa}{p:List Nat}
theorem Zpa(h1:0<p.length)(hp:p.Nodup)(hb:∀x∈p,x<n)(hl:p.length≤1000):Told Zbi [Zdq n f,lsN p] (.bool true):=by
 refine Zx rfl<|Zha (ds:=p.map λx:Nat=>.int (x:Int)) (λk δ=>∃z,δ=[some (.fz (Zdq n f)),some (.fz (lsN p)),z]) (W3 Za) ⟨none,rfl⟩ (λk d δ hd q=>?_) λδ' q=>?_
 ·obtain⟨z,rfl⟩:=q
  rw[Xn]at hd
  obtain⟨x,hx,rfl⟩:=JZ.mp hd
  have hx:=hb x (Qi hx)
  have e:Told Zan [Zdq n f,.int x] (.bool true):=Zx rfl<|Yd (Zpk Zz Za (Zze rfl) (decide_eq_true (by omega)) (decide_eq_true (by omega)))
  exact⟨_,_,rfl,.inl (Z9 (Zrz (Zh1 (Zk (Zb Za (Zb Za Zg)) e))) rfl),_,rfl⟩
 ·obtain⟨z,rfl⟩:=q
  exact Yd (Zev (Zpb (Zax (Zb Za Zg) (Zns p)) Zz (decide_eq_true (by omega))) (Zg1 (Zqn rfl hp hl) (Zax (Zb Za Zg) (Zns p)) (decide_eq_true rfl)))
theorem Zqi(h1:0<p.length)(hp:p.Nodup)(hb:∀x∈p,x<n)(hl:p.length≤1000):Told Yx [Zdq n f,lsN p] (Zdq p.length λi j=>f (p.getD i 0) (p.getD j 0)):=by
 refine Zx rfl<|Zy (Z9 (Zrz (Zh1 (Zk (Zb Za (Zb Za Zg)) (Zpa h1 hp hb hl)))) rfl) (Zy Zf5 ?_)
 refine Zha (ds:=p.map λx:Nat=>.int (x:Int)) (λk δ=>∃z,δ=[some (.fz (Zdq n f)),some (.fz (lsN p)),some (.nd (((p.take k).map λa=>Qk (p.map λb=>f a b)).map OT.fz)),z]) (W3 Za) ⟨none,rfl⟩ (λk d δ hd q=>?_) λδ' q=>?_
 ·obtain⟨z,rfl⟩:=q
  rw[Xn]at hd
  obtain⟨a,ha,rfl⟩:=JZ.mp hd
  have am:=hb a (Qi ha)
  refine⟨_,_,rfl,.inl (Zgr (d:=.list (p.map λb=>f a b)) (Zb9 (cs:=[some (.fz (Zdq n f)),some (.fz (.int a))]) p (λx:Nat=>Xk (x:Int)) _ (W3 Za) (by omega) rfl λb hm=>Zur (i0:=1) (i9:=2) (i10:=0) am (hb b hm) rfl rfl rfl) rfl (by rw[Xc,Xc,U3];omega)),some (.fz (.int a)),?_⟩
  have tk:p.take (k+1)=p.take k ++ [a]:=by rw[List.take_succ,ha];rfl
  rw[tk,Qh,Qh];rfl
 ·obtain⟨z,rfl⟩:=q
  refine Z2x rfl ?_
  rw[Xc,UV,OT.data_nd,OT.map_fz,map_getD]
  unfold Zdq
  exact congrArg Qk (XH λi _=>congrArg Qk (map_getD p _))
end
theorem Zwr{n:Nat}{R:Nat->Nat->Int}{b:Int}{p:List Nat}(h1:0<p.length)(hp:p.Nodup)(hb:∀x∈p,x<n)(hl:p.length≤1000):Told Yx [tbD (Za5 n R b),lsN p] (tbD (Za5 p.length (sb R p) b)):=by
 rw[Zmy,Zmy]
 exact Zqi h1 hp hb hl
theorem Lst.uniq{R:Nat->Nat->Int}{A B:List Int}{m k:Int}(h:Lst R A B m)(h':Lst R A B k):m=k:=by
 obtain⟨⟨p,hp,q,hq,e⟩,l⟩:=h
 obtain⟨⟨p',hp',q',hq',e'⟩,l'⟩:=h'
 have:=l p' hp' q' hq'
 have:=l' p hp q hq
 omega
open Classical in
noncomputable def wtC(n:Nat)(R:Nat->Nat->Int)(A:List Int):Int:=if h:∃m,Lst R A (away n A) m then max 0 h.choose else 0
theorem Zn1{n:Nat}{R:Nat->Nat->Int}{A:List Int}{m:Int}(h:Lst R A (away n A) m):max 0 m=wtC n R A:=by
 have e:∃m,Lst R A (away n A) m:=⟨m,h⟩
 unfold wtC
 rw[dif_pos e,h.uniq e.choose_spec]
structure Bd(n:Nat)(R:Nat->Nat->Int):Prop where
 tb:Tb n R
 bt:∀i j,i<n->j<n->Bt 300 (R i j)
theorem Bd.sub{n:Nat}{R:Nat->Nat->Int}(h:Bd n R){p:List Nat}(hb:∀x∈p,x<n):Bd p.length (sb R p):=⟨h.tb.sub hb,λi j hi hj=>h.bt _ _ (Zg9 hb hi) (Zg9 hb hj)⟩
theorem Zx0{n:Nat}{R:Nat->Nat->Int}{b:Int}(h1:1≤n)(hn:n≤6)(B:Bd n R)(hb:0<b)(bb:Bt 300 b)(g:Gf n R):∃Ls:List (List Int),(∀R' b',Bd n R'->0<b'->Bt 300 b'->Gf n R'->Told Zo [tbD (Za5 n R' b')] (.tuple [.str "tree",Zom (wtL Ls (wtC n R') b')]))∧(∀s∈Ls,Zxz n s)∧Ls.length<64:=by
 obtain⟨Cs,eC,mC,_,lC⟩:=Zmr (n:=n) h1 hn
 exact⟨Cs,λR' b' B' hb' bb' g'=>Zq0 (by omega) hb' bb' B'.bt eC (λs hs=>(mC s).mp hs) (by omega) (λA _ m hm=>Zn1 hm) ((Zt2 B'.tb).mpr g'),λs hs=>(mC s).mp hs,lC⟩
theorem Z1x{n:Nat}{R:Nat->Nat->Int}{b:Int}(h1:1≤n)(hn:n≤6)(B:Bd n R)(hb:0<b)(bb:Bt 300 b):(Gf n R∧∃d,Told Zo [tbD (Za5 n R b)] (.tuple [.str "tree",d]))∨(¬Gf n R∧∃d,Told Zo [tbD (Za5 n R b)] (.tuple [.str "bars",d])):=by
 by_cases g:Gf n R
 ·obtain⟨Ls,h,_⟩:=Zx0 h1 hn B hb bb g
  exact .inl ⟨g,_,h R b B hb bb g⟩
 ·cases q:Zcn n R with
  | none=>exact absurd ((Zt2 B.tb).mp q) g
  | some d=>exact .inr ⟨g,d,Zhq (by omega) hb bb B.bt q⟩
theorem Zj6{α β:Type}{g:FG}{u:FS}{mk:α->Xa}{w N:Nat}(E:List β->Zi->Prop)(f:α->List β)(xs:List α)(turn:∀x∈xs,∀acc δ,acc.length+w≤N->E acc δ->∃δ1 δ2,g (mk x) δ=some δ1∧u δ1= .nx δ2∧E (acc ++ f x) δ2)(hf:∀x∈xs,(f x).length≤w) :
  ∀acc δ,acc.length+xs.length*w≤N->E acc δ->∃δ',forLoop g u (xs.map mk) δ= .nx δ'∧E (acc ++ xs.flatMap f) δ':=by
 induction xs with
 | nil=>exact λacc δ _ h=>⟨δ,rfl,by rw[List.flatMap_nil,QL];exact h⟩
 | cons x xs ih=>
  intro acc δ hN h
  rw[Bg,Nat.succ_mul]at hN
  obtain⟨δ1,δ2,e1,e2,h2⟩:=turn x (.head _) acc δ (by omega) h
  have:=hf x (.head _)
  obtain⟨δ',e3,h3⟩:=ih (λy hy=>turn y (.tail _ hy)) (λy hy=>hf y (.tail _ hy)) (acc ++ f x) δ2 (by rw[XX];omega) h2
  refine⟨δ',?_,by rw[List.flatMap_cons,←JV];exact h3⟩
  rw[Qe,forLoop,e1]
  dsimp only
  rw[e2]
  exact e3
noncomputable def q1(i j k:Nat):List (List Nat):=(Xj k).map λl=>[l,k,j,i]
noncomputable def q2(i j:Nat):List (List Nat):=(Xj j).flatMap (q1 i j)
noncomputable def q3(i:Nat):List (List Nat):=(Xj i).flatMap (q2 i)
noncomputable def q4(n:Nat):List (List Nat):=(Xj n).flatMap q3
theorem Zu5:(∀i<6,∀j<6,∀k<6,(q1 i j k).length≤10)∧(∀i<6,∀j<6,(q2 i j).length≤100)∧(∀i<6,(q3 i).length≤1000)∧∀n<7,(q4 n).length≤1000:=by decide +kernel
theorem Z84:∀n<7,∀p∈q4 n,p.length=4∧p.Nodup∧∀x∈p,x<n:=by decide +kernel
noncomputable def q4c(n:Nat):Bool:=(Xj n).all λi=>(Xj n).all λj=>(Xj n).all λk=>(Xj n).all λl=>(q4 n).any λp=>decide (i∈p)&&decide (j∈p)&&decide (k∈p)&&decide (l∈p)
theorem Z5k:∀n<7,4≤n->q4c n=true:=by decide +kernel
theorem Z60(n:Nat)(h1:n<7)(h2:4≤n)(i:Nat)(hi:i<n)(j:Nat)(hj:j<n)(k:Nat)(hk:k<n)(l:Nat)(hl:l<n):∃p∈q4 n,i∈p∧j∈p∧k∈p∧l∈p:=by
 have h:=Q5.mp (Q5.mp (Q5.mp (Q5.mp (Z5k n h1 h2) i (Xm.mpr hi)) j (Xm.mpr hj)) k (Xm.mpr hk)) l (Xm.mpr hl)
 obtain⟨p,hp,h⟩:=List.any_eq_true.mp h
 rw[XN,XN,XN]at h
 exact⟨p,hp,of_decide_eq_true h.1.1.1,of_decide_eq_true h.1.1.2,of_decide_eq_true h.1.2,of_decide_eq_true h.2⟩
noncomputable def lE(n:Nat)(acc:List (List Nat))(z2 z3 z4:Option OT):Zi:=[some (.fz (.int n)),some (.nd ((acc.map lsN).map OT.fz)),z2,z3,z4]
theorem Zwx{n:Nat}{as:FA}{δ:Zi}(h:EvA as δ [.int n])(hn:n≤10):EvI (iRa as) δ ((Xj n).map mkI):=Z71 h hn
theorem Zwv{n:Nat}(h1:1≤n)(hn:n≤6):∃ps:List (List Nat),Told Zab [.int n] (.list (ps.map lsN))∧ps.length≤1000∧(∀p∈ps,1≤p.length∧p.length≤6∧p.Nodup∧∀x∈p,x<n)∧∀i j k l,i<n->j<n->k<n->l<n->∃p∈ps,i∈p∧j∈p∧k∈p∧l∈p:=by
 by_cases c:n<4
 ·refine⟨[Xj n],Zx rfl (J0 (Zbz (Za4 (Zfc Za Zz (decide_eq_true (by omega)))) (Yd (Zce (Zb ((Z3k (Zb Za Zg) (by omega) (by omega)).cast (y:=lsN (Xj n)) ?_) Zg) (show 1≤1000 by decide))))),(by decide:1≤1000),λp hp=>?_,λi j k l hi hj hk hl=>⟨_,.head _,Xm.mpr hi,Xm.mpr hj,Xm.mpr hk,Xm.mpr hl⟩⟩
  ·unfold Zcg lsN
   exact congrArg Qk (XH λi _=>congrArg Xk (Bc _))
  ·rw[Xq.mp hp,Xz]
   exact⟨h1,hn,List.nodup_range,λx hx=>Xm.mp hx⟩
 ·refine⟨q4 n,?_,Zu5.2.2.2 n (by omega),λp hp=>?_,λi j k l hi hj hk hl=>Z60 n (by omega) (by omega) i hi j hj k hk l hl⟩
  ·have l1:∀i<6,∀j<6,∀k<6,∀acc δ,acc.length+10≤10000->(∃z,δ=lE n acc (some (.fz (mkI i))) (some (.fz (mkI j))) z)->∃δ1 δ2,gNm 4 (mkI k) δ=some δ1∧(Zcw 1 (Yv 1 [4,3,2] (iRa (Zc (Ze 4) Zn)) (gNm 0) Zd0 (Zdn (Zc (Ze 0) (Zc (Ze 1) (Zc (Ze 2) (Zc (Ze 3) Zn))))))) δ1= .nx δ2∧∃z,δ2=lE n (acc ++ q1 i j k) (some (.fz (mkI i))) (some (.fz (mkI j))) z:=λi hi j hj k hk acc δ hN ⟨z,e⟩=>by
    subst e
    obtain⟨rs,e1,d1⟩:=Zmu (caps:=[4,3,2]) (it:=iRa (Zc (Ze 4) Zn)) (me:=Zdn (Zc (Ze 0) (Zc (Ze 1) (Zc (Ze 2) (Zc (Ze 3) Zn))))) (cs:=[some (.fz (mkI k)),some (.fz (mkI j)),some (.fz (mkI i))]) (δ:=lE n acc (some (.fz (mkI i))) (some (.fz (mkI j))) (some (.fz (mkI k)))) (Xj k) mkI (λl=>lsN [l,k,j,i]) (Zwx (Zb (Za rfl) Zg) (by omega)) (by rw[Xz];omega) rfl λl _=>Zce (Zb (Za rfl) (Zb (Za rfl) (Zb (Za rfl) (Zb (Za rfl) Zg)))) (show 4≤1000 by decide)
    refine⟨_,_,rfl,Zkq (ts:=(acc.map lsN).map OT.fz) e1 d1 rfl (by rw[Xc,Xc,Xc,Xz];omega),some (.fz (mkI k)),?_⟩
    unfold lE q1
    rw[Qh,Qh,XJ (f:=λl=>[l,k,j,i])];rfl
   have l2:∀i<6,∀j<6,∀acc δ,acc.length+100≤10000->(∃z y,δ=lE n acc (some (.fz (mkI i))) z y)->∃δ1 δ2,gNm 3 (mkI j) δ=some δ1∧Jq (iRa (Zc (Ze 3) Zn)) (gNm 4) _ δ1= .nx δ2∧∃z y,δ2=lE n (acc ++ q2 i j) (some (.fz (mkI i))) z y:=λi hi j hj acc δ hN ⟨z,y,e⟩=>by
    subst e
    obtain⟨δ',e,z',rfl⟩:=Zj6 (w:=10) (N:=10000) (g:=gNm 4) (mk:=mkI) (λacc δ=>∃z,δ=lE n acc (some (.fz (mkI i))) (some (.fz (mkI j))) z) (q1 i j) (Xj j) (λk hk acc δ hN h=>l1 i hi j hj k (by have:=Xm.mp hk;omega) acc δ hN h) (λk hk=>Zu5.1 i hi j hj k (by have:=Xm.mp hk;omega)) acc (lE n acc (some (.fz (mkI i))) (some (.fz (mkI j))) y) (by rw[Xz];omega) ⟨y,rfl⟩
    exact⟨_,_,rfl,Zdc (Zwx (Zb (Za rfl) Zg) (by omega)) e,_,_,rfl⟩
   have l3:∀i<6,∀acc δ,acc.length+1000≤10000->(∃x z y,δ=lE n acc x z y)->∃δ1 δ2,gNm 2 (mkI i) δ=some δ1∧Jq (iRa (Zc (Ze 2) Zn)) (gNm 3) _ δ1= .nx δ2∧∃x z y,δ2=lE n (acc ++ q3 i) x z y:=λi hi acc δ hN ⟨x,z,y,e⟩=>by
    subst e
    obtain⟨δ',e,z',y',rfl⟩:=Zj6 (w:=100) (N:=10000) (g:=gNm 3) (mk:=mkI) (λacc δ=>∃z y,δ=lE n acc (some (.fz (mkI i))) z y) (q2 i) (Xj i) (λj hj acc δ hN h=>l2 i hi j (by have:=Xm.mp hj;omega) acc δ hN h) (λj hj=>Zu5.2.1 i hi j (by have:=Xm.mp hj;omega)) acc (lE n acc (some (.fz (mkI i))) z y) (by rw[Xz];omega) ⟨z,y,rfl⟩
    exact⟨_,_,rfl,Zdc (Zwx (Zb (Za rfl) Zg) (by omega)) e,_,_,_,rfl⟩
   obtain⟨δ',e,x',z',y',rfl⟩:=Zj6 (w:=1000) (N:=10000) (g:=gNm 2) (mk:=mkI) (λacc δ=>∃x z y,δ=lE n acc x z y) q3 (Xj n) (λi hi acc δ hN h=>l3 i (by have:=Xm.mp hi;omega) acc δ hN h) (λi hi=>Zu5.2.2.1 i (by have:=Xm.mp hi;omega)) [] (lE n [] none none none) (by rw[Xz,List.length_nil];omega) ⟨_,_,_,rfl⟩
   refine Zx rfl<|Zy (Z9 (Za4 (Zfc Za Zz (decide_eq_false (by omega)))) rfl)<|Zy Zf5<|Zy (Zdc (Zwx (Zb Za Zg) (by omega)) e) (Z2x rfl ?_)
   rw[List.nil_append,OT.data_nd,OT.map_fz];rfl
  ·obtain⟨a,b,c⟩:=Z84 n (by omega) p hp
   exact⟨by omega,by omega,b,c⟩
theorem Zv5{n:Nat}(h1:1≤n)(hn:n≤6){δ:Zi}{i:Nat}(h:δ[i]? =some (some (.fz (.int n)))):EvV (Zvv (Z0l (Zc (Ze i) Zn)) oN oN (oI (fUn Zr8 (fC (.int 1))))) δ (lsN (Xj n).reverse):=by
 obtain⟨t,e1,d1⟩:=Z3k (δ:=δ) (as:=Zc (Ze i) Zn) (Zb (Za h) Zg) (by omega) (by omega)
 obtain⟨u,e2,d2⟩:=Zo2 (δ:=δ) (Zz (d:=.int 1))
 have st:stepOf (.list (Zcg 0 n)) none none (some (-1))=some (.nd (((Xj n).reverse.map λx:Nat=>Xk (x:Int)).map OT.fz)):=by
  match n,h1,hn with
  | 1,_,_=>rfl
  | 2,_,_=>rfl
  | 3,_,_=>rfl
  | 4,_,_=>rfl
  | 5,_,_=>rfl
  | 6,_,_=>rfl
 refine⟨.nd (((Xj n).reverse.map λx:Nat=>Xk (x:Int)).map OT.fz),?_,by rw[OT.data_nd,OT.map_fz];rfl⟩
 rw[Zwt,e1,Xf,Z4n,Xf]
 dsimp only
 rw[Z4n,Xf]
 dsimp only
 rw[Z6z,e2,Xf]
 dsimp only
 rw[d2,Zjg,Xf]
 dsimp only
 rw[d1,QH]
 rw[show stepOf (Qk (Zcg 0 n)) none none (some (-1:Int))=_ from st];rfl
theorem Zuh(c:Int):∃b,Told Wt [.int c] (.int b)∧0<b∧Bt 200 b:=by
 obtain⟨d,e,h⟩:=ix4 (x:=.int 1) (y:=.int 2) (z:=.int 6) (w:=.int (1000000000000000+37)) (v:=(c.fdiv 3).fmod 4) (Ju (by decide)) (Jy (by decide))
 have key:∀b:Int,d= .int b->0<b->Bt 200 b->∃b,Told Wt [.int c] (.int b)∧0<b∧Bt 200 b:=λb hd h1 h2=>⟨b,Zx rfl (Yd (hd▸W7 (Zce (Zb Zz (Zb Zz (Zb Zz (Zb (Ys (Zq Zz Zz Yd5) Zz) Zg)))) (show 4≤1000 by decide)) (Wa (Zaa Za Zz) Zz (by decide)) e)),h1,h2⟩
 rcases h with h|h|h|h
 ·exact key _ h (by decide) (btc (by decide +kernel) (by decide +kernel))
 ·exact key _ h (by decide) (btc (by decide +kernel) (by decide +kernel))
 ·exact key _ h (by decide) (btc (by decide +kernel) (by decide +kernel))
 ·exact key _ h (by decide) (btc (by decide +kernel) (by decide +kernel))
theorem Zfv:Vq "tree"=true:=by decide +kernel
theorem Zb7:Vq "bars"=true:=by decide +kernel
theorem Zqm(k:Nat)(L:List (List Int×Rat)):Told (Zr (k+5)) [.tuple [.str "tree",Zom L],.tuple [.str "tree",Zom L]] (.bool true):=Zc6 (ds:=[.str "tree",Zom L]) (.inr rfl) λd m=>by
 rcases Xp.mp m with rfl|m
 ·exact Zsx (k+3) Zfv
 rw[Xq.mp m]
 refine Zc6 (k:=k+3) (ds:=L.map ctD) (.inl rfl) λd m=>?_
 obtain⟨c,_,rfl⟩:=XQ.mp m
 refine Zc6 (k:=k+2) (ds:=[Zj c.1,frD c.2]) (.inr rfl) λd m=>?_
 rcases Xp.mp m with rfl|m
 ·refine Zc6 (k:=k+1) (ds:=c.1.map Xk) (.inl rfl) λd m=>?_
  obtain⟨i,_,rfl⟩:=XQ.mp m
  exact Zhj k i
 ·rw[Xq.mp m];exact Zux k _
open Classical in
noncomputable def wdD(P:Prop):Xa:=.str (if P then"tree"else"bars")
theorem Z1p{P:Prop}(h:P):wdD P= .str "tree" :=by unfold wdD;rw[if_pos h]
theorem Zym{P:Prop}(h:¬P):wdD P= .str "bars" :=by unfold wdD;rw[if_neg h]
theorem Zu1(P:Prop):Sh 0 (wdD P)∧Yr (wdD P)=true:=by
 by_cases h:P
 ·rw[Z1p h];exact⟨Zf7 Zfv,Zaw _⟩
 ·rw[Zym h];exact⟨Zf7 Zb7,Zaw _⟩
theorem Z51(Ps:List Prop):gEq (.list (Ps.map wdD)) (.list (Xv Ps.length (.str "tree")))=some (.bool (QM (.list (Ps.map wdD)) (.list (Xv Ps.length (.str "tree")))))∧(QM (.list (Ps.map wdD)) (.list (Xv Ps.length (.str "tree")))=true↔∀P∈Ps,P):=by
 have s1:Sh 1 (.list (Ps.map wdD)):=Zm6 λd m=>by obtain⟨P,_,rfl⟩:=XQ.mp m;exact(Zu1 P).1
 have s2:Sh 1 (.list (Xv Ps.length (.str "tree"))):=Zm6 λd m=>by rw[Vm m];exact Zf7 Zfv
 have p1:Yr (.list (Ps.map wdD))=true:=Zil λd m=>by obtain⟨P,_,rfl⟩:=XQ.mp m;exact(Zu1 P).2
 have p2:Yr (.list (Xv Ps.length (.str "tree")))=true:=Zil λd m=>by rw[Vm m];exact Zaw _
 refine⟨?_,?_⟩
 ·unfold gEq
  rw[if_pos (by rw[(s1.shp (by decide)).ok,(s2.shp (by decide)).ok];rfl)]
 ·rw[Zi8 _ _ p1 p2]
  clear s1 s2 p1 p2
  constructor
  ·intro h
   injection h with h
   induction Ps with
   | nil=>exact λP m=>nomatch m
   | cons P Ps ih=>
    rw[Qe,Bg,JG]at h
    injection h with h1 h2
    intro Q m
    rcases Xp.mp m with rfl|m
    ·by_cases c:Q
     ·exact c
     ·rw[Zym c]at h1
      injection h1 with h1
      exact absurd h1 (by decide)
    ·exact ih h2 Q m
  ·intro h
   refine congrArg Qk ?_
   induction Ps with
   | nil=>rfl
   | cons P Ps ih=>rw[Qe,Bg,JG,Z1p (h P (.head _)),ih λQ m=>h Q (.tail _ m)]
theorem Z0t{δ:Zi}{i k:Nat}{ds:List Xa}(h:δ[i]? =some (some (.fz (.list ds))))(hl:ds.length=k)(hk:k≤1000):EvV (Zuf (fC (.str "tree")) (Zaf Za3 (Zc (Ze i) Zn))) δ (.list (Xv k (.str "tree"))):=by
 obtain⟨t,e1,d1⟩:=Zf0 (δ:=δ) (e:=Ze i) (ds:=ds) (Za h)
 refine⟨.nd (Xv k (.fz (.str "tree"))),?_,?_⟩
 ·rw[Zrf,Z45,Xf]
  dsimp only
  rw[e1,Xf,d1,Zjg,if_pos ⟨Zhs (by omega) (by omega),by rw[Qg];omega⟩,QH,OT.data_fz,hl]
 ·rw[OT.data_nd,V9];rfl
section
variable {n:Nat}{R:Nat->Nat->Int}{b:Int}
theorem Zqy(h1:1≤n)(hn:n≤6)(B:Bd n R)(hb:0<b)(bb:Bt 300 b):∃d,Told Zo [tbD (Za5 n R b)] (.tuple [wdD (Gf n R),d]):=by
 rcases Z1x h1 hn B hb bb with⟨g,d,h⟩|⟨g,d,h⟩
 ·exact⟨d,by rw[Z1p g];exact h⟩
 ·exact⟨d,by rw[Zym g];exact h⟩
theorem Zgu(h1:1≤n)(hn:n≤6)(B:Bd n R)(hb:0<b)(bb:Bt 300 b){p:List Nat}(l1:1≤p.length)(l6:p.length≤6)(nd:p.Nodup)(lt:∀x∈p,x<n){e:FE}{δ:Zi}{i:Nat}(he:EvV e δ (lsN p))(hi:δ[i]? =some (some (.fz (tbD (Za5 n R b))))):EvV (Yi gIx (Zt Zo (Zc (Zt Yx (Zc (Ze i) (Zc e Zn))) Zn)) (fC (.int 0))) δ (wdD (Gf p.length (sb R p))):=by
 obtain⟨d,h⟩:=Zqy l1 l6 (B.sub lt) hb bb
 exact W7 (Zk (Zb (Zk (Zb (Za hi) (Zb he Zg)) (Zwr l1 nd lt (by omega))) Zg) h) Zz rfl
theorem Zis(B:Bd n R){k:Int}(hk:0<k){A:List Int}(hA:Zxz n A)(h1:1≤n):wtC n (λi j=>k*R i j) A=k*wtC n R A:=by
 obtain⟨a,ha⟩:=List.exists_mem_of_ne_nil A hA.ne
 have z0:(0:Int)∈away n A:=Zb8.mpr ⟨Int.le_refl _,by omega,λz=>by have:=(hA.pt 0 z).1;omega⟩
 have da:(a,a)∈dbl A:=(Zxk ha ha).elim id id
 have d0:((0:Int),(0:Int))∈dbl (away n A):=(Zxk z0 z0).elim id id
 obtain⟨m,hm⟩:=Lst.exists R da d0
 have:=hm.scaled (R:=λi j=>k*R i j) hk (n:=n) (λi j _ _=>rfl) (λx hx=>⟨by have:=(hA.pt x hx).1;omega,(hA.pt x hx).2⟩) λx hx=>by
  obtain⟨a1,a2,_⟩:=Zb8.mp hx
  exact⟨a1,a2⟩
 rw[←Zn1 this,←Zn1 hm,Zof hk]
theorem Z5u(B:∀i j,i<n->j<n->0≤R i j∧R i j<B30){A:List Int}(hA:Zxz n A):Bt 110 (wtC n R A):=by
 have p110:2*B30<2^110:=by decide +kernel
 have:0≤wtC n R A∧wtC n R A≤2*B30:=by
  by_cases c:∃m,Lst R A (away n A) m
  ·obtain⟨m,hm⟩:=c
   rw[←Zn1 hm]
   obtain⟨⟨p,hp,q,hq,e⟩,_⟩:=hm
   obtain⟨x1,x2⟩:=Ziy hp
   obtain⟨y1,y2⟩:=Ziy hq
   have b1:=hA.pt _ x1
   have b2:=hA.pt _ x2
   obtain⟨c1,c2,_⟩:=Zb8.mp y1
   obtain⟨c3,c4,_⟩:=Zb8.mp y2
   have r1:=B p.1.toNat p.2.toNat (by omega) (by omega)
   have r2:=B q.1.toNat q.2.toNat (by omega) (by omega)
   have r3:=B p.1.toNat q.1.toNat (by omega) (by omega)
   have r4:=B p.2.toNat q.2.toNat (by omega) (by omega)
   have r5:=B p.1.toNat q.2.toNat (by omega) (by omega)
   have r6:=B p.2.toNat q.1.toNat (by omega) (by omega)
   unfold rlI rl at e
   omega
  ·unfold wtC
   rw[dif_neg c]
   exact⟨Int.le_refl _,by decide⟩
 have z110:(0:Int)<2^110:=by decide +kernel
 exact Bt.of_lt (by omega) (by omega)
end
theorem Zop(q:Rat){x b:Int}:q*Xw x b=Xw (q.num*x) (b*(q.den:Int)):=by
 have e:=Rat.divInt_mul_divInt q.num x (d₁:=(q.den:Int)) (d₂:=b)
 rw[Rat.num_divInt_den]at e
 rw[e,Int.mul_comm b]
theorem Z8w(P:Prop):∃x:Bool,gEq (wdD P) (.str "tree")=some (.bool x)∧(x=true↔P):=by
 by_cases h:P
 ·exact⟨true,by rw[Z1p h];exact(Zgf Zfv).2,⟨λ_=>h,λ_=>rfl⟩⟩
 ·exact⟨false,by rw[Zym h];exact(Zxp Zb7 Zfv (by decide)).2,⟨(λz=>nomatch z),λz=>absurd z h⟩⟩
theorem Z5t(P:Prop):Zrr true (wdD P) (.tuple [.str "tree",.str "bars"])=some (.bool false):=by
 by_cases h:P
 ·rw[Z1p h];rfl
 ·rw[Zym h];rfl
theorem Z9a(P:Prop):gNe (wdD P) (wdD P)=some (.bool false):=(Zmg (Zu1 P).1 (by decide) (Zu1 P).2).2
theorem Z38{k x:Int}(hk:0<k):decide (0<k*x)=decide (0<x):=decide_eq_decide.mpr ⟨λh=>Int.not_le.mp λz=>by have:=Bk (a:=k) (by omega) z;omega,λh=>Uz hk h⟩
theorem Zum(ns:List Int)(hl:ns.length≤63):Zfs [.list (ns.map Xk)]= .ok (.fz (.bool true)):=by
 show Zfs [Zj ns]=_
 obtain⟨c0,e0⟩:=Zfa ns (k:=0) (by decide)
 obtain⟨c1,e1⟩:=Zfa ns (k:=1) (by decide)
 obtain⟨c2,e2⟩:=Zfa ns (k:=2) (by decide)
 obtain⟨n,en,h1,hn⟩:∃n:Nat,Ji [.int c0,.int 1,.int 5,.int 6]= .ok (.fz (.int n))∧1≤n∧n≤6:=by
  obtain⟨m,e,h1,h2⟩:=Z0s c0 (a:=1) (b:=5) (d:=6) (by decide) (by decide)
  exact⟨m.toNat,by rw[e,Bv (by omega)],by omega,by omega⟩
 have n10:n≤10:=by omega
 obtain⟨b,eb,hb,bb⟩:=Zuh c1
 have bb3:Bt 300 b:=bb.mono (by decide)
 obtain⟨R,eB,RB,Bn⟩:∃R:Nat->Nat->Int,Told W6 [Zj ns,.int 3,.int n,.int c1] (Zai n R)∧(∀i j,i<n->j<n->0≤R i j∧R i j<B30)∧Tb n R:=by
  obtain⟨d,T,L,rfl,D,sy⟩:=Zw8 ns h1 n10 c1
  obtain⟨e,f⟩:=Z09 D
  rw[OT.data_nd,e]at T
  exact⟨fnL L,T,f,λi j hi hj=>(sy i j hi hj).1,λi hi=>(sy i i hi hi).2,λi j hi hj=>(f i j hi hj).1⟩
 have bt110:∀i j,i<n->j<n->Bt 110 (R i j):=λi j hi hj=>by
  have:=RB i j hi hj
  have:B30<2^110:=by decide +kernel
  have:(0:Int)<2^110:=by decide +kernel
  exact Bt.of_lt (by omega) (by omega)
 have B:Bd n R:=⟨Bn,λi j hi hj=>(bt110 i j hi hj).mono (by decide)⟩
 have eT:=Zlv n10 R hb bb3
 obtain⟨ps,eP,lP,okP,covP⟩:=Zwv h1 hn
 obtain⟨Ps,hPs⟩:∃Ps:List Prop,Ps=ps.map λp=>Gf p.length (sb R p):=⟨_,rfl⟩
 have allP:(∀P∈Ps,P)↔Gf n R:=by
  rw[hPs]
  constructor
  ·exact λh=>Gf.of covP λp hp=>h _ (XQ.mpr ⟨p,hp,rfl⟩)
  ·intro g P hP
   obtain⟨p,hp,rfl⟩:=XQ.mp hP
   exact g.sub (okP p hp).2.2.2
 have lPs:(Ps.map wdD).length=Ps.length:=Xc ..
 have lP2:Ps.length≤1000:=by rw[hPs,Xc];exact lP
 obtain⟨wq1,wq2⟩:=Z51 Ps
 obtain⟨x,hx1,hx2⟩:=Z8w (Gf n R)
 have xy:x=QM (.list (Ps.map wdD)) (.list (Xv Ps.length (.str "tree"))):=by rw[Bool.eq_iff_iff,hx2,wq2,allP]
 have rv:∀y∈(Xj n).reverse,y<n:=λy hy=>Xm.mp (VD.mp hy)
 have rl:(Xj n).reverse.length=n:=by rw[List.length_reverse,Xz]
 have rw':wdD (Gf (Xj n).reverse.length (sb R (Xj n).reverse))=wdD (Gf n R):=congrArg wdD (propext ⟨λg=>Gf.of (ps:=[(Xj n).reverse]) (λi j k l hi hj hk hl=>⟨_,.head _,VD.mpr (Xm.mpr hi),VD.mpr (Xm.mpr hj),VD.mpr (Xm.mpr hk),VD.mpr (Xm.mpr hl)⟩) λp hp=>by rw[Xq.mp hp];exact g,λg=>g.sub rv⟩)
 -- so many times
 obtain⟨t,ht,m,hm⟩:∃t,t=1+c2.fmod 1000∧∃m,m=1+(c2.fdiv 1000).fmod 7:=⟨_,rfl,_,rfl⟩
 have t0:0<t∧t<1001:=by
  have a1:=Ju (i:=c2) (j:=1000) (by decide)
  have a2:=Jy (i:=c2) (j:=1000) (by decide)
  omega
 have m0:0<m∧m<8:=by
  have a1:=Ju (i:=c2.fdiv 1000) (j:=7) (by decide)
  have a2:=Jy (i:=c2.fdiv 1000) (j:=7) (by decide)
  omega
 have bt11:∀x:Int,0≤x->x<1001->Bt 11 x:=λx h0 h1=>Bt.of_lt (by omega) (by omega)
 have Tl:=Zfb (n:=11) (t:=t) m0.1 (bt11 m (by omega) (by omega))
 obtain⟨q,hq⟩:∃q,q=Xw t m:=⟨_,rfl⟩
 rw[←hq]at Tl
 have q0:0<q.num:=by
  have h1:0≤q.num:=hq▸(Z2c m0.1).2 (by omega)
  have h2:q.num≠0:=λz=>by
   have:=Rat.num_eq_zero.mp z
   rw[hq]at this
   obtain⟨k,rfl⟩:∃k:Nat,m=k:=⟨m.toNat,by omega⟩
   have:=(Rat.mkRat_eq_zero (by omega)).mp ((Rat.divInt_ofNat t k).symm.trans this)
   omega
  omega
 have bq:BQ 11 q:=hq▸BQ.div (by omega) (bt11 t (by omega) t0.2) (bt11 m (by omega) (by omega))
 have dp:=Jb q
 have hb4:0<b*(q.den:Int):=Uz hb dp
 have bb4:Bt 300 (b*(q.den:Int)):=(bb.mul bq.2).mono (by decide)
 have B4:Bd n (λi j=>q.num*R i j):=⟨⟨λi j hi hj=>by rw[Bn.sy i j hi hj],λi hi=>by rw[Bn.dg i hi,Int.mul_zero],λi j hi hj=>Int.mul_nonneg (by omega) (Bn.nn i j hi hj)⟩,λi j hi hj=>(bq.1.mul (bt110 i j hi hj)).mono (by decide)⟩
 have BQt:∀i j,i<n->j<n->BQ 400 (Xw (R i j) b):=λi j hi hj=>BQ.div (by omega) ((B.bt i j hi hj).mono (by decide)) (bb.mono (by decide))
 have Tm:Told Yu [frD q,tbD (Za5 n R b)] (tbD (Za5 n (λi j=>q.num*R i j) (b*(q.den:Int)))):=by
  rw[Zxh,Zxh,Zun (f:=λi j=>Xw (q.num*R i j) (b*(q.den:Int))) (g:=λi j=>q*Xw (R i j) b) λi j _ _=>by rw[Zop]]
  exact Zhy n10 (Int.le_of_lt q0) (bq.mono (by decide)) BQt
 obtain⟨dt,eW,info⟩:∃dt,Told Zo [tbD (Za5 n R b)] (.tuple [wdD (Gf n R),dt])∧((Gf n R∧∃Ls:List (List Int),dt=Zom (wtL Ls (wtC n R) b)∧(∀s∈Ls,Zxz n s)∧Ls.length<64∧Told Zo [tbD (Za5 n (λi j=>q.num*R i j) (b*(q.den:Int)))] (.tuple [.str "tree",Zom (wtL Ls (wtC n λi j=>q.num*R i j) (b*(q.den:Int)))]))∨(¬Gf n R∧Zcn n R=some dt)):=by
  by_cases g:Gf n R
  ·obtain⟨Ls,h,hL,lL⟩:=Zx0 h1 hn B hb bb3 g
   exact⟨_,by rw[Z1p g];exact h R b B hb bb3 g,.inl ⟨g,Ls,rfl,hL,lL,h _ _ B4 hb4 bb4 ((Gf.scaled q0).mpr g)⟩⟩
  ·cases e:Zcn n R with
   | none=>exact absurd ((Zt2 Bn).mp e) g
   | some d=>exact⟨d,by rw[Zym g];exact Zhq n10 hb bb3 B.bt e,.inr ⟨g,rfl⟩⟩
 refine Told.ok (Zx rfl ?_)
 refine Zy (Zv (Zk (Zb (Zk (Zb Za (Zb Zz Zg)) (.of e0 (OT.data_fz _))) (Zb Zz (Zb Zz (Zb Zz Zg)))) (.of en (OT.data_fz _))))<|Zy (Zv (Zk (Zb Za (Zb Zz Zg)) (.of e1 (OT.data_fz _))))<|
  Zy (Zv (Zk (Zb Za Zg) eb))<|Zy (Zv (Zk (Zb (Zk (Zb Za (Zb Zz (Zb Za (Zb Za Zg)))) eB) (Zb Za Zg)) eT))<|
  Zy (Z48 (Zk (Zb Za Zg) eW) rfl)<|Zy (Zv (d:=.list (Ps.map wdD)) ((Zb9 (cs:=[some (.fz (tbD (Za5 n R b)))]) ps lsN (λp=>wdD (Gf p.length (sb R p))) (W3 (Zk (Zb Za Zg) eP)) (by omega) rfl λp hp=>Zgu h1 hn B hb bb3 (i:=1) (okP p hp).1 (okP p hp).2.1 (okP p hp).2.2.1 (okP p hp).2.2.2 (Za rfl) rfl).cast (by rw[hPs,XJ];rfl)))<|
  Zy (Z9 (Z35 (Za4 (Zq Za (J6 (Zb Zz (Zb Zz Zg)) (show 2≤1000 by decide)) (Z5t _))) (Za4 (Zq (Zq Za Zz hx1) (Zq (Za (d:=.list (Ps.map wdD)) rfl) (Z0t rfl lPs lP2) wq1) ((Zod _ _).trans (by rw[xy];exact congrArg (λz=>some (PyData.bool z)) (bne_self_eq_false _)))))) rfl)<|
  Zy (Z9 (Za4 (Zq (rw'▸Zgu h1 hn B hb bb3 (i:=4) (by rw[rl];exact h1) (by rw[rl];exact hn) ((List.reverse_perm _).nodup_iff.mpr List.nodup_range) rv (Zv5 h1 hn rfl) rfl) Za (Z9a _))) rfl)<|
  Zy (Zv (Zk (Zb ((Ys Zz (Wa (Zk (Zb Za (Zb Zz Zg)) (.of e2 (OT.data_fz _))) Zz (by decide))).cast (congrArg Xk ht.symm)) (Zb ((Ys Zz (Wa (Zaa (Zk (Zb Za (Zb Zz Zg)) (.of e2 (OT.data_fz _))) Zz) Zz (by decide))).cast (congrArg Xk hm.symm)) Zg)) Tl)) ?_
 rcases info with⟨g,Ls,rfl,hL,lL,e4⟩|⟨g,hd⟩
 ·rw[Z1p g]
  have lW:(wtL Ls (wtC n R) b).length≤64:=by
   unfold wtL
   rw[Xc]
   exact Ql (Vz ..) (by omega)
  have eq4:wtL Ls (wtC n λi j=>q.num*R i j) (b*(q.den:Int))=(wtL Ls (wtC n R) b).map λp=>(p.1,p.2*q):=by
   unfold wtL
   rw[List.filter_congr (q:=λA=>decide (0<wtC n R A)) λA hA=>by rw[Zis B q0 (hL A hA) h1,Z38 q0],XJ]
   refine XH λA hA=>?_
   have hA:=hL A (QR.mp hA).1
   show(A,_)=(A,_)
   rw[Zis B q0 hA h1,Rat.mul_comm,Zop,←Int.mul_assoc]
  have bqW:∀p∈wtL Ls (wtC n R) b,BQ 300 p.2:=λp hp=>by
   obtain⟨A,hA,rfl⟩:=XQ.mp hp
   have hA:=hL A (QR.mp hA).1
   exact BQ.div (by omega) ((Z5u RB hA).mono (by decide)) ((Bt.mul (m:=2) (Bt.of_lt (by decide) (by decide)) bb).mono (by decide))
  refine Zy (Z9 (Za4 (Zq Za Zz (Zxp Zfv Zb7 (by decide)).2)) rfl)<|Zy (Zv (d:=Zom (wtL Ls (wtC n λi j=>q.num*R i j) (b*(q.den:Int)))) ((Zwa (t:=Zd0) (cs:=[some (.fz (frD q))]) (wtL Ls (wtC n R) b) (λp=>Zj p.1) (λp=>frD p.2) (λ_=>true) (λp=>ctD (p.1,p.2*q)) (W3 (Za (d:=Zom (wtL Ls (wtC n R) b)) rfl)) (by omega) rfl (λ_ _ _ _=>rfl) (λ_ _=>rfl) λp hp _=>J6 (Zb (Za rfl) (Zb ((Zk (Zb (Zjz (Zlz (Za rfl)) (Zlz (Za rfl)) (bqW p hp).1 bq.1) (Zb (Zjz (Zkl (Za rfl)) (Zkl (Za rfl)) (bqW p hp).2 bq.2) Zg)) (Zfb (n:=400) (Uz (Jb _) dp) (((bqW p hp).2.mul bq.2).mono (by decide)))).cast (by rw[Zkh])) Zg)) (show 2≤1000 by decide)).cast ?_))<|
   Yd (Zk (Zb (Zk (Zb (Zk (Zb Za (Zb Za Zg)) Tm) Zg) e4) (Zb (J6 (Zb Zz (Zb (Za (d:=Zom (wtL Ls (wtC n λi j=>q.num*R i j) (b*(q.den:Int)))) rfl) Zg)) (show 2≤1000 by decide)) Zg)) (Zqm 1 _))
  rw[List.filter_eq_self.mpr λ_ _=>rfl,eq4]
  unfold Zom
  rw[XJ];rfl
 ·rw[Zym g]
  obtain⟨p,rfl,l1,l4,nd,lt,ng⟩:=Zuo Bn hd
  have e4:=Zhq n10 hb4 bb4 B4.bt ((Zko (n:=n) (R:=R) q0).trans hd)
  have sd:Sh 2 (.tuple [.str "bars",tpN p]):=Zyx λd m=>by
   rcases Xp.mp m with rfl|m
   ·exact⟨(Zf7 Zb7).1,Ql (Zf7 Zb7).2 (by decide)⟩
   ·rw[Xq.mp m]
    exact Zyx λd m=>by
     obtain⟨x,_,rfl⟩:=XQ.mp m
     exact Zyj _
  have pd:Yr (.tuple [.str "bars",tpN p])=true:=by
   have pt:Yr (tpN p)=true:=by
    have:∀l:List Nat,Zar (l.map λx:Nat=>Xk (x:Int))=true:=λl=>by
     induction l with
     | nil=>rfl
     | cons x l ih=>rw[Qe,Zar,ih];rfl
    unfold tpN
    rw[Yr]
    exact this p
   rw[Yr,Zar,Zar,pt,Zaw];rfl
  have pw:=Zgu (δ:=[some (.fz (Zj ns)),some (.fz (.int n)),some (.fz (.int c1)),some (.fz (.int b)),some (.fz (tbD (Za5 n R b))),some (.fz (.str "bars")),some (.fz (tpN p)),some (.fz (.list (Ps.map wdD))),some (.fz (frD q)),none]) (i:=4) h1 hn B hb bb3 l1 (by omega) nd lt (Zwf (d:=lsN p) (Zb (Za (i:=6) (d:=tpN p) rfl) Zg) (Z1f _) (by rw[OT.data_nd,OT.map_fz];rfl)) rfl
  rw[Zym ng]at pw
  exact J0 (Zbz (Za4 (Zq Za Zz (Zgf Zb7).2)) (Yd (Zev (Zq pw Zz (Zgf Zb7).2) (Zq (Zk (Zb (Zk (Zb (Za (i:=8) rfl) (Zb (Za (i:=4) rfl) Zg)) Tm) Zg) e4) (J6 (Zb (Za (i:=5) (d:=.str "bars") rfl) (Zb (Za (i:=6) (d:=tpN p) rfl) Zg)) (show 2≤1000 by decide)) (Zmg sd (by decide) pd).1))))
end My
namespace L2
open PySem PySem.Spec PyProof.Rows
structure Ei(K:Xb)(x:Str)(st:Stmt)(f:Addr)(fd:XD):Prop where
 a:Qy K X6 x=some (some (.ref f))
 F:Fun K x x st f fd
structure En(K:Xb)(mg:Str->Option Xd)(x:Str)(st:Stmt)(ps:List Str)(f:Addr)(fd:XD):Prop where
 F:Fun K x x st f fd
 b:Binds K fd ps []
 m:mg x=some (.ref f)
structure Ec(K:Xb)(mg:Str->Option Xd)(x:Str)(f:Addr):Prop where
 m:mg x=some (.ref f)
 a:ClsAt K x f
section
variable {K:Xb}{h:Heap}{mg:Str->Option Xd}{x:Str}{st:Stmt}{f:Addr}{fd:XD}
theorem en0(X:K.In h)(G:h.Ns X6 mg)(q:Ei K x st f fd){ps:List Str}(hb:∀(kV doc pm:Xd) (an:Option Addr) (cdv ct:Xd) (us:List Xd),us.length=ps.length->bindArgs (Vd x x (Ze9 st) (Zbx st) (Zm st) .none kV doc pm an cdv ct) ⟨us,[]⟩=pure (ps.zip us)):En K mg x st ps f fd:=⟨q.F,q.F.binds hb,PySem.W.mg_of X G q.a⟩
noncomputable abbrev Bd(x:Str)(st:Stmt)(ps:List Str)(us:List Xd):Prop:=∀(kV doc pm:Xd) (an:Option Addr) (cdv ct:Xd),bindArgs (Vd x x (Ze9 st) (Zbx st) (Zm st) .none kV doc pm an cdv ct) ⟨us,[]⟩=pure (ps.zip us)
theorem l_c{us:List Xd}{n:Nat}(h:us.length=n+1):∃u vs,us=u :: vs∧vs.length=n:=by
 cases us with
 | nil=>cases h
 | cons u vs=>exact⟨u,vs,rfl,Nat.succ.inj h⟩
theorem en1(X:K.In h)(G:h.Ns X6 mg)(q:Ei K x st f fd){p0:Str}(hb:∀v0,Bd x st [p0] [v0]:=by exact λ_ _ _ _ _ _ _=>rfl):En K mg x st [p0] f fd:=en0 X G q λa b c d e g us hl=>by
 have h0:us.length=1:=hl
 obtain⟨u0,us0,e0,h1⟩:=l_c h0
 cases JT h1
 subst e0
 exact hb u0 a b c d e g
theorem en2(X:K.In h)(G:h.Ns X6 mg)(q:Ei K x st f fd){p0 p1:Str}(hb:∀v0 v1,Bd x st [p0,p1] [v0,v1]:=by exact λ_ _ _ _ _ _ _ _=>rfl):En K mg x st [p0,p1] f fd:=en0 X G q λa b c d e g us hl=>by
 have h0:us.length=2:=hl
 obtain⟨u0,us0,e0,h1⟩:=l_c h0
 obtain⟨u1,us1,e1,h2⟩:=l_c h1
 cases JT h2
 subst e1
 subst e0
 exact hb u0 u1 a b c d e g
theorem en3(X:K.In h)(G:h.Ns X6 mg)(q:Ei K x st f fd){p0 p1 p2:Str}(hb:∀v0 v1 v2,Bd x st [p0,p1,p2] [v0,v1,v2]:=by exact λ_ _ _ _ _ _ _ _ _=>rfl):En K mg x st [p0,p1,p2] f fd:=en0 X G q λa b c d e g us hl=>by
 have h0:us.length=3:=hl
 obtain⟨u0,us0,e0,h1⟩:=l_c h0
 obtain⟨u1,us1,e1,h2⟩:=l_c h1
 obtain⟨u2,us2,e2,h3⟩:=l_c h2
 cases JT h3
 subst e2
 subst e1
 subst e0
 exact hb u0 u1 u2 a b c d e g
theorem en4(X:K.In h)(G:h.Ns X6 mg)(q:Ei K x st f fd){p0 p1 p2 p3:Str}(hb:∀v0 v1 v2 v3,Bd x st [p0,p1,p2,p3] [v0,v1,v2,v3]:=by exact λ_ _ _ _ _ _ _ _ _ _=>rfl):En K mg x st [p0,p1,p2,p3] f fd:=en0 X G q λa b c d e g us hl=>by
 have h0:us.length=4:=hl
 obtain⟨u0,us0,e0,h1⟩:=l_c h0
 obtain⟨u1,us1,e1,h2⟩:=l_c h1
 obtain⟨u2,us2,e2,h3⟩:=l_c h2
 obtain⟨u3,us3,e3,h4⟩:=l_c h3
 cases JT h4
 subst e3
 subst e2
 subst e1
 subst e0
 exact hb u0 u1 u2 u3 a b c d e g
theorem en5(X:K.In h)(G:h.Ns X6 mg)(q:Ei K x st f fd){p0 p1 p2 p3 p4:Str}(hb:∀v0 v1 v2 v3 v4,Bd x st [p0,p1,p2,p3,p4] [v0,v1,v2,v3,v4]:=by exact λ_ _ _ _ _ _ _ _ _ _ _=>rfl):En K mg x st [p0,p1,p2,p3,p4] f fd:=en0 X G q λa b c d e g us hl=>by
 have h0:us.length=5:=hl
 obtain⟨u0,us0,e0,h1⟩:=l_c h0
 obtain⟨u1,us1,e1,h2⟩:=l_c h1
 obtain⟨u2,us2,e2,h3⟩:=l_c h2
 obtain⟨u3,us3,e3,h4⟩:=l_c h3
 obtain⟨u4,us4,e4,h5⟩:=l_c h4
 cases JT h5
 subst e4
 subst e3
 subst e2
 subst e1
 subst e0
 exact hb u0 u1 u2 u3 u4 a b c d e g
theorem ec(X:K.In h)(G:h.Ns X6 mg)(a:Qy K X6 x=some (some (.ref f))):Ec K mg x f:=⟨PySem.W.mg_of X G a,a⟩
end
theorem fsc{N P:List Str}{sc:Vw}(h1:sc.kind= .function:=by rfl)(h2:sc.isCoroutine=false:=by rfl)(h3:sc.isGenerator=false:=by rfl)(h4:N.Nodup:=by decide +kernel)(h5:N.take P.length=P:=by rfl)(h6:∀x∈P,sc.names.lookup x=some .local∨sc.names.lookup x=some .cell:=by decide +kernel)(h7:∀y∈sc.names,y.2≠ .free:=by decide +kernel):Zu N P sc:=⟨h1,h2,h3,h4,h5,h6,h7⟩
section
variable {X:Cx}{io:List Nat}{st:Stmt}{sts ss ss':List Stmt}{f g:FS}{e:Expr}{es:List Expr}{p c:Bool}{ta:FT}{pos:Pos}{ra:FA}
noncomputable abbrev BS(X:Cx)(io:List Nat)(st:Stmt)(f:FS):Prop:=MS X io st (oS f)∧XS X io st (xS X.K f)
noncomputable abbrev BSs(X:Cx)(io:List Nat)(sts:List Stmt)(f:FS):Prop:=MSs X io sts (oS f)∧XSs X io sts (xS X.K f)
end
section
variable {X:Cx}{io:List Nat}{e:Expr}{es:List Expr}{p c:Bool}{ra:FA}{pos pp:Pos}{k k':Nat}{f:Addr}{fd:XD}{ps:List Str}{x:Str}{F:FD}{st:Stmt}
theorem xce(G:FnOk X.prog X.w X.K X.mg X.base CX0 k f fd ps (spD X.K (sD F)))(hr:Room k' X.A)(E:En X.K X.mg x st ps f fd)(ha:MA X io p c (e :: es) (o2 ra))(hle:k≤k':=by decide)(hg:Gl X x:=by rfl)(h1:(x==("__debug__" : Str))=false:=by decide)(h2:Xo (e :: es) X.env=(false,eval e X.env) :: Xo es X.env:=by rfl)(h3:((QW pos (Xo es X.env)).any λx=>x.fst)=false:=by rfl):ME X io p c (.Call (.Name x pp) (e :: es) [] pos) (o2 (Zt F ra)):=xcl G (hr.mono hle) E.m E.F.kp E.b ha hg h1 h2 h3
end
section
variable {X:Cx}{io:List Nat}{p ci pt pe:Bool}{tg iter elt:Expr}{ifs:List Expr}{sc:Vw}{pos:Pos}{mi:MIt}{g:MGt}{mt:MTt}{me:MEt}
theorem Zhh(own:List Str)(caps:List Nat)(N':List Str)(hi:MI X io p ci tg iter mi)
  (hg:∀C cells s₂ H₂ fp,MG (Yz X N' sc C cells s₂ H₂ fp) (J2 own.length caps) ci tg g) (ht:∀C cells s₂ H₂ fp,MIfs (Yz X N' sc C cells s₂ H₂ fp) (J2 own.length caps) pt ifs mt) (he:∀C cells s₂ H₂ fp,ME (Yz X N' sc C cells s₂ H₂ fp) (J2 own.length caps) pe true elt me)
  (S:CompScope X own caps N' sc:=by exact⟨rfl,by decide +kernel,rfl,by decide +kernel,rfl,rfl⟩) (hc:X.calm=true:=by rfl) (nd:caps.Nodup:=by decide) (hp:(pt&&pe)=true:=by rfl) (hs:∀x,JL iter X.env x=pure x:=by intro _;rfl):ME X io p true (.ListComp elt [⟨tg,iter,ifs,0⟩] sc pos) (Ze7 own.length caps mi g mt me):=Z6h S hc nd hi hg ht he hp hs
end
end L2
namespace My
open PySem L2 PySem.Spec
noncomputable def top(i:Nat):Stmt:=PySem.Challenge.pw_farcuts_k24_whole_trees_by_fours.main.body.getD i (.Pass ⟨0,0,0,0⟩)
noncomputable abbrev Zed:Stmt:=top 44
noncomputable abbrev Zc0:Stmt:=top 47
noncomputable abbrev Zft:Stmt:=top 41
noncomputable abbrev Zb6:Stmt:=top 42
noncomputable abbrev Zbg:Stmt:=top 45
noncomputable abbrev Zd4:Stmt:=top 51
noncomputable abbrev Zfi:Stmt:=top 48
noncomputable abbrev Zcd:Stmt:=top 46
noncomputable abbrev Zd8:Stmt:=top 52
noncomputable abbrev Zb2:Stmt:=top 40
noncomputable abbrev Zd7:Stmt:=top 53
noncomputable abbrev Zhg:Stmt:=top 43
noncomputable abbrev Zfo:Stmt:=top 50
noncomputable abbrev Zd3:Stmt:=top 49
noncomputable abbrev Zfd:Stmt:=top 29
noncomputable abbrev Zht:Stmt:=top 30
noncomputable abbrev Zg0:Stmt:=top 31
noncomputable abbrev Zfg:Stmt:=top 11
noncomputable abbrev Jf:Stmt:=top 6
noncomputable abbrev Ze8:Stmt:=top 7
noncomputable abbrev Zmz:Stmt:=top 10
noncomputable abbrev Zb4:Stmt:=top 32
noncomputable abbrev Y9:Stmt:=top 35
noncomputable abbrev Za0:Stmt:=top 13
noncomputable abbrev Zc1:Stmt:=top 22
noncomputable abbrev Zdi:Stmt:=top 36
noncomputable abbrev Zr0:Stmt:=top 9
noncomputable abbrev Zby:Stmt:=top 27
noncomputable abbrev Zcc:Stmt:=top 28
noncomputable abbrev Zav:Stmt:=top 15
noncomputable abbrev Zbk:Stmt:=top 17
noncomputable abbrev Zea:Stmt:=top 16
noncomputable abbrev Zdj:Stmt:=top 18
noncomputable abbrev Zcz:Stmt:=top 37
noncomputable abbrev Zeg:Stmt:=top 34
noncomputable abbrev Zfx:Stmt:=top 20
noncomputable abbrev Zfe:Stmt:=top 5
noncomputable abbrev Zfn:Stmt:=top 8
noncomputable abbrev Zc5:Stmt:=top 23
noncomputable abbrev Jg:Stmt:=top 24
noncomputable abbrev Zb1:Stmt:=top 25
noncomputable abbrev Zec:Stmt:=top 38
noncomputable abbrev Z0g:Stmt:=top 54
set_option genInjectivity false in
set_option genSizeOfSpec false in
structure Txt(K:Xb)(mg:Str->Option Xd)(f:Nat->Addr)(fd:Nat->XD)(cls:Nat->Addr):Prop where
 e_law_alike:En K mg "_law_alike" Zed ["found","due"] (f 0) (fd 0)
 e_law_bottom:En K mg "_law_bottom" Zc0 ["cell"] (f 1) (fd 1)
 e_law_stir:En K mg "_law_stir" Zft ["cell","k"] (f 2) (fd 2)
 e_law_numbers:En K mg "_law_numbers" Zb6 ["cell","many"] (f 3) (fd 3)
 e_law_clusters:En K mg "_law_clusters" Zbg ["cell","n"] (f 4) (fd 4)
 e_law_drawn:En K mg "_law_drawn" Zd4 ["script","start","n","base","cell"] (f 5) (fd 5)
 e_law_rows:En K mg "_law_rows" Zfi ["n","sides","weights"] (f 6) (fd 6)
 e_law_weights:En K mg "_law_weights" Zcd ["script","start","many","cell"] (f 7) (fd 7)
 e_law_built:En K mg "_law_built" Zd8 ["script","start","n","cell"] (f 8) (fd 8)
 e_law_cell_at:En K mg "_law_cell_at" Zb2 ["script","k"] (f 9) (fd 9)
 e_law_fours:En K mg "_law_fours" Zd7 ["n"] (f 10) (fd 10)
 e_law_low:En K mg "_law_low" Zhg ["top","bottom"] (f 11) (fd 11)
 e_law_size:En K mg "_law_size" Zfo ["cell","least","most","great"] (f 12) (fd 12)
 e_law_table:En K mg "_law_table" Zd3 ["rows","bottom"] (f 13) (fd 13)
 e_is_point:En K mg "is_point" Zfd ["table","point"] (f 14) (fd 14)
 e_is_part:En K mg "is_part" Zht ["table","points"] (f 15) (fd 15)
 e_part_of:En K mg "part_of" Zg0 ["table","points"] (f 16) (fd 16)
 e_is_below:En K mg "is_below" Zfg ["q","r"] (f 17) (fd 17)
 e_greatest_divisor:En K mg "greatest_divisor" Jf ["a","b"] (f 18) (fd 18)
 e_in_least:En K mg "in_least" Ze8 ["top","bottom"] (f 19) (fd 19)
 e_times:En K mg "times" Zmz ["q","r"] (f 20) (fd 20)
 e_times_table:En K mg "times_table" Zb4 ["q","table"] (f 21) (fd 21)
 e_is_one_alone_greatest:En K mg "is_one_alone_greatest" Y9 ["sums"] (f 22) (fd 22)
 e_rising_tuples:En K mg "rising_tuples" Za0 ["n","many"] (f 23) (fd 23)
 e_three_sums:En K mg "three_sums" Zc1 ["rows","i","j","k","l"] (f 24) (fd 24)
 e_first_four:En K mg "first_four" Zdi ["rows"] (f 25) (fd 25)
 e_plus:En K mg "plus" Zr0 ["q","r"] (f 26) (fd 26)
 e_is_short_by:En K mg "is_short_by" Zby ["table","i","j","k"] (f 27) (fd 27)
 e_first_short:En K mg "first_short" Zcc ["table"] (f 28) (fd 28)
 e_shared_bottom:En K mg "shared_bottom" Zav ["numbers"] (f 29) (fd 29)
 e_table_bottom:En K mg "table_bottom" Zbk ["table"] (f 30) (fd 30)
 e_tops_over:En K mg "tops_over" Zea ["bottom","numbers"] (f 31) (fd 31)
 e_table_over:En K mg "table_over" Zdj ["bottom","table"] (f 32) (fd 32)
 e_first_bars:En K mg "first_bars" Zcz ["table"] (f 33) (fd 33)
 e_tree_rule:En K mg "tree_rule" Zeg ["sums"] (f 34) (fd 34)
 e_all_cuts:En K mg "all_cuts" Zfx ["n"] (f 35) (fd 35)
 e_is_whole:En K mg "is_whole" Zfe ["thing"] (f 36) (fd 36)
 e_fraction:En K mg "fraction" Zfn ["top","bottom"] (f 37) (fd 37)
 e_doubles_of:En K mg "doubles_of" Zc5 ["points"] (f 38) (fd 38)
 e_least_over_sides:En K mg "least_over_sides" Jg ["rows","cut","rule"] (f 39) (fd 39)
 e_weighted_by:En K mg "weighted_by" Zb1 ["table","rule"] (f 40) (fd 40)
 e_tree_told:En K mg "tree_told" Zec ["table"] (f 41) (fd 41)
 e_law:En K mg "law" Z0g ["script"] (f 42) (fd 42)
 fa_tree_rule:ClsAt K "tree_rule" (f 34)
 z_abs:mg "abs"=none
 z_bool:mg "bool"=none
 z_enumerate:mg "enumerate"=none
 z_int:mg "int"=none
 z_isinstance:mg "isinstance"=none
 z_len:mg "len"=none
 z_list:mg "list"=none
 z_max:mg "max"=none
 z_min:mg "min"=none
 z_range:mg "range"=none
 z_set:mg "set"=none
 z_sorted:mg "sorted"=none
 z_str:mg "str"=none
 z_tuple:mg "tuple"=none
 z_zip:mg "zip"=none
 c_NoNumber:Ec K mg "NoNumber" (cls 0)
 c_NoPoint:Ec K mg "NoPoint" (cls 1)
 x_NoNumber:Zfj K (cls 0)
 x_NoPoint:Zfj K (cls 1)
 r_NoNumber:Zvx K (cls 0)
 r_NoPoint:Zvx K (cls 1)
section
variable {P:X8}{w:Qs}{K:Xb}{mg:Str->Option Xd}{base:Heap}
theorem Zc7:Zu ["found","due","one","other"] ["found","due"] (Zm Zed):=fsc
theorem Zdb{f:Nat->Addr}{fd:Nat->XD}{cls:Nat->Addr}(T:Txt K mg f fd cls):∀k,FnOk P w K mg base CX0 (1+k) (f 0) (fd 0) ["found","due"] (spD K (sD (Zr k)))
 | 0=>Zy5 λds k h=>by obtain⟨r,h,_⟩:=h;cases h
 | k+1=>by
  have G_rec:=Zdb T k
  refine Z5 T.e_law_alike.F Zc7 (S:=Wc (Zr k)) rfl rfl (λcdv A outer s H E hr=>?_)
  have hu:=hr.units
  exact(Zir (Zdm (Zpx (Zpm (Zdx (Zdz (Zc8 (Zgn (by decide) (by rfl) T.z_isinstance L2.B.boot_isinstance (by rfl) T.z_int L2.B.boot_int (W9 (mv 1)))) (λ_=>rfl))) (Zh (Zhk (Zgl (Zfq (Zqd (Zc8 (Zgn (by decide) (by rfl) T.z_isinstance L2.B.boot_isinstance (by rfl) T.z_int L2.B.boot_int (W9 (mv 0)))) (Zfq (Zqd (Zqv (Z4j (Zc8 (Zgn (by decide) (by rfl) T.z_isinstance L2.B.boot_isinstance (by rfl) T.z_bool L2.B.boot_bool (W9 (mv 0)))))) (Zr1 (Wf Zyl (Zgc (Zf4 hu) Zkc (W9 (mv 0)) (W9 (mv 1)) (hm:=(Wy _)))))))))))) (Zfr Zfk)))
   (Zir (Zdm (Zpx (Zpm (Zdx (Zdz (Zc8 (Zgn (by decide) (by rfl) T.z_isinstance L2.B.boot_isinstance (by rfl) T.z_str L2.B.boot_str (W9 (mv 1)))) (λ_=>rfl))) (Zh (Zhk (Zgl (Zfq (Zqd (Zc8 (Zgn (by decide) (by rfl) T.z_isinstance L2.B.boot_isinstance (by rfl) T.z_str L2.B.boot_str (W9 (mv 0)))) (Zr1 (Wf Zyl (Zgc (Zf4 hu) Zkc (W9 (mv 0)) (W9 (mv 1)) (hm:=(Wy _)))))))))) (Zfr Zfk)))
   (Zir (Zdm (Zpx (Zpm (MW.mt (Zty (Zq6 (Zbv Z7n (Zbn (Zn8 hu) Zu8 (Zc8 (Zgn (by decide) (by rfl) T.z_isinstance L2.B.boot_isinstance (by rfl) T.z_tuple L2.B.boot_tuple (W9 (mv 1)))) (Zc8 (Zgn (by decide) (by rfl) T.z_isinstance L2.B.boot_isinstance (by rfl) T.z_tuple L2.B.boot_tuple (W9 (mv 0)))) (hm:=(Wy _)))) (Znu (Zbv Z7n (Zbn (Zn8 hu) Zu8 (Zc8 (Zgn (by decide) (by rfl) T.z_isinstance L2.B.boot_isinstance (by rfl) T.z_list L2.B.boot_list (W9 (mv 1)))) (Zc8 (Zgn (by decide) (by rfl) T.z_isinstance L2.B.boot_isinstance (by rfl) T.z_list L2.B.boot_list (W9 (mv 0)))) (hm:=(Wy _)))))))) (Zh (Zhk (Zgl (Zhx Zml)))) (Zfr Zfk)))
   (Zir (Zdm (Zpx (Zpm (Zbv Z7n (Zbn (Zn8 hu) Zu8 (Zes Z0i (Zjy Zs7 (Zg7 rfl) (by rfl) T.z_len L2.B.boot_len (Zd (W9 (mv 0)) (Zk1 Zkd)))) (Zes Z0i (Zjy Zs7 (Zg7 rfl) (by rfl) T.z_len L2.B.boot_len (Zd (W9 (mv 1)) (Zk1 Zkd)))) (hm:=(Wy _)))) (Zh (Zhk (Zgl (Zhx Zml)))) (Zfr Zfk)))
   (Zir (Zdm (Zx6 (Zyk XM rfl (Zj5 (Zje (by rfl) T.z_zip L2.B.boot_zip (Zd (W9 (mv 0)) (Zd (W9 (mv 1)) (Zk1 Zkd))))) (Zqx (Zr6 (n:=2) (by rfl) (Zbd (Za7 (Zng (Zmh (i:=2) Zc7.nd)) (Zbd (Za7 (Zng (Zmh (i:=3) Zc7.nd)) (Zne Zmk)))))))
   (Zh (Zpx (Zpm (Zyv (Zyw (Zdx (Zdz (Zr7 (Zyn G_rec hr (by rfl) T.e_law_alike.m T.e_law_alike.F.kp T.e_law_alike.b Zut (Zd (W9 (mv 2)) (Zd (W9 (mv 3)) (Zk1 Zkd))))) (λ_=>rfl))))) (Zh (Zhk (Zgl (Zhx Zml)))) (Zfr Zfk))))))
   (Zh (Zhk (Zgl (Zhx Zml))))))))))))))
theorem Zl6{f:Nat->Addr}{fd:Nat->XD}{cls:Nat->Addr}(T:Txt K mg f fd cls):FnOk P w K mg base CX0 7 (f 0) (fd 0) ["found","due"] (spD K (sD (Zr 6))):=Zdb T 6
theorem Zi1:Zu ["cell"] ["cell"] (Zm Zc0):=fsc
theorem Zi3{f:Nat->Addr}{fd:Nat->XD}{cls:Nat->Addr}(T:Txt K mg f fd cls):FnOk P w K mg base CX0 1 (f 1) (fd 1) ["cell"] (spD K (sD Wt)):=by
 refine Z5 T.e_law_bottom.F Zi1 (S:=Zbu) rfl rfl (λcdv A outer s H E hr=>?_)
 exact(Zh (xrt (xix (xls (Zd xci (Zd xci (Zd xci (xa1 (Zfl (Z3w xci xci) xci)))))) (Zgi (Zmc (xv 0) xci) xci))))
theorem Zd2:Zu ["cell","k","one"] ["cell","k"] (Zm Zft):=fsc
theorem Zb0{f:Nat->Addr}{fd:Nat->XD}{cls:Nat->Addr}(T:Txt K mg f fd cls):FnOk P w K mg base CX0 1 (f 2) (fd 2) ["cell","k"] (spD K (sD Zw)):=by
 refine Z5 T.e_law_stir.F Zd2 (S:=Zcs) rfl rfl (λcdv A outer s H E hr=>?_)
 exact(xsq (xst 2 Zd2.nd (Zgi (Zhp (Zfl (Zfl (Zgi (xv 0) xci) (Zhp xci (xv 1))) xci) xci) xci)) (xsq (xst 2 Zd2.nd (Zgi (Zhp (xv 2) (xv 2)) xci)) (Zh (xrt (Zmc (Zgi (Zhp (Zfl (xv 2) (Zhp xci (xv 1))) xci) xci) xci)))))
theorem Yy:Zu ["cell","many","found","digits","k","number"] ["cell","many"] (Zm Zb6):=fsc
theorem Zh5{f:Nat->Addr}{fd:Nat->XD}{cls:Nat->Addr}(T:Txt K mg f fd cls):FnOk P w K mg base CX0 2 (f 3) (fd 3) ["cell","many"] (spD K (sD Wh)):=by
 have G_law_stir:=Zb0 (P:=P) (w:=w) (base:=base) T
 refine Z5 T.e_law_numbers.F Yy (S:=Za9) rfl rfl (λcdv A outer s H E hr=>?_)
 exact(xsq (xso 2 Yy.nd (xls xa0)) (xsq (xst 3 Yy.nd (xv 0)) (xsq (xfr XM rfl (Zco (Ye (by rfl) T.z_range (xa1 (xv 1)))) (xg 4 Yy.nd) (xsq (xst 5 Yy.nd (xce G_law_stir hr T.e_law_stir (Zd (xv 0) (xa1 (xv 4))))) (xsq (xif (xge (xv 0) (Z3w xci xci)) (Zh (xst 5 Yy.nd (Zgi (xv 3) xci))) xnl) (xsq (xst 3 Yy.nd (Zmc (xv 3) xci)) (Zh (J7 (J5 2 (xv 5)))))))) (Zh (Za1 (Zaq 2))))))
theorem Yq:Zu ["cell","n","numbers","left","found","k","one","other"] ["cell","n"] (Zm Zbg):=fsc
theorem Zgs{f:Nat->Addr}{fd:Nat->XD}{cls:Nat->Addr}(T:Txt K mg f fd cls):FnOk P w K mg base CX0 3 (f 4) (fd 4) ["cell","n"] (spD K (sD Z6)):=by
 have G_law_numbers:=Zh5 (P:=P) (w:=w) (base:=base) T
 refine Z5 T.e_law_clusters.F Yq (S:=Zao) rfl rfl (λcdv A outer s H E hr=>?_)
 exact(xsq (xst 2 Yq.nd (xce G_law_numbers hr T.e_law_numbers (Zd (xv 0) (xa1 (Zhp xci (xv 1)))))) (xsq (Zwh (Zmf (i:=3) (own:=["point"]) (caps:=[]) (N':=["point"]) Yq.nd rfl (Qq rfl) (by exact⟨rfl,by decide +kernel,rfl,by decide +kernel,rfl,rfl⟩) (by rfl) (by decide) (Z00 (Zg6 (by rfl) T.z_range (Zd xci (xa1 (xv 1))))) (λ_ _ _ _ _=>(xg 0 (by show QC (["point"]:List Str);decide +kernel))) (λ_ _ _ _ _=>(Wx Ww)) (λ_ _ _ _ _=>(xls (xa1 (xv 0)))))) (xsq (xso 4 Yq.nd (Zv2 (Zzs 3 (by rfl) T.z_list L2.B.boot_list))) (xsq (xfr XM rfl (Zco (Ye (by rfl) T.z_range (xa1 (Z2w (xv 1) xci)))) (xg 5 Yq.nd) (xsq (xst 6 Yq.nd (Zxu (Z22 3 (Zgi (xix (xv 2) (Zhp xci (xv 5))) (xln T.z_len (xa1 (xo 3))))))) (xsq (xst 7 Yq.nd (Zxu (Z22 3 (Zgi (xix (xv 2) (Zfl (Zhp xci (xv 5)) xci)) (xln T.z_len (xa1 (xo 3))))))) (xsq (J7 (J5 3 (Zvz Zzg (Z9y Zxc (Zpz rfl) (by rfl) T.z_sorted L2.B.boot_sorted (xa1 (Zpv (Ziq Zvm (Z3g (Zj7 rfl) Zn7 (xv 6) (xv 7))))))))) (Zh (J7 (J5 4 (Z36 (Z8i 3 (Znn (Zw4 xci)) (λ_ _=>rfl)))))))))) (Zh (Za1 (Zaq 4)))))))
theorem Wn:Zu ["script","start","n","base","cell","rows","i","j","at","number"] ["script","start","n","base","cell"] (Zm Zd4):=fsc
theorem Zlu{f:Nat->Addr}{fd:Nat->XD}{cls:Nat->Addr}(T:Txt K mg f fd cls):FnOk P w K mg base CX0 2 (f 5) (fd 5) ["script","start","n","base","cell"] (spD K (sD W4)):=by
 have G_law_stir:=Zb0 (P:=P) (w:=w) (base:=base) T
 refine Z5 T.e_law_drawn.F Wn (S:=Zci) rfl rfl (λcdv A outer s H E hr=>?_)
 exact(xsq (Zi7 (Zam (i:=5) (own:=["point"]) (caps:=[2]) (N':=["point","n"]) true Wn.nd rfl (Qq rfl) (by exact⟨rfl,by decide +kernel,rfl,by decide +kernel,rfl,rfl⟩) (by rfl) (by decide) (Zco (Ye (by rfl) T.z_range (xa1 (xv 2)))) (λ_ _ _ _ _=>(xg 0 (by show QC (["point","n"]:List Str);decide +kernel))) (λ_ _ _ _ _=>(Wx Ww)) (λ_ _ _ _ _=>(Zr3 (Z0w xci (xv 1)))))) (xsq (xfr XM rfl (Zco (Ye (by rfl) T.z_range (xa1 (xv 2)))) (xg 6 Wn.nd) (Zh (xfr XM rfl (Zco (Ye (by rfl) T.z_range (xa1 (xv 6)))) (xg 7 Wn.nd) (xsq (xst 8 Wn.nd (Zfl (Zmc (Zhp (xv 6) (Z2w (xv 6) xci)) xci) (xv 7))) (xsq (xst 9 Wn.nd (xce G_law_stir hr T.e_law_stir (Zd (xv 4) (xa1 (Zfl xci (xv 8)))))) (xsq (xif (xlt (Zfl (xv 1) (xv 8)) (xln T.z_len (xa1 (xv 0)))) (Zh (xst 9 Wn.nd (xix (xv 0) (Zfl (xv 1) (xv 8))))) xnl) (xsq (Zgz (Zgt 5 (Zgi (xv 9) (xv 3)) (xv 6) (xv 7) (λ_ _=>rfl))) (Zh (Zgz (Zgt 5 (Zgi (xv 9) (xv 3)) (xv 7) (xv 6) (λ_ _=>rfl))))))))))) (Zh (Za1 (Zaq 5)))))
theorem Jz:Zu ["n","sides","weights","rows","side","weight","i","j"] ["n","sides","weights"] (Zm Zfi):=fsc
theorem Znc{f:Nat->Addr}{fd:Nat->XD}{cls:Nat->Addr}(T:Txt K mg f fd cls):FnOk P w K mg base CX0 1 (f 6) (fd 6) ["n","sides","weights"] (spD K (sD Y6)):=by
 refine Z5 T.e_law_rows.F Jz (S:=Zcv) rfl rfl (λcdv A outer s H E hr=>?_)
 have hu:=hr.units
 exact(xsq (Zi7 (Zam (i:=3) (own:=["point"]) (caps:=[0]) (N':=["point","n"]) true Jz.nd rfl (Qq rfl) (by exact⟨rfl,by decide +kernel,rfl,by decide +kernel,rfl,rfl⟩) (by rfl) (by decide) (Zco (Ye (by rfl) T.z_range (xa1 (xv 0)))) (λ_ _ _ _ _=>(xg 0 (by show QC (["point","n"]:List Str);decide +kernel))) (λ_ _ _ _ _=>(Wx Ww)) (λ_ _ _ _ _=>(Zr3 (Z0w xci (xv 1)))))) (xsq (xfr XM rfl (Zj5 (Zje (by rfl) T.z_zip L2.B.boot_zip (Zd (xv 1) (xa1 (xv 2))))) (xg2 rfl (xg 4 Jz.nd) (xg 5 Jz.nd)) (Zh (xfr XM rfl (Zco (Ye (by rfl) T.z_range (xa1 (xv 0)))) (xg 6 Jz.nd) (Zh (xfr XM rfl (Zco (Ye (by rfl) T.z_range (xa1 (xv 0)))) (xg 7 Jz.nd) (Zh (xif (xne hu (Wf Zvr (Zgc (Zys rfl) Zxg (xv 6) (xv 4) (hm:=(by with_unfolding_all rfl)))) (Wf Zvr (Zgc (Zys rfl) Zxg (xv 7) (xv 4) (hm:=(by with_unfolding_all rfl))))) (Zh (Zgz (Zgt 3 (Zfl (xix (xix (xo 3) (xv 6)) (xv 7)) (xv 5)) (xv 6) (xv 7) (λ_ _=>rfl)))) xnl))))))) (Zh (Za1 (Zaq 3)))))
theorem We:Zu ["script","start","many","cell","base","found","k","number"] ["script","start","many","cell"] (Zm Zcd):=fsc
theorem Zh7{f:Nat->Addr}{fd:Nat->XD}{cls:Nat->Addr}(T:Txt K mg f fd cls):FnOk P w K mg base CX0 2 (f 7) (fd 7) ["script","start","many","cell"] (spD K (sD Yk)):=by
 have G_law_stir:=Zb0 (P:=P) (w:=w) (base:=base) T
 refine Z5 T.e_law_weights.F We (S:=Zbb) rfl rfl (λcdv A outer s H E hr=>?_)
 exact(xsq (xst 4 We.nd (xix (xls (Zd xci (Zd xci (xa1 (Z3w xci xci))))) (Zgi (xv 3) xci))) (xsq (xso 5 We.nd (xls xa0)) (xsq (xfr XM rfl (Zco (Ye (by rfl) T.z_range (xa1 (xv 2)))) (xg 6 We.nd) (xsq (xst 7 We.nd (xce G_law_stir hr T.e_law_stir (Zd (xv 3) (xa1 (Zfl xci (xv 6)))))) (xsq (xif (xlt (Zfl (xv 1) (xv 6)) (xln T.z_len (xa1 (xv 0)))) (Zh (xst 7 We.nd (xix (xv 0) (Zfl (xv 1) (xv 6))))) xnl) (Zh (J7 (J5 5 (Zgi (xv 7) (xv 4)))))))) (Zh (Za1 (Zaq 5))))))
theorem Yp:Zu ["script","start","n","cell","way","sides","rows","more","i","j","by"] ["script","start","n","cell"] (Zm Zd8):=fsc
theorem Zlq{f:Nat->Addr}{fd:Nat->XD}{cls:Nat->Addr}(T:Txt K mg f fd cls):FnOk P w K mg base CX0 4 (f 8) (fd 8) ["script","start","n","cell"] (spD K (sD W6)):=by
 have G_law_clusters:=Zgs (P:=P) (w:=w) (base:=base) T
 have G_law_drawn:=Zlu (P:=P) (w:=w) (base:=base) T
 have G_law_rows:=Znc (P:=P) (w:=w) (base:=base) T
 have G_law_stir:=Zb0 (P:=P) (w:=w) (base:=base) T
 have G_law_weights:=Zh7 (P:=P) (w:=w) (base:=base) T
 refine Z5 T.e_law_built.F Yp (S:=Zcj) rfl rfl (λcdv A outer s H E hr=>?_)
 have hu:=hr.units
 exact(xsq (xst 4 Yp.nd (Zgi (Zmc (xv 3) xci) xci)) (xsq (xif (xeq hu (xv 4) xci) (Zh (xrt (xce G_law_drawn hr T.e_law_drawn (Zd (xv 0) (Zd (xv 1) (Zd (xv 2) (Zd (xix (xls (Zd xci (Zd xci (Zd xci (xa1 (Z3w xci xci)))))) (Zgi (Zmc (xv 3) xci) xci)) (xa1 (xv 3))))))))) xnl) (xsq (xst 5 Yp.nd (xce G_law_clusters hr T.e_law_clusters (Zd (Zmc (xv 3) xci) (xa1 (xv 2))))) (xsq (xso 6 Yp.nd (xce G_law_rows hr T.e_law_rows (Zd (xv 2) (Zd (xv 5) (xa1 (xce G_law_weights hr T.e_law_weights (Zd (xv 0) (Zd (xv 1) (Zd (xln T.z_len (xa1 (xv 5))) (xa1 (xv 3))))))))))) (xsq (xif (xeq hu (xv 4) xci) (xsq (xst 5 Yp.nd (xce G_law_clusters hr T.e_law_clusters (Zd (xce G_law_stir hr T.e_law_stir (Zd (xv 3) (xa1 xci))) (xa1 (xv 2))))) (xsq (xst 7 Yp.nd (xce G_law_rows hr T.e_law_rows (Zd (xv 2) (Zd (xv 5) (xa1 (xce G_law_weights hr T.e_law_weights (Zd (xv 0) (Zd (Zfl (xv 1) xci) (Zd (xln T.z_len (xa1 (xv 5))) (xa1 (xv 3))))))))))) (Zh (Zkk (Zkz 6 (Zi7 (Zam (i:=6) (own:=["row","others"]) (caps:=[]) (N':=["row","others"]) true Yp.nd rfl (Qq rfl) (by exact⟨rfl,by decide +kernel,rfl,by decide +kernel,rfl,rfl⟩) (by rfl) (by decide) (Zj5 (Zje (by rfl) T.z_zip L2.B.boot_zip (Zd (xv 6) (xa1 (xv 7))))) (λ_ _ _ _ _=>(xg2 rfl (xg 0 (by show QC (["row","others"]:List Str);decide +kernel)) (xg 1 (by show QC (["row","others"]:List Str);decide +kernel)))) (λ_ _ _ _ _=>(Wx Ww)) (λ_ _ _ _ _=>(Zas (Zhh ["one","other"] [] ["one","other"] (Zj5 (Zje (by rfl) T.z_zip L2.B.boot_zip (Zd (xv 0) (xa1 (xv 1))))) (λ_ _ _ _ _=>(xg2 rfl (xg 0 (by show QC (["one","other"]:List Str);decide +kernel)) (xg 1 (by show QC (["one","other"]:List Str);decide +kernel)))) (λ_ _ _ _ _=>(Wx Ww)) (λ_ _ _ _ _=>(Zfl (xv 0) (xv 1))))))))))))) xnl) (xsq (xif (MW.mt (Zty (Zq6 (xeq hu (xv 4) xci) (Znu (xeq hu (xv 4) xci))))) (xsq (xst 8 Yp.nd (Zgi (xce G_law_stir hr T.e_law_stir (Zd (xv 3) (xa1 xci))) (xv 2))) (xsq (xst 9 Yp.nd (Zgi (xce G_law_stir hr T.e_law_stir (Zd (xv 3) (xa1 xci))) (xv 2))) (xsq (xst 10 Yp.nd (xix (xls (Zd xci (Zd (Zhp xci (xv 4)) (xa1 (Z3w xci xci))))) (Zgi (xce G_law_stir hr T.e_law_stir (Zd (xv 3) (xa1 xci))) xci))) (Zh (xif (xne hu (xv 8) (xv 9)) (xsq (Zgz (Zgt 6 (Zes Z8c (Zjy Z07 (Zqu (by rfl)) (by rfl) T.z_max L2.B.boot_max (Zd xci (xa1 (Zfl (xix (xix (xo 6) (xv 8)) (xv 9)) (Zhp (Z2w xci (xv 4)) (xv 10))))))) (xv 8) (xv 9) (λ_ _=>rfl))) (Zh (Zgz (Zgt 6 (Zzy (Z7h (xix (xix (xo 6) (xv 8)) (xv 9)))) (xv 9) (xv 8) (λ_ _=>rfl))))) xnl))))) xnl) (Zh (Za1 (Zaq 6)))))))))
theorem Zh9:Zu ["script","k"] ["script","k"] (Zm Zb2):=fsc
theorem Zh4{f:Nat->Addr}{fd:Nat->XD}{cls:Nat->Addr}(T:Txt K mg f fd cls):FnOk P w K mg base CX0 1 (f 9) (fd 9) ["script","k"] (spD K (sD Yj)):=by
 refine Z5 T.e_law_cell_at.F Zh9 (S:=Zbc) rfl rfl (λcdv A outer s H E hr=>?_)
 exact(xsq (xif (xlt (xv 1) (xln T.z_len (xa1 (xv 0)))) (Zh (xrt (xix (xv 0) (xv 1)))) xnl) (Zh (xrt xci)))
theorem J3:Zu ["n","found","i","j","k"] ["n"] (Zm Zd7):=fsc
theorem Zl0{f:Nat->Addr}{fd:Nat->XD}{cls:Nat->Addr}(T:Txt K mg f fd cls):FnOk P w K mg base CX0 1 (f 10) (fd 10) ["n"] (spD K (sD Zab)):=by
 refine Z5 T.e_law_fours.F J3 (S:=Zcf) rfl rfl (λcdv A outer s H E hr=>?_)
 exact(xsq (xif (xlt (xv 0) xci) (Zh (xrt (xls (xa1 (Zxx (Zkt (by rfl) (by rfl) T.z_list L2.B.boot_list (by rfl) T.z_range L2.B.boot_range (xa1 (xv 0)))))))) xnl) (xsq (xso 1 J3.nd (xls xa0)) (xsq (xfr XM rfl (Zco (Ye (by rfl) T.z_range (xa1 (xv 0)))) (xg 2 J3.nd) (Zh (xfr XM rfl (Zco (Ye (by rfl) T.z_range (xa1 (xv 2)))) (xg 3 J3.nd) (Zh (xfr XM rfl (Zco (Ye (by rfl) T.z_range (xa1 (xv 3)))) (xg 4 J3.nd) (Zh (Zkp (Zk8 1 (Zas (Zhh ["l"] [4,3,2] ["l","k","j","i"] (Zco (Ye (by rfl) T.z_range (xa1 (xv 4)))) (λ_ _ _ _ _=>(xg 0 (by show QC (["l","k","j","i"]:List Str);decide +kernel))) (λ_ _ _ _ _=>(Wx Ww)) (λ_ _ _ _ _=>(xls (Zd (xv 0) (Zd (xv 1) (Zd (xv 2) (xa1 (xv 3))))))))))))))))) (Zh (Za1 (Zaq 1))))))
theorem Zak:Zu ["top","bottom","one","other","left"] ["top","bottom"] (Zm Zhg):=fsc
theorem Zig{f:Nat->Addr}{fd:Nat->XD}{cls:Nat->Addr}(T:Txt K mg f fd cls):FnOk P w K mg base CX0 1 (f 11) (fd 11) ["top","bottom"] (spD K (sD W2)):=by
 refine Z5 T.e_law_low.F Zak (S:=Zdt) rfl rfl (λcdv A outer s H E hr=>?_)
 have hu:=hr.units
 exact(xsq (xst 2 Zak.nd (Zes Z1k (Zjy Zry Zjs (by rfl) T.z_abs L2.B.boot_abs (xa1 (xv 0))))) (xsq (xst 3 Zak.nd (xv 1)) (xsq (Zo9 (Zow XM (xne hu (xv 3) xci) (xsq (xst 4 Zak.nd (Zgi (xv 2) (xv 3))) (xsq (xst 2 Zak.nd (xv 3)) (Zh (xst 3 Zak.nd (xv 4))))))) (Zh (xrt (xtp (Zd (Zmc (xv 0) (xv 2)) (xa1 (Zmc (xv 1) (xv 2))))))))))
theorem Zni:Zu ["cell","least","most","great"] ["cell","least","most","great"] (Zm Zfo):=fsc
theorem Znl{f:Nat->Addr}{fd:Nat->XD}{cls:Nat->Addr}(T:Txt K mg f fd cls):FnOk P w K mg base CX0 1 (f 12) (fd 12) ["cell","least","most","great"] (spD K (sD Ji)):=by
 refine Z5 T.e_law_size.F Zni (S:=Zdk) rfl rfl (λcdv A outer s H E hr=>?_)
 have hu:=hr.units
 exact(xsq (xif (xeq hu (Zgi (Zmc (xv 0) xci) xci) xci) (Zh (xrt (Zfl (Zfl (xv 2) xci) (Zgi (Zmc (xv 0) xci) (Z2w (xv 3) (xv 2)))))) xnl) (Zh (xrt (Zfl (xv 1) (Zgi (xv 0) (Z2w (Zfl (xv 2) xci) (xv 1)))))))
theorem Zln:Zu ["rows","bottom"] ["rows","bottom"] (Zm Zd3):=fsc
theorem Zlb{f:Nat->Addr}{fd:Nat->XD}{cls:Nat->Addr}(T:Txt K mg f fd cls):FnOk P w K mg base CX0 2 (f 13) (fd 13) ["rows","bottom"] (spD K (sD Zac)):=by
 have G_law_low:=Zig (P:=P) (w:=w) (base:=base) T
 refine Z5 T.e_law_table.F Zln (S:=Zcm) rfl rfl (λcdv A outer s H E hr=>?_)
 exact(Zh (xrt (Zas (Zhh ["row"] [1] ["row","bottom"] (xil (xv 0)) (λ_ _ _ _ _=>(xg 0 (by show QC (["row","bottom"]:List Str);decide +kernel))) (λ_ _ _ _ _=>(Wx Ww)) (λ_ _ _ _ _=>(Zas (Zhh ["one"] [1] ["one","bottom"] (xil (xv 0)) (λ_ _ _ _ _=>(xg 0 (by show QC (["one","bottom"]:List Str);decide +kernel))) (λ_ _ _ _ _=>(Wx Ww)) (λ_ _ _ _ _=>(xce G_law_low hr T.e_law_low (Zd (xv 0) (xa1 (xv 1))))))))))))
theorem Zna:Zu ["table","point"] ["table","point"] (Zm Zfd):=fsc
theorem Zme{f:Nat->Addr}{fd:Nat->XD}{cls:Nat->Addr}(T:Txt K mg f fd cls):FnOk P w K mg base CX0 1 (f 14) (fd 14) ["table","point"] (spD K (sD Zan)):=by
 refine Z5 T.e_is_point.F Zna (S:=Zdd) rfl rfl (λcdv A outer s H E hr=>?_)
 exact(Zh (xrt (Zva (Z1j Z4r Zv9 xci (xv 1) (xln T.z_len (xa1 (xv 0)))))))
theorem Zix:Zu ["table","points","point"] ["table","points"] (Zm Zht):=fsc
theorem Zqg{f:Nat->Addr}{fd:Nat->XD}{cls:Nat->Addr}(T:Txt K mg f fd cls):FnOk P w K mg base CX0 2 (f 15) (fd 15) ["table","points"] (spD K (sD Zbi)):=by
 have G_is_point:=Zme (P:=P) (w:=w) (base:=base) T
 refine Z5 T.e_is_part.F Zix (S:=Zdr) rfl rfl (λcdv A outer s H E hr=>?_)
 have hu:=hr.units
 exact(xsq (xfr XM rfl (xil (xv 1)) (xg 2 Zix.nd) (Zh (xif (xno (Zdx (Zdz (xce G_is_point hr T.e_is_point (Zd (xv 0) (xa1 (xv 2)))) (λ_=>rfl)))) (Zh (xrt (Zhx Zml))) xnl))) (Zh (xrt (Zfq (Zqd (Wf Ycu (Zgc Z6v Zhu (xln T.z_len (xa1 (xv 1))) xci (hm:=(Wy _)))) (Zr1 (Wf Zyl (Zgc (Zf4 hu) Zkc (Zsp (Zvw (by rfl) (by rfl) T.z_len L2.B.boot_len (by rfl) T.z_set L2.B.boot_set (xa1 (xv 1)))) (xln T.z_len (xa1 (xv 1))) (hm:=(Wy _))))))))))
theorem Zfp:Zu ["table","points","part","point"] ["table","points"] (Zm Zg0):=fsc
theorem Zpj{f:Nat->Addr}{fd:Nat->XD}{cls:Nat->Addr}(T:Txt K mg f fd cls):FnOk P w K mg base CX0 3 (f 16) (fd 16) ["table","points"] (spD K (sD Yx)):=by
 have G_is_part:=Zqg (P:=P) (w:=w) (base:=base) T
 refine Z5 T.e_part_of.F Zfp (S:=Zdu) rfl rfl (λcdv A outer s H E hr=>?_)
 exact(xsq (xif (xno (Zdx (Zdz (xce G_is_part hr T.e_is_part (Zd (xv 0) (xa1 (xv 1)))) (λ_=>rfl)))) (Zh Zjh) xnl) (xsq (xso 2 Zfp.nd (xls xa0)) (xsq (xfr XM rfl (xil (xv 1)) (xg 3 Zfp.nd) (Zh (J7 (J5 2 (Zas (Zhh ["other"] [0,3] ["other","table","point"] (xil (xv 1)) (λ_ _ _ _ _=>(xg 0 (by show QC (["other","table","point"]:List Str);decide +kernel))) (λ_ _ _ _ _=>(Wx Ww)) (λ_ _ _ _ _=>(xix (xix (xv 1) (xv 2)) (xv 0))))))))) (Zh (Za1 (Zaq 2))))))
theorem Zm1:Zu ["q","r"] ["q","r"] (Zm Zfg):=fsc
theorem Zg4{f:Nat->Addr}{fd:Nat->XD}{cls:Nat->Addr}(T:Txt K mg f fd cls):FnOk P w K mg base CX0 1 (f 17) (fd 17) ["q","r"] (spD K (sD Wo)):=by
 refine Z5 T.e_is_below.F Zm1 (S:=Zc2) rfl rfl (λcdv A outer s H E hr=>?_)
 exact(Zh (xrt (Wf Z8t (Zgc Zv9 Zhu (Zhp (xix (xv 0) xci) (xix (xv 1) xci)) (Zhp (xix (xv 1) xci) (xix (xv 0) xci)) (hm:=(Wy _))))))
theorem Yh:Zu ["a","b","left"] ["a","b"] (Zm Jf):=fsc
theorem Zaz{f:Nat->Addr}{fd:Nat->XD}{cls:Nat->Addr}(T:Txt K mg f fd cls):FnOk P w K mg base CX0 1 (f 18) (fd 18) ["a","b"] (spD K (sD Yb)):=by
 refine Z5 T.e_greatest_divisor.F Yh (S:=Jd) rfl rfl (λcdv A outer s H E hr=>?_)
 have hu:=hr.units
 exact(xsq (xst 0 Yh.nd (Zes Z1k (Zjy Zry Zjs (by rfl) T.z_abs L2.B.boot_abs (xa1 (xv 0))))) (xsq (xst 1 Yh.nd (Zes Z1k (Zjy Zry Zjs (by rfl) T.z_abs L2.B.boot_abs (xa1 (xv 1))))) (xsq (Zo9 (Zow XM (xne hu (xv 1) xci) (xsq (xst 2 Yh.nd (Zgi (xv 0) (xv 1))) (xsq (xst 0 Yh.nd (xv 1)) (Zh (xst 1 Yh.nd (xv 2))))))) (Zh (xrt (xv 0))))))
theorem Zd6:Zu ["top","bottom","shared"] ["top","bottom"] (Zm Ze8):=fsc
theorem Zee{f:Nat->Addr}{fd:Nat->XD}{cls:Nat->Addr}(T:Txt K mg f fd cls):FnOk P w K mg base CX0 2 (f 19) (fd 19) ["top","bottom"] (spD K (sD Wq)):=by
 have G_greatest_divisor:=Zaz (P:=P) (w:=w) (base:=base) T
 refine Z5 T.e_in_least.F Zd6 (S:=Zdf) rfl rfl (λcdv A outer s H E hr=>?_)
 exact(xsq (xst 2 Zd6.nd (xce G_greatest_divisor hr T.e_greatest_divisor (Zd (xv 0) (xa1 (xv 1))))) (xsq (xif (xlt (xv 1) xci) (Zh (xst 2 Zd6.nd (Znn (Zw4 (xv 2))))) xnl) (Zh (xrt (xtp (Zd (Zmc (xv 0) (xv 2)) (xa1 (Zmc (xv 1) (xv 2)))))))))
theorem Zui:Zu ["q","r"] ["q","r"] (Zm Zmz):=fsc
theorem Zvh{f:Nat->Addr}{fd:Nat->XD}{cls:Nat->Addr}(T:Txt K mg f fd cls):FnOk P w K mg base CX0 3 (f 20) (fd 20) ["q","r"] (spD K (sD Zcy)):=by
 have G_in_least:=Zee (P:=P) (w:=w) (base:=base) T
 refine Z5 T.e_times.F Zui (S:=Zfz) rfl rfl (λcdv A outer s H E hr=>?_)
 exact(Zh (xrt (xce G_in_least hr T.e_in_least (Zd (Zhp (xix (xv 0) xci) (xix (xv 1) xci)) (xa1 (Zhp (xix (xv 0) xci) (xix (xv 1) xci)))))))
theorem Zbj:Zu ["q","table","grown","row"] ["q","table"] (Zm Zb4):=fsc
theorem Zh8{f:Nat->Addr}{fd:Nat->XD}{cls:Nat->Addr}(T:Txt K mg f fd cls):FnOk P w K mg base CX0 4 (f 21) (fd 21) ["q","table"] (spD K (sD Yu)):=by
 have G_is_below:=Zg4 (P:=P) (w:=w) (base:=base) T
 have G_times:=Zvh (P:=P) (w:=w) (base:=base) T
 refine Z5 T.e_times_table.F Zbj (S:=Zbe) rfl rfl (λcdv A outer s H E hr=>?_)
 exact(xsq (xif (Zdx (Zdz (xce G_is_below hr T.e_is_below (Zd (xv 0) (xa1 (xtp (Zd xci (xa1 xci)))))) (λ_=>rfl))) (Zh Zjh) xnl) (xsq (xso 2 Zbj.nd (xls xa0)) (xsq (xfr XM rfl (xil (xv 1)) (xg 3 Zbj.nd) (Zh (J7 (J5 2 (Zas (Zhh ["r"] [0] ["r","q"] (xil (xv 3)) (λ_ _ _ _ _=>(xg 0 (by show QC (["r","q"]:List Str);decide +kernel))) (λ_ _ _ _ _=>(Wx Ww)) (λ_ _ _ _ _=>(xce G_times hr T.e_times (Zd (xv 1) (xa1 (xv 0))))))))))) (Zh (Za1 (Zaq 2))))))
theorem Ja:Zu ["sums","ranked"] ["sums"] (Zm Y9):=fsc
theorem Zbp{f:Nat->Addr}{fd:Nat->XD}{cls:Nat->Addr}(T:Txt K mg f fd cls):FnOk P w K mg base CX0 1 (f 22) (fd 22) ["sums"] (spD K (sD Z8)):=by
 refine Z5 T.e_is_one_alone_greatest.F Ja (S:=Wj) rfl rfl (λcdv A outer s H E hr=>?_)
 exact(xsq (xst 1 Ja.nd (Zvz Zz0 (Z9y Zws (Zqh rfl) (by rfl) T.z_sorted L2.B.boot_sorted (xa1 (xv 0))))) (Zh (xrt (Wf Z8t (Zgc Zv9 Zhu (xix (xv 1) xci) (xix (xv 1) xci) (hm:=(Wy _)))))))
theorem Yo:Zu ["n","many","begun","step","grown","points","least"] ["n","many"] (Zm Za0):=fsc
theorem Zf8{f:Nat->Addr}{fd:Nat->XD}{cls:Nat->Addr}(T:Txt K mg f fd cls):FnOk P w K mg base CX0 1 (f 23) (fd 23) ["n","many"] (spD K (sD Wv)):=by
 refine Z5 T.e_rising_tuples.F Yo (S:=Zag) rfl rfl (λcdv A outer s H E hr=>?_)
 exact(xsq (xst 2 Yo.nd (xls (xa1 (xtp xa0)))) (xsq (xfr XM rfl (Zco (Ye (by rfl) T.z_range (xa1 (xv 1)))) (xg 3 Yo.nd) (xsq (xso 4 Yo.nd (xls xa0)) (xsq (xfr XM rfl (xil (xv 2)) (xg 5 Yo.nd) (xsq (xst 6 Yo.nd (Zpv (Z90 (Yc0 (xgt (xln T.z_len (xa1 (xv 5))) xci) (Zfl (xix (xv 5) (Znn (Zw4 xci))) xci) xci)))) (Zh (Zkp (Zk8 4 (Zas (Zhh ["point"] [5] ["point","points"] (Z00 (Zg6 (by rfl) T.z_range (Zd (xv 6) (xa1 (xv 0))))) (λ_ _ _ _ _=>(xg 0 (by show QC (["point","points"]:List Str);decide +kernel))) (λ_ _ _ _ _=>(Wx Ww)) (λ_ _ _ _ _=>(Zpv (Ziq Z4k (Z3g Z15 Z2q (xv 1) (xtp (xa1 (xv 0)))))))))))))) (Zh (Zkk (Zkz 4 (xst 2 Yo.nd (xv 4)))))))) (Zh (xrt (xv 2)))))
theorem Zj1:Zu ["rows","i","j","k","l"] ["rows","i","j","k","l"] (Zm Zc1):=fsc
theorem Zeo{f:Nat->Addr}{fd:Nat->XD}{cls:Nat->Addr}(T:Txt K mg f fd cls):FnOk P w K mg base CX0 1 (f 24) (fd 24) ["rows","i","j","k","l"] (spD K (sD Z4)):=by
 refine Z5 T.e_three_sums.F Zj1 (S:=Zbo) rfl rfl (λcdv A outer s H E hr=>?_)
 exact(Zh (xrt (xtp (Zd (Zfl (xix (xix (xv 0) (xv 1)) (xv 2)) (xix (xix (xv 0) (xv 3)) (xv 4))) (Zd (Zfl (xix (xix (xv 0) (xv 1)) (xv 3)) (xix (xix (xv 0) (xv 2)) (xv 4))) (xa1 (Zfl (xix (xix (xv 0) (xv 1)) (xv 4)) (xix (xix (xv 0) (xv 2)) (xv 3)))))))))
theorem Jc:Zu ["rows","i","j","k","l"] ["rows"] (Zm Zdi):=fsc
theorem Zjn{f:Nat->Addr}{fd:Nat->XD}{cls:Nat->Addr}(T:Txt K mg f fd cls):FnOk P w K mg base CX0 2 (f 25) (fd 25) ["rows"] (spD K (sD Jx)):=by
 have G_is_one_alone_greatest:=Zbp (P:=P) (w:=w) (base:=base) T
 have G_rising_tuples:=Zf8 (P:=P) (w:=w) (base:=base) T
 have G_three_sums:=Zeo (P:=P) (w:=w) (base:=base) T
 refine Z5 T.e_first_four.F Jc (S:=Zbm) rfl rfl (λcdv A outer s H E hr=>?_)
 exact(xsq (xfr XM rfl (xil (xce G_rising_tuples hr T.e_rising_tuples (Zd (xln T.z_len (xa1 (xv 0))) (xa1 xci)))) (Zqx (Zr6 (n:=4) (by rfl) (Zbd (Za7 (xg 1 Jc.nd) (Zbd (Za7 (xg 2 Jc.nd) (Zbd (Za7 (xg 3 Jc.nd) (Zbd (Za7 (xg 4 Jc.nd) (Zne Zmk))))))))))) (Zh (xif (Zdx (Zdz (xce G_is_one_alone_greatest hr T.e_is_one_alone_greatest (xa1 (xce G_three_sums hr T.e_three_sums (Zd (xv 0) (Zd (xv 1) (Zd (xv 2) (Zd (xv 3) (xa1 (xv 4))))))))) (λ_=>rfl))) (Zh (xrt (xtp (Zd (xv 1) (Zd (xv 2) (Zd (xv 3) (xa1 (xv 4)))))))) xnl))) (Zh (xrt (Zhx Zoq))))
theorem Z0z:Zu ["q","r"] ["q","r"] (Zm Zr0):=fsc
theorem Z1u{f:Nat->Addr}{fd:Nat->XD}{cls:Nat->Addr}(T:Txt K mg f fd cls):FnOk P w K mg base CX0 3 (f 26) (fd 26) ["q","r"] (spD K (sD Zd1)):=by
 have G_in_least:=Zee (P:=P) (w:=w) (base:=base) T
 refine Z5 T.e_plus.F Z0z (S:=Zhb) rfl rfl (λcdv A outer s H E hr=>?_)
 exact(Zh (xrt (xce G_in_least hr T.e_in_least (Zd (Zfl (Zhp (xix (xv 0) xci) (xix (xv 1) xci)) (Zhp (xix (xv 1) xci) (xix (xv 0) xci))) (xa1 (Zhp (xix (xv 0) xci) (xix (xv 1) xci)))))))
theorem Zib:Zu ["table","i","j","k"] ["table","i","j","k"] (Zm Zby):=fsc
theorem Zhz{f:Nat->Addr}{fd:Nat->XD}{cls:Nat->Addr}(T:Txt K mg f fd cls):FnOk P w K mg base CX0 4 (f 27) (fd 27) ["table","i","j","k"] (spD K (sD Jj)):=by
 have G_is_below:=Zg4 (P:=P) (w:=w) (base:=base) T
 have G_plus:=Z1u (P:=P) (w:=w) (base:=base) T
 refine Z5 T.e_is_short_by.F Zib (S:=Za6) rfl rfl (λcdv A outer s H E hr=>?_)
 exact(Zh (xrt (xce G_is_below hr T.e_is_below (Zd (xce G_plus hr T.e_plus (Zd (xix (xix (xv 0) (xv 1)) (xv 2)) (xa1 (xix (xix (xv 0) (xv 2)) (xv 3))))) (xa1 (xix (xix (xv 0) (xv 1)) (xv 3)))))))
theorem Wz:Zu ["table","n","i","j","k"] ["table"] (Zm Zcc):=fsc
theorem Zh6{f:Nat->Addr}{fd:Nat->XD}{cls:Nat->Addr}(T:Txt K mg f fd cls):FnOk P w K mg base CX0 5 (f 28) (fd 28) ["table"] (spD K (sD Wi)):=by
 have G_is_short_by:=Zhz (P:=P) (w:=w) (base:=base) T
 refine Z5 T.e_first_short.F Wz (S:=Za8) rfl rfl (λcdv A outer s H E hr=>?_)
 exact(xsq (xst 1 Wz.nd (xln T.z_len (xa1 (xv 0)))) (xsq (xfr XM rfl (Zco (Ye (by rfl) T.z_range (xa1 (xv 1)))) (xg 2 Wz.nd) (Zh (xfr XM rfl (Zco (Ye (by rfl) T.z_range (xa1 (xv 1)))) (xg 3 Wz.nd) (Zh (xfr XM rfl (Zco (Ye (by rfl) T.z_range (xa1 (xv 1)))) (xg 4 Wz.nd) (Zh (xif (Zdx (Zdz (xce G_is_short_by hr T.e_is_short_by (Zd (xv 0) (Zd (xv 2) (Zd (xv 3) (xa1 (xv 4)))))) (λ_=>rfl))) (Zh (xrt (xtp (Zd (xv 2) (Zd (xv 3) (xa1 (xv 4))))))) xnl))))))) (Zh (xrt (Zhx Zoq)))))
theorem W5:Zu ["numbers","bottom","q"] ["numbers"] (Zm Zav):=fsc
theorem Zga{f:Nat->Addr}{fd:Nat->XD}{cls:Nat->Addr}(T:Txt K mg f fd cls):FnOk P w K mg base CX0 2 (f 29) (fd 29) ["numbers"] (spD K (sD Y0)):=by
 have G_greatest_divisor:=Zaz (P:=P) (w:=w) (base:=base) T
 refine Z5 T.e_shared_bottom.F W5 (S:=Zah) rfl rfl (λcdv A outer s H E hr=>?_)
 exact(xsq (xst 1 W5.nd xci) (xsq (xfr XM rfl (xil (xv 0)) (xg 2 W5.nd) (Zh (xst 1 W5.nd (Zhp (Zmc (xv 1) (xce G_greatest_divisor hr T.e_greatest_divisor (Zd (xv 1) (xa1 (xix (xv 2) xci))))) (xix (xv 2) xci))))) (Zh (xrt (xv 1)))))
theorem Jl:Zu ["table","bottom","row"] ["table"] (Zm Zbk):=fsc
theorem Zct{f:Nat->Addr}{fd:Nat->XD}{cls:Nat->Addr}(T:Txt K mg f fd cls):FnOk P w K mg base CX0 3 (f 30) (fd 30) ["table"] (spD K (sD Yg)):=by
 have G_shared_bottom:=Zga (P:=P) (w:=w) (base:=base) T
 refine Z5 T.e_table_bottom.F Jl (S:=Zat) rfl rfl (λcdv A outer s H E hr=>?_)
 exact(xsq (xst 1 Jl.nd xci) (xsq (xfr XM rfl (xil (xv 0)) (xg 2 Jl.nd) (Zh (xst 1 Jl.nd (xce G_shared_bottom hr T.e_shared_bottom (xa1 (Zpv (Ziq Zvm (Z3g (Zj7 rfl) Zn7 (xls (xa1 (xtp (Zd xci (xa1 (xv 1)))))) (xv 2))))))))) (Zh (xrt (xv 1)))))
theorem Zk7:Zu ["bottom","numbers"] ["bottom","numbers"] (Zm Zea):=fsc
theorem Zkx{f:Nat->Addr}{fd:Nat->XD}{cls:Nat->Addr}(T:Txt K mg f fd cls):FnOk P w K mg base CX0 1 (f 31) (fd 31) ["bottom","numbers"] (spD K (sD J9)):=by
 refine Z5 T.e_tops_over.F Zk7 (S:=Zck) rfl rfl (λcdv A outer s H E hr=>?_)
 exact(Zh (xrt (Zas (Zhh ["q"] [0] ["q","bottom"] (xil (xv 1)) (λ_ _ _ _ _=>(xg 0 (by show QC (["q","bottom"]:List Str);decide +kernel))) (λ_ _ _ _ _=>(Wx Ww)) (λ_ _ _ _ _=>(Zhp (xix (xv 0) xci) (Zmc (xv 1) (xix (xv 0) xci))))))))
theorem Zjk:Zu ["bottom","table"] ["bottom","table"] (Zm Zdj):=fsc
theorem Zer{f:Nat->Addr}{fd:Nat->XD}{cls:Nat->Addr}(T:Txt K mg f fd cls):FnOk P w K mg base CX0 2 (f 32) (fd 32) ["bottom","table"] (spD K (sD Y7)):=by
 have G_tops_over:=Zkx (P:=P) (w:=w) (base:=base) T
 refine Z5 T.e_table_over.F Zjk (S:=Zbw) rfl rfl (λcdv A outer s H E hr=>?_)
 exact(Zh (xrt (Zas (Zhh ["row"] [0] ["row","bottom"] (xil (xv 1)) (λ_ _ _ _ _=>(xg 0 (by show QC (["row","bottom"]:List Str);decide +kernel))) (λ_ _ _ _ _=>(Wx Ww)) (λ_ _ _ _ _=>(xce G_tops_over hr T.e_tops_over (Zd (xv 1) (xa1 (xv 0)))))))))
theorem Zet:Zu ["table","short"] ["table"] (Zm Zcz):=fsc
theorem Zjq{f:Nat->Addr}{fd:Nat->XD}{cls:Nat->Addr}(T:Txt K mg f fd cls):FnOk P w K mg base CX0 6 (f 33) (fd 33) ["table"] (spD K (sD Jw)):=by
 have G_first_four:=Zjn (P:=P) (w:=w) (base:=base) T
 have G_first_short:=Zh6 (P:=P) (w:=w) (base:=base) T
 have G_table_bottom:=Zct (P:=P) (w:=w) (base:=base) T
 have G_table_over:=Zer (P:=P) (w:=w) (base:=base) T
 refine Z5 T.e_first_bars.F Zet (S:=Zbr) rfl rfl (λcdv A outer s H E hr=>?_)
 exact(xsq (xst 1 Zet.nd (xce G_first_short hr T.e_first_short (xa1 (xv 0)))) (xsq (xif (Zbv Zs9 (Zbn Zt7 Zsi (xv 1) (Zhx Zoq) (hm:=(Wy _)))) (Zh (xrt (xv 1))) xnl) (Zh (xrt (xce G_first_four hr T.e_first_four (xa1 (xce G_table_over hr T.e_table_over (Zd (xce G_table_bottom hr T.e_table_bottom (xa1 (xv 0))) (xa1 (xv 0))))))))))
theorem Zlf:Zu ["sums"] ["sums"] (Zm Zeg):=fsc
theorem Zf1{f:Nat->Addr}{fd:Nat->XD}{cls:Nat->Addr}(T:Txt K mg f fd cls):FnOk P w K mg base CX0 1 (f 34) (fd 34) ["sums"] (spD K (sD Yn)):=by
 refine Z5 T.e_tree_rule.F Zlf (S:=Zch) rfl rfl (λcdv A outer s H E hr=>?_)
 exact(Zh (xrt (Z2w (Zes Z50 (Zjy Zqt (Zlx (by rfl)) (by rfl) T.z_min L2.B.boot_min (Zd (xix (xv 0) xci) (xa1 (xix (xv 0) xci))))) (xix (xv 0) xci))))
theorem Zca:Zu ["n","sides","point"] ["n"] (Zm Zfx):=fsc
theorem Zmx{f:Nat->Addr}{fd:Nat->XD}{cls:Nat->Addr}(T:Txt K mg f fd cls):FnOk P w K mg base CX0 1 (f 35) (fd 35) ["n"] (spD K (sD Y5)):=by
 refine Z5 T.e_all_cuts.F Zca (S:=Zc4) rfl rfl (λcdv A outer s H E hr=>?_)
 have hu:=hr.units
 exact(xsq (xst 1 Zca.nd (xls (xa1 (xls xa0)))) (xsq (xfr XM rfl (Z00 (Zg6 (by rfl) T.z_range (Zd xci (xa1 (xv 0))))) (xg 2 Zca.nd) (Zh (xst 1 Zca.nd (Zpv (Ziq Zvm (Z3g (Zj7 rfl) Zn7 (xv 1) (Zas (Zhh ["side"] [2] ["side","point"] (xil (xv 1)) (λ_ _ _ _ _=>(xg 0 (by show QC (["side","point"]:List Str);decide +kernel))) (λ_ _ _ _ _=>(Wx Ww)) (λ_ _ _ _ _=>(Zpv (Ziq Zvm (Z3g (Zj7 rfl) Zn7 (xv 0) (xls (xa1 (xv 1))))))))))))))) (Zh (xrt (Zas (Zhh ["side"] [] ["side"] (xil (Zvz Zy9 (Z9y Zxa (Zqf Z4g rfl hu) (by rfl) T.z_sorted L2.B.boot_sorted (xa1 (xv 1))))) (λ_ _ _ _ _=>(xg 0 (by show QC (["side"]:List Str);decide +kernel))) (λ_ _ _ _ _=>(Ztd (xgt (xln T.z_len (xa1 (xv 0))) xci))) (λ_ _ _ _ _=>(xv 0))))))))
theorem Zm7:Zu ["thing"] ["thing"] (Zm Zfe):=fsc
theorem Zmo{f:Nat->Addr}{fd:Nat->XD}{cls:Nat->Addr}(T:Txt K mg f fd cls):FnOk P w K mg base CX0 1 (f 36) (fd 36) ["thing"] (spD K (sD Wr)):=by
 refine Z5 T.e_is_whole.F Zm7 (S:=Zc9) rfl rfl (λcdv A outer s H E hr=>?_)
 exact(Zh (xrt (Zfq (Zqd (Zc8 (Zgn (by decide) (by rfl) T.z_isinstance L2.B.boot_isinstance (by rfl) T.z_int L2.B.boot_int (xv 0))) (Zr1 (Zqv (Z4j (Zc8 (Zgn (by decide) (by rfl) T.z_isinstance L2.B.boot_isinstance (by rfl) T.z_bool L2.B.boot_bool (xv 0))))))))))
theorem Zmq:Zu ["top","bottom"] ["top","bottom"] (Zm Zfn):=fsc
theorem Zm8{f:Nat->Addr}{fd:Nat->XD}{cls:Nat->Addr}(T:Txt K mg f fd cls):FnOk P w K mg base CX0 3 (f 37) (fd 37) ["top","bottom"] (spD K (sD Jh)):=by
 have G_in_least:=Zee (P:=P) (w:=w) (base:=base) T
 have G_is_whole:=Zmo (P:=P) (w:=w) (base:=base) T
 refine Z5 T.e_fraction.F Zmq (S:=Zcq) rfl rfl (λcdv A outer s H E hr=>?_)
 have hu:=hr.units
 exact(xsq (xif (MW.mt (Zty (Zq6 (xno (Zdx (Zdz (xce G_is_whole hr T.e_is_whole (xa1 (xv 0))) (λ_=>rfl)))) (Zty (Zq6 (xno (Zdx (Zdz (xce G_is_whole hr T.e_is_whole (xa1 (xv 1))) (λ_=>rfl)))) (Znu (xeq hu (xv 1) xci))))))) (Zh Zjh) xnl) (Zh (xrt (xce G_in_least hr T.e_in_least (Zd (xv 0) (xa1 (xv 1)))))))
theorem Je:Zu ["points","doubles","place","point","other"] ["points"] (Zm Zc5):=fsc
theorem Zjt{f:Nat->Addr}{fd:Nat->XD}{cls:Nat->Addr}(T:Txt K mg f fd cls):FnOk P w K mg base CX0 1 (f 38) (fd 38) ["points"] (spD K (sD Wu)):=by
 refine Z5 T.e_doubles_of.F Je (S:=Zbq) rfl rfl (λcdv A outer s H E hr=>?_)
 exact(xsq (xso 1 Je.nd (xls xa0)) (xsq (xfr XM rfl (Z17 (Zz5 (by rfl) T.z_enumerate L2.B.boot_enumerate (xa1 (xv 0)))) (xg2 rfl (xg 2 Je.nd) (xg 3 Je.nd)) (Zh (xfr XM rfl (xil (Z8f (Z8x (xv 0) (Zrd (Zt0 (xv 2))) (Zmv Zm9)))) (xg 4 Je.nd) (Zh (J7 (J5 1 (xtp (Zd (xv 3) (xa1 (xv 4)))))))))) (Zh (Za1 (Zaq 1)))))
theorem Z0:Zu ["rows","cut","rule","others","beyond","least","a","b","c","e"] ["rows","cut","rule"] (Zm Jg):=fsc
theorem Zeb{f:Nat->Addr}{fd:Nat->XD}{cls:Nat->Addr}(T:Txt K mg f fd cls):FnOk P w K mg base CX0 2 (f 39) (fd 39) ["rows","cut","rule"] (spD K (sD Yc)):=by
 have G_doubles_of:=Zjt (P:=P) (w:=w) (base:=base) T
 have G_three_sums:=Zeo (P:=P) (w:=w) (base:=base) T
 have G_tree_rule:=Zf1 (P:=P) (w:=w) (base:=base) T
 refine Z5 T.e_least_over_sides.F Z0 (S:=Jm) rfl rfl (λcdv A outer s H E hr=>?_)
 exact(xsq (Zmj (Zam (i:=3) (own:=["point"]) (caps:=[1]) (N':=["point","cut"]) false Z0.nd rfl (Qq rfl) (by exact⟨rfl,by decide +kernel,rfl,by decide +kernel,rfl,rfl⟩) (by rfl) (by decide) (Zco (Ye (by rfl) T.z_range (xa1 (xln T.z_len (xa1 (xv 0)))))) (λ_ _ _ _ _=>(xg 0 (by show QC (["point","cut"]:List Str);decide +kernel))) (λ_ _ _ _ _=>(Ztd (Zbv Zvr (Zbn (Zk4 rfl) Zxg (xv 0) (xv 1) (hm:=(by with_unfolding_all rfl)))))) (λ_ _ _ _ _=>(xv 0)))) (xsq (xst 4 Z0.nd (xce G_doubles_of hr T.e_doubles_of (xa1 (xv 3)))) (xsq (xst 5 Z0.nd (Zot (Zt9 (i:=2) G_tree_rule (hr.mono (by decide)) T.fa_tree_rule T.e_tree_rule.F.kp T.e_tree_rule.b Zut (xa1 (xce G_three_sums hr T.e_three_sums (Zd (xv 0) (Zd (xix (xv 1) xci) (Zd (xix (xv 1) xci) (Zd xci (xa1 xci)))))))))) (xsq (xfr XM rfl (xil (xce G_doubles_of hr T.e_doubles_of (xa1 (xv 1)))) (xg2 rfl (xg 6 Z0.nd) (xg 7 Z0.nd)) (xsq (xfr XM rfl (xil (xv 4)) (xg2 rfl (xg 8 Z0.nd) (xg 9 Z0.nd)) (Zh (xst 5 Z0.nd (Zes Z50 (Zjy Zqt (Zlx (by rfl)) (by rfl) T.z_min L2.B.boot_min (Zd (xv 5) (xa1 (Zot (Zt9 (i:=2) G_tree_rule (hr.mono (by decide)) T.fa_tree_rule T.e_tree_rule.F.kp T.e_tree_rule.b Zut (xa1 (xce G_three_sums hr T.e_three_sums (Zd (xv 0) (Zd (xv 6) (Zd (xv 7) (Zd (xv 8) (xa1 (xv 9))))))))))))))))) (Zh (xif (xle (xv 5) xci) (Zh (xrt xci)) xnl)))) (Zh (xrt (xv 5)))))))
theorem Wd:Zu ["table","rule","bottom","rows","weighted","cut","least"] ["table","rule"] (Zm Zb1):=fsc
theorem Zh2{f:Nat->Addr}{fd:Nat->XD}{cls:Nat->Addr}(T:Txt K mg f fd cls):FnOk P w K mg base CX0 4 (f 40) (fd 40) ["table","rule"] (spD K (sD Jk)):=by
 have G_all_cuts:=Zmx (P:=P) (w:=w) (base:=base) T
 have G_fraction:=Zm8 (P:=P) (w:=w) (base:=base) T
 have G_least_over_sides:=Zeb (P:=P) (w:=w) (base:=base) T
 have G_table_bottom:=Zct (P:=P) (w:=w) (base:=base) T
 have G_table_over:=Zer (P:=P) (w:=w) (base:=base) T
 refine Z5 T.e_weighted_by.F Wd (S:=Zba) rfl rfl (λcdv A outer s H E hr=>?_)
 exact(xsq (xst 2 Wd.nd (xce G_table_bottom hr T.e_table_bottom (xa1 (xv 0)))) (xsq (xst 3 Wd.nd (xce G_table_over hr T.e_table_over (Zd (xv 2) (xa1 (xv 0))))) (xsq (xso 4 Wd.nd (xls xa0)) (xsq (xfr XM rfl (xil (xce G_all_cuts hr T.e_all_cuts (xa1 (xln T.z_len (xa1 (xv 0)))))) (xg 5 Wd.nd) (xsq (xst 6 Wd.nd (xce G_least_over_sides hr T.e_least_over_sides (Zd (xv 3) (Zd (xv 5) (xa1 (xv 1)))))) (Zh (xif (xgt (xv 6) xci) (Zh (J7 (J5 4 (xtp (Zd (xv 5) (xa1 (xce G_fraction hr T.e_fraction (Zd (xv 6) (xa1 (Zhp xci (xv 2))))))))))) xnl)))) (Zh (Za1 (Zaq 4)))))))
theorem Zf2:Zu ["table","bars"] ["table"] (Zm Zec):=fsc
theorem Zk5{f:Nat->Addr}{fd:Nat->XD}{cls:Nat->Addr}(T:Txt K mg f fd cls):FnOk P w K mg base CX0 7 (f 41) (fd 41) ["table"] (spD K (sD Zo)):=by
 have G_first_bars:=Zjq (P:=P) (w:=w) (base:=base) T
 have G_tree_rule:=Zf1 (P:=P) (w:=w) (base:=base) T
 have G_weighted_by:=Zh2 (P:=P) (w:=w) (base:=base) T
 refine Z5 T.e_tree_told.F Zf2 (S:=Zcl) rfl rfl (λcdv A outer s H E hr=>?_)
 exact(xsq (xst 1 Zf2.nd (xce G_first_bars hr T.e_first_bars (xa1 (xv 0)))) (xsq (xif (Zbv Zs9 (Zbn Zt7 Zsi (xv 1) (Zhx Zoq) (hm:=(Wy _)))) (Zh (xrt (xtp (Zd (Zhx Zep) (xa1 (xv 1)))))) xnl) (Zh (xrt (xtp (Zd (Zhx Zep) (xa1 (xce G_weighted_by hr T.e_weighted_by (Zd (xv 0) (xa1 (Zhx (Yd3 (by rfl) T.e_tree_rule.m T.fa_tree_rule))))))))))))
theorem Zdw:Zu ["script","n","cell","bottom","table","word","told","words","by","due"] ["script"] (Zm Z0g):=fsc
theorem Z3h{f:Nat->Addr}{fd:Nat->XD}{cls:Nat->Addr}(T:Txt K mg f fd cls):FnOk P w K mg base CX0 8 (f 42) (fd 42) ["script"] (spD K (sD Zfs)):=by
 have G_law_alike:=Zl6 (P:=P) (w:=w) (base:=base) T
 have G_law_bottom:=Zi3 (P:=P) (w:=w) (base:=base) T
 have G_law_built:=Zlq (P:=P) (w:=w) (base:=base) T
 have G_law_cell_at:=Zh4 (P:=P) (w:=w) (base:=base) T
 have G_law_fours:=Zl0 (P:=P) (w:=w) (base:=base) T
 have G_law_low:=Zig (P:=P) (w:=w) (base:=base) T
 have G_law_size:=Znl (P:=P) (w:=w) (base:=base) T
 have G_law_table:=Zlb (P:=P) (w:=w) (base:=base) T
 have G_part_of:=Zpj (P:=P) (w:=w) (base:=base) T
 have G_times_table:=Zh8 (P:=P) (w:=w) (base:=base) T
 have G_tree_told:=Zk5 (P:=P) (w:=w) (base:=base) T
 refine Z5 T.e_law.F Zdw (S:=Zih) rfl rfl (λcdv A outer s H E hr=>?_)
 have hu:=hr.units
 exact(xsq (xst 1 Zdw.nd (xce G_law_size hr T.e_law_size (Zd (xce G_law_cell_at hr T.e_law_cell_at (Zd (xv 0) (xa1 xci))) (Zd xci (Zd xci (xa1 xci)))))) (xsq (xst 2 Zdw.nd (xce G_law_cell_at hr T.e_law_cell_at (Zd (xv 0) (xa1 xci)))) (xsq (xst 3 Zdw.nd (xce G_law_bottom hr T.e_law_bottom (xa1 (xv 2)))) (xsq (Zs0 (Zsb (i:=4) Zdw.nd rfl (Qj rfl) (xce G_law_table hr T.e_law_table (Zd (xce G_law_built hr T.e_law_built (Zd (xv 0) (Zd xci (Zd (xv 1) (xa1 (xv 2)))))) (xa1 (xv 3)))))) (xsq (Z6y (Z3z (xce G_tree_told hr T.e_tree_told (xa1 (xv 4))) (xg2 rfl (xg 5 Zdw.nd) (xg 6 Zdw.nd)))) (xsq (Zmj (Zam (i:=7) (own:=["four"]) (caps:=[4]) (N':=["four","table"]) false Zdw.nd rfl (Qq rfl) (by exact⟨rfl,by decide +kernel,rfl,by decide +kernel,rfl,rfl⟩) (by rfl) (by decide) (xil (xce G_law_fours hr T.e_law_fours (xa1 (xv 1)))) (λ_ _ _ _ _=>(xg 0 (by show QC (["four","table"]:List Str);decide +kernel))) (λ_ _ _ _ _=>(Wx Ww)) (λ_ _ _ _ _=>(xix (xce G_tree_told hr T.e_tree_told (xa1 (xce G_part_of hr T.e_part_of (Zd (xv 1) (xa1 (xv 0)))))) xci)))) (xsq (xif (MW.mt (Zty (Zq6 (Zbv Zvr (Zbn (Zk4 rfl) Zxg (xv 5) (xtp (Zd (Zhx Zep) (xa1 (Zhx Zep)))) (hm:=(by with_unfolding_all rfl)))) (Znu (xne hu (Wf Zyl (Zgc (Zf4 hu) Zkc (xv 5) (Zhx Zep) (hm:=(Wy _)))) (Wf Zyl (Zgc (Zf4 hu) Zkc (xv 7) (Zr3 (Z0w (Zhx Zep) (xln T.z_len (xa1 (xv 7))))) (hm:=(Wy _))))))))) (Zh (xrt (Zhx Zml))) xnl) (xsq (xif (xne hu (xix (xce G_tree_told hr T.e_tree_told (xa1 (xce G_part_of hr T.e_part_of (Zd (xv 4) (xa1 (Z1t (Z56 (Zxx (Zkt (by rfl) (by rfl) T.z_list L2.B.boot_list (by rfl) T.z_range L2.B.boot_range (xa1 (xv 1)))) (Zmv Zm9) (Zmv Zm9) (Zrd (Zt0 (Znn (Zw4 xci))))))))))) xci) (xv 5)) (Zh (xrt (Zhx Zml))) xnl) (xsq (Zs0 (Zsb (i:=8) Zdw.nd rfl (Qj rfl) (xce G_law_low hr T.e_law_low (Zd (Zfl xci (Zgi (xce G_law_cell_at hr T.e_law_cell_at (Zd (xv 0) (xa1 xci))) xci)) (xa1 (Zfl xci (Zgi (Zmc (xce G_law_cell_at hr T.e_law_cell_at (Zd (xv 0) (xa1 xci))) xci) xci))))))) (xsq (xif (xeq hu (xv 5) (Zhx Zep)) (Zh (xrt (Zfq (Zqd (Wf Zyl (Zgc (Zf4 hu) Zkc (xix (xce G_tree_told hr T.e_tree_told (xa1 (xce G_part_of hr T.e_part_of (Zd (xv 4) (xa1 (Zvz Z5q (Ydk Zz2 (Zit rfl) (by rfl) T.z_list L2.B.boot_list (xa1 (xv 6))))))))) xci) (Zhx Zep) (hm:=(Wy _)))) (Zr1 (Wf Zyl (Zgc (Zf4 hu) Zkc (xce G_tree_told hr T.e_tree_told (xa1 (xce G_times_table hr T.e_times_table (Zd (xv 8) (xa1 (xv 4)))))) (xtp (Zd (xv 5) (xa1 (xv 6)))) (hm:=(Wy _))))))))) xnl) (xsq (Zmj (Zam (i:=9) (own:=["side","weight"]) (caps:=[8]) (N':=["side","weight","by"]) false Zdw.nd rfl (Qq rfl) (by exact⟨rfl,by decide +kernel,rfl,by decide +kernel,rfl,rfl⟩) (by rfl) (by decide) (xil (xv 6)) (λ_ _ _ _ _=>(xg2 rfl (xg 0 (by show QC (["side","weight","by"]:List Str);decide +kernel)) (xg 1 (by show QC (["side","weight","by"]:List Str);decide +kernel)))) (λ_ _ _ _ _=>(Wx Ww)) (λ_ _ _ _ _=>(xtp (Zd (xv 0) (xa1 (xce G_law_low hr T.e_law_low (Zd (Zhp (xix (xv 1) xci) (xix (xv 2) xci)) (xa1 (Zhp (xix (xv 1) xci) (xix (xv 2) xci))))))))))) (Zh (xrt (xce G_law_alike hr T.e_law_alike (Zd (xce G_tree_told hr T.e_tree_told (xa1 (xce G_times_table hr T.e_times_table (Zd (xv 8) (xa1 (xv 4)))))) (xa1 (xtp (Zd (Zhx Zep) (xa1 (xv 9))))))))))))))))))))
theorem Z0e{f:Nat->Addr}{fd:Nat->XD}{cls:Nat->Addr}(T:Txt K mg f fd cls):FnOk P w K mg base CX0 8 (f 42) (fd 42) ["script"] (spD K Z4l):=(Z3h T).imp λvs H Q E q=>by
 obtain⟨L,ds,k,h1,⟨ns,e,hl,hk⟩,h3⟩:=q
 exact⟨L,ds,k,h1,⟨_,by rw[e];exact Zum ns hl,hk⟩,h3⟩
end
theorem Z4a{l:PySem.W.OpenLaw}{w:Qs}{K:Xb}{h:Heap}{mg:Str->Option Xd}{fa:Addr}(X:K.In h)(G:h.Ns X6 mg)(hfa:mg "law"=some (.ref fa))
  (q1:Ei K "_law_alike" Zed f1 d1)
  (q2:Ei K "_law_bottom" Zc0 f2 d2)
  (q3:Ei K "_law_stir" Zft f3 d3)
  (q4:Ei K "_law_numbers" Zb6 f4 d4)
  (q5:Ei K "_law_clusters" Zbg f5 d5)
  (q6:Ei K "_law_drawn" Zd4 f6 d6)
  (q7:Ei K "_law_rows" Zfi f7 d7)
  (q8:Ei K "_law_weights" Zcd f8 d8)
  (q9:Ei K "_law_built" Zd8 f9 d9)
  (q10:Ei K "_law_cell_at" Zb2 f10 d10)
  (q11:Ei K "_law_fours" Zd7 f11 d11)
  (q12:Ei K "_law_low" Zhg f12 d12)
  (q13:Ei K "_law_size" Zfo f13 d13)
  (q14:Ei K "_law_table" Zd3 f14 d14)
  (q15:Ei K "is_point" Zfd f15 d15)
  (q16:Ei K "is_part" Zht f16 d16)
  (q17:Ei K "part_of" Zg0 f17 d17)
  (q18:Ei K "is_below" Zfg f18 d18)
  (q19:Ei K "greatest_divisor" Jf f19 d19)
  (q20:Ei K "in_least" Ze8 f20 d20)
  (q21:Ei K "times" Zmz f21 d21)
  (q22:Ei K "times_table" Zb4 f22 d22)
  (q23:Ei K "is_one_alone_greatest" Y9 f23 d23)
  (q24:Ei K "rising_tuples" Za0 f24 d24)
  (q25:Ei K "three_sums" Zc1 f25 d25)
  (q26:Ei K "first_four" Zdi f26 d26)
  (q27:Ei K "plus" Zr0 f27 d27)
  (q28:Ei K "is_short_by" Zby f28 d28)
  (q29:Ei K "first_short" Zcc f29 d29)
  (q30:Ei K "shared_bottom" Zav f30 d30)
  (q31:Ei K "table_bottom" Zbk f31 d31)
  (q32:Ei K "tops_over" Zea f32 d32)
  (q33:Ei K "table_over" Zdj f33 d33)
  (q34:Ei K "first_bars" Zcz f34 d34)
  (q35:Ei K "tree_rule" Zeg f35 d35)
  (q36:Ei K "all_cuts" Zfx f36 d36)
  (q37:Ei K "is_whole" Zfe f37 d37)
  (q38:Ei K "fraction" Zfn f38 d38)
  (q39:Ei K "doubles_of" Zc5 f39 d39)
  (q40:Ei K "least_over_sides" Jg f40 d40)
  (q41:Ei K "weighted_by" Zb1 f41 d41)
  (q42:Ei K "tree_told" Zec f42 d42)
  (q43:Ei K "law" Z0g f43 d43)
  (z0:Qy K X6 "abs"=some none)
  (z1:Qy K X6 "bool"=some none)
  (z2:Qy K X6 "enumerate"=some none)
  (z3:Qy K X6 "int"=some none)
  (z4:Qy K X6 "isinstance"=some none)
  (z5:Qy K X6 "len"=some none)
  (z6:Qy K X6 "list"=some none)
  (z7:Qy K X6 "max"=some none)
  (z8:Qy K X6 "min"=some none)
  (z9:Qy K X6 "range"=some none)
  (z10:Qy K X6 "set"=some none)
  (z11:Qy K X6 "sorted"=some none)
  (z12:Qy K X6 "str"=some none)
  (z13:Qy K X6 "tuple"=some none)
  (z14:Qy K X6 "zip"=some none)
  (cc_NoNumber:Qy K X6 "NoNumber"=some (some (.ref C_NoNumber)))
  (cc_NoPoint:Qy K X6 "NoPoint"=some (some (.ref C_NoPoint)))
  (x_NoNumber:Zfj K C_NoNumber)
  (x_NoPoint:Zfj K C_NoPoint)
  (r_NoNumber:Zvx K C_NoNumber)
  (r_NoPoint:Zvx K C_NoPoint)
  :∃fd:XD,(∀(s:Xg) (v:Xd),BindsTo s fd ⟨[v],[]⟩ [("script",v)])∧∀base:Heap,K.In base->base.Ns X6 mg->FnOk l.prog w K mg base CX0 8 fa fd ["script"] (spD K Z4l):=by
 have e:=hfa.symm.trans (PySem.W.mg_of X G q43.a)
 cases e
 have T:Txt K mg (λk=>[f1,f2,f3,f4,f5,f6,f7,f8,f9,f10,f11,f12,f13,f14,f15,f16,f17,f18,f19,f20,f21,f22,f23,f24,f25,f26,f27,f28,f29,f30,f31,f32,f33,f34,f35,f36,f37,f38,f39,f40,f41,f42,f43].getD k 0) (λk=>[d1,d2,d3,d4,d5,d6,d7,d8,d9,d10,d11,d12,d13,d14,d15,d16,d17,d18,d19,d20,d21,d22,d23,d24,d25,d26,d27,d28,d29,d30,d31,d32,d33,d34,d35,d36,d37,d38,d39,d40,d41,d42,d43].getD k d43) (λk=>[C_NoNumber,C_NoPoint].getD k 0):=⟨en2 X G q1,en1 X G q2,en2 X G q3,en2 X G q4,en2 X G q5,en5 X G q6,en3 X G q7,en4 X G q8,en4 X G q9,en2 X G q10,en1 X G q11,en2 X G q12,en4 X G q13,en2 X G q14,en2 X G q15,en2 X G q16,en2 X G q17,en2 X G q18,en2 X G q19,en2 X G q20,en2 X G q21,en2 X G q22,en1 X G q23,en2 X G q24,en5 X G q25,en1 X G q26,en2 X G q27,en4 X G q28,en1 X G q29,en1 X G q30,en1 X G q31,en2 X G q32,en2 X G q33,en1 X G q34,en1 X G q35,en1 X G q36,en1 X G q37,en2 X G q38,en1 X G q39,en3 X G q40,en2 X G q41,en1 X G q42,en1 X G q43,q35.a,Qn X G z0,Qn X G z1,Qn X G z2,Qn X G z3,Qn X G z4,Qn X G z5,Qn X G z6,Qn X G z7,Qn X G z8,Qn X G z9,Qn X G z10,Qn X G z11,Qn X G z12,Qn X G z13,Qn X G z14,ec X G cc_NoNumber,ec X G cc_NoPoint,x_NoNumber,x_NoPoint,r_NoNumber,r_NoPoint⟩
 refine⟨d43,λs v=>?_,λbase _ _=>Z0e (P:=l.prog) (w:=w) (base:=base) T⟩
 obtain⟨_,_,_,_,_,_,_,_,_,rfl,_,_⟩:=q43.F.ex
 exact .of_eq rfl
theorem walk{l:PySem.W.OpenLaw}{q:X8}{loose:List Str}{XP:(Str->Option Xd)->Heap->Prop}{YP:Qs->Heap->Prop}{d:DefRec}{K:Params->Xb}(hn:l.most=some 63)(hdf:d.params.defaults=[])
  (hY:∀(w:Qs) (h:Heap),YP w h->(K w.params).In h)
  (F:∀(w:Qs) (mg:Str->Option Xd) (fa:Addr) (h:Heap),(K w.params).In h->h.Ns X6 mg->mg d.name=some (.ref fa) ->
   ∃fd:XD,(∀(s:Xg) (u:Xd),BindsTo s fd ⟨[u],[]⟩ [("script",u)])∧∀base:Heap,(K w.params).In base->base.Ns X6 mg->FnOk l.prog w (K w.params) mg base CX0 8 fa fd ["script"] (spD (K w.params) Z4l)) :
  PySem.W.WalkO q loose XP YP l.row.toRowW d [] (λf vs=>PySem.call f vs) :=
 L2.Z1a (n:=63) (k:=8) (x :="script") (CX:=λ_=>CX0) (sp:=λw=>spD (K w.params) Z4l) hn (by decide) hdf ⟨rfl,by decide,by decide⟩ hY F (λ_ _ a ns hl _ hS=>Z6f hl hS) λ_ _ _ _ _ z=>z
end My
open PySem PySem.W PyProof.Rows
theorem PySem.W.Fast.tw3846651357962054856:True:=trivial
theorem PySem.W.Fast.tw5576090926348934999:True:=trivial
theorem PySem.W.Fast.tw8744032481128858811:True:=trivial
theorem PySem.W.Fast.tw12628816655891283264:True:=trivial
theorem PySem.W.Fast.tw1350184610113869793:True:=trivial
theorem PySem.W.Fast.tw9141269598209542354:True:=trivial
theorem PySem.W.Fast.tw15250887459303931278:True:=trivial
theorem PySem.W.Fast.tw752823763589605034:True:=trivial
theorem PySem.W.Fast.tw807243898999127049:True:=trivial
theorem PySem.W.Fast.tw2201525751619468113:True:=trivial
theorem PySem.W.Fast.tw3060518015059898237:True:=trivial
theorem PySem.W.Fast.tw619267436818599073:True:=trivial
theorem PySem.W.Fast.tw13918256326298604733:True:=trivial
theorem PySem.W.Fast.tw16764316128651633942:True:=trivial
theorem PySem.W.Fast.tw216434647132958355:True:=trivial
theorem PySem.W.Fast.tw16134087581040071723:True:=trivial
theorem PySem.W.Fast.tw12297484823417995886:True:=trivial
theorem PySem.W.Fast.tw7089588436859917345:True:=trivial
theorem PySem.W.Fast.tw5074748089439330356:True:=trivial
theorem PySem.W.Fast.tw7016589060892457819:True:=trivial
theorem PySem.W.Fast.tw378640107932539457:True:=trivial
theorem PySem.W.Fast.tw18402111894345468127:True:=trivial
theorem PySem.W.Fast.tw9860953432624315396:True:=trivial
theorem PySem.W.Fast.tw340181846224809456:True:=trivial
theorem PySem.W.Fast.tw16242492916285888040:True:=trivial
theorem PySem.W.Fast.tw7862675707169785899:True:=trivial
theorem PySem.W.Fast.tw8458792778322026307:True:=trivial
theorem PySem.W.Fast.tw201387552222137875:True:=trivial
theorem PySem.W.Fast.tw12041349434162497050:True:=trivial
theorem PySem.W.Fast.tw2809794744719990756:True:=trivial
theorem PySem.W.Fast.tw16092526397040842647:True:=trivial
theorem PySem.W.Fast.tw3538660360559945314:True:=trivial
theorem PySem.W.Fast.tw13941494255170808690:True:=trivial
theorem PySem.W.Fast.tw2452032924106823933:True:=trivial
theorem PySem.W.Fast.tw12931114043714080287:True:=trivial
theorem PySem.W.Fast.tw12928579875982985385:True:=trivial
theorem PySem.W.Fast.tw2781529857325799231:True:=trivial
theorem PySem.W.Fast.tw2123352654677160758:True:=trivial
theorem PySem.W.Fast.tw9773628932009783858:True:=trivial
theorem PySem.W.Fast.tw18061280033096737622:True:=trivial
set_option maxRecDepth 100000 in
set_option maxHeartbeats 0 in
theorem PySem.Challenge.cw_farcuts_k24_whole_trees_by_fours_holds : PySem.Challenge.rw_farcuts_k24_whole_trees_by_fours.Holds := by
 w_on;o_law;k_head;(case hw=>w_witness2)
 k_fill
 refine My.walk (l:=PySem.Challenge.rw_farcuts_k24_whole_trees_by_fours) rfl rfl (λw h Y=>PySem.W.kIn_of Y) ?F
 case F=>
  intro w mg fa h KX G hmg
  refine' My.Z4a KX G hmg ?_ ?_ ?_ ?_ ?_ ?_ ?_ ?_ ?_ ?_ ?_ ?_ ?_ ?_ ?_ ?_ ?_ ?_ ?_ ?_ ?_ ?_ ?_ ?_ ?_ ?_ ?_ ?_ ?_ ?_ ?_ ?_ ?_ ?_ ?_ ?_ ?_ ?_ ?_ ?_ ?_ ?_ ?_ ?_ ?_ ?_ ?_ ?_ ?_ ?_ ?_ ?_ ?_ ?_ ?_ ?_ ?_ ?_ ?_ ?_ ?_ ?_ ?_ ?_
  all_goals try (first|(refine' ⟨?a,L2.Z61 ?l ?c ?k⟩;(case a=>k_is);(case l=>k_is);(case c=>k_is);(case k=>k_is))|k_is|kit_is|(show PySem.W.excIn _ _ _ _=true;k_exc)|(refine' ⟨?_,?_,?_,?_,?_,?_,?_,?_,?_,?_,?_⟩<;>first|k_is|kit_is|(show PySem.W.isClsIn _ _=true;k_is)))
#print axioms PySem.Challenge.cw_farcuts_k24_whole_trees_by_fours_holds
