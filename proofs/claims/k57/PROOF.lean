import PyProof.Rows.All
import Wide.All
import OpenK.AllK
import Wide.FinOn
import PyProof.EqAt
import PyProof.EqKinds
import PyProof.TupleCall
import PyProof.P3In
import PyProof.ZipIter
import PyProof.ListRange
import PyProof.SetRoads
import PyProof.Rows.SetFrom
import PyProof.Rows.SeqMore2
import KE.RegKIsAll
import PyProof.StrWalks
import PyProof.EnumMake
import PyProof.Conv_int
import PyProof.Conv_int_bool
import PyProof.StrBlockI
import PyProof.Draws
import PySem.Challenge.RW_farcuts_k57_whole_rests_that_none_parts
set_option Elab.async false
set_option linter.all false
set_option maxRecDepth 100000
set_option genSizeOfSpec false
set_option genInjectivity false
noncomputable section
open PySem renaming Addr->YG,Heap->YH,Expr->YJ,Stmt->YK
open Bool renaming true->YD,false->YF
open Option renaming some->YB,none->YC
abbrev YL:=@if_pos
abbrev YM:=@if_neg
abbrev YQ:=@decide_eq_true
abbrev YS:=@decide_eq_false
abbrev YT:=@congrArg
abbrev YW:=@of_decide_eq_true
abbrev YX:=@absurd
abbrev YZ:=@beq_iff_eq
open Array renaming map_extract->XR,map_append->X7,size_map->Qh,map_push->QB,map_reverse->QX,getElem?_toList->JH,length_toList->V4
open Bool renaming and_eq_true->Xv,false_ne_true->XC,false_eq_true->Vh,eq_false_iff->Vq,and_true->V6
open Classical renaming byContradiction->Vf
open False renaming elim->VJ
open ForInStep renaming yield->Be
open Int renaming toNat_natCast->Q0,mul_le_mul_of_nonneg_left->JC,le_trans->JG,gcd->Bo,toNat_of_nonneg->Bp,le_of_lt->By,zero_add->BZ,mul_nonpos_of_nonneg_of_nonpos->Vk,gcd_eq_natAbs_gcd_natAbs->Vz,max_eq_right->V3,natAbs_ediv_le_natAbs->V5,max_eq_left->Ue,mul_add->Uh,le_refl->Ui,mul_zero->Uu,mul_nonneg->Uv
open List renaming length_map->Xc,range->Xd,getD_eq_getElem?_getD->Xe,length_range->Xj,getElem?_map->Xl,getElem?_eq_getElem->Xm,map_congr_left->Xn,mem_singleton->Xp,mem_cons->Xu,getElem?_eq_some_iff->Xw,mem_range->Xx,mem_map->XD,size_toArray->XF,replicate->XJ,map_append->XM,map_map->XQ,map_cons->Qg,mem_of_getElem?->Qn,getElem?_eq_none->Qp,getElem?_range->Qq,Nodup->Qv,length_append->Qw,nodup_cons->Qy,mem_append_right->QC,mem_filter->QF,getElem?_eq_none_iff->QH,getElem?_set_ne->QL,mem_append->QV,append_nil->QW,lookup_cons->Q7,length_drop->Q8,getElem?_set_self->JD,pairwise_singleton->JL,length_cons->JN,eq_nil_of_length_eq_zero->JT,length_filter_le->JV,filter_cons_of_pos->JW,filter_cons_of_neg->JX,toArray->Bk,getElem?_append_right->Bl,append_assoc->Bm,exists_mem_of_ne_nil->Bq,length_take->Bv,getElem?_of_mem->BK,nodup_append->BL,getElem_of_mem->BR,take_length->Vc,all_eq_true->Vd,take_succ->Vg,rel_of_pairwise_cons->Vn,getElem?_append_left->Vo,replicate_succ->Vt,getElem_mem->Vu,pairwise_map->VF,mem_append_left->VL,getElem?_append->VM,drop_eq_getElem_cons->V2,range_succ->V8,length_set->V9,foldl_cons->Ua,filter_append->Uc,forIn_nil->Uo,flatten_cons->Uq,exists_of_findSome?_eq_some->Ur,drop_eq_nil_of_le->Us,length_replicate->UG,not_mem_nil->UJ,sum_cons->UV,mem_cons_of_mem->U0,length_take_le'->U3,forIn_cons->U5
open Nat renaming ne_of_lt->Xy,ne_of_gt->X4,le_refl->X6,lt_of_lt_of_le->Qo,le_trans->Qt,le_of_ble_eq_true->QS,zero_le->QZ,eq_of_beq_eq_true->JK,pow_le_pow_right->Ba,lt_irrefl->Bj,not_lt_zero->Vp,lt_succ_self->Vv,zero_add->VR,lt_or_ge->V0,le_add_right->V1,blt->Ut
open Ne renaming symm->JR
open Option renaming bind_some->Xk,map_some->Qc,map_none->Qu,map_eq_some_iff->Bc,some->Bx
open Option.some renaming inj->QR
open Or renaming inr->Qx,inl->QD
open PyProof.Rows renaming seqObj->Q9,callWith_type1->BJ,SortSt->BX,SortKind->Ve,IntsAre->Vj,Keyed->Ud,pairsOf->Um,pendingOf->Uy
open PyProof.Rows.SortSt renaming mk'->Va
open PySem renaming PyData->Xa,Value->Xf,Shared->Xg,wpAny_bind->Xi,starEach->Xr,sizeLine->Xz,FuncData->XN,sizeLine_eq->X8,bootBuiltins->Qa,wpAny->Qd,Program->Qe,mainGlobals->Qj,wpAny_pure->Qk,model->Ql,Around->Qs,World->Qz,wpAny_loadPart'->JB,backTo->JP,assignEach->JQ,compareOp->Bf,mem_of_lookup->Bh,cellsFrom->Br,NameKind->BP,foldedSetIterable->BV,wpAny_mono->BW,IsPair->Vi,wpAny_field->Vl,pushCells->Vm,wpAny_seqItems->Vx,wpAny_setField_rec->VB,wpAny_Call_Name_kw->VD,wpAny_passesOwn->VG,wpAny_truthy_bool->VN,wpAny_call_entry->V7,wpAny_holding->Uj,binaryOp->Uk,wpAny_callSpecial?_slot->Uw,swapsWith->Ux,wpAny_loadPart_at->UL,assign->UT,Builtin->UW,Scope->U4,behindInMarks->U9
open PySem.Builtin.Int renaming intBits->JZ
open PySem.Builtin.List renaming listTooLong->U6
open PySem.Builtin.SmallTypes renaming nextOf->Q5,ownedTupleIsFree->Bu
open PySem.Heap renaming get?_push_of_some->Xo,lt_size->XH,get?_push_size->Qi,size_push->JM,SameBut->VP,get?_update_ne->U8
open PySem.NameKind renaming free->Q6,cell->Bs
open PySem.Obj renaming mapSeq->QK
open PySem.PassesOwn renaming never->X3
open PySem.PyData renaming int->Xq,list->XX,eqv->Q3,canLayAll0->Bb,canLay0->Vb
open PySem.SeqAt renaming EqAt->Bg,canLay_of_shaped->Ul,shaped->U7
open PySem.Value renaming ref->QJ,none->QT,int->Uz
open PySem.W renaming Frag->Xb,kas_item->X5,mg_none_of->QG,nsIn->QQ,kia_one->JF,Looks->JS,keepIn->Bw,kitOne->Vr,findIn->Vs,fnOf->VH
open Rat renaming divInt->Xh,divInt_eq_div->QM,div_def->Vw,num_divInt_den->Vy,zero_divInt->Ub,sub_eq_add_neg->Ug
namespace L2
open PySem PySem.Spec PyProof.Rows
noncomputable abbrev Key:=Sum Int Str
noncomputable def Ybc:Key->Xf->Bool
 | .inl k,v=>Xf.isInt k v
 | .inr x,v=>Xf.isStrOf x v
noncomputable def Yjh(w:Qz):Key->Int
 | .inl k=>hashInt k
 | .inr x=>hashStr w x
theorem Wn:∀{k:Key} {v:Xf},Ybc k v=YD->(∃i t,k=Sum.inl i∧v=Uz i t)∨(∃x t,k=Sum.inr x∧v=Value.str x t)
 | .inl i,v,h=>by
  obtain⟨t,e⟩:=Value.isInt_shape (k:=i) (v:=v) h;exact .inl ⟨i,t,rfl,e⟩
 | .inr x,v,h=>by
  obtain⟨t,e⟩:=Xf.isStrOf_shape (x:=x) (v:=v) h;exact .inr ⟨x,t,rfl,e⟩
theorem Z8s(a b:Int):decide ((Sum.inl a:Key)=Sum.inl b)=(a==b):=by
 by_cases e:a=b
 ·subst e;simp
 ·have h:¬(Sum.inl a:Key)=Sum.inl b:=λq=>e (Sum.inl.inj q)
  rw[YS h];exact(beq_eq_false_iff_ne.mpr e).symm
theorem Z63(a b:Str):decide ((Sum.inr a:Key)=Sum.inr b)=decide (a=b):=by
 by_cases e:a=b
 ·subst e;simp
 ·have h:¬(Sum.inr a:Key)=Sum.inr b:=λq=>e (Sum.inr.inj q)
  rw[YS h,YS e]
theorem Z7x(a:Int)(b:Str):decide ((Sum.inl a:Key)=Sum.inr b)=YF:=YS (λq=>nomatch q)
theorem Yai(a:Str)(b:Int):decide ((Sum.inr a:Key)=Sum.inl b)=YF:=YS (λq=>nomatch q)
noncomputable def Zni(prog:Qe)(w:Qz):PySem.KeyKind prog w Key where
 is:=Ybc
 hash:=Yjh w
 inj:=λv a b ha hb=>by
  rcases Wn ha with⟨i,t,rfl,rfl⟩|⟨x,t,rfl,rfl⟩
  ·rcases Wn hb with⟨j,u,rfl,e⟩|⟨y,u,rfl,e⟩
   ·injection e with e1 _;rw[e1]
   ·exact nomatch e
  ·rcases Wn hb with⟨j,u,rfl,e⟩|⟨y,u,rfl,e⟩
   ·exact nomatch e
   ·injection e with e1 _;rw[e1]
 byValue:=λk v h=>by
  rcases Wn h with⟨i,t,rfl,rfl⟩|⟨x,t,rfl,rfl⟩<;>rfl
 pyHash:=λhv h=>by
  rcases Wn hv with⟨i,t,rfl,rfl⟩|⟨x,t,rfl,rfl⟩
  ·exact wpAny_pyHash_int h
  ·exact wpAny_pyHash_str h
 eqBool:=λhu hv h=>by
  rcases Wn hu with⟨i,t,rfl,rfl⟩|⟨x,t,rfl,rfl⟩
  ·rcases Wn hv with⟨j,u,rfl,rfl⟩|⟨y,u,rfl,rfl⟩
   ·rw[Z8s]at h;exact wpAny_eqBool_int h
   ·rw[Z7x]at h;exact SeqAt.EqAt.int_str i t y u _ _ _ _ h
  ·rcases Wn hv with⟨j,u,rfl,rfl⟩|⟨y,u,rfl,rfl⟩
   ·rw[Yai]at h;exact SeqAt.EqAt.str_int x t j u _ _ _ _ h
   ·rw[Z63]at h;exact wpAny_eqBool_str h
 «strs»:=λk x t v h=>by
  rcases Wn h with⟨i,u,rfl,e⟩|⟨y,u,rfl,e⟩
  ·exact nomatch e
  ·injection e with e1 _
   subst e1;cases v<;>rfl
inductive V where
 | non|bl (b:Bool)|int (i:Int)|str (x:Str)|byt (b:Array UInt8)|flt (b:UInt64)|ref (a:YG)|ty (n:String)
 deriving DecidableEq
noncomputable def RelV:V->Xf->Prop
 | .non,u=>u=QT
 | .bl b,u=>u=Value.bool b
 | .int i,u=>∃t,u=Uz i t
 | .str x,u=>∃t,u=Value.str x t
 | .byt b,u=>∃t,u=Xf.bytes b t
 | .flt b,u=>∃t,u=Xf.float b t
 | .ref a,u=>u=QJ a
 | .ty n,u=>u=Xf.type n
noncomputable abbrev Vals:List V->List Xf->Prop:=Paired RelV
theorem Vals.length{xs:List V}{us:List Xf}(r:Vals xs us):xs.length=us.length:=Paired.length r
theorem Vals.get{xs:List V}{us:List Xf}{i:Nat}{x:V}(h:Vals xs us)(e:xs[i]? =YB x):∃u,us[i]? =YB u∧RelV x u:=by
 induction h generalizing i with
 | nil=>exact(Option.some_ne_none _ (e.symm.trans List.getElem?_nil)).elim
 | cons r t ih=>
  cases i with
  | zero=>exact⟨_,rfl,QR e▸r⟩
  | succ i=>exact ih e
theorem Vals.set{x:V}{u:Xf}(r:RelV x u){xs:List V}{us:List Xf}(i:Nat)(h:Vals xs us):Vals (xs.set i x) (us.set i u):=by
 induction h generalizing i with
 | nil=>exact .nil
 | cons q t ih=>
  cases i with
  | zero=>exact .cons r t
  | succ i=>exact .cons q (ih i)
theorem Vals.append{xs ys:List V}{us ws:List Xf}(h:Vals xs us)(s:Vals ys ws):Vals (xs++ys) (us++ws):=by
 induction h with
 | nil=>exact s
 | cons r t ih=>exact .cons r ih
theorem Vals.take{xs:List V}{us:List Xf}(n:Nat)(h:Vals xs us):Vals (xs.take n) (us.take n):=by
 induction h generalizing n with
 | nil=>rw[List.take_nil,List.take_nil];exact .nil
 | cons r t ih=>
  cases n with
  | zero=>exact .nil
  | succ n=>exact .cons r (ih n)
theorem Vals.drop{xs:List V}{us:List Xf}(n:Nat)(h:Vals xs us):Vals (xs.drop n) (us.drop n):=by
 induction h generalizing n with
 | nil=>rw[List.drop_nil,List.drop_nil];exact .nil
 | cons r t ih=>
  cases n with
  | zero=>exact .cons r t
  | succ n=>exact ih n
noncomputable def RelO:Option V->Option Xf->Prop
 | some v,YB u=>RelV v u
 | none,YC=>True
 | _,_=>False
noncomputable def KV{κ:Type}:List (κ×V)->List (κ×Xf)->Prop:=Paired λ(p:κ×V) (q:κ×Xf)=>p.1=q.1∧RelV p.2 q.2
noncomputable def kV:Key->V
 | .inl i=>.int i
 | .inr x=>.str x
inductive HO where
  | lst (xs:List V)
  | tup (xs:List V)
  | dK (kvs:List (Key×V))|dT (kvs:List (List Key×V))
  | set (S:Int->Bool) (n:Nat)
  | ins (C dx:YG) (fs:List (Str×V))
  | own (x:YG)
  | xd (fs:List (Str×V))
  | met (f x:YG)
  | rng (lo hi:Int)
  | frz (o:Obj) (u:HO)
  | tbl (ps:Array Xf)
  | ext (φ:YH->Prop)
noncomputable abbrev Hp:=YG->Option HO
noncomputable def upd(H:Hp)(a:YG)(o:HO):Hp:=λb=>if b=a then YB o else H b
theorem Z8{H:Hp}{a:YG}{o:HO}:upd H a o a=YB o:=by unfold upd;rw[YL rfl]
theorem Zy{H:Hp}{a b:YG}{o:HO}(h:b≠a):upd H a o b=H b:=by unfold upd;rw[YM h]
theorem Wg{H:Hp}{a b:YG}{o:HO}(h:H a=YB o)(h':H b=YC):a≠b:=by
 intro e;subst e;rw[h]at h';cases h'
section
variable (P:Qe)(w:Qz)
noncomputable def ObjOk(H:Hp)(h:YH)(a:YG):HO->Prop
 | .lst xs=>xs.length≤Xz∧∃(its:List Xf) (n:Nat),Vals xs its∧h.get? a=YB { cls:=.type "list",data:=.seq its.toArray n }
 | .tup xs=>xs.length≤Xz∧∃its:List Xf,Vals xs its∧IsTup h a its.toArray
 | .dK kvs=>kvs.length≤Xz∧(a==sysModules)=YF∧∃vs,KV kvs vs∧h.DictOf (Zni P w) a vs
 | .dT kvs=>kvs.length≤Xz∧(a==sysModules)=YF∧∃xs:List (List Key×YG×Xf),
   Paired (λ(p:List Key×V) (q:List Key×YG×Xf)=>p.1=q.1∧H q.2.1=YB (.tup (p.1.map kV))∧RelV p.2 q.2.2) kvs xs∧
   ∃o es ep,h.get? a=YB o∧o.ExactDict∧o.data= .dict es ep∧es.toList=xs.map (entryOfKey (tupleKind (Zni P w)))∧(xs.map (·.1)).Nodup
 | .set S n=>h.SetOf (intKind P w) a S n
 | .ins C dx fs=>H dx=YB (.own a)∧fs.length≤1000∧dx≠a∧h.get? a=YB (PySem.W.instObj C dx)∧
   ∃mA,h.Ns1 dx mA∧(∀f,RelO (fs.lookup f) (mA f))∧PySem.Within mA (fs.map (·.1))
 | .own _=>∃o,h.get? a=YB o
 | .xd fs=>∃mA,h.Ns1 a mA∧∀f,RelO (fs.lookup f) (mA f)
 | .rng lo hi=>∃t u v,h.get? a=YB { cls:=.type "range",data:=.fields #[.int lo t,.int hi u,.int 1 v] }
 | .frz o u=>h.get? a=YB o∧ObjOk H h a u
 | .tbl ps=>h.get? a=YB { cls:=.none,data:=.fields ps }
 | .met f x=>h.get? a=YB (PySem.W.methodObj (.ref f) (.ref x))
 | .ext φ=>φ h∧(∃o,h.get? a=YB o)∧∀h1 h2:YH,φ h1->(∀o,h1.get? a=YB o->h2.get? a=YB o)->φ h2
noncomputable def HOk(H:Hp)(h:YH):Prop:=∀a o,H a=YB o->ObjOk P w H h a o
end
section
variable {P:Qe}{w:Qz}{H H':Hp}{h h':YH}{a:YG}{o:HO}
theorem ObjOk.lt(x:ObjOk P w H h a o):a<h.objs.size:=by
 cases o with
 | lst xs=>obtain⟨_,_,_,_,e⟩:=x;exact XH e
 | tup xs=>obtain⟨_,_,_,p⟩:=x;exact p.lt
 | dK kvs=>obtain⟨_,_,_,_,o,_,_,e,_⟩:=x;exact XH e
 | dT kvs=>obtain⟨_,_,_,_,o,_,_,e,_⟩:=x;exact XH e
 | set S n=>obtain⟨o,_,_,_,e,_⟩:=x;exact XH e
 | ins C dx fs=>obtain⟨_,_,_,e,_⟩:=x;exact XH e
 | own y=>obtain⟨_,e⟩:=x;exact XH e
 | xd fs=>obtain⟨_,⟨_,_,_,e,_⟩,_⟩:=x;exact XH e
 | rng lo hi=>obtain⟨_,_,_,e⟩:=x;exact XH e
 | frz ob u=>obtain⟨e,_⟩:=x;exact XH e
 | tbl ps=>exact XH (show h.get? a=YB _ from x)
 | met f y=>exact XH (show h.get? a=YB _ from x)
 | ext φ=>obtain⟨_,⟨_,e⟩,_⟩:=x;exact XH e
theorem Paired.mapP{α β:Type}{F G:α->β->Prop}{l₁:List α}{l₂:List β}(h:Paired F l₁ l₂)(f:∀a b,F a b->G a b):Paired G l₁ l₂:=by
 induction h with
 | nil=>exact .nil
 | cons r t ih=>exact .cons (f _ _ r) ih
theorem ObjOk.stay(x:ObjOk P w H h a o)(k:∀b u,(b=a∨H b=YB (.own a))->h.get? b=YB u->h'.get? b=YB u)
  (ho:∀b,H b=YB (.own a)->H' b=YB (.own a)) (ht:∀b xs,H b=YB (.tup xs)->H' b=YB (.tup xs)):ObjOk P w H' h' a o:=by
 induction o with
 | lst xs=>obtain⟨z,its,n,r,e⟩:=x;exact⟨z,its,n,r,k _ _ (.inl rfl) e⟩
 | tup xs=>obtain⟨z,its,r,ob,e,c⟩:=x;exact⟨z,its,r,ob,k _ _ (.inl rfl) e,c⟩
 | dK kvs=>obtain⟨z,y,vs,r,ob,es,ep,e,c⟩:=x;exact⟨z,y,vs,r,ob,es,ep,k _ _ (.inl rfl) e,c⟩
 | dT kvs=>
  obtain⟨z,y,xs,r,ob,es,ep,e,c⟩:=x;exact⟨z,y,xs,Paired.mapP r λp q z=>⟨z.1,ht _ _ z.2.1,z.2.2⟩,ob,es,ep,k _ _ (.inl rfl) e,c⟩
 | set S n=>obtain⟨ob,es,ep,t,e,c⟩:=x;exact⟨ob,es,ep,t,k _ _ (.inl rfl) e,c⟩
 | ins C dx fs=>
  obtain⟨d,z,ne,e,mA,⟨od,es,ep,e2,c⟩,r⟩:=x;exact⟨ho _ d,z,ne,k _ _ (.inl rfl) e,mA,⟨od,es,ep,k _ _ (.inr d) e2,c⟩,r⟩
 | own y=>obtain⟨ob,e⟩:=x;exact⟨ob,k _ _ (.inl rfl) e⟩
 | xd fs=>obtain⟨mA,⟨od,es,ep,e,c⟩,r⟩:=x;exact⟨mA,⟨od,es,ep,k _ _ (.inl rfl) e,c⟩,r⟩
 | rng lo hi=>obtain⟨t,u,v,e⟩:=x;exact⟨t,u,v,k _ _ (.inl rfl) e⟩
 | frz ob u ih=>obtain⟨e,q⟩:=x;exact⟨k _ _ (.inl rfl) e,ih q⟩
 | tbl ps=>
  have e:h.get? a=YB { cls:=.none,data:=.fields ps }:=x;show h'.get? a=YB { cls:=.none,data:=.fields ps };exact k a _ (.inl rfl) e
 | met f y=>
  have e:h.get? a=YB (PySem.W.methodObj (.ref f) (.ref y)):=x;show h'.get? a=YB (PySem.W.methodObj (.ref f) (.ref y));exact k a _ (.inl rfl) e
 | ext φ=>obtain⟨p,⟨o,e⟩,st⟩:=x;exact⟨st _ _ p λo q=>k _ _ (.inl rfl) q,⟨o,k _ _ (.inl rfl) e⟩,st⟩
theorem HOk.lt(x:HOk P w H h)(e:H a=YB o):a<h.objs.size:=(x a o e).lt
theorem HOk.fresh(x:HOk P w H h)(e:h.objs.size≤a):H a=YC:=by
 cases q:H a with
 | none=>rfl
 | some u=>exact YX (Qo (x.lt q) e) (Bj _)
theorem HOk.kept(x:HOk P w H h)(k:∀b u,h.get? b=YB u->h'.get? b=YB u):HOk P w H h':=λa o e=>
 (x a o e).stay (λb u _ q=>k b u q) (λ_ q=>q) λ_ _ q=>q
theorem HOk.laid(x:HOk P w H h)(k:∀b u,h.get? b=YB u->h'.get? b=YB u)(hp:h.objs.size≤a)(new:ObjOk P w (upd H a o) h' a o):HOk P w (upd H a o) h':=λb u e=>by
 have hn:=x.fresh hp
 by_cases hb:b=a
 ·subst hb;rw[Z8]at e;cases e;exact new
 ·rw[Zy hb]at e
  exact(x b u e).stay (λc v _ q=>k c v q) (λc q=>by rw[Zy (Wg q hn)];exact q) λc xs q=>by rw[Zy (Wg q hn)];exact q
end
noncomputable def Rd(H:Hp)(a:YG)(u:HO):Prop:=H a=YB u∨∃o,H a=YB (.frz o u)
theorem Rd.ok{P:Qe}{w:Qz}{H:Hp}{h:YH}{a:YG}{u:HO}(r:Rd H a u)(x:HOk P w H h):ObjOk P w H h a u:=by
 rcases r with r|⟨o,r⟩
 ·exact x a u r
 ·obtain⟨_,q⟩:=x a _ r
  exact q
noncomputable def Mut:Option HO->Prop
 | some (.lst _)=>True
 | some (.dK _)=>True
 | some (.dT _)=>True
 | some (.set _ _)=>True
 | some (.ins _ _ _)=>True
 | some (.ext _)=>True
 | _=>False
section
variable {P:Qe}{w:Qz}{H:Hp}{h h':YH}{x e:YG}{o':HO}
theorem HOk.write(ok:HOk P w H h)(mu:Mut (H x))(he:e=x∨H e=YB (.own x))(k:∀b u,b≠e->h.get? b=YB u->h'.get? b=YB u)(heo:∃u,h'.get? e=YB u)
  (new:ObjOk P w (upd H x o') h' x o'):HOk P w (upd H x o') h':=λb u q=>by
 have nown:∀c y,H c=YB (.own y)->c≠x:=λc y r z=>by subst z;rw[r]at mu;exact mu
 have ntup:∀c xs,H c=YB (.tup xs)->c≠x:=λc xs r z=>by subst z;rw[r]at mu;exact mu
 by_cases hb:b=x
 ·subst hb;rw[Z8]at q;cases q;exact new
 ·rw[Zy hb]at q
  by_cases hbe:b=e
  ·have q':H b=YB (.own x):=by
    rcases he with z|z
    ·exact YX (hbe.trans z) hb
    ·rw[hbe];exact z
   rw[q]at q';cases q';obtain⟨v,hv⟩:=heo;exact⟨v,by rw[hbe];exact hv⟩
  ·refine(ok b u q).stay (λc v hc r=>k c v ?_ r) (λc r=>by rw[Zy (nown c b r)];exact r) λc xs r=>by rw[Zy (ntup c xs r)];exact r
   rcases hc with rfl|hc
   ·exact hbe
   ·rintro rfl
    rcases he with z|z
    ·exact nown c b hc z
    ·rw[hc]at z;cases z;exact hb rfl
end
structure Un(fs ex:List YG)(H H':Hp)(h h':YH):Prop where
 keep:∀b o,h.get? b=YB o->H b=YC->b∉fs->b∉ex->h'.get? b=YB o
 slot:∀b o,h.get? b=YB o->H b=YC->b∈fs->b∉ex->∃sl,h'.get? b=YB { o with slots:=sl }
 free:∀b o,h.get? b=YB o->H b=YC->b∉ex->H' b=YC
 there:∀b o,h.get? b=YB o->b∉ex->∃o',h'.get? b=YB o'
 tups:∀b xs,H b=YB (.tup xs)->H' b=YB (.tup xs)
 frzs:∀b o u,H b=YB (.frz o u)->H' b=YB (.frz o u)
 tbls:∀b ps,H b=YB (.tbl ps)->∃more,H' b=YB (.tbl (ps++more))
section
variable {fs fs' ex ex':List YG}{H H1 H2:Hp}{h h1 h2 h':YH}{a x e:YG}{o:HO}
theorem Un.any(u:Un fs ex H H1 h h1){b:YG}{ob:Obj}(q:h.get? b=YB ob)(n:H b=YC)(hx:b∉ex):∃sl,h1.get? b=YB { ob with slots:=sl }:=by
 by_cases hb:b∈fs
 ·exact u.slot b ob q n hb hx
 ·exact⟨ob.slots,u.keep b ob q n hb hx⟩
theorem Un.kept(k:∀b u,h.get? b=YB u->h'.get? b=YB u):Un fs ex H H h h' :=
 ⟨λb ob q _ _ _=>k b ob q,λb ob q _ _ _=>⟨ob.slots,k b ob q⟩,λ_ _ _ n _=>n,λb ob q _=>⟨ob,k b ob q⟩,λ_ _ q=>q,λ_ _ _ q=>q,λ_ ps q=>⟨#[],by rw[q];simp⟩⟩
theorem Un.refl:Un fs ex H H h h:=Un.kept λ_ _ q=>q
theorem Un.laid(k:∀b u,h.get? b=YB u->h'.get? b=YB u)(hp:h.objs.size≤a)(hn:H a=YC):Un fs ex H (upd H a o) h h' where
 keep:=λb u q _ _ _=>k b u q
 slot:=λb u q _ _ _=>⟨u.slots,k b u q⟩
 free:=λb u q n _=>by rw[Zy (Xy (Qo (XH q) hp))];exact n
 there:=λb u q _=>⟨u,k b u q⟩
 tups:=λb xs q=>by rw[Zy (Wg q hn)];exact q
 frzs:=λb u xs q=>by rw[Zy (Wg q hn)];exact q
 tbls:=λb ps q=>⟨#[],by rw[Zy (Wg q hn),q];simp⟩
theorem Un.write(mu:Mut (H x))(he:e=x∨H e=YB (.own x))(k:∀b u,b≠e->h.get? b=YB u->h'.get? b=YB u)(heo:∃u,h'.get? e=YB u):Un fs ex H (upd H x o) h h':=by
 have hx:∀b,H b=YC->b≠x:=λb n z=>by subst z;rw[n]at mu;exact mu
 have hb:∀b,H b=YC->b≠e:=λb n z=>by
  subst z;rcases he with r|r
  ·exact hx b n r
  ·rw[n]at r;cases r
 have hm:∀b u,H b=YB u->¬Mut (YB u)->b≠x:=λb u q nm z=>by subst z;rw[q]at mu;exact nm mu
 refine⟨λb u q n _ _=>k b u (hb b n) q,λb u q n _ _=>⟨u.slots,k b u (hb b n) q⟩,λb u q n _=>by rw[Zy (hx b n)];exact n,λb u q _=>?_,
  λb xs q=>by rw[Zy (hm b _ q λz=>z)];exact q,λb u xs q=>by rw[Zy (hm b _ q λz=>z)];exact q,λb ps q=>⟨#[],by rw[Zy (hm b _ q λz=>z),q];simp⟩⟩
 by_cases hbe:b=e
 ·subst hbe;exact heo
 ·exact⟨u,k b u hbe q⟩
end
noncomputable def trk(h:YH)(H:Hp):List YG:=(Xd h.objs.size).filter λa=>(H a).isSome
noncomputable def Zx2(h:YH)(H:Hp):YH:=PySem.W.hideAll h (trk h H)
theorem Zsd(h:YH)(H:Hp):(Zx2 h H).objs.size=h.objs.size:=PySem.W.hideAll_size _ _
theorem Zyx{h:YH}{H:Hp}{b:YG}{o:Obj}(e:h.get? b=YB o)(n:H b=YC):(Zx2 h H).get? b=YB o :=
 PySem.W.hideAll_get _ e λhm=>by
  have q:(H b).isSome=YD:=(QF.mp hm).2;rw[n]at q;simp at q
theorem Z2t{h:YH}{H:Hp}{b:YG}{o:Obj}(e:(Zx2 h H).get? b=YB o):h.get? b=YB o∧H b=YC:=by
 have e':h.get? b=YB o:=PySem.W.of_hideAll (trk h H) e;refine⟨e',?_⟩;cases q:H b with
 | none=>rfl
 | some x=>
  have hm:b∈trk h H:=QF.mpr ⟨Xx.mpr (XH e'),by simp[q]⟩;have z:(Zx2 h H).get? b=YC:=PySem.W.hideAll_none (trk h H) hm;rw[z]at e;cases e
noncomputable def Z2y(g h:YH)(L:YG):List (YG×Obj):=(Xd h.objs.size).filterMap λa=>if a=L∨(g.get? a).isSome=YD then YC else(h.get? a).map λo=>(a,o)
noncomputable def rest(g h:YH)(L d:YG):List (YG×Obj):=(Z2y g h L).filter λp=>decide (p.1≠d)
structure Mod(K:Xb)(mg:Str->Option Xf)(base:YH):Prop where
 kin:K.In base
 glob:base.Ns Qj mg
 blt:∃mb,base.Ns builtinsNs mb∧∀x:Str,x≠"__name__" ->mb x=Qa x
 nolimit:base.NoLimit
set_option genInjectivity false in
structure Cx where
 prog:Qe
 w:Qz
 K:Xb
 mg:Str->Option Xf
 base:YH
 A:Qs
 N:List Str
 s₀:Xg
 H₀:Hp
 env:Env
 outer:List Env
 stack:List Env
 ex:List YG
 fn:Str->Bool
 calm:Bool
 pn:List (YG×Obj)
 xe:Xf->Xg->Prop
noncomputable def frs(l:List Env):List YG:=l.filterMap (·.frame)
noncomputable abbrev Cx.fs(X:Cx):List YG:=frs X.outer
noncomputable def Vis(sc:U4)(x:Str):Prop:=sc.names.lookup x=YB .local∨sc.names.lookup x=YB .cell∨sc.names.lookup x=YB .free
noncomputable def Loc(sc:U4)(x:Str):Prop:=sc.names.lookup x=YB .local∨sc.names.lookup x=YB .cell
noncomputable def Look(env:Env)(h:YH)(m:Str->Option Xf)(x:Str)(u:Xf):Prop :=
 (env.kindOf x=YB .local∧m x=YB u)∨((env.kindOf x=YB .cell∨env.kindOf x=YB .free)∧∃c,env.cells.lookup x=YB c∧h.IsCell c (YB u))
structure Cx.Ok(X:Cx):Prop where
 mod:Mod X.K X.mg X.base
 kind:X.env.scope.kind= .function
 glob:X.env.globals=Qj
 blt:X.env.builtins=builtinsNs
 above:X.s₀.heap.objs.size≤X.env.locals
 inj:∀x y c,X.env.cells.lookup x=YB c->X.env.cells.lookup y=YB c->x=y
 has:∀x,(X.env.kindOf x=YB .cell∨X.env.kindOf x=YB .free)->∃c,X.env.cells.lookup x=YB c
 cab:∀x c,X.fn x=YD->X.env.cells.lookup x=YB c->X.s₀.heap.objs.size≤c
 hd:X.calm=YD->X.A.handled=YC
 frames:X.A.frames=YB X.stack
 stk:X.stack=X.outer∨(X.stack=X.env::X.outer∧X.env.frame=YB X.env.locals)
 exf:∀b∈X.ex,b≠X.env.locals∧∀x c,X.env.cells.lookup x=YB c->c≠b
 bs:∀b o,X.base.get? b=YB o->X.s₀.heap.get? b=YB o∧X.H₀ b=YC
 bsz:X.base.objs.size≤X.s₀.heap.objs.size
 noex:∀b o,X.base.get? b=YB o->b∉X.ex
 exfs:∀b∈X.ex,b∉X.fs
 funs:X.s₀.heap.FunFrames X.base X.outer
 frf:∀b∈X.fs,X.H₀ b=YC
structure Inv(X:Cx)(pins:List (YG×Obj))(Y:List (Option V))(H:Hp)(s:Xg):Prop where
 ok:X.Ok
 os:s.os=X.s₀.os
 bare:AllBare s.gens
 base:Un X.fs X.ex X.H₀ H X.s₀.heap s.heap
 loc:∃m,s.heap.Ns X.env.locals m∧∀(i:Nat) (x:Str) (v:V),X.N[i]? =YB x->Y[i]? =YB (YB v)->Vis X.env.scope x->∃u,RelV v u∧Look X.env s.heap m x u
 cell:∀x c,X.env.cells.lookup x=YB c->∃v,s.heap.IsCell c v
 free:H X.env.locals=YC
 freeC:∀x c,X.env.cells.lookup x=YB c->H c=YC
 pin:∀p∈X.pn++pins,s.heap.get? p.1=YB p.2∧H p.1=YC∧p.1≠X.env.locals∧p.1∉X.fs∧∀v,p.2.data≠ .cell v
 hok:HOk X.prog X.w H s.heap
 len:Y.length=X.N.length
section
variable {X:Cx}{pins:List (YG×Obj)}{Y:List (Option V)}{H H':Hp}{s:Xg}{h':YH}
theorem Cx.Ok.nofr(ok:X.Ok){b:YG}{o:Obj}(e:X.base.get? b=YB o):b∉X.fs:=λhb=>by
 have:=(ok.funs.mem hb).1;rw[e]at this;cases this
theorem Inv.bs(I:Inv X pins Y H s):∀b o,X.base.get? b=YB o->s.heap.get? b=YB o∧H b=YC:=λb o e=>
 ⟨I.base.keep b o (I.ok.bs b o e).1 (I.ok.bs b o e).2 (I.ok.nofr e) (I.ok.noex b o e),I.base.free b o (I.ok.bs b o e).1 (I.ok.bs b o e).2 (I.ok.noex b o e)⟩
theorem Inv.bk(I:Inv X pins Y H s):∀b o,X.base.get? b=YB o->s.heap.get? b=YB o:=λb o e=>(I.bs b o e).1
theorem Inv.mod(I:Inv X pins Y H s):Mod X.K X.mg X.base:=I.ok.mod
theorem Inv.kIn(I:Inv X pins Y H s):X.K.In s.heap:=I.ok.mod.kin.keeps I.bk
theorem Inv.lt(I:Inv X pins Y H s):X.env.locals<s.heap.objs.size:=let⟨_,hn,_⟩:=I.loc;hn.lt
theorem Inv.sz(I:Inv X pins Y H s):X.s₀.heap.objs.size≤s.heap.objs.size:=Qt I.ok.above (Nat.le_of_lt I.lt)
theorem Inv.nofs(I:Inv X pins Y H s){a:YG}(h:s.heap.objs.size≤a):a∉X.fs:=λhb=>by
 obtain⟨_,o,ho,_⟩:=I.ok.funs.mem hb;exact YX (Qo (XH ho) (Qt I.sz h)) (Bj _)
theorem Inv.cne(I:Inv X pins Y H s):∀x c,X.env.cells.lookup x=YB c->c≠X.env.locals:=λx c e z=>by
 obtain⟨v,o,ho,hd⟩:=I.cell x c e;obtain⟨m,⟨o',es,ep,ho',hd',_⟩,_⟩:=I.loc;rw[z,ho']at ho;cases ho;rw[hd']at hd;cases hd
theorem Inv.funs(I:Inv X pins Y H s):s.heap.FunFrames X.base X.outer:=by
 have all:∀(l:List Env),(∀b∈frs l,b∈X.fs)->X.s₀.heap.FunFrames X.base l->s.heap.FunFrames X.base l:=by
  intro l
  induction l with
  | nil=>intro _ _;trivial
  | cons env r ih=>
   intro hs hl;obtain⟨hk,⟨L,o,hf,hn,ho,hd⟩,hr⟩:=hl;have hL:L∈X.fs:=hs L (by unfold frs;rw[List.filterMap_cons,hf];exact List.mem_cons_self);obtain⟨sl,e⟩:=I.base.slot L o ho (I.ok.frf L hL) hL λz=>I.ok.exfs L z hL;exact⟨hk,⟨L,_,hf,hn,e,hd⟩,ih (λb hb=>hs b (by unfold frs;rw[List.filterMap_cons,hf];exact U0 _ hb)) hr⟩
 exact all X.outer (λ_ hb=>hb) I.ok.funs
theorem Inv.stack(I:Inv X pins Y H s):s.heap.FunFrames X.base X.stack:=by
 rcases I.ok.stk with e|⟨e,hf⟩
 ·rw[e];exact I.funs
 ·rw[e]
  obtain⟨m,hn,_⟩:=I.loc;refine .cons (by rw[I.ok.kind];decide) hf hn ?_ I.funs;exact Heap.get?_none_of_le (Qt I.ok.bsz I.ok.above)
theorem Inv.stkSub(I:Inv X pins Y H s):∀b∈frs X.stack,b∈X.env.locals::X.fs:=λb hb=>by
 rcases I.ok.stk with e|⟨e,hf⟩
 ·rw[e]at hb;exact U0 _ hb
 ·rw[e]at hb
  unfold frs at hb;rw[List.filterMap_cons,hf]at hb;exact hb
theorem Inv.stkFree(I:Inv X pins Y H s):∀b∈frs X.stack,H b=YC:=λb hb=>by
 rcases Xu.mp (I.stkSub b hb)with e|hb
 ·rw[e];exact I.free
 ·obtain⟨_,o,ho,_⟩:=I.ok.funs.mem hb
  exact I.base.free b o ho (I.ok.frf b hb) λz=>I.ok.exfs b z hb
theorem Inv.step{g':Array GenState}{t':Nat}{d':Drawn}{ch:List YG}(I:Inv X pins Y H s)
  (hch:∀b∈ch,(b∈X.ex∨X.s₀.heap.objs.size≤b)∧b≠X.env.locals∧(∀x c,X.env.cells.lookup x=YB c->c≠b)∧∀p∈X.pn++pins,p.1≠b)
  (keep:∀b o,b≠X.env.locals->b∉X.fs->b∉ch->s.heap.get? b=YB o->H b=YC->h'.get? b=YB o)
  (slot:∀b o,b≠X.env.locals->b∈X.fs->b∉ch->s.heap.get? b=YB o->H b=YC->∃sl,h'.get? b=YB { o with slots:=sl }) (free:∀b o,b∉ch->s.heap.get? b=YB o->H b=YC->H' b=YC)
  (there:∀b o,b∉ch->s.heap.get? b=YB o->∃o',h'.get? b=YB o')
  (tups:∀b xs,H b=YB (.tup xs)->H' b=YB (.tup xs)) (frzs:∀b o u,H b=YB (.frz o u)->H' b=YB (.frz o u)) (tbls:∀b ps,H b=YB (.tbl ps)->∃more,H' b=YB (.tbl (ps++more)))
  (ns:∀m,s.heap.Ns X.env.locals m->h'.Ns X.env.locals m) (hok:HOk X.prog X.w H' h') (hg:AllBare g') :
  Inv X pins Y H' { s with heap:=h',gens:=g',drawn:=d',toks:=t' }:=by
 have neL:∀b o,X.s₀.heap.get? b=YB o->b≠X.env.locals:=λb o e=>Xy (Qo (XH e) I.ok.above);have neC:∀b o,X.s₀.heap.get? b=YB o->b∉X.ex->b∉ch:=λb o e hx hb=>by
  rcases(hch b hb).1 with z|z
  ·exact hx z
  ·exact YX (Qo (XH e) z) (Bj _)
 have cellK:∀x c,X.env.cells.lookup x=YB c->∀v,s.heap.IsCell c v->h'.IsCell c v:=λx c e v ⟨o,ho,hd⟩=>by
  have nch:c∉ch:=λz=>(hch c z).2.2.1 x c e rfl
  by_cases hc:c∈X.fs
  ·obtain⟨sl,q⟩:=slot c o (I.cne x c e) hc nch ho (I.freeC x c e)
   exact⟨_,q,hd⟩
  ·exact⟨o,keep c o (I.cne x c e) hc nch ho (I.freeC x c e),hd⟩
 refine⟨I.ok,I.os,hg,⟨λb o e n hb hx=>?_,λb o e n hb hx=>?_,λb o e n hx=>?_,λb o e hx=>?_,λb xs e=>tups b xs (I.base.tups b xs e),λb o xs e=>frzs b o xs (I.base.frzs b o xs e),λb ps e=>?_⟩,?_,λx c e=>?_,?_,λx c e=>?_,λp hp=>?_,hok,I.len⟩
 ·exact keep b o (neL b o e) hb (neC b o e hx) (I.base.keep b o e n hb hx) (I.base.free b o e n hx)
 ·obtain⟨sl,e1⟩:=I.base.slot b o e n hb hx
  obtain⟨sl',e2⟩:=slot b _ (neL b o e) hb (neC b o e hx) e1 (I.base.free b o e n hx);exact⟨sl',e2⟩
 ·obtain⟨o',e1⟩:=I.base.there b o e hx
  exact free b o' (neC b o e hx) e1 (I.base.free b o e n hx)
 ·obtain⟨o',e1⟩:=I.base.there b o e hx
  exact there b o' (neC b o e hx) e1
 ·obtain⟨m1,e1⟩:=I.base.tbls b ps e
  obtain⟨m2,e2⟩:=tbls b _ e1;exact⟨m1++m2,by rw[e2,Array.append_assoc]⟩
 ·obtain⟨m,hn,hl⟩:=I.loc
  refine⟨m,ns m hn,λi x v e1 e2 e3=>?_⟩;obtain⟨u,r,l⟩:=hl i x v e1 e2 e3;refine⟨u,r,?_⟩;rcases l with l|⟨k,c,e,z⟩
  ·exact .inl l
  ·exact .inr ⟨k,c,e,cellK x c e _ z⟩
 ·obtain⟨v,z⟩:=I.cell x c e
  exact⟨v,cellK x c e v z⟩
 ·obtain⟨m,⟨o,_,_,ho,_⟩,_⟩:=I.loc
  exact free _ o (λz=>(hch _ z).2.1 rfl) ho I.free
 ·obtain⟨v,o,ho,hd⟩:=I.cell x c e
  exact free c o (λz=>(hch c z).2.2.1 x c e rfl) ho (I.freeC x c e)
 ·obtain⟨e,n,ne,nf,d⟩:=I.pin p hp
  have nch:p.1∉ch:=λz=>(hch p.1 z).2.2.2 p hp rfl;exact⟨keep p.1 p.2 ne nf nch e n,free p.1 p.2 nch e n,ne,nf,d⟩
theorem Inv.un{t':Nat}(I:Inv X pins Y H s)(u:Un X.fs [] H H' s.heap h')(hok:HOk X.prog X.w H' h'):Inv X pins Y H' { s with heap:=h',toks:=t' }:=by
 obtain⟨m,⟨o,es,ep,ho,r⟩,_⟩:=id I.loc;obtain⟨sl,hL⟩:=u.any ho I.free (by simp);exact I.step (g':=s.gens) (d':=s.drawn) (ch:=[]) (λ_ z=>nomatch z) (λb o _ hb _ e n=>u.keep b o e n hb (by simp)) (λb o _ hb _ e n=>u.slot b o e n hb (by simp)) (λb o _ e n=>u.free b o e n (by simp)) (λb o _ e=>u.there b o e (by simp)) u.tups u.frzs u.tbls (λm' hm=>by
  obtain⟨o',es',ep',ho',r'⟩:=hm;rw[ho]at ho';cases ho';exact⟨_,es',ep',hL,r'⟩) hok I.bare
theorem Inv.call{g':Array GenState}{t':Nat}{d':Drawn}{ch:List YG}(I:Inv X pins Y H s)(u:Un (frs X.stack) ch H H' s.heap h')(hok:HOk X.prog X.w H' h')(hg:AllBare g')
  (hch:∀b∈ch,(b∈X.ex∨X.s₀.heap.objs.size≤b)∧b≠X.env.locals∧(∀x c,X.env.cells.lookup x=YB c->c≠b)∧∀p∈X.pn++pins,p.1≠b) :
  Inv X pins Y H' { s with heap:=h',gens:=g',drawn:=d',toks:=t' }:=by
 obtain⟨m,⟨o,es,ep,ho,r⟩,_⟩:=id I.loc;obtain⟨sl,hL⟩:=u.any ho I.free λz=>(hch _ z).2.1 rfl;exact I.step (ch:=ch) hch (λb o hL hb hc e n=>u.keep b o e n (λz=>(Xu.mp (I.stkSub b z)).elim hL hb) hc) (λb o _ _ hc e n=>u.any e n hc) (λb o hc e n=>u.free b o e n hc) (λb o hc e=>u.there b o e hc) u.tups u.frzs u.tbls (λm' hm=>by
  obtain⟨o',es',ep',ho',r'⟩:=hm;rw[ho]at ho';cases ho';exact⟨_,es',ep',hL,r'⟩) hok hg
theorem Inv.turned{t':Nat}{it:YG}(I:Inv X pins Y H s)(k:∀b o,b≠it->s.heap.get? b=YB o->h'.get? b=YB o)(hn:H it=YC)(hL:it≠X.env.locals)
  (h1:it∈X.ex∨X.s₀.heap.objs.size≤it) (h2:∀x c,X.env.cells.lookup x=YB c->c≠it) (h3:∀p∈X.pn++pins,p.1≠it):Inv X pins Y H { s with heap:=h',toks:=t' }:=by
 have nit:∀b u,H b=YB u->b≠it:=λb u e z=>by rw[z,hn]at e;cases e
 refine I.step (g':=s.gens) (d':=s.drawn) (ch:=[it]) (λb hb=>?_) (λb o _ _ hc e _=>k b o (λz=>hc (by simp[z])) e) (λb o _ _ hc e _=>⟨o.slots,k b o (λz=>hc (by simp[z])) e⟩) (λ_ _ _ _ n=>n)
  (λb o hc e=>⟨o,k b o (λz=>hc (by simp[z])) e⟩) (λ_ _ e=>e) (λ_ _ _ e=>e) (λb ps e=>⟨#[],by rw[e];simp⟩) (λm hm=>?_) (λb u e=>?_) I.bare
 ·have e:b=it:=by simpa using hb
  subst e;exact⟨h1,hL,h2,h3⟩
 ·obtain⟨o,es,ep,ho,r⟩:=hm
  exact⟨o,es,ep,k _ o (JR hL) ho,r⟩
 ·refine(I.hok b u e).stay (λc v hc q=>k c v ?_ q) (λ_ q=>q) λ_ _ q=>q
  rcases hc with z|z
  ·rw[z];exact nit b u e
  ·exact nit c _ z
theorem Inv.tok(I:Inv X pins Y H s)(t:Nat):Inv X pins Y H { s with toks:=t }:=I.un (h':=s.heap) (t':=t) Un.refl I.hok
theorem Inv.kept{t':Nat}(I:Inv X pins Y H s)(k:∀b u,s.heap.get? b=YB u->h'.get? b=YB u):Inv X pins Y H { s with heap:=h',toks:=t' }:=I.un (Un.kept k) (I.hok.kept k)
theorem Inv.laid{a:YG}{o:HO}{t':Nat}(I:Inv X pins Y H s)(k:∀b u,s.heap.get? b=YB u->h'.get? b=YB u)(hp:s.heap.objs.size≤a)(new:ObjOk X.prog X.w (upd H a o) h' a o) :
  Inv X pins Y (upd H a o) { s with heap:=h',toks:=t' }:=I.un (Un.laid k hp (I.hok.fresh hp)) (I.hok.laid k hp new)
theorem Inv.write{x e:YG}{o:HO}{t':Nat}(I:Inv X pins Y H s)(mu:Mut (H x))(he:e=x∨H e=YB (.own x))(k:∀b u,b≠e->s.heap.get? b=YB u->h'.get? b=YB u)(heo:∃u,h'.get? e=YB u)
  (new:ObjOk X.prog X.w (upd H x o) h' x o):Inv X pins Y (upd H x o) { s with heap:=h',toks:=t' }:=I.un (Un.write mu he k heo) (I.hok.write mu he k heo new)
theorem Inv.pins_of{pins':List (YG×Obj)}(I:Inv X pins Y H s)(h:∀p∈pins',s.heap.get? p.1=YB p.2∧H p.1=YC∧p.1≠X.env.locals∧p.1∉X.fs∧∀v,p.2.data≠ .cell v):Inv X pins' Y H s :=
 ⟨I.ok,I.os,I.bare,I.base,I.loc,I.cell,I.free,I.freeC,λp hp=>(QV.mp hp).elim (λz=>I.pin p (VL _ z)) (h p),I.hok,I.len⟩
theorem Zpa{N:List Str}(hN:N.Nodup){i j:Nat}{x:Str}(a:N[i]? =YB x)(b:N[j]? =YB x):i=j:=by
 obtain⟨h1,e1⟩:=Xw.mp a;obtain⟨h2,e2⟩:=Xw.mp b;exact(List.getElem_inj hN).mp (e1.trans e2.symm)
theorem Zmn{M:Model}{A:Qs}{E:Xf->Xg->Prop}{i:Nat}{x:Str}{v:V}{u:Xf}{Q:Unit->Xg->Prop}(I:Inv X pins Y H s)(hN:X.N.Nodup)(hi:X.N[i]? =YB x)(hx:Loc X.env.scope x)(r:RelV v u)
  (h:∀s',Inv X pins (Y.set i (YB v)) H s'->(∃a,VP a s.heap s'.heap∧(a=X.env.locals∨X.env.cells.lookup x=YB a))->Q () s') (hf:X.fn x=YD∨X.env.scope.names.lookup x=YB .local:=by first|exact .inl rfl|exact .inr rfl|assumption):Qd M A (storeName X.env x u) Q E s:=by
 obtain⟨m,hn,hl⟩:=id I.loc;have hcls:(X.env.scope.kind== .class||(X.env.scope.kind== .module&&X.env.locals !=X.env.globals))=YF:=by rw[I.ok.kind];rfl
 have hiσ:i<Y.length:=by rw[I.len];exact(Xw.mp hi).1
 have cne:=I.cne;have tracked:∀{a:YG} {h':YH},(∃o,s.heap.get? a=YB o∧H a=YC)->VP a s.heap h'->HOk X.prog X.w H h':=fun{a h'} ha hs b ob e=>by
  obtain⟨_,_,hfree⟩:=ha;refine(I.hok b ob e).stay (λc w' hc q=>(hs.2 c ?_).trans q) (λ_ q=>q) λ_ _ q=>q;rintro rfl;rcases hc with rfl|hc
  ·rw[hfree]at e;cases e
  ·rw[hfree]at hc;cases hc
 rcases hx with hk|hk
 ·refine wpAny_storeName_local hk hn (λh' hn' hs=>?_) hcls
  obtain⟨oL,_,_,hoL,_⟩:=id hn;refine h _ ⟨I.ok,I.os,I.bare,⟨λb o e n hb hx=>?_,λb o e n hb hx=>?_,I.base.free,λb o e hx=>?_,I.base.tups,I.base.frzs,I.base.tbls⟩,⟨_,hn',λj y v' e1 e2 e3=>?_⟩,λy c e=>?_,I.free,I.freeC,λp hp=>?_,tracked ⟨oL,hoL,I.free⟩ hs,by simpa using I.len⟩ ⟨_,hs,.inl rfl⟩
  ·exact(hs.2 b (Xy (Qo (XH e) I.ok.above))).trans (I.base.keep b o e n hb hx)
  ·obtain⟨sl,e1⟩:=I.base.slot b o e n hb hx
   exact⟨sl,(hs.2 b (Xy (Qo (XH e) I.ok.above))).trans e1⟩
  ·obtain⟨o',e1⟩:=I.base.there b o e hx
   exact⟨o',(hs.2 b (Xy (Qo (XH e) I.ok.above))).trans e1⟩
  ·by_cases hj:j=i
   ·subst hj
    rw[hi]at e1;cases e1;rw[JD hiσ]at e2;cases e2;exact⟨u,r,.inl ⟨hk,by simp⟩⟩
   ·rw[QL (JR hj)]at e2
    obtain⟨u',r',q⟩:=hl j y v' e1 e2 e3;refine⟨u',r',?_⟩;rcases q with⟨k,e⟩|⟨k,c,e,z⟩
    ·refine .inl ⟨k,?_⟩
     have:y≠x:=λe=>hj (Zpa hN e1 (e▸hi));simp[this,e]
    ·exact .inr ⟨k,c,e,z.sameBut hs (cne y c e)⟩
  ·obtain⟨w',z⟩:=I.cell y c e
   exact⟨w',z.sameBut hs (cne y c e)⟩
  ·obtain⟨e,n,ne,nf,d⟩:=I.pin p hp
   exact⟨(hs.2 p.1 ne).trans e,n,ne,nf,d⟩
 ·have hfn:X.fn x=YD:=by
   rcases hf with z|z
   ·exact z
   ·rw[z]at hk;cases hk
  obtain⟨c,hc⟩:=I.ok.has x (.inl hk);obtain⟨w',z⟩:=I.cell x c hc;refine wpAny_storeName_cell I.ok.kind hk hc z (λh' hc' hs=>?_);obtain⟨oc,hoc,hocd⟩:=id z;refine h { s with heap:=h' } ⟨I.ok,I.os,I.bare,⟨λb o e n hb hx=>?_,λb o e n hb hx=>?_,I.base.free,λb o e hx=>?_,I.base.tups,I.base.frzs,I.base.tbls⟩,⟨m,hn.sameBut hs (JR (cne x c hc)),λj y v' e1 e2 e3=>?_⟩,λy c' e=>?_,I.free,I.freeC,λp hp=>?_,tracked ⟨oc,hoc,I.freeC x c hc⟩ hs,by simpa using I.len⟩ ⟨c,hs,.inr hc⟩
  ·exact(hs.2 b (Xy (Qo (XH e) (I.ok.cab x c hfn hc)))).trans (I.base.keep b o e n hb hx)
  ·obtain⟨sl,e1⟩:=I.base.slot b o e n hb hx
   exact⟨sl,(hs.2 b (Xy (Qo (XH e) (I.ok.cab x c hfn hc)))).trans e1⟩
  ·obtain⟨o',e1⟩:=I.base.there b o e hx
   exact⟨o',(hs.2 b (Xy (Qo (XH e) (I.ok.cab x c hfn hc)))).trans e1⟩
  ·by_cases hj:j=i
   ·subst hj
    rw[hi]at e1;cases e1;rw[JD hiσ]at e2;cases e2;exact⟨u,r,.inr ⟨.inl hk,c,hc,hc'⟩⟩
   ·rw[QL (JR hj)]at e2
    obtain⟨u',r',q⟩:=hl j y v' e1 e2 e3;refine⟨u',r',?_⟩;rcases q with q|⟨k,c',e,z'⟩
    ·exact .inl q
    ·refine .inr ⟨k,c',e,z'.sameBut hs ?_⟩
     rintro rfl;exact hj (Zpa hN e1 (I.ok.inj _ _ _ e hc▸hi))
  ·by_cases hcc:c'=c
   ·subst hcc;exact⟨_,hc'⟩
   ·obtain⟨w2,z2⟩:=I.cell y c' e
    exact⟨w2,z2.sameBut hs hcc⟩
  ·obtain⟨e,n,ne,nf,d⟩:=I.pin p hp
   refine⟨(hs.2 p.1 ?_).trans e,n,ne,nf,d⟩;intro q;rw[q,hoc]at e;have q':oc=p.2:=QR e;exact d w' (by rw[←q'];exact hocd)
theorem Zpp{M:Model}{A:Qs}{E:Xf->Xg->Prop}{i:Nat}{x:Str}{v:V}{u:Xf}{Q:Unit->Xg->Prop}(I:Inv X pins Y H s)(hN:X.N.Nodup)(hi:X.N[i]? =YB x)(hx:Loc X.env.scope x)(r:RelV v u)
  (h:∀s',Inv X pins (Y.set i (YB v)) H s'->Q () s') (hf:X.fn x=YD∨X.env.scope.names.lookup x=YB .local:=by first|exact .inl rfl|exact .inr rfl|assumption):Qd M A (storeName X.env x u) Q E s :=
 Zmn I hN hi hx r (λs' I' _=>h s' I') hf
theorem Inv.call'{s':Xg}{ch:List YG}(I:Inv X pins Y H s)(ho:s'.os=s.os)(u:Un (frs X.stack) ch H H' s.heap s'.heap)(hok:HOk X.prog X.w H' s'.heap)(hg:AllBare s'.gens)
  (hch:∀b∈ch,(b∈X.ex∨X.s₀.heap.objs.size≤b)∧b≠X.env.locals∧(∀x c,X.env.cells.lookup x=YB c->c≠b)∧∀p∈X.pn++pins,p.1≠b):Inv X pins Y H' s':=by
 obtain⟨h',g',d',t',o'⟩:=s';have e:o'=s.os:=ho;subst e;exact I.call (g':=g') (t':=t') (d':=d') u hok hg hch
end
noncomputable abbrev XK:=Xf->Option YG->Hp->Prop
noncomputable abbrev St:=List (Option V)
noncomputable abbrev VK:=V->Hp->Prop
noncomputable abbrev TE:=St->Hp->VK->Prop
noncomputable abbrev TT:=St->Hp->(Bool->Hp->Prop)->Prop
noncomputable abbrev TA:=St->Hp->(List V->Hp->Prop)->Prop
set_option genInjectivity false in
structure Ends where
 nx:St->Hp->Prop
 rt:VK
 bk:St->Hp->Prop:=λ_ _=>False
 ct:St->Hp->Prop:=λ_ _=>False
noncomputable abbrev TS:=Ends->St->Hp->Prop
noncomputable def EP(X:Cx)(pins:List (YG×Obj))(Y:St)(Q:VK)(u:Xf)(s':Xg):Prop:=∃v H',Inv X pins Y H' s'∧RelV v u∧Q v H'
noncomputable def TP(X:Cx)(pins:List (YG×Obj))(Y:St)(Q:Bool->Hp->Prop)(b:Bool)(s':Xg):Prop:=∃H',Inv X pins Y H' s'∧Q b H'
noncomputable def AP(X:Cx)(pins:List (YG×Obj))(Y:St)(Q:List V->Hp->Prop)(us:List Xf)(s':Xg):Prop:=∃vs H',Inv X pins Y H' s'∧Vals vs us∧Q vs H'
noncomputable def SP(X:Cx)(pins:List (YG×Obj))(D:Ends)(f:Flow)(s':Xg):Prop :=
 match f with
 | .next=>∃Y' H',Inv X pins Y' H' s'∧D.nx Y' H'
 | .brk=>∃Y' H',Inv X pins Y' H' s'∧D.bk Y' H'
 | .cont=>∃Y' H',Inv X pins Y' H' s'∧D.ct Y' H'
 | .ret u=>∃v Y' H',Inv X pins Y' H' s'∧RelV v u∧D.rt v H'
noncomputable def PE(X:Cx)(e:YJ)(t:TE):Prop :=
 ∀(pins:List (YG×Obj)) (s:Xg) (Y:St) (H:Hp) (Q:VK),Inv X pins Y H s->t Y H Q->Qd (Ql X.prog X.w) X.A (eval e X.env) (EP X pins Y Q) X.xe s
noncomputable def PT(X:Cx)(e:YJ)(t:TT):Prop :=
 ∀(pins:List (YG×Obj)) (s:Xg) (Y:St) (H:Hp) (Q:Bool->Hp->Prop),Inv X pins Y H s->t Y H Q->Qd (Ql X.prog X.w) X.A (isTrue e X.env (eval e X.env)) (TP X pins Y Q) X.xe s
noncomputable def PW(X:Cx)(e:YJ)(t:TT):Prop :=
 ∀(whole:Sem Xf) (pins:List (YG×Obj)) (s:Xg) (Y:St) (H:Hp) (Q:Bool->Hp->Prop),Inv X pins Y H s->t Y H Q->Qd (Ql X.prog X.w) X.A (isTrue e X.env whole) (TP X pins Y Q) X.xe s
theorem PW.pt{X:Cx}{e:YJ}{t:TT}(h:PW X e t):PT X e t:=h _
noncomputable def PA(X:Cx)(es:List YJ)(t:TA):Prop :=
 ∀(pos:Pos) (pins:List (YG×Obj)) (s:Xg) (Y:St) (H:Hp) (Q:List V->Hp->Prop),Inv X pins Y H s->t Y H Q->Qd (Ql X.prog X.w) X.A (spliced (JP pos (Xr es X.env))) (AP X pins Y Q) X.xe s
noncomputable def PS(X:Cx)(st:YK)(t:TS):Prop :=
 ∀(pins:List (YG×Obj)) (s:Xg) (Y:St) (H:Hp) (D:Ends),Inv X pins Y H s->t D Y H->Qd (Ql X.prog X.w) X.A (exec st X.env) (SP X pins D) X.xe s
noncomputable def PSs(X:Cx)(st:List YK)(t:TS):Prop :=
 ∀(pins:List (YG×Obj)) (s:Xg) (Y:St) (H:Hp) (D:Ends),Inv X pins Y H s->t D Y H->Qd (Ql X.prog X.w) X.A (execs st X.env) (SP X pins D) X.xe s
theorem thn{α:Type}{t:Sem α}{Q Q':α->Xg->Prop}{M:Model}{A:Qs}{E:Xf->Xg->Prop}{s:Xg}(h:Qd M A t Q E s)(hQ:∀a s,Q a s->Q' a s):Qd M A t Q' E s:=BW h hQ λ_ _ x=>x
section
variable {X:Cx}
noncomputable def Yea(i:Nat):TE:=λY H Q=>∃v,Y[i]? =YB (YB v)∧Q v H
noncomputable def tC(v:V):TE:=λ_ H Q=>Q v H
theorem Zy5{i:Nat}{x:Str}{pos:Pos}(hN:X.N[i]? =YB x)(hv:Vis X.env.scope x)(hd:(x==("__debug__" : Str))=YF:=by decide)(hcd:(x==("__classdict__" : Str))=YF:=by decide):PE X (.Name x pos) (Yea i):=by
 intro pins s Y H Q I h;obtain⟨v,e,h⟩:=h;obtain⟨m,hn,hl⟩:=I.loc;obtain⟨u,r,l⟩:=hl i x v hN e hv;have fin:EP X pins Y Q u s:=⟨v,H,I,r,h⟩;rcases l with⟨hk,hm⟩|⟨hk,c,hc,hcell⟩
 ·exact wpAny_Name (wpAny_loadName_local I.ok.kind hk hn hm fin) hd
 ·rcases hk with hk|hk
  ·exact wpAny_Name (wpAny_loadName_cell I.ok.kind hk hc hcell fin) hd
  ·exact wpAny_Name (wpAny_loadName_free I.ok.kind hk hc hcell fin hcd) hd
theorem Z7o{i j pos}:PE X (.Constant (.int i) j pos) (tC (.int i)):=λ_ _ _ H _ I h=>wpAny_Constant_int ⟨.int i,H,I.tok _,⟨_,rfl⟩,h⟩
theorem Ydi{b j pos}:PE X (.Constant (.bool b) j pos) (tC (.bl b)):=λ_ _ _ H _ I h=>Constant_bool ⟨.bl b,H,I,rfl,h⟩
theorem Yay{j pos}:PE X (.Constant .none j pos) (tC .non):=λ_ _ _ H _ I h=>Constant_none ⟨.non,H,I,rfl,h⟩
noncomputable def Gl(X:Cx)(x:Str):Prop:=X.env.kindOf x=YB .globalImplicit
theorem Zun{E:Xf->Xg->Prop}{pins:List (YG×Obj)}{s:Xg}{Y:St}{H:Hp}{x:Str}{u:Xf}{pos:Pos}{Q:Xf->Xg->Prop}(I:Inv X pins Y H s)(hg:Gl X x)(hm:X.mg x=YB u)(h:Q u s)
  (hd:(x==("__debug__" : Str))=YF:=by decide):Qd (Ql X.prog X.w) X.A (eval (.Name x pos) X.env) Q E s :=
 Calls.Name_function_global I.ok.kind hg (Calls.loadGlobal_global (by rw[I.ok.glob];exact I.mod.glob.keeps I.bk) hm h) hd
theorem Zi0{E:Xf->Xg->Prop}{pins:List (YG×Obj)}{s:Xg}{Y:St}{H:Hp}{x:Str}{u:Xf}{pos:Pos}{Q:Xf->Xg->Prop}(I:Inv X pins Y H s)(hg:Gl X x)(hm:X.mg x=YC)(hv:Qa x=YB u)(h:Q u s)
  (hn:x≠"__name__" :=by decide) (hd:(x==("__debug__" : Str))=YF:=by decide):Qd (Ql X.prog X.w) X.A (eval (.Name x pos) X.env) Q E s:=by
 obtain⟨mb,h1,h2⟩:=I.mod.blt;exact Calls.Name_function_global I.ok.kind hg (Calls.loadGlobal_builtin (by rw[I.ok.glob];exact I.mod.glob.keeps I.bk) hm (by rw[I.ok.blt];exact h1.keeps I.bk) ((h2 x hn).trans hv) h) hd
theorem Z4b{x:Str}{v:V}{u:Xf}{pos:Pos}(hg:Gl X x)(hm:X.mg x=YB u)(r:RelV v u)(hd:(x==("__debug__" : Str))=YF:=by decide):PE X (.Name x pos) (tC v) :=
 λ_ _ _ H _ I h=>Zun I hg hm ⟨v,H,I,r,h⟩ hd
theorem Z3f{x:Str}{v:V}{u:Xf}{pos:Pos}(hg:Gl X x)(hm:X.mg x=YC)(hv:Qa x=YB u)(r:RelV v u)(hn:x≠"__name__" :=by decide)(hd:(x==("__debug__" : Str))=YF:=by decide):PE X (.Name x pos) (tC v) :=
 λ_ _ _ H _ I h=>Zi0 I hg hm hv ⟨v,H,I,r,h⟩ hn hd
noncomputable def t2I(ta tb:TE)(k:Int->Int->Hp->Prop):St->Hp->Prop:=λY H=>ta Y H λx H1=>tb Y H1 λy H2=>∃i j,x= .int i∧y= .int j∧k i j H2
variable {a b:YJ}{ta tb:TE}{pos:Pos}
noncomputable def Z5n(p:Int->Int->Bool)(ta tb:TE):TE:=λY H Q=>t2I ta tb (λi j H2=>Q (.bl (p i j)) H2) Y H
noncomputable abbrev tLt:TE->TE->TE:=Z5n λi j=>decide (i<j)
noncomputable abbrev tLe:TE->TE->TE:=Z5n λi j=>decide (i≤j)
noncomputable abbrev tGt:TE->TE->TE:=Z5n λi j=>decide (j<i)
noncomputable abbrev tGe:TE->TE->TE:=Z5n λi j=>decide (j≤i)
noncomputable abbrev Yju:TE->TE->TE:=Z5n λi j=>decide (i=j)
noncomputable abbrev Yjw:TE->TE->TE:=Z5n λi j=>!decide (i=j)
noncomputable def tB(t:TE):TT:=λY H Q=>t Y H λx H1=>∃c,x= .bl c∧Q c H1
variable {tA tB':TT}{rest:List YJ}
noncomputable def tOr(t u:TT):TT:=λY H Q=>t Y H λc H1=>if c=YD then Q YD H1 else u Y H1 Q
noncomputable def Yh7(t:TT):TT:=λY H Q=>t Y H λc H1=>Q (!c) H1
theorem Z8o(ha:PT X a tA):PW X (.BoolOp .Or [a] pos) tA:=by
 intro wh pins s Y H Q I h;refine isTrue_or (thn (ha pins s Y H Q I h) λc s1 e=>?_);cases c with
 | false=>exact isTrue_or_nil e
 | true=>exact e
theorem Yce(ha:PT X a tA)(hb:PW X (.BoolOp .Or (b::rest) pos) tB'):PW X (.BoolOp .Or (a::b::rest) pos) (tOr tA tB'):=by
 intro wh pins s Y H Q I h;refine isTrue_or (thn (ha pins s Y H _ I h) λc s1 qz9=>?_);obtain⟨H1,I1,q1⟩:=qz9;cases c with
 | true=>exact⟨H1,I1,q1⟩
 | false=>exact hb wh pins s1 Y H1 Q I1 q1
theorem Z7i(ha:PT X a tA):PT X (.UnaryOp .Not a pos) (Yh7 tA):=by
 intro pins s Y H Q I h;exact isTrue_not (ha pins s Y H (λc H1=>Q (!c) H1) I h)
noncomputable def Ydm(ta tb:TE):TE:=λY H Q=>ta Y H λx H1=>∃c,x= .bl c∧if c=YD then tb Y H1 Q else Q (.bl YF) H1
noncomputable def Ydg(ta:TE):TE:=λY H Q=>ta Y H λx H1=>∃c,x= .bl c∧Q (.bl (!c)) H1
theorem Z8t{op}{t:TE}(h:PE X a t):PE X (.BoolOp op [a] pos) t:=λpins s Y H Q I hw=>BoolOp_one (h pins s Y H Q I hw)
theorem Z5y(ha:PE X a ta)(hb:PE X (.BoolOp .And (b::rest) pos) tb):PE X (.BoolOp .And (a::b::rest) pos) (Ydm ta tb):=by
 intro pins s Y H Q I h;refine BoolOp_and (thn (ha pins s Y H _ I h) λv s1 qz9=>?_);obtain⟨x,H1,I1,r1,q1⟩:=qz9;obtain⟨c,rfl,q1⟩:=q1;cases r1;refine VN ?_;cases c with
 | true=>exact hb pins s1 Y H1 Q I1 q1
 | false=>exact⟨.bl YF,H1,I1,rfl,q1⟩
theorem Z50(ha:PE X a ta):PE X (.UnaryOp .Not a pos) (Ydg ta):=by
 intro pins s Y H Q I h;refine UnaryOp_ (thn (ha pins s Y H _ I h) λv s1 qz9=>?_);obtain⟨x,H1,I1,r1,q1⟩:=qz9;obtain⟨c,rfl,q1⟩:=q1;cases r1;exact not_of (VN ⟨.bl (!c),H1,I1,rfl,q1⟩)
noncomputable def tIf(t:TT)(ta tb:TE):TE:=λY H Q=>t Y H λc H1=>if c=YD then ta Y H1 Q else tb Y H1 Q
theorem Zyz{c:YJ}(hc:PT X c tA)(ha:PE X a ta)(hb:PE X b tb):PE X (.IfExp c a b pos) (tIf tA ta tb):=by
 intro pins s Y H Q I h;refine wpAny_IfExp (thn (hc pins s Y H _ I h) λd s1 qz9=>?_);obtain⟨H1,I1,q1⟩:=qz9;cases d with
 | true=>exact ha pins s1 Y H1 Q I1 q1
 | false=>exact hb pins s1 Y H1 Q I1 q1
end
noncomputable def SqL(K:Xb)(H:Hp)(a:YG)(xs:List V):Prop :=
 Rd H a (.lst xs)∨
  ∃(o:Obj) (its:Array Xf) (n:Nat),K.lookup a=YB o∧o.cls= .type "list"∧o.dict=YC∧o.data= .seq its n∧its.size≤Xz∧Vals xs its.toList
noncomputable def SqT(K:Xb)(H:Hp)(a:YG)(xs:List V):Prop :=
 Rd H a (.tup xs)∨
  ∃(o:Obj) (its:Array Xf) (n:Nat),K.lookup a=YB o∧o.cls= .type "tuple"∧o.data= .seq its n∧its.size≤Xz∧Vals xs its.toList
noncomputable def Yi4:Xf->Option V
 | .none=>YB .non
 | .bool b=>YB (.bl b)
 | .int i _=>YB (.int i)
 | .str x _=>YB (.str x)
 | .bytes b _=>YB (.byt b)
 | .float b _=>YB (.flt b)
 | .ref a=>YB (.ref a)
 | .type n=>YB (.ty n)
 | _=>YC
theorem RelV.abs{x:V}{u:Xf}(r:RelV x u):Yi4 u=YB x:=by
 cases x with
 | non=>cases r;rfl
 | bl _=>cases r;rfl
 | int _=>obtain⟨t,rfl⟩:=r;rfl
 | str _=>obtain⟨t,rfl⟩:=r;rfl
 | byt _=>obtain⟨t,rfl⟩:=r;rfl
 | flt _=>obtain⟨t,rfl⟩:=r;rfl
 | ref _=>cases r;rfl
 | ty _=>cases r;rfl
theorem RelV.inj{x y:V}{u:Xf}(r:RelV x u)(q:RelV y u):x=y:=QR (r.abs.symm.trans q.abs)
theorem Vals.inj{xs ys:List V}{us:List Xf}(h:Vals xs us)(k:Vals ys us):xs=ys:=by
 induction h generalizing ys with
 | nil=>cases k;rfl
 | cons r t ih=>
  cases k with
  | cons r' t'=>rw[r.inj r',ih t']
section
variable {X:Cx}{pins:List (YG×Obj)}{Y:St}{H:Hp}{s:Xg}{a:YG}{xs ys:List V}
theorem Inv.list(I:Inv X pins Y H s)(h:SqL X.K H a xs):∃its:List Xf,Vals xs its∧PlainL s.heap a its.toArray∧xs.length≤Xz:=by
 rcases h with h|⟨o,its,n,hk,hc,hd,hs,hz,r⟩
 ·obtain⟨z,its,n,r,e⟩:=h.ok I.hok
  exact⟨its,r,⟨_,n,e,rfl,rfl,rfl⟩,z⟩
 ·refine⟨its.toList,r,⟨o,n,I.kIn a o hk,hc,hd,by simpa using hs⟩,?_⟩
  have e:=r.length;simp only[V4]at e;omega
theorem Inv.tuple(I:Inv X pins Y H s)(h:SqT X.K H a xs):∃its:List Xf,Vals xs its∧IsTup s.heap a its.toArray∧xs.length≤Xz:=by
 rcases h with h|⟨o,its,n,hk,hc,hs,hz,r⟩
 ·obtain⟨z,its,r,p⟩:=h.ok I.hok
  exact⟨its,r,p,z⟩
 ·refine⟨its.toList,r,⟨o,I.kIn a o hk,hc,n,by simpa using hs⟩,?_⟩
  have e:=r.length;simp only[V4]at e;omega
theorem Inv.list_inj(I:Inv X pins Y H s)(h:SqL X.K H a xs)(h':SqL X.K H a ys):xs=ys:=by
 obtain⟨its,r,⟨o,n,e,_,_,d⟩,_⟩:=I.list h;obtain⟨its',r',⟨o',n',e',_,_,d'⟩,_⟩:=I.list h';rw[e]at e';cases e';rw[d]at d';injection d' with d1 _;have:its=its':=by simpa using YT Array.toList d1
 subst this;exact r.inj r'
end
noncomputable abbrev Cx.wish(X:Cx)(E:Xf->Xg->Prop):Cx:={ X with xe:=E }
noncomputable abbrev Cx.nox(X:Cx):Cx:=X.wish λ_ _=>False
theorem Cx.Ok.wish{X:Cx}(ok:X.Ok)(E:Xf->Xg->Prop):(X.wish E).Ok :=
 ⟨ok.mod,ok.kind,ok.glob,ok.blt,ok.above,ok.inj,ok.has,ok.cab,ok.hd,ok.frames,ok.stk,ok.exf,ok.bs,ok.bsz,ok.noex,ok.exfs,ok.funs,ok.frf⟩
theorem Cx.Ok.unwish{X:Cx}{E:Xf->Xg->Prop}(ok:(X.wish E).Ok):X.Ok :=
 ⟨ok.mod,ok.kind,ok.glob,ok.blt,ok.above,ok.inj,ok.has,ok.cab,ok.hd,ok.frames,ok.stk,ok.exf,ok.bs,ok.bsz,ok.noex,ok.exfs,ok.funs,ok.frf⟩
section
variable {X:Cx}{pins:List (YG×Obj)}{Y:St}{H:Hp}{s:Xg}{E:Xf->Xg->Prop}
theorem Inv.wish(I:Inv X pins Y H s)(E:Xf->Xg->Prop):Inv (X.wish E) pins Y H s:=⟨I.ok.wish E,I.os,I.bare,I.base,I.loc,I.cell,I.free,I.freeC,I.pin,I.hok,I.len⟩
theorem Inv.unwish(I:Inv (X.wish E) pins Y H s):Inv X pins Y H s:=⟨I.ok.unwish,I.os,I.bare,I.base,I.loc,I.cell,I.free,I.freeC,I.pin,I.hok,I.len⟩
theorem SP.unwish{D:Ends}{f:Flow}{s':Xg}(h:SP (X.wish E) pins D f s'):SP X pins D f s':=by
 cases f with
 | next=>obtain⟨Y',H',I,q⟩:=h;exact⟨Y',H',I.unwish,q⟩
 | brk=>obtain⟨Y',H',I,q⟩:=h;exact⟨Y',H',I.unwish,q⟩
 | cont=>obtain⟨Y',H',I,q⟩:=h;exact⟨Y',H',I.unwish,q⟩
 | ret u=>obtain⟨v,Y',H',I,r,q⟩:=h;exact⟨v,Y',H',I.unwish,r,q⟩
theorem PSs.nox{st:List YK}{t:TS}(h:PSs X.nox st t):PSs X st t:=λpins s Y H D I hw=>
 BW (h pins s Y H D (I.wish _) hw) (λ_ _ q=>q.unwish) λ_ _ z=>VJ z
end
section
variable {X:Cx}{st:YK}{rest:List YK}{t u:TS}{e:YJ}{te:TE}{pos:Pos}
noncomputable def Ycg:TS:=λD Y H=>D.nx Y H
noncomputable def Yhy(t u:TS):TS:=λD Y H=>t { D with nx:=u D } Y H
theorem Z3n:PSs X [] Ycg:=λ_ _ Y H _ I h=>wpAny_execs_nil ⟨Y,H,I,h⟩
theorem Zwl(h1:PS X st t)(h2:PSs X rest u):PSs X (st::rest) (Yhy t u):=by
 intro pins s Y H D I h;refine wpAny_execs_cons (thn (h1 pins s Y H { D with nx:=u D } I h) λf s1 q=>?_);cases f with
 | next=>
  obtain⟨Y',H',I',q⟩:=q;exact h2 pins s1 Y' H' D I' q
 | ret v=>exact q
 | brk=>exact q
 | cont=>exact q
theorem Z1w(h1:PS X st t):PSs X [st] t:=by
 intro pins s Y H D I h;refine wpAny_execs_cons (thn (h1 pins s Y H D I h) λf s1 q=>?_);cases f with
 | next=>exact wpAny_execs_nil q
 | ret v=>exact q
 | brk=>exact q
 | cont=>exact q
theorem Inv.quiet{pins:List (YG×Obj)}{Y:St}{H:Hp}{s:Xg}(I:Inv X pins Y H s):interactive X.env=YF:=by simp[interactive,I.ok.kind]
noncomputable def Ydp(te:TE):TS:=λD Y H=>te Y H λ_ H1=>D.nx Y H1
theorem Zrn(he:PE X e te)(hs:Ux e YC pos.line X.env=pure YF:=by rfl):PS X (.Expr e pos) (Ydp te):=by
 intro pins s Y H D I h;refine wpAny_Expr_any (thn (he pins s Y H _ I h) λv s1 qz9=>?_) I.quiet hs;obtain⟨x,H1,I1,r1,q1⟩:=qz9;exact⟨Y,H1,I1,q1⟩
noncomputable def Yip(te:TE):TS:=λD Y H=>te Y H D.rt
theorem Zy8(he:PE X e te):PS X (.Return (YB e) pos) (Yip te):=by
 intro pins s Y H D I h;refine wpAny_Return_some (thn (he pins s Y H _ I h) λv s1 qz9=>?_);obtain⟨x,H1,I1,r1,q1⟩:=qz9;exact⟨x,Y,H1,I1,r1,q1⟩
noncomputable def Yih(c:TT)(t u:TS):TS:=λD Y H=>c Y H λb H1=>if b=YD then t D Y H1 else u D Y H1
theorem Ycr{c:YJ}{a b:List YK}{tc:TT}(hc:PT X c tc)(ha:PSs X a t)(hb:PSs X b u):PS X (.If c a b pos) (Yih tc t u):=by
 intro pins s Y H D I h;refine wpAny_If (thn (hc pins s Y H _ I h) λd s1 qz9=>?_);obtain⟨H1,I1,q1⟩:=qz9;cases d with
 | true=>exact ha pins s1 Y H1 D I1 q1
 | false=>exact hb pins s1 Y H1 D I1 q1
noncomputable def Z9i:TS:=λ_ _ _=>False
theorem Zwz:PS X st Z9i:=λ_ _ _ _ _ _ h=>h.elim
end
noncomputable abbrev TG:=V->St->Hp->(St->Hp->Prop)->Prop
noncomputable abbrev TGs:=List V->St->Hp->(St->Hp->Prop)->Prop
noncomputable def PG(X:Cx)(target:YJ)(t:TG):Prop :=
 ∀(pins:List (YG×Obj)) (s:Xg) (Y:St) (H:Hp) (v:V) (u:Xf) (Q:St->Hp->Prop),Inv X pins Y H s->RelV v u->t v Y H Q ->
  Qd (Ql X.prog X.w) X.A (UT target X.env u) (λ_ s'=>∃Y' H',Inv X pins Y' H' s'∧Q Y' H') X.xe s
noncomputable def PGs(X:Cx)(ts:List YJ)(t:TGs):Prop :=
 ∀(pins:List (YG×Obj)) (s:Xg) (Y:St) (H:Hp) (vs:List V) (us:List Xf) (Q:St->Hp->Prop),Inv X pins Y H s->Vals vs us->t vs Y H Q ->
  Qd (Ql X.prog X.w) X.A (assignInOrder ((JQ ts X.env).map (·.2)) us) (λ_ s'=>∃Y' H',Inv X pins Y' H' s'∧Q Y' H') X.xe s
noncomputable abbrev Yci:=V->V->V->Hp->(Hp->Prop)->Prop
noncomputable def Yez(X:Cx)(t:Yci):Prop :=
 ∀(pins:List (YG×Obj)) (s:Xg) (Y:St) (H:Hp) (o i v:V) (ov iv u:Xf) (Q:Hp->Prop),Inv X pins Y H s->RelV o ov->RelV i iv->RelV v u->t o i v H Q ->
  Qd (Ql X.prog X.w) X.A (setItem ov iv u) (λ_ s'=>∃H',Inv X pins Y H' s'∧Q H') X.xe s
noncomputable abbrev TIp:=V->V->Hp->VK->Prop
section
variable {X:Cx}{pos:Pos}
noncomputable def Zux(i:Nat):TG:=λv Y H Q=>Q (Y.set i (YB v)) H
theorem Z3r{i:Nat}{x:Str}(hN:X.N.Nodup)(hi:X.N[i]? =YB x)(hx:Loc X.env.scope x)(hf:X.fn x=YD∨X.env.scope.names.lookup x=YB .local:=by first|exact .inl rfl|exact .inr rfl|assumption):PG X (.Name x pos) (Zux i):=by
 intro pins s Y H v u Q I r h;exact wpAny_assign_Name (Zpp I hN hi hx r (λs' I'=>⟨_,H,I',h⟩) hf)
noncomputable def Yhm:TGs:=λvs Y H Q=>vs=[]∧Q Y H
noncomputable def Ycz(t:TG)(u:TGs):TGs:=λvs Y H Q=>∃v r,vs=v::r∧t v Y H λY' H'=>u r Y' H' Q
theorem Z2r:PGs X [] Yhm:=by
 intro pins s Y H vs us Q I r h;obtain⟨e,h⟩:=h;subst e;cases r;exact assignInOrder_nil ⟨Y,H,I,h⟩
theorem Zw0{e:YJ}{es:List YJ}{t:TG}{u:TGs}(h1:PG X e t)(h2:PGs X es u)
  (hs:(JQ (e::es) X.env).map (·.2)=UT e X.env::(JQ es X.env).map (·.2):=by rfl):PGs X (e::es) (Ycz t u):=by
 intro pins s Y H vs us Q I r h;obtain⟨v,vr,e1,h⟩:=h;subst e1;cases r with
 | cons r rr=>
  rw[hs];refine assignInOrder_cons (thn (h1 pins s Y H _ _ _ I r h) λ_ s1 qz9=>?_);obtain⟨Y1,H1,I1,q1⟩:=qz9;exact h2 pins s1 Y1 H1 _ _ Q I1 rr q1
noncomputable def Yjk(K:Xb)(n:Nat)(t:TGs):TG:=λv Y H Q=>∃a xs,v= .ref a∧SqT K H a xs∧xs.length=n∧t xs Y H Q
theorem Z76{es:List YJ}{k:Nat}{t:TGs}{n:Nat}(hc:X.calm=YD)(h:PGs X es t)
  (hn:(JQ es X.env).length=n:=by rfl) (hst:(JQ es X.env).findIdx? (·.1)=YC:=by rfl):PG X (.Tuple es k pos) (Yjk X.K n t):=by
 intro pins s Y H v u Q I r hw;obtain⟨a,xs,e1,hq,hl,hw⟩:=hw;subst e1;cases r;obtain⟨its,rv,ht,hz⟩:=I.tuple hq;refine assign_Tuple_tuple (I.ok.hd hc) ht (by simp[hn,←hl,rv.length]) hst λh' hx=>?_;have I1:Inv X pins Y H { s with heap:=h' }:=I.kept (t':=s.toks) λb o e=>hx b o (Xy (XH e)) e;exact h pins _ Y H xs _ Q I1 (by simpa using rv) hw
noncomputable def Ydx(to ti:TE)(t:Yci):TG:=λv Y H Q=>to Y H λo H1=>ti Y H1 λi H2=>t o i v H2 λH3=>Q Y H3
theorem Zzt{o i:YJ}{to ti:TE}{t:Yci}(ho:PE X o to)(hi:PE X i ti)(hs:Yez X t)
  (ha:∀v,UT (.Subscript o i pos) X.env v=(do
   let ov←holding [v] (eval o X.env)
   let iv←holding [v,ov] (eval i X.env)
   standAt pos
   holding [v,ov,iv] (setItem ov iv v)
   release [v,ov,iv] []):=by intro _;rfl):PG X (.Subscript o i pos) (Ydx to ti t):=by
 intro pins s Y H v u Q I r h;rw[ha];refine Xi (Uj (thn (ho pins s Y H _ I h) λov s1 qz9=>?_));obtain⟨x,H1,I1,r1,q1⟩:=qz9;refine Xi (Uj (thn (hi pins s1 Y H1 _ I1 q1) λiv s2 qz9=>?_));obtain⟨y,H2,I2,r2,q2⟩:=qz9;refine Xi (wpAny_standAt (Xi (Uj (thn (hs pins s2 Y H2 x y v ov iv u _ I2 r1 r2 r q2) λ_ s3 qz9=>?_))));obtain⟨H3,I3,q3⟩:=qz9;exact wpAny_release ⟨Y,H3,I3,q3⟩
noncomputable def Z5x(te:TE)(g:TG):TS:=λD Y H=>te Y H λx H1=>g x Y H1 D.nx
theorem Zsk{tg e:YJ}{te:TE}{g:TG}(he:PE X e te)(hg:PG X tg g)(hs:swapsWithSole [tg] e pos.line X.env=pure YF:=by rfl)(hw:swappedStores [tg] e X.env=pure YC:=by rfl)
  (h1:(JQ [tg] X.env).map (·.2)=[UT tg X.env]:=by rfl):PS X (.Assign [tg] e pos) (Z5x te g):=by
 intro pins s Y H D I h;refine wpAny_Assign_stores (thn (he pins s Y H _ I h) λv s1 qz9=>?_) hs hw;obtain⟨x,H1,I1,r1,q1⟩:=qz9;rw[h1];exact thn (hg pins s1 Y H1 x v _ I1 r1 q1) λ_ s2 q=>q
theorem Zz2{i:Nat}{x:Str}{e:YJ}{te:TE}{pos':Pos}(hN:X.N.Nodup)(hi:X.N[i]? =YB x)(hx:Loc X.env.scope x)(he:PE X e te)(hs:Ux e (YB (.Name x pos')) pos.line X.env=pure YF:=by rfl)(hf:X.fn x=YD∨X.env.scope.names.lookup x=YB .local:=by first|exact .inl rfl|exact .inr rfl|assumption) :
  PS X (.Assign [.Name x pos'] e pos) (Z5x te (Zux i)):=by
 intro pins s Y H D I h;refine wpAny_Assign_Name (thn (he pins s Y H _ I h) λv s1 qz9=>?_) hs;obtain⟨y,H1,I1,r1,q1⟩:=qz9;exact Zpp I1 hN hi hx r1 (λs2 I2=>⟨_,H1,I2,q1⟩) hf
end
section
variable {X:Cx}{pos:Pos}
noncomputable def Yaj(c:TT)(tb:TS):TS:=λD Y H=>∃W:Nat->St->Hp->Prop,(∃m,W m Y H)∧∀m Y H,W m Y H ->
 c Y H λb H1=>if b=YD then∃N:St->Hp->Prop,(∀Y' H',N Y' H'->∃m',m'<m∧W m' Y' H')∧tb { D with nx:=N,ct:=N,bk:=D.nx } Y H1 else D.nx Y H1
theorem Zx3{c:YJ}{body:List YK}{tc:TT}{tb:TS}(hp:PassesOwn (Ql X.prog X.w) X.A X.env X.xe)(hc:PT X c tc)(hb:PSs X body tb):PS X (.While c body [] pos) (Yaj tc tb):=by
 intro pins s Y H D I h;obtain⟨W,⟨m0,w0⟩,turn⟩:=h;refine wpAny_While (codeAny_whileLoop (λn s'=>∃Y' H',Inv X pins Y' H' s'∧W n Y' H') ?_ m0 ⟨Y,H,I,w0⟩);rintro n s1 ⟨Y1,H1,I1,w1⟩;refine VG hp (thn (hc pins s1 Y1 H1 _ I1 (turn n Y1 H1 w1)) λb s2 qz9=>?_);obtain⟨H2,I2,q2⟩:=qz9;cases b with
 | true=>
  obtain⟨N,hN,q2⟩:=q2;rw[YL rfl];refine VG hp (thn (hb pins s2 Y1 H2 _ I2 q2) λf s3 q3=>?_);cases f with
  | next=>
   obtain⟨Y3,H3,I3,n3⟩:=q3;obtain⟨m',hm,w3⟩:=hN Y3 H3 n3;exact⟨m',hm,Y3,H3,I3,w3⟩
  | cont=>
   obtain⟨Y3,H3,I3,n3⟩:=q3;obtain⟨m',hm,w3⟩:=hN Y3 H3 n3;exact⟨m',hm,Y3,H3,I3,w3⟩
  | brk=>exact q3
  | ret v=>exact q3
 | false=>
  rw[YM XC];exact wpAny_execs_nil ⟨Y1,H2,I2,q2⟩
end
set_option genInjectivity false in
structure It where
 go:Nat->Hp->Prop
 yld:Nat->Hp->V->Hp->Prop
 stop:Nat->Hp->Prop
noncomputable def Zlj(X:Cx)(pins:List (YG×Obj))(H:Hp)(b:YG):Prop :=
 H b=YC∧b≠X.env.locals∧b∉X.fs∧(b∈X.ex∨X.s₀.heap.objs.size≤b)∧(∀x c,X.env.cells.lookup x=YB c->c≠b)∧∀p∈X.pn++pins,p.1≠b
theorem Inv.fpOk{X:Cx}{pins:List (YG×Obj)}{Y:St}{H H':Hp}{s:Xg}{b:YG}(I:Inv X pins Y H s)(hb:s.heap.objs.size≤b)(hn:H' b=YC):Zlj X pins H' b:=by
 refine⟨hn,X4 (Qo I.lt hb),I.nofs hb,.inr (Qt I.sz hb),λx c e z=>?_,λp hp z=>?_⟩
 ·obtain⟨v,q⟩:=I.cell x c e
  exact YX (Qo q.lt (by rw[z];exact hb)) (Bj _)
 ·exact YX (Qo (XH (I.pin p hp).1) (by rw[z];exact hb)) (Bj _)
structure Turn(P:Qe)(w:Qz)(K:Xb)(tg:YJ)(J:It)(fp:List YG)(it:YG)(tn:Nat->YH->Prop):Prop where
 mem:it∈fp
 obj:∀i h,tn i h->∀b∈fp,∃o,h.get? b=YB o∧∀v,o.data≠ .cell v
 keep:∀i h h',tn i h->(∀b∈fp,∀o,h.get? b=YB o->h'.get? b=YB o)->tn i h'
 item:∀(X:Cx),X.prog=P->X.w=w->X.K=K->X.calm=YD->∀(i:Nat) (pins:List (YG×Obj)) (s:Xg) (Y:St) (H:Hp) (E:Xf->Xg->Prop),Inv X pins Y H s->(∀b∈fp,Zlj X pins H b)->tn i s.heap->J.go i H ->
  Qd (Ql P w) X.A (pyNext (.ref it)) (λr s1=>∃u,r=YB u∧
   Qd (Ql P w) X.A (letOwnedTupleGo tg (.ref it) u) (λ_ s2=>∃x H',Inv X pins Y H' s2∧RelV x u∧J.yld i H x H'∧tn (i+1) s2.heap∧∀b∈fp,H' b=YC) E s1) E s
 done:∀(X:Cx),X.prog=P->X.w=w->X.K=K->X.calm=YD->∀(i:Nat) (pins:List (YG×Obj)) (s:Xg) (Y:St) (H:Hp) (E:Xf->Xg->Prop),Inv X pins Y H s->(∀b∈fp,Zlj X pins H b)->tn i s.heap->J.stop i H ->
  Qd (Ql P w) X.A (pyNext (.ref it)) (λr s1=>r=YC∧Inv X pins Y H s1) E s
 self:∀(A:Qs) (i:Nat) (s:Xg) (Q:Xf->Xg->Prop) (E:Xf->Xg->Prop),tn i s.heap->Q (.ref it) s->Qd (Ql P w) A (pyIter (.ref it)) Q E s
noncomputable abbrev TI:=St->Hp->(It->Hp->Prop)->Prop
noncomputable def PIE(X:Cx)(pins:List (YG×Obj))(Y:St)(tg:YJ)(R:It->Hp->Prop)(itv:Xf)(s2:Xg):Prop :=
 ∃(it:YG) (fp:List YG) (tn:Nat->YH->Prop) (J:It) (H':Hp),itv= .ref it∧Inv X pins Y H' s2∧Turn X.prog X.w X.K tg J fp it tn∧tn 0 s2.heap∧(∀b∈fp,Zlj X pins H' b)∧R J H'
noncomputable def PI(X:Cx)(tg iter:YJ)(wi:TI):Prop :=
 ∀(pins:List (YG×Obj)) (s:Xg) (Y:St) (H:Hp) (R:It->Hp->Prop),Inv X pins Y H s->wi Y H R ->
  Qd (Ql X.prog X.w) X.A (eval iter X.env) (λv s1=>Qd (Ql X.prog X.w) X.A (pyIter v) (PIE X pins Y tg R) X.xe s1) X.xe s
theorem Z8n{M:Model}{A:Qs}{E:Xf->Xg->Prop}{s:Xg}{tg:YJ}{it:YG}{u:Xf}{o:Obj}{n:String}{vs:Array Xf}{Q:Unit->Xg->Prop}(ho:s.heap.get? it=YB o)(hc:o.cls= .type n)(hd:o.data= .fields vs)
  (hn:["enumerate","zip","dict_itemiterator","dict_reverseitemiterator","odict_iterator","itertools.zip_longest","itertools.pairwise"].contains n=YF) (hQ:Q () s):Qd M A (letOwnedTupleGo tg (.ref it) u) Q E s:=by
 unfold letOwnedTupleGo;cases tg<;>first
  | exact Qk hQ
  | (cases u<;>first
    | exact Qk hQ
    | (refine Xi (wpAny_load ho ?_)
       rw[hc,hd];show Qd M A (if(["enumerate","zip","dict_itemiterator","dict_reverseitemiterator","odict_iterator","itertools.zip_longest","itertools.pairwise"].contains n&&vs[0]? ==YB (rawInt _))=YD then _ else _) Q E s;rw[YM (by intro h;rw[hn,Bool.false_and]at h;cases h)];exact Qk hQ))
noncomputable def Itl(K:Xb)(a:YG):It :=
 ⟨λi H=>∃xs x,SqL K H a xs∧xs[i]? =YB x,λi H x H'=>H'=H∧∀xs,SqL K H a xs->xs[i]? =YB x,λi H=>∃xs,SqL K H a xs∧xs.length≤i⟩
noncomputable def Itr(lo:Int)(n:Nat):It:=⟨λi _=>i<n,λi H x H'=>H'=H∧x= .int (lo+i),λi _=>n≤i⟩
theorem Zs4{P:Qe}{w:Qz}{K:Xb}{tg:YJ}(a it:YG):Turn P w K tg (Itl K a) [it] it (λi h=>h.IsListIter it a i) where
 mem:=by simp
 obj:=λi h st b hb=>by
  have e:b=it:=by simpa using hb
  subst e;obtain⟨o,e,c,d⟩:=st;exact⟨o,e,λv z=>by rw[d]at z;cases z⟩
 keep:=λi h h' st k=>st.at λo e=>k it (by simp) o e
 item:=by
  intro X hP hw hK hc i pins s Y H E I hf st hg;subst hP hw hK;obtain⟨xs,x,hq,hx⟩:=hg;obtain⟨its,rv,p,hz⟩:=I.list hq;obtain⟨u,hu,ru⟩:=rv.get hx;obtain⟨f0,f1,f2,f3,f4,f5⟩:=hf it (by simp);refine wpAny_pyNext_list_item st p.isList (x:=u) (by simpa using hu) λh' st' sb=>?_;have I1:Inv X pins Y H { s with heap:=h' }:=I.turned (t':=s.toks) (λb o hb e=>(sb.2 b hb).trans e) f0 f1 f3 f4 f5;obtain⟨o,e,c,d⟩:=id st';exact⟨u,rfl,Z8n (s:={ s with heap:=h' }) e c d (by decide) ⟨x,H,I1,ru,⟨rfl,λys hy=>by rw[I.list_inj hy hq];exact hx⟩,st',λb hb=>(hf b hb).1⟩⟩
 done:=by
  intro X hP hw hK hc i pins s Y H E I hf st hg;subst hP hw hK;obtain⟨xs,hq,hx⟩:=hg;obtain⟨its,rv,p,hz⟩:=I.list hq;obtain⟨f0,f1,f2,f3,f4,f5⟩:=hf it (by simp);have hl:=rv.length;exact wpAny_pyNext_list_end (I.ok.hd hc) st p.isList (by simp;omega) λh' eb=>⟨rfl,I.turned (t':=s.toks) (λb o hb e=>eb b o hb e) f0 f1 f3 f4 f5⟩
 self:=λ_ _ _ _ _ st h=>wpAny_pyIter_listiter st h
theorem Zqm{P:Qe}{w:Qz}{K:Xb}{tg:YJ}(it:YG)(lo:Int)(n:Nat):Turn P w K tg (Itr lo n) [it] it (λi h=>IsRangeIter h it (lo+(i:Nat)*1) ((n:Int)-(i:Nat)) 1) where
 mem:=by simp
 obj:=λi h st b hb=>by
  have e:b=it:=by simpa using hb
  subst e;exact⟨_,st,λv z=>by
   have z':Data.fields _=Data.cell v:=z;cases z'⟩
 keep:=λi h h' st k=>k it (by simp) _ st
 item:=by
  intro X hP hw hK hc i pins s Y H E I hf st hg;subst hP hw hK;obtain⟨f0,f1,f2,f3,f4,f5⟩:=hf it (by simp);have W:=Walks.range (prog:=X.prog) (w:=X.w) (I.ok.hd hc) it lo 1 n;refine W.item i s _ _ hg st λv h' tk hv st' kk=>?_;obtain⟨t,rfl⟩:=hv;have I1:Inv X pins Y H { s with heap:=h',toks:=tk }:=I.turned (λb o hb e=>kk b o (by simpa using hb) e) f0 f1 f3 f4 f5;refine⟨_,rfl,Z8n (s:={ s with heap:=h',toks:=tk }) (n :="range_iterator") st' rfl rfl (by decide) ⟨.int (lo+i),H,I1,⟨t,?_⟩,⟨rfl,rfl⟩,st',λb hb=>(hf b hb).1⟩⟩;rw[Int.mul_one]
 done:=by
  intro X hP hw hK hc i pins s Y H E I hf st hg;subst hP hw hK;obtain⟨f0,f1,f2,f3,f4,f5⟩:=hf it (by simp);exact wpAny_pyNext_range_end (I.ok.hd hc) st (by have:n≤i:=hg;omega) λh' eb=>⟨rfl,I.turned (t':=s.toks) (λb o hb e=>eb b o hb e) f0 f1 f3 f4 f5⟩
 self:=λ_ _ _ _ _ st h=>wpAny_pyIter_rangeiter st h
section
variable {X:Cx}{tg:YJ}
noncomputable def Z6j(K:Xb)(tl:TE):TI:=λY H R=>tl Y H λx H1=>∃a,x= .ref a∧(∃xs,SqL K H1 a xs)∧R (Itl K a) H1
theorem Z4o{l:YJ}{tl:TE}(hl:PE X l tl):PI X tg l (Z6j X.K tl):=by
 intro pins s Y H R I h;refine thn (hl pins s Y H _ I h) λv s1 qz9=>?_;obtain⟨x,H1,I1,r1,q1⟩:=qz9;obtain⟨a,e,⟨xs,hq⟩,q⟩:=q1;subst e;cases r1;obtain⟨its,rv,p,hz⟩:=I1.list hq;refine wpAny_pyIter_list p.isList ?_;refine⟨s1.heap.objs.size,[s1.heap.objs.size],_,_,H1,rfl,I1.kept (t':=s1.toks) λb o e=>Xo _ e,Zs4 a _,⟨_,Qi _ rfl,rfl,rfl⟩,λb hb=>?_,q⟩;have e:b=s1.heap.objs.size:=by simpa using hb
 subst e;exact I1.fpOk (X6 _) (I1.hok.fresh (X6 _))
theorem Zp1{pins:List (YG×Obj)}{Y:St}{H:Hp}{s:Xg}{R:It->Hp->Prop}{E:Xf->Xg->Prop}{lo hi:Int}{t u v:Tok}{tk:Nat}(I:Inv X pins Y H s)(h1:-(2^62)≤lo)(h2:lo<2^62)(h3:-(2^62)≤hi)(h4:hi<2^62)
  (q:R (Itr lo (hi-lo).toNat) H):Qd (Ql X.prog X.w) X.A (pyIter (.ref s.heap.objs.size)) (PIE X pins Y tg R) E { s with heap:=s.heap.push { cls:=.type "range",data:=.fields #[.int lo t,.int hi u,.int 1 v] },toks:=tk }:=by
 refine wpAny_pyIter_range (IsRange.new ..) (small_one h1 h2 h3 h4) ?_;have I1:Inv X pins Y H { s with heap:=s.heap.push { cls:=.type "range",data:=.fields #[.int lo t,.int hi u,.int 1 v] },toks:=tk }:=I.kept λb o e=>Xo _ e;refine⟨(s.heap.push { cls:=.type "range",data:=.fields #[.int lo t,.int hi u,.int 1 v] }).objs.size,[(s.heap.push { cls:=.type "range",data:=.fields #[.int lo t,.int hi u,.int 1 v] }).objs.size],_,_,H,rfl,
  I1.kept (t':=tk) λb o e=>Xo _ e,Zqm _ lo (hi-lo).toNat,?_,λb hb=>?_,q⟩
 ·have e1:lo+((0:Nat):Int)*1=lo:=by simp
  have e2:(((hi-lo).toNat:Nat):Int)-((0:Nat):Int)=Builtin.Range.rangeSize lo hi 1:=by rw[rangeSize_one];split<;>omega
  show IsRangeIter _ _ (lo+((0:Nat):Int)*1) ((((hi-lo).toNat:Nat):Int)-((0:Nat):Int)) 1;rw[e1,e2];exact Qi _ rfl
 ·have e:b=(s.heap.push { cls:=.type "range",data:=.fields #[.int lo t,.int hi u,.int 1 v] }).objs.size:=by simpa using hb
  subst e;exact I1.fpOk (X6 _) (I1.hok.fresh (X6 _))
noncomputable def Yda(ta:TA):TI:=λY H R=>ta Y H λvs H1=>∃j:Int,vs=[.int j]∧-(2^62)≤j∧j<2^62∧R (Itr 0 j.toNat) H1
noncomputable def Yek(ta:TA):TI:=λY H R=>ta Y H λvs H1=>∃i j:Int,vs=[.int i,.int j]∧(-(2^62)≤i∧i<2^62∧-(2^62)≤j∧j<2^62)∧R (Itr i (j-i).toNat) H1
theorem Zrr{a:YJ}{ta:TA}{p pos:Pos}(hg:Gl X "range")(hm:X.mg "range"=YC)(ha:PA X [a] ta)(hs:Xr [a] X.env=[(YF,eval a X.env)]:=by rfl):PI X tg (.Call (.Name "range" p) [a] [] pos) (Yda ta):=by
 intro pins s Y H R I h;refine Call_ (Zi0 I hg hm boot_range (BJ (thn (ha pos pins s Y H _ I h) λus s1 qz9=>?_) hs rfl));obtain⟨vs,H1,I1,r1,q1⟩:=qz9;obtain⟨j,e,q1,q2,q⟩:=q1;subst e;cases r1 with
 | cons r rr=>
  cases rr;obtain⟨t,rfl⟩:=r;exact call_range_1 (Zp1 I1 (by omega) (by omega) q1 q2 (by simpa using q))
theorem Zt7{a b:YJ}{ta:TA}{p pos:Pos}(hg:Gl X "range")(hm:X.mg "range"=YC)(ha:PA X [a,b] ta)(hs:Xr [a,b] X.env=[(YF,eval a X.env),(YF,eval b X.env)]:=by rfl)(hs2:Xr [b] X.env=[(YF,eval b X.env)]:=by rfl) :
  PI X tg (.Call (.Name "range" p) [a,b] [] pos) (Yek ta):=by
 intro pins s Y H R I h;refine Call_ (Zi0 I hg hm boot_range (BJ (thn (ha pos pins s Y H _ I h) λus s1 ⟨vs,H1,I1,r1,q1⟩=>?_) (by rw[hs,hs2]) (by rw[hs2];rfl)));obtain⟨i,j,e,⟨q1,q2,q3,q4⟩,q⟩:=q1;subst e;cases r1 with
 | cons r rr=>
  cases rr with
  | cons r' rr=>
   cases rr;obtain⟨t,rfl⟩:=r;obtain⟨t',rfl⟩:=r';exact call_range_2 (Zp1 I1 q1 q2 q3 q4 q)
noncomputable def Yio(wi:TI)(g:TG)(tb:TS):TS:=λD Y H=>wi Y H λJ H1=>∃W:Nat->Nat->St->Hp->Prop,(∃m,W 0 m Y H1)∧∀i m Y H,W i m Y H ->
 (J.stop i H∧D.nx Y H)∨(J.go i H∧∃N:St->Hp->Prop,(∀Y' H',N Y' H'->∃m',m'<m∧W (i+1) m' Y' H')∧∀x H',J.yld i H x H'->g x Y H' λY2 H2=>tb { D with nx:=N,ct:=N,bk:=D.nx } Y2 H2)
noncomputable def Zmi(fp:List YG)(h:YH):List (YG×Obj):=fp.filterMap λb=>(h.get? b).map λo=>(b,o)
theorem Zdo{fp:List YG}{h:YH}{b:YG}{o:Obj}(hb:b∈fp)(e:h.get? b=YB o):(b,o)∈Zmi fp h:=List.mem_filterMap.mpr ⟨b,hb,by rw[e];rfl⟩
theorem Zs9{fp:List YG}{h:YH}{p:YG×Obj}(hp:p∈Zmi fp h):p.1∈fp∧h.get? p.1=YB p.2:=by
 obtain⟨b,hb,e⟩:=List.mem_filterMap.mp hp;cases q:h.get? b with
 | none=>rw[q]at e;cases e
 | some o=>
  rw[q]at e;have e':(b,o)=p:=QR e;subst e';exact⟨hb,q⟩
theorem Inv.pinned{pins:List (YG×Obj)}{Y:St}{H:Hp}{s:Xg}{fp:List YG}(I:Inv X pins Y H s)(hf:∀b∈fp,Zlj X pins H b)(ho:∀b∈fp,∃o,s.heap.get? b=YB o∧∀v,o.data≠ .cell v):Inv X (pins++Zmi fp s.heap) Y H s :=
 I.pins_of λp hp=>(QV.mp hp).elim (λz=>I.pin p (QC _ z)) λz=>by
  obtain⟨hb,e⟩:=Zs9 z;obtain⟨f0,f1,f2,_⟩:=hf p.1 hb;obtain⟨o,e',d⟩:=ho p.1 hb;rw[e]at e';cases e';exact⟨e,f0,f1,f2,d⟩
theorem Inv.unpinned{pins pl:List (YG×Obj)}{Y:St}{H:Hp}{s:Xg}(I:Inv X (pins++pl) Y H s):Inv X pins Y H s:=I.pins_of λp hp=>I.pin p (QC _ (VL _ hp))
theorem Yan{iter:YJ}{body:List YK}{wi:TI}{g:TG}{tb:TS}{pos:Pos}(hp:PassesOwn (Ql X.prog X.w) X.A X.env X.xe)(hc:X.calm=YD)(hi:PI X tg iter wi)(hg:PG X tg g)(hb:PSs X body tb)
  (hs:∀x,BV iter X.env x=pure x:=by intro _;rfl):PS X (.For tg iter body [] pos) (Yio wi g tb):=by
 intro pins s Y H D I h;refine wpAny_For (thn (hi pins s Y H _ I h) λv s1 h1=>thn h1 λitv s2 h2=>?_) hs;obtain⟨it,fp,tn,J,H2,e,I2,T,st2,f2,W,⟨m0,w0⟩,turn⟩:=h2;subst e
 -- what stays YD of the iterator's objects through the loop
 have stat:∀{H':Hp},(∀b∈fp,H' b=YC)->∀b∈fp,Zlj X pins H' b:=λhn b hb=>⟨hn b hb,(f2 b hb).2⟩;refine codeAny_forLoop_any (λn s'=>∃i Y' H',Inv X pins Y' H' s'∧tn i s'.heap∧(∀b∈fp,H' b=YC)∧W i n Y' H') ?_ m0 ⟨0,Y,H2,I2,st2,λb hb=>(f2 b hb).1,w0⟩;rintro n s3 ⟨i,Y3,H3,I3,st3,fr3,w3⟩;rcases turn i n Y3 H3 w3 with⟨stop,qn⟩|⟨go,N,hN,step⟩
 ·refine VG hp (thn (T.done X rfl rfl rfl hc i pins s3 Y3 H3 X.xe I3 (stat fr3) st3 stop) λr s4 qz9=>?_)
  obtain⟨hr,I4⟩:=qz9;subst hr;exact wpAny_execs_nil ⟨Y3,H3,I4,qn⟩
 ·refine VG hp (thn (T.item X rfl rfl rfl hc i pins s3 Y3 H3 X.xe I3 (stat fr3) st3 go) λr s4 qz9=>?_)
  obtain⟨u,hr,h4⟩:=qz9;subst hr;refine VG hp (thn h4 λ_ s5 qz9=>?_);obtain⟨x,H5,I5,r5,y5,st5,fr5⟩:=qz9;have I5':=I5.pinned (stat fr5) (T.obj _ _ st5);refine VG hp (thn (hg _ s5 Y3 H5 x u _ I5' r5 (step x H5 y5)) λ_ s6 qz9=>?_);obtain⟨Y6,H6,I6,q6⟩:=qz9;refine VG hp (thn (hb _ s6 Y6 H6 _ I6 q6) λf s7 q7=>?_);have again:∀{Y7:St} {H7:Hp},Inv X (pins++Zmi fp s5.heap) Y7 H7 s7->N Y7 H7->∃m,m<n∧∃i Y' H',Inv X pins Y' H' s7∧tn i s7.heap∧(∀b∈fp,H' b=YC)∧W i m Y' H':=fun{Y7 H7} I7 n7=>by
   obtain⟨m',hm,w7⟩:=hN Y7 H7 n7;refine⟨m',hm,i+1,Y7,H7,I7.unpinned,T.keep _ _ _ st5 λb hb o e=>(I7.pin (b,o) (QC _ (QC _ (Zdo hb e)))).1,λb hb=>?_,w7⟩;obtain⟨o,e,d⟩:=T.obj _ _ st5 b hb;exact(I7.pin (b,o) (QC _ (QC _ (Zdo hb e)))).2.1
  cases f with
  | next=>obtain⟨Y7,H7,I7,n7⟩:=q7;exact again I7 n7
  | cont=>obtain⟨Y7,H7,I7,n7⟩:=q7;exact again I7 n7
  | brk=>obtain⟨Y7,H7,I7,q7⟩:=q7;exact⟨Y7,H7,I7.unpinned,q7⟩
  | ret v=>obtain⟨x7,Y7,H7,I7,r7,q7⟩:=q7;exact⟨x7,Y7,H7,I7.unpinned,r7,q7⟩
end
noncomputable abbrev R2:=V->V->Hp->VK->Prop
noncomputable def OpR(X:Cx)(f:Xf->Xf->Sem Xf)(r:R2):Prop :=
 ∀(pins:List (YG×Obj)) (s:Xg) (Y:St) (H:Hp) (x y:V) (v u:Xf) (Q:VK),Inv X pins Y H s->RelV x v->RelV y u->r x y H Q ->
  Qd (Ql X.prog X.w) X.A (f v u) (EP X pins Y Q) X.xe s
noncomputable def UnR(X:Cx)(f:Xf->Sem Xf)(r:V->Hp->VK->Prop):Prop :=
 ∀(pins:List (YG×Obj)) (s:Xg) (Y:St) (H:Hp) (x:V) (v:Xf) (Q:VK),Inv X pins Y H s->RelV x v->r x H Q ->
  Qd (Ql X.prog X.w) X.A (f v) (EP X pins Y Q) X.xe s
noncomputable def Zas(X:Cx)(f:Xf)(r:List V->Hp->VK->Prop):Prop :=
 ∀(pins:List (YG×Obj)) (s:Xg) (Y:St) (H:Hp) (xs:List V) (us:List Xf) (Q:VK),Inv X pins Y H s->Vals xs us->r xs H Q ->
  Qd (Ql X.prog X.w) X.A (call f us) (EP X pins Y Q) X.xe s
noncomputable def Yid(X:Cx)(r:V->Hp->(Bool->Hp->Prop)->Prop):Prop :=
 ∀(pins:List (YG×Obj)) (s:Xg) (Y:St) (H:Hp) (x:V) (v:Xf) (Q:Bool->Hp->Prop),Inv X pins Y H s->RelV x v->r x H Q ->
  Qd (Ql X.prog X.w) X.A (truthy v) (TP X pins Y Q) X.xe s
noncomputable def tOp(r:R2)(ta tb:TE):TE:=λY H Q=>ta Y H λx H1=>tb Y H1 λy H2=>r x y H2 Q
noncomputable def tUn(r:V->Hp->VK->Prop)(ta:TE):TE:=λY H Q=>ta Y H λx H1=>r x H1 Q
noncomputable def rI(C:Int->Int->Prop)(g:Int->Int->V):R2:=λx y H Q=>∃i j,x= .int i∧y= .int j∧C i j∧Q (g i j) H
noncomputable def rI0(g:Int->Int->V):R2:=λx y H Q=>∃i j,x= .int i∧y= .int j∧Q (g i j) H
noncomputable def rU(g:Int->V):V->Hp->VK->Prop:=λx H Q=>∃i,x= .int i∧Q (g i) H
section
variable {X:Cx}{a b c:YJ}{ta tb tc:TE}{pos:Pos}
theorem Ydq(ha:PE X a ta)(hb:PE X b tb){pins:List (YG×Obj)}{s:Xg}{Y:St}{H:Hp}{R:V->V->Hp->Prop}(I:Inv X pins Y H s)
  (h:ta Y H λx H1=>tb Y H1 λy H2=>R x y H2) {Q:Xf->Xg->Prop} {f:Xf->Xf->Sem Xf}
  (hf:∀v u s2 x y H2,Inv X pins Y H2 s2->RelV x v->RelV y u->R x y H2->Qd (Ql X.prog X.w) X.A (f v u) Q X.xe s2) :
  Qd (Ql X.prog X.w) X.A (eval a X.env) (λv s₁=>Qd (Ql X.prog X.w) X.A (eval b X.env) (λu s₂=>Qd (Ql X.prog X.w) X.A (f v u) Q X.xe s₂) X.xe s₁) X.xe s:=by
 refine thn (ha pins s Y H _ I h) λv s1 qz9=>?_;obtain⟨x,H1,I1,r1,q1⟩:=qz9;refine thn (hb pins s1 Y H1 _ I1 q1) λu s2 qz9=>?_;obtain⟨y,H2,I2,r2,q2⟩:=qz9;exact hf v u s2 x y H2 I2 r1 r2 q2
theorem Z23{op:Operator}{r:R2}(ho:OpR X (Uk op) r)(ha:PE X a ta)(hb:PE X b tb):PE X (.BinOp a op b pos) (tOp r ta tb):=by
 intro pins s Y H Q I h;exact wpAny_BinOp (Ydq ha hb I h λv u s2 x y H2 I2 rx ry q=>ho pins s2 Y H2 x y v u Q I2 rx ry q)
theorem Yd7{op:UnaryOp}{r:V->Hp->VK->Prop}(ho:UnR X (unaryOp op) r)(ha:PE X a ta):PE X (.UnaryOp op a pos) (tUn r ta):=by
 intro pins s Y H Q I h;refine UnaryOp_ (thn (ha pins s Y H _ I h) λv s1 qz9=>?_);obtain⟨x,H1,I1,r1,q1⟩:=qz9;exact ho pins s1 Y H1 x v Q I1 r1 q1
theorem opI{f:Xf->Xf->Sem Xf}{C:Int->Int->Prop}{g:Int->Int->Int}
  (rule:∀(i j:Int) (t u:Tok) (s:Xg) (Q:Xf->Xg->Prop) (E:Xf->Xg->Prop),C i j->Q (.int (g i j) s.toks) { s with toks:=s.toks+1 }->Qd (Ql X.prog X.w) X.A (f (.int i t) (.int j u)) Q E s) :
  OpR X f (rI C λi j=>.int (g i j)):=by
 intro pins s Y H x y v u Q I rx ry h;obtain⟨i,j,rfl,rfl,hc,q⟩:=h;obtain⟨t,rfl⟩:=rx;obtain⟨t',rfl⟩:=ry;exact rule i j t t' s _ _ hc ⟨.int (g i j),H,I.tok _,⟨_,rfl⟩,q⟩
theorem Ye7{f:Xf->Xf->Sem Xf}{g:Int->Int->Int}
  (rule:∀(i j:Int) (t u:Tok) (s:Xg) (Q:Xf->Xg->Prop) (E:Xf->Xg->Prop),Q (.int (g i j) s.toks) { s with toks:=s.toks+1 }->Qd (Ql X.prog X.w) X.A (f (.int i t) (.int j u)) Q E s) :
  OpR X f (rI0 λi j=>.int (g i j)):=by
 intro pins s Y H x y v u Q I rx ry h;obtain⟨i,j,rfl,rfl,q⟩:=h;obtain⟨t,rfl⟩:=rx;obtain⟨t',rfl⟩:=ry;exact rule i j t t' s _ _ ⟨.int (g i j),H,I.tok _,⟨_,rfl⟩,q⟩
theorem Yb0{f:Xf->Xf->Sem Xf}{g:Int->Int->Bool}
  (rule:∀(i j:Int) (t u:Tok) (s:Xg) (Q:Xf->Xg->Prop) (E:Xf->Xg->Prop),Q (.bool (g i j)) s->Qd (Ql X.prog X.w) X.A (f (.int i t) (.int j u)) Q E s) :
  OpR X f (rI0 λi j=>.bl (g i j)):=by
 intro pins s Y H x y v u Q I rx ry h;obtain⟨i,j,rfl,rfl,q⟩:=h;obtain⟨t,rfl⟩:=rx;obtain⟨t',rfl⟩:=ry;exact rule i j t t' s _ _ ⟨.bl (g i j),H,I,rfl,q⟩
noncomputable def Ybs(i j:Int):Prop:=0≤j∧j≤1000000∧i.natAbs<2^64
noncomputable def CMul(i j:Int):Prop:=(-(2^64)<i∧i<2^64)∨(-(2^64)<j∧j<2^64)
theorem CMul.ok{i j:Int}(h:CMul i j):IntMulOk i j:=by
 rcases h with⟨h1,h2⟩|⟨h1,h2⟩
 ·exact .of_left (intBits_le_64 h1 h2)
 ·exact .of_right (intBits_le_64 h1 h2)
theorem Z5q:OpR X (Uk .Add) (rI0 λi j=>.int (i+j)):=Ye7 λ_ _ _ _ _ _ _ q=>add_int q
theorem Z74:OpR X (Uk .Sub) (rI0 λi j=>.int (i-j)):=Ye7 λ_ _ _ _ _ _ _ q=>sub_int q
theorem Z0r:OpR X (Uk .Mod) (rI (λ_ j=>j≠0) λi j=>.int (i.fmod j)):=opI λ_ _ _ _ _ _ _ hc q=>mod_int' hc q
theorem Z8u:OpR X (Uk .Pow) (rI Ybs λi j=>.int (i^j.toNat)):=opI λ_ _ _ _ _ _ _ hc q=>pow_int_small hc.1 hc.2.1 hc.2.2 q
theorem unI{f:Xf->Sem Xf}{g:Int->Int}
  (rule:∀(i:Int) (t:Tok) (s:Xg) (Q:Xf->Xg->Prop) (E:Xf->Xg->Prop),Q (.int (g i) s.toks) { s with toks:=s.toks+1 }->Qd (Ql X.prog X.w) X.A (f (.int i t)) Q E s) :
  UnR X f (rU λi=>.int (g i)):=by
 intro pins s Y H x v Q I rx h;obtain⟨i,rfl,q⟩:=h;obtain⟨t,rfl⟩:=rx;exact rule i t s _ _ ⟨.int (g i),H,I.tok _,⟨_,rfl⟩,q⟩
theorem Yav:UnR X (unaryOp .USub) (rU λi=>.int (-i)):=unI λ_ _ _ _ _ q=>neg_int q
end
section
variable {X:Cx}{a b c:YJ}{ta tb tc:TE}{pos:Pos}
theorem Ya4{pins:List (YG×Obj)}{Y:St}{H:Hp}{s:Xg}{Q:VK}{k k':Bool}(I:Inv X pins Y H s)(q:Q (.bl k) H)(e:k=k'):EP X pins Y Q (.bool k') s:=by
 subst e;exact⟨.bl k,H,I,rfl,q⟩
theorem Zu2:OpR X (Bf .Lt) (rI0 λi j=>.bl (decide (i<j))):=Yb0 λ_ _ _ _ _ _ _ q=>lt_int q
theorem Z6h:OpR X (Bf .LtE) (rI0 λi j=>.bl (decide (i≤j))):=Yb0 λ_ _ _ _ _ _ _ q=>le_int q
theorem Z9f:OpR X (Bf .Gt) (rI0 λi j=>.bl (decide (j<i))):=Yb0 λ_ _ _ _ _ _ _ q=>gt_int q
theorem Ydz:OpR X (Bf .GtE) (rI0 λi j=>.bl (decide (j≤i))):=Yb0 λ_ _ _ _ _ _ _ q=>ge_int q
theorem Z3l:OpR X (Bf .IsNot) (λx y H Q=>y= .non∧Q (.bl (!decide (x= .non))) H):=by
 intro pins s Y H x y v u Q I rx ry h;obtain⟨rfl,q⟩:=h;cases ry;refine isnot_none_gen (Ya4 I q ?_);cases x<;>first
  | (cases rx;rfl)
  | (obtain⟨t,rfl⟩:=rx;rfl)
theorem J2(b:YJ){op:CmpOp}(h:op≠ .In:=by decide)(h2:op≠ .NotIn:=by decide):U9 op b=YF:=by
 have e1:(op==CmpOp.In)=YF:=by cases op<;>first|rfl|exact YX rfl h
 have e2:(op==CmpOp.NotIn)=YF:=by cases op<;>first|rfl|exact YX rfl h2
 cases b<;>simp[U9,e1,e2]
theorem Z13{op:CmpOp}{r:R2}(ho:OpR X (Bf op) r)(ha:PE X a ta)(hb:PE X b tb)(hm:U9 op b=YF):PE X (.Compare a [op] [b] pos) (tOp r ta tb):=by
 intro pins s Y H Q I h;exact wpAny_Compare1 (Ydq ha hb I h λv u s2 x y H2 I2 rx ry q=>ho pins s2 Y H2 x y v u Q I2 rx ry q) hm
noncomputable def Z6m(t:TE):TT:=λY H Q=>t Y H λx H'=>∃k,x= .bl k∧Q k H'
theorem Z3z{op:CmpOp}{r:R2}(ho:OpR X (Bf op) r)(ha:PE X a ta)(hb:PE X b tb)(hm:U9 op b=YF):PT X (.Compare a [op] [b] pos) (Z6m (tOp r ta tb)):=by
 intro pins s Y H Q I h;refine wpAny_isTrue_Compare1 (thn (ha pins s Y H _ I h) λv s1 ⟨x,H1,I1,r1,q1⟩=>thn (hb pins s1 Y H1 _ I1 q1) λu s2 ⟨y,H2,I2,r2,q2⟩=>
  thn (ho pins s2 Y H2 x y v u _ I2 r1 r2 q2) λc s3 ⟨z,H3,I3,r3,k,e,q3⟩=>?_) hm
 subst e;cases r3;exact VN ⟨H3,I3,q3⟩
noncomputable def Zzo(r r':R2)(ta tb tc:TE):TE:=λY H Q=>ta Y H λx H1=>tb Y H1 λy H2=>r x y H2 λz H3=>∃k,z= .bl k∧
 (if k=YD then tc Y H3 λw' H4=>r' y w' H4 Q else Q (.bl YF) H3)
theorem Zyi{op op':CmpOp}{r r':R2}(ho:OpR X (Bf op) r)(ho':OpR X (Bf op') r')(ha:PE X a ta)(hb:PE X b tb)(hc:PE X c tc)
  (hm:lastMarks [op,op'] [b,c]=YF:=by with_unfolding_all rfl):PE X (.Compare a [op,op'] [b,c] pos) (Zzo r r' ta tb tc):=by
 intro pins s Y H Q I h;refine Compare_chain (thn (ha pins s Y H _ I h) λv s1 ⟨x,H1,I1,r1,q1⟩=>chain_link (thn (hb pins s1 Y H1 _ I1 q1) λu s2 ⟨y,H2,I2,r2,q2⟩=>
  thn (ho pins s2 Y H2 x y v u _ I2 r1 r2 q2) λd s3 ⟨z,H3,I3,r3,k,e,q3⟩=>?_)) hm
 subst e;cases r3;refine VN ?_;cases k with
 | false=>exact ite_ff ⟨.bl YF,H3,I3,rfl,q3⟩
 | true=>exact ite_tt (chain_last (thn (hc pins s3 Y H3 _ I3 q3) λw' s4 ⟨z',H4,I4,r4,q4⟩=>ho' pins s4 Y H4 y z' u w' Q I4 r2 r4 q4))
noncomputable def Yc6(K:Xb)(x:V)(H:Hp)(k:Bool):Prop :=
 match x with
 | .non=>k=YF
 | .bl b=>k=b
 | .int i=>k=(i !=0)
 | .str y=>y.length≤Xz∧k=((y.length:Int) !=0)
 | .byt y=>y.size≤Xz∧k=((y.size:Int) !=0)
 | .ref p=>(∃xs,SqL K H p xs∧k= !xs.isEmpty)∨(∃xs,SqT K H p xs∧k= !xs.isEmpty)∨∃kvs,H p=YB (.dK kvs)∧k= !kvs.isEmpty
 | _=>False
theorem Zp8{κ:Type}{kvs:List (κ×V)}{vs:List (κ×Xf)}(r:KV kvs vs):(!vs.isEmpty)= !kvs.isEmpty:=by
 cases r<;>rfl
theorem Zjl{xs:List V}{its:List Xf}(r:Vals xs its):(!its.toArray.isEmpty)= !xs.isEmpty:=by
 cases r<;>simp
theorem Zjz:(Xz:Nat)<2^63:=by rw[X8];decide
theorem Z9j:Yid X (λx H Q=>∃k,Yc6 X.K x H k∧Q k H):=by
 intro pins s Y H x v Q I rx h;obtain⟨k,e,q⟩:=h;have hl:=Zjz;have hs:Xz=16777216:=X8;cases x with
 | non=>
  cases rx;have e':k=YF:=e;subst e';exact truthy_none ⟨H,I,q⟩
 | bl b=>
  cases rx;have e':k=b:=e;subst e';exact VN ⟨H,I,q⟩
 | int i=>
  obtain⟨t,rfl⟩:=rx;have e':k=(i !=0):=e;subst e';exact PySem.P.truthy_int ⟨H,I,q⟩
 | str y=>
  obtain⟨t,rfl⟩:=rx;obtain⟨hy,e'⟩:y.length≤Xz∧k=((y.length:Int) !=0):=e;subst e';exact PySem.P.truthy_str (by omega) ⟨H,I.tok _,q⟩
 | byt y=>
  obtain⟨t,rfl⟩:=rx;obtain⟨hy,e'⟩:y.size≤Xz∧k=((y.size:Int) !=0):=e;subst e';exact PySem.W.truthy_bytes (by omega) ⟨H,I.tok _,q⟩
 | ref p=>
  cases rx;have e':(∃xs,SqL X.K H p xs∧k= !xs.isEmpty)∨(∃xs,SqT X.K H p xs∧k= !xs.isEmpty)∨∃kvs,H p=YB (.dK kvs)∧k= !kvs.isEmpty:=e;rcases e' with⟨xs,hx,e'⟩|⟨xs,hx,e'⟩|⟨kvs,hx,e'⟩
  ·subst e'
   obtain⟨its,r,pl,hz⟩:=I.list hx;have hlen:=r.length;exact wpAny_truthy_list pl.isList (by simp only[XF];omega) ⟨H,I.tok _,by rw[Zjl r];exact q⟩
  ·subst e'
   obtain⟨its,r,pl,hz⟩:=I.tuple hx;have hlen:=r.length;exact truthy_tuple pl (by simp only[XF];omega) ⟨H,I.tok _,by rw[Zjl r];exact q⟩
  ·subst e'
   obtain⟨hz,hS,vs,r,m⟩:kvs.length≤Xz∧(p==sysModules)=YF∧∃vs,KV kvs vs∧s.heap.DictOf (Zni X.prog X.w) p vs:=I.hok p _ hx;have hlen:kvs.length=vs.length:=Paired.length r;exact wpAny_truthy_dict hS m (by omega) ⟨H,I.tok _,by rw[Zp8 r];exact q⟩
 | _=>exact(show False from e).elim
theorem Zxw(ha:PE X a ta)(he:∀whole,isTrue a X.env whole=(do let v←whole;standAt a.pos;holding [v] (truthy v))) :
  PT X a (λY H Q=>ta Y H λx H'=>∃k,Yc6 X.K x H' k∧Q k H'):=by
 intro pins s Y H Q I h;refine isTrue_plain (thn (ha pins s Y H _ I h) λv s1 qz9=>?_) (he _);obtain⟨x,H1,I1,r1,q1⟩:=qz9;exact Z9j pins s1 Y H1 x v Q I1 r1 q1
theorem vals1{x:V}{us:List Xf}(r:Vals [x] us):∃u,us=[u]∧RelV x u:=by
 cases r with
 | cons r1 r2=>cases r2;exact⟨_,rfl,r1⟩
theorem vals2{x y:V}{us:List Xf}(r:Vals [x,y] us):∃u w',us=[u,w']∧RelV x u∧RelV y w':=by
 cases r with
 | cons r1 r2=>
  cases r2 with
  | cons r3 r4=>cases r4;exact⟨_,_,rfl,r1,r3⟩
theorem Zku:Zas X (.builtin "abs") (λxs H Q=>∃i,xs=[.int i]∧Q (.int (if i<0 then -i else i)) H):=by
 intro pins s Y H xs us Q I r h;obtain⟨i,rfl,q⟩:=h;obtain⟨u,rfl,t,rfl⟩:=vals1 r;exact call_abs_int λu tk=>⟨.int (if i<0 then -i else i),H,I.tok _,⟨_,rfl⟩,q⟩
theorem Zvm(hc:X.calm=YD):Zas X (.builtin "min") (λxs H Q=>∃i j,xs=[.int i,.int j]∧Q (.int (if j<i then j else i)) H):=by
 intro pins s Y H xs us Q I r h;obtain⟨i,j,rfl,q⟩:=h;obtain⟨u,w',rfl,⟨t,rfl⟩,⟨t',rfl⟩⟩:=vals2 r;refine min_two_ints (I.ok.hd hc) λh' tk k=>⟨_,H,I.kept k,?_,q⟩
 by_cases hj:j<i
 ·rw[YL hj,YL hj];exact⟨_,rfl⟩
 ·rw[YM hj,YM hj];exact⟨_,rfl⟩
theorem Zlt:Zas X (.type "int") (λxs H Q=>(∃i,xs=[.int i]∧Q (.int i) H)∨∃k,xs=[.bl k]∧Q (.int (if k then 1 else 0)) H):=by
 intro pins s Y H xs us Q I r h;rcases h with⟨i,rfl,q⟩|⟨k,rfl,q⟩
 ·obtain⟨u,rfl,t,rfl⟩:=vals1 r
  exact call_int_int ⟨.int i,H,I,⟨_,rfl⟩,q⟩
 ·obtain⟨u,rfl,r1⟩:=vals1 r
  cases r1;exact call_int_bool ⟨.int (if k then 1 else 0),H,I.tok _,⟨_,rfl⟩,q⟩
end
structure ObjM(h:YH)(x dx C:YG)(mA:Str->Option Xf):Prop where
 obj:h.get? x=YB (PySem.W.instObj C dx)
 ns:h.Ns1 dx mA
 ne:dx≠x
theorem Ztk{h:YH}{dx:YG}{mA:Str->Option Xf}(n:h.Ns1 dx mA):∃od,h.get? dx=YB od∧∀name,PySem.W.lookIn name od=YB (mA name):=by
 obtain⟨o,es,ep,ho,hd,hk,_,hm⟩:=n;refine⟨o,ho,λname=>?_⟩;have e:=hm name;unfold nsFind findBy at e;rw[←Array.find?_toList]at e;unfold PySem.W.lookIn;rw[hd];dsimp only;split
 ·rename_i y q
  rw[q]at e;exact YT YB e
 ·rename_i q
  rw[q]at e;have a:es.toList.any (·.refKey)=YF:=by
   rw[List.any_eq_false];intro y hy;obtain⟨z,t,hkey⟩:=hk y (Array.mem_toList_iff.mp hy);simp[DictEntry.refKey,hkey]
  have a':¬es.toList.any (·.refKey)=YD:=by rw[a];exact XC
  rw[YM a'];exact YT YB e
theorem ObjM.look{h:YH}{x dx C:YG}{mA:Str->Option Xf}(I:ObjM h x dx C mA):∃od,PySem.W.InstAt h x (PySem.W.instObj C dx) C (YB od)∧∀name,PySem.W.lookIn name od=YB (mA name) :=
 let⟨od,ho,hl⟩:=Ztk I.ns
 ⟨od,⟨I.obj,rfl,rfl,ho⟩,hl⟩
section
variable {prog:Qe}{w:Qz}{A:Qs}{E:Xf->Xg->Prop}{s:Xg}{K:Xb}{x dx C f:YG}{mA:Str->Option Xf}{name:Str}{v:Xf}
end
section
variable {P:Qe}{w:Qz}{H H':Hp}{h h':YH}{a C dx:YG}{fs fs':List (Str×V)}
theorem Z3w(hok:HOk P w H h)(e:H a=YB (.ins C dx fs)):∃mA,ObjM h a dx C mA∧(∀f,RelO (fs.lookup f) (mA f))∧PySem.Within mA (fs.map (·.1))∧fs.length≤1000∧H dx=YB (.own a):=by
 obtain⟨d,z,ne,ob,mA,n,r,q⟩:=(show ObjOk P w H h a (.ins C dx fs)from hok a _ e);exact⟨mA,⟨ob,n,ne⟩,r,q,z,d⟩
end
structure Cls(K:Xb)(C:YG):Prop where
 pg:PySem.W.plainGet K C Str.empty=YD
 hd:PySem.W.hasDictIn K C=YD
 po:PySem.W.plainOver K C=YD
 sa:Vs K (.ref C) "__setattr__"=YB (YB (.builtin "object.__setattr__"))
theorem Cls.get{K:Xb}{C:YG}(c:Cls K C)(f:Str):PySem.W.plainGet K C f=YD:=c.pg
structure Con(K:Xb)(C:YG)(f:Str)(v:V)(u:Xf):Prop where
 at_:Vs K (.ref C) f=YB (YB u)
 rel:RelV v u
 get:PySem.W.specialIn K u "__get__"=YB YC
 cp:PySem.W.copiedNames.contains f=YF
structure Meth(K:Xb)(C:YG)(m:Str)(f:YG):Prop where
 at_:Vs K (.ref C) m=YB (YB (.ref f))
 fn:PySem.W.isFn K (.ref f)=YD
 kp:Bw K (.ref f)=YD
section
variable {X:Cx}{pins:List (YG×Obj)}{Y:St}{H:Hp}{s:Xg}{a C dx:YG}{fs:List (Str×V)}{f:Str}{v:V}{A:Qs}{E:Xf->Xg->Prop}
end
section
variable {X:Cx}{o e value:YJ}{f:Str}{pos pos' tpos:Pos}{ta tv:TE}
end
section
variable {X:Cx}{pins:List (YG×Obj)}{Y:St}{H:Hp}{s:Xg}{A:Qs}{E:Xf->Xg->Prop}{Q:Xf->Xg->Prop}{c:Xf}{b:Bool}
inductive Zrl(K:Xb)(H:Hp):V->Xf->Prop where
 | non:Zrl K H .non (.type "NoneType")
 | bl (x:Bool):Zrl K H (.bl x) (.type "bool")
 | int (i:Int):Zrl K H (.int i) (.type "int")
 | str (x:Str):Zrl K H (.str x) (.type "str")
 | flt (x:UInt64):Zrl K H (.flt x) (.type "float")
 | lst {a:YG} {xs:List V} (e:H a=YB (.lst xs)):Zrl K H (.ref a) (.type "list")
 | frz {a:YG} {o:Obj} {xs:List V} (e:H a=YB (.frz o (.lst xs))):Zrl K H (.ref a) (.type "list")
 | tup {a:YG} {xs:List V} (e:H a=YB (.tup xs)):Zrl K H (.ref a) (.type "tuple")
 | dK {a:YG} {kvs:List (Key×V)} (e:H a=YB (.dK kvs)):Zrl K H (.ref a) (.type "dict")
 | dT {a:YG} {kvs:List (List Key×V)} (e:H a=YB (.dT kvs)):Zrl K H (.ref a) (.type "dict")
 | ins {a C dx:YG} {fs:List (Str×V)} (e:H a=YB (.ins C dx fs)) (cl:Cls K C) (ha:Vs K (.ref C) "__class__"=YB (YB (.builtin "object.__class__")))
   (hn:PySem.W.specialIn K (.builtin "object.__class__") "__get__"=YB (YB (.builtin "getset_descriptor.__get__"))) (htk:PySem.W.takesIn K (.builtin "object.__class__")=YB YD)
   (hm:PySem.W.mroIn K C (.type "object")=YB YD):Zrl K H (.ref a) (.ref C)
theorem Za3{x:V}{u t:Xf}(I:Inv X pins Y H s)(rx:RelV x u)(ty:Zrl X.K H x t)(e:Vr X.K t c=YB b)(h:∀tk,Q (.bool b) { s with toks:=tk }) :
  Qd (Ql X.prog X.w) A (call (.builtin "isinstance") [u,c]) Q E s:=by
 cases ty with
 | non=>cases(show u=QT from rx);exact JF PySem.W.kitx_none I.kIn True.intro e (λz=>nomatch z) h
 | bl y=>cases(show u=Value.bool y from rx);exact JF PySem.W.kitx_bool I.kIn True.intro e (λz=>nomatch z) h
 | int i=>obtain⟨t,q⟩:=(show∃t,u=Uz i t from rx);cases q;exact JF PySem.W.kitx_int I.kIn True.intro e (λz=>nomatch z) h
 | str y=>obtain⟨t,q⟩:=(show∃t,u=Value.str y t from rx);cases q;exact JF PySem.W.kitx_str I.kIn True.intro e (λz=>nomatch z) h
 | flt y=>obtain⟨t,q⟩:=(show∃t,u=Xf.float y t from rx);cases q;exact JF PySem.W.kitx_float I.kIn True.intro e (λz=>nomatch z) h
 | @lst a xs ea=>
  cases(show u=QJ a from rx);obtain⟨_,_,n,_,h1⟩:=(show ObjOk X.prog X.w H s.heap a (.lst xs)from I.hok a _ ea);exact JF PySem.W.kitx_list I.kIn ⟨_,h1,rfl⟩ e (λz=>nomatch z) h
 | @frz a ob xs ea=>
  cases(show u=QJ a from rx);obtain⟨_,_,_,n,_,h1⟩:=(show ObjOk X.prog X.w H s.heap a (.frz ob (.lst xs))from I.hok a _ ea);exact JF PySem.W.kitx_list I.kIn ⟨_,h1,rfl⟩ e (λz=>nomatch z) h
 | @tup a xs ea=>
  cases(show u=QJ a from rx);obtain⟨_,_,_,p⟩:=(show ObjOk X.prog X.w H s.heap a (.tup xs)from I.hok a _ ea);obtain⟨o,h1,h2,_⟩:=p;exact JF PySem.W.kitx_tuple I.kIn ⟨o,h1,h2⟩ e (λz=>nomatch z) h
 | @dK a kvs ea=>
  cases(show u=QJ a from rx);obtain⟨_,_,vs,_,p⟩:=(show ObjOk X.prog X.w H s.heap a (.dK kvs)from I.hok a _ ea);obtain⟨o,es,ep,h1,h2,_⟩:=p;exact JF PySem.W.kitx_dict I.kIn ⟨o,h1,h2.1⟩ e (λz=>nomatch z) h
 | @dT a kvs ea=>
  cases(show u=QJ a from rx);obtain⟨_,_,xs,_,o,es,ep,h1,h2,_⟩:=(show ObjOk X.prog X.w H s.heap a (.dT kvs)from I.hok a _ ea);exact JF PySem.W.kitx_dict I.kIn ⟨o,h1,h2.1⟩ e (λz=>nomatch z) h
 | @ins a C dx fs ea cl ha hn htk hm=>
  cases(show u=QJ a from rx);obtain⟨mA,Oa,_⟩:=Z3w I.hok ea;obtain⟨od,J,_⟩:=Oa.look;exact JF (PySem.W.kitx_own (cl.get _) cl.hd ha hn htk hm) I.kIn J e (λz=>nomatch z) h
end
structure Room(k:Nat)(A:Qs):Prop where
 hd:A.handled=YC
 dp:A.depth+3*k+5<recursionLimit
 un:A.units+16*k+200<cLine
theorem Room.mono{j k:Nat}{A:Qs}(r:Room k A)(h:j≤k):Room j A:=⟨r.hd,by have:=r.dp;omega,by have:=r.un;omega⟩
theorem Room.deeper{k:Nat}{A:Qs}(r:Room (k+1) A)(env:Env):Room k (A.deeper env) :=
 ⟨r.hd,by have:=r.dp;show A.depth+1+3*k+5<_;omega,by have:=r.un;show A.units+3+16*k+200<_;omega⟩
theorem Room.depth{k:Nat}{A:Qs}(r:Room k A):A.depth<recursionLimit:=by have:=r.dp;omega
theorem Room.units{k:Nat}{A:Qs}(r:Room k A):A.units+64<cLine:=by have:=r.un;omega
noncomputable def Yhs:TA:=λ_ H Q=>Q [] H
noncomputable def Z9o(ta:TE)(tr:TA):TA:=λY H Q=>ta Y H λx H1=>tr Y H1 λxs H2=>Q (x::xs) H2
section
variable {X:Cx}{e:YJ}{es:List YJ}{te:TE}{t:TA}{pos:Pos}
theorem Zgp:PA X [] Yhs:=λ_ _ _ _ H Q I h=>Calls.spliced_nil ⟨[],H,I,.nil,h⟩
theorem Zbp(ha:PE X e te)(hr:PA X es t)(hs:Xr (e::es) X.env=(YF,eval e X.env)::Xr es X.env:=by rfl):PA X (e::es) (Z9o te t):=by
 intro pos pins s Y H Q I h;rw[hs];show Qd _ _ (spliced ((YF,eval e X.env)::JP pos (Xr es X.env))) _ _ s;refine Calls.spliced_cons (thn (ha pins s Y H _ I h) λu s1 qz9=>?_);obtain⟨x,H1,I1,r1,q1⟩:=qz9;refine thn (hr pos pins s1 Y H1 _ I1 q1) λus s2 qz9=>?_;obtain⟨xs,H2,I2,r2,q2⟩:=qz9;exact⟨x::xs,H2,I2,.cons r1 r2,q2⟩
noncomputable def Yjg(t:TA):TE:=λY H Q=>t Y H λxs H1=>xs.length≤Xz∧∀p,H1 p=YC->Q (.ref p) (upd H1 p (.tup xs))
noncomputable def Yit(t:TA):TE:=λY H Q=>t Y H λxs H1=>xs.length≤Xz∧∀p,H1 p=YC->Q (.ref p) (upd H1 p (.lst xs))
theorem Zzd{x1}(h:PA X es t):PE X (.Tuple es x1 pos) (Yjg t):=by
 intro pins s Y H Q I hq;refine wpAny_Tuple_spliced (thn (h pos pins s Y H _ I hq) λus s1 ⟨xs,H1,I1,r,z,q⟩=>⟨by rw[←r.length];exact z,?_⟩);have hf:H1 s1.heap.objs.size=YC:=I1.hok.fresh (X6 _);refine⟨.ref s1.heap.objs.size,upd H1 s1.heap.objs.size (.tup xs),I1.laid (t':=s1.toks) (λb u e=>Xo _ e) (X6 _) ?_,rfl,q _ hf⟩;exact⟨z,us,r,⟨_,Qi _ rfl,rfl,_,rfl⟩⟩
theorem Zzv(h:PA X es t):PE X (.List es pos) (Yit t):=by
 intro pins s Y H Q I hq;refine wpAny_List_spliced (thn (h pos pins s Y H _ I hq) λus s1 ⟨xs,H1,I1,r,z,q⟩=>⟨by rw[←r.length];exact z,?_⟩);have hf:H1 s1.heap.objs.size=YC:=I1.hok.fresh (X6 _);refine⟨.ref s1.heap.objs.size,upd H1 s1.heap.objs.size (.lst xs),I1.laid (t':=s1.toks) (λb u e=>Xo _ e) (X6 _) ?_,rfl,q _ hf⟩;exact⟨z,us,0,r,Qi _ rfl⟩
end
noncomputable abbrev Sp:=List V->Hp->VK->XK->Prop
noncomputable abbrev CXT:=List Env->Hp->Xg->XK->Xf->Xg->Prop
structure Ybu(P:Qe)(w:Qz)(K:Xb)(mg:Str->Option Xf)(base:YH)(A:Qs)(outer:List Env)(s:Xg)(H:Hp):Prop where
 frames:A.frames=YB outer
 mod:Mod K mg base
 bs:∀b o,base.get? b=YB o->s.heap.get? b=YB o∧H b=YC
 bsz:base.objs.size≤s.heap.objs.size
 funs:s.heap.FunFrames base outer
 frf:∀b∈frs outer,H b=YC
 hok:HOk P w H s.heap
 bare:AllBare s.gens
noncomputable def CE(outer:List Env)(P:Qe)(w:Qz)(H:Hp)(s:Xg)(Q:VK)(u:Xf)(s':Xg):Prop :=
 ∃v H',s'.os=s.os∧AllBare s'.gens∧Un (frs outer) [] H H' s.heap s'.heap∧HOk P w H' s'.heap∧RelV v u∧Q v H'
noncomputable def CR(CX:CXT)(outer:List Env)(P:Qe)(w:Qz)(H:Hp)(s:Xg)(Q:VK)(E:XK)(r:Result)(s':Xg):Prop :=
 match r with
 | .ok (.ret u)=>CE outer P w H s Q u s'
 | .ok _=>False
 | .error e=>CX outer H s E e s'
structure FnOk(P:Qe)(w:Qz)(K:Xb)(mg:Str->Option Xf)(base:YH)(CX:CXT)(k:Nat)(f:YG)(fd:XN)(ps:List Str)(sp:Sp):Prop where
 len:∀vs H Q E,sp vs H Q E->vs.length=ps.length
 run:∀(A:Qs) (outer:List Env) (s:Xg) (H:Hp) (args:Args) (us:List Xf) (vs:List V) (Q:VK) (E:XK),Room k A->Ybu P w K mg base A outer s H->BindsTo s fd args (ps.zip us)->Vals vs us->sp vs H Q E ->
  codeAny (Ql P w) A (.call (.ref f) args) (CR CX outer P w H s Q E) s
theorem FnOk.imp{P:Qe}{w:Qz}{K:Xb}{mg:Str->Option Xf}{base:YH}{CX:CXT}{k:Nat}{f:YG}{fd:XN}{ps:List Str}{sp sp':Sp}(F:FnOk P w K mg base CX k f fd ps sp)
  (h:∀vs H Q E,sp' vs H Q E->sp vs H Q E):FnOk P w K mg base CX k f fd ps sp' :=
 ⟨λvs H Q E q=>F.len vs H Q E (h _ _ _ _ q),λA outer s H args us vs Q E hr he hb hv hs=>F.run A outer s H args us vs Q E hr he hb hv (h _ _ _ _ hs)⟩
section
variable {X:Cx}{pins:List (YG×Obj)}{Y:St}{H:Hp}{s s':Xg}
theorem Inv.env0(I:Inv X pins Y H s):Ybu X.prog X.w X.K X.mg X.base X.A X.stack s H :=
 ⟨I.ok.frames,I.ok.mod,I.bs,Qt I.ok.bsz I.sz,I.stack,I.stkFree,I.hok,I.bare⟩
theorem Inv.after{Q:VK}{u:Xf}(I:Inv X pins Y H s)(h:CE X.stack X.prog X.w H s Q u s'):EP X pins Y Q u s':=by
 obtain⟨v,H',os,bare,un,hok,r,q⟩:=h;obtain⟨hh,g,d,t,os'⟩:=s';obtain rfl:os'=s.os:=os;exact⟨v,H',I.call (h':=hh) (g':=g) (d':=d) (t':=t) (ch:=[]) un hok bare (λb z=>YX z (by simp)),r,q⟩
end
noncomputable def Zxz(sp:Sp)(dvs:List V)(E:XK)(t:TA):TE:=λY H Q=>t Y H λvs H1=>sp (vs++dvs) H1 Q E
noncomputable def Binds(K:Xb)(fd:XN)(ps:List Str)(ds:List Xf):Prop :=
 ∀(s:Xg) (us:List Xf),K.In s.heap->(us++ds).length=ps.length->BindsTo s fd ⟨us,[]⟩ (ps.zip (us++ds))
theorem Binds.all{K:Xb}{fd:XN}{ps:List Str}(h:∀us:List Xf,us.length=ps.length->bindArgs fd ⟨us,[]⟩=pure (ps.zip us)):Binds K fd ps []:=λs us _ hl=>by
 rw[QW]at hl⊢;exact .of_eq (h us hl)
noncomputable def Zhp(CX:CXT)(X:Cx)(E:XK):Prop:=∀(pins:List (YG×Obj)) (Y:St) (H:Hp) (s:Xg) (e:Xf) (s':Xg),Inv X pins Y H s->CX X.stack H s E e s'->X.xe e s'
section
variable {X:Cx}{CX:CXT}{k:Nat}{f C:YG}{fd:XN}{ps:List Str}{sp:Sp}{dvs:List V}{ds:List Xf}{E:XK}{x m:Str}{p pos apos:Pos}{e o:YJ}{es:List YJ}{ta:TE}{t:TA}
theorem Zy9{pins:List (YG×Obj)}{Y:St}{H:Hp}{s:Xg}{Q:VK}{us:List Xf}{vs:List V}(F:FnOk X.prog X.w X.K X.mg X.base CX k f fd ps sp)(hr:Room k X.A)(hb:Binds X.K fd ps ds)(hd:Vals dvs ds)(hx:Zhp CX X E)
  (I:Inv X pins Y H s) (r:Vals vs us) (h:sp (vs++dvs) H Q E):Qd (Ql X.prog X.w) X.A (call (.ref f) us) (EP X pins Y Q) X.xe s:=by
 have r2:Vals (vs++dvs) (us++ds):=r.append hd;have hl:(us++ds).length=ps.length:=by rw[←r2.length];exact F.len _ _ _ _ h
 refine wpAny_call (codeAny_mono (F.run X.A X.stack s H ⟨us,[]⟩ (us++ds) (vs++dvs) Q E hr I.env0 (hb s us I.kIn hl) r2 h) λr s' hq=>?_);cases r with
 | error e=>exact hx pins Y H s e s' I hq
 | ok fl=>
  cases fl with
  | ret u=>exact I.after hq
  | next=>exact VJ hq
  | brk=>exact VJ hq
  | cont=>exact VJ hq
theorem Zs3(F:FnOk X.prog X.w X.K X.mg X.base CX k f fd ps sp)(hr:Room k X.A)(hg:Gl X x)(hm:X.mg x=YB (.ref f))(hk:Bw X.K (.ref f)=YD)(hb:Binds X.K fd ps ds)(hd:Vals dvs ds)(hx:Zhp CX X E)
  (ha:PA X (e::es) t) (hdb:(x==("__debug__" : Str))=YF:=by decide) (he:Xr (e::es) X.env=(YF,eval e X.env)::Xr es X.env:=by rfl) (hpl:(JP pos (Xr es X.env)).any (·.1)=YF:=by rfl) :
  PE X (.Call (.Name x p) (e::es) [] pos) (Zxz sp dvs E t):=by
 intro pins s Y H Q I h;refine VD (Zun I hg hm ?_ hdb);refine PySem.W.callWith_K (h₀:=X.base) I.ok.mod.kin hk (thn (ha pos pins s Y H _ I h) λus s1 qz9=>?_) he hpl;obtain⟨vs,H1,I1,r,q⟩:=qz9;refine⟨I1.kIn,?_⟩;exact Zy9 F hr hb hd hx I1 r q
structure Mk(K:Xb)(C f:YG):Prop where
 makes:PySem.W.makesIn K C=YD
 init:Vs K (.ref C) "__init__"=YB (YB (.ref f))
 fn:PySem.W.isFn K (.ref f)=YD
 kp:Bw K (.ref C)=YD
end
section
variable {X:Cx}{CX:CXT}{k:Nat}{f C:YG}{fd:XN}{ps ks:List Str}{sp:Sp}{E:XK}{x m:Str}{p pos apos kpos:Pos}{e o:YJ}{es:List YJ}{kws:List Keyword}{te ta:TE}{t tk:TA}{nm:Option Str}
structure Ygc(K:Xb)(fd:XN)(ps ks:List Str)(g:List Xf->List Xf->List Xf)(gV:List V->List V->List V):Prop where
 to:∀(s:Xg) (us ws:List Xf),K.In s.heap->(g us ws).length=ps.length->BindsTo s fd ⟨us,ks.zip ws⟩ (ps.zip (g us ws))
 rel:∀{vs:List V} {us:List Xf} {zs:List V} {ws:List Xf},Vals vs us->Vals zs ws->Vals (gV vs zs) (g us ws)
variable {g:List Xf->List Xf->List Xf}{gV:List V->List V->List V}
end
structure Zt(N P:List Str)(sc:U4):Prop where
 kind:sc.kind= .function
 co:sc.isCoroutine=YF
 gen:sc.isGenerator=YF
 nd:N.Nodup
 pre:N.take P.length=P
 par:∀x∈P,sc.names.lookup x=YB .local∨sc.names.lookup x=YB .cell
 nofree:∀y∈sc.names,y.2≠ .free
theorem Zm6{kindOf:Str->Option BP}{x:Str}:∀{binds:List (Str×Xf)} {m:Str->Option Xf},(∀v,(x,v)∉binds)->bindL kindOf binds m x=m x
 | [],_,_=>rfl
 | (n,v)::r,m,h=>by
  unfold bindL;rw[Zm6 λw hw=>h w (U0 _ hw)];split
  ·have:x≠n:=by rintro rfl;exact h v List.mem_cons_self
   simp[this]
  ·rfl
theorem Zmz{kindOf:Str->Option BP}{x:Str}:∀{binds:List (Str×Xf)} {m:Str->Option Xf},(∀v,(x,v)∉binds)->bindC kindOf binds m x=m x
 | [],_,_=>rfl
 | (n,v)::r,m,h=>by
  unfold bindC;rw[Zmz λw hw=>h w (U0 _ hw)];split
  ·rfl
  ·have:x≠n:=by rintro rfl;exact h v List.mem_cons_self
   simp[this]
theorem Zl3{kindOf:Str->Option BP}{x:Str}{v:Xf}:∀{P:List Str} {vs:List Xf} {i:Nat} {m:Str->Option Xf},P.Nodup->P[i]? =YB x->vs[i]? =YB v->kindOf x=YB .local ->
  bindL kindOf (P.zip vs) m x=YB v
 | [],_,_,_,_,h,_,_=>by simp at h
 | _::_,[],_,_,_,_,h,_=>by simp at h
 | p::P,w::vs,0,m,nd,h1,h2,hk=>by
  simp at h1 h2;subst h1;subst h2;show bindL kindOf ((p,w)::P.zip vs) m p=_;unfold bindL;rw[Zm6 λv hv=>(Qy.mp nd).1 (List.of_mem_zip hv).1,YL hk];simp
 | p::P,w::vs,i+1,m,nd,h1,h2,hk=>by
  show bindL kindOf ((p,w)::P.zip vs) m x=_;unfold bindL;exact Zl3 (i:=i) (Qy.mp nd).2 (by simpa using h1) (by simpa using h2) hk
theorem Zmf{kindOf:Str->Option BP}{x:Str}{v:Xf}:∀{P:List Str} {vs:List Xf} {i:Nat} {m:Str->Option Xf},P.Nodup->P[i]? =YB x->vs[i]? =YB v->kindOf x≠YB .local ->
  bindC kindOf (P.zip vs) m x=YB v
 | [],_,_,_,_,h,_,_=>by simp at h
 | _::_,[],_,_,_,_,h,_=>by simp at h
 | p::P,w::vs,0,m,nd,h1,h2,hk=>by
  simp at h1 h2;subst h1;subst h2;show bindC kindOf ((p,w)::P.zip vs) m p=_;unfold bindC;rw[Zmz λv hv=>(Qy.mp nd).1 (List.of_mem_zip hv).1,YM hk];simp
 | p::P,w::vs,i+1,m,nd,h1,h2,hk=>by
  show bindC kindOf ((p,w)::P.zip vs) m x=_;unfold bindC;exact Zmf (i:=i) (Qy.mp nd).2 (by simpa using h1) (by simpa using h2) hk
noncomputable def start(N:List Str)(vs:List V):St:=vs.map YB++XJ (N.length-vs.length) YC
noncomputable def Zv2(CX:CXT)(P:Qe)(w:Qz)(K:Xb)(mg:Str->Option Xf)(base:YH)(N:List Str)(qual:Str)(scope:U4)(f:YG)(cd:Xf)(A:Qs)(outer:List Env)(s:Xg)(H:Hp)(E:XK):Cx where
 prog:=P
 w:=w
 K:=K
 mg:=mg
 base:=base
 A:=A.deeper (envOfC qual scope s.heap.objs.size f cd)
 N:=N
 s₀:=s
 H₀:=H
 env:=envOfC qual scope s.heap.objs.size f cd
 outer:=outer
 stack:=envOfC qual scope s.heap.objs.size f cd::outer
 ex:=[]
 calm:=YD
 fn:=λ_=>YD
 pn:=[]
 xe:=λe s'=>Qd (Ql P w) (A.deeper (envOfC qual scope s.heap.objs.size f cd)) (leaving (envOfC qual scope s.heap.objs.size f cd) e) (λ_ s''=>CX outer H s E e s'') (λe' s''=>CX outer H s E e' s'') s'
theorem Zo4{sc:U4}{n:Nat}{x:Str}(h:sc.names.lookup x=YB .cell):∃c,(Br n sc.names []).lookup x=YB c:=by
 have q:=PySem.W.cellsFrom_some sc.names n [] (.inl h);exact Option.isSome_iff_exists.mp q
theorem Zuv{CX:CXT}{P:Qe}{w:Qz}{K:Xb}{mg:Str->Option Xf}{base:YH}{N ps:List Str}{qual:Str}{scope:U4}{f:YG}{cd:Xf}{A:Qs}{outer:List Env}{s s1:Xg}{H:Hp}{E:XK}{us:List Xf}{vs:List V}
  (S:Zt N ps scope) (hd:A.handled=YC) (e0:Ybu P w K mg base A outer s H) (hl:vs.length=ps.length) (r:Vals vs us)
  (x:InCallC s s.heap.objs.size (bindL (envOfC qual scope s.heap.objs.size f cd).kindOf (ps.zip us) λ_=>YC) (Br (s.heap.objs.size+1) scope.names []) (bindC (envOfC qual scope s.heap.objs.size f cd).kindOf (ps.zip us) λ_=>YC) s1) :
  Inv (Zv2 CX P w K mg base N qual scope f cd A outer s H E) [] (start N vs) H s1:=by
 have hpl:ps.length≤N.length:=by have:=YT List.length S.pre;rw[Bv]at this;omega
 obtain⟨h1,tk,rfl,hk⟩:=x.done;have noA:∀b:YG,b∉(Zv2 CX P w K mg base N qual scope f cd A outer s H E).ex:=λb z=>YX (show b∈([]:List YG)from z) (by simp);refine⟨⟨e0.mod,S.kind,rfl,rfl,X6 _,λy z c h1 h2=>?_,λy hy=>?_,λy c _ h=>?_,λ_=>hd,Qs.frames_deeper e0.frames,.inr ⟨rfl,rfl⟩,λb z=>YX z (noA b),e0.bs,e0.bsz,λb _ _=>noA b,λb z=>YX z (noA b),e0.funs,e0.frf⟩,
  rfl,e0.bare,Un.kept hk,⟨_,x.toInCall.ns,λi y v h1 h2 h3=>?_⟩,λy c h=>⟨_,x.cell y c h⟩,e0.hok.fresh (X6 _),λy c h=>?_,λp hp=>YX (show p∈([]:List (YG×Obj))from hp) (by simp),e0.hok.kept hk,?_⟩
 ·exact name_of_addr x.apart (Bh h1) (Bh h2)
 ·have hy:scope.names.lookup y=YB .cell∨scope.names.lookup y=YB .free:=hy
  rcases hy with hy|hy
  ·exact Zo4 hy
  ·exact YX rfl (S.nofree _ (Bh hy))
 ·exact Nat.le_of_lt (x.above y c (Bh h))
 ·have hi:i<vs.length:=by
   unfold start at h2
   by_cases hi:i<vs.length
   ·exact hi
   ·rw[Bl (by simpa using hi)]at h2
    rw[List.getElem?_replicate]at h2;split at h2<;>cases h2
  have ha:vs[i]? =YB v:=by
   unfold start at h2;rw[Vo (by simpa using hi),Xl]at h2;cases e:vs[i]? with
   | none=>rw[e]at h2;cases h2
   | some a=>rw[e]at h2;cases h2;rfl
  obtain⟨u,hu,rv⟩:=r.get ha;have hp:ps[i]? =YB y:=by
   rw[←S.pre,List.getElem?_take_of_lt (by omega)];exact h1
  have ndP:ps.Nodup:=by rw[←S.pre];exact S.nd.sublist (List.take_sublist _ _)
  refine⟨u,rv,?_⟩;rcases S.par y (Qn hp)with k|k
  ·exact .inl ⟨k,Zl3 ndP hp hu k⟩
  ·obtain⟨c,e⟩:=Zo4 (n:=s.heap.objs.size+1) k
   refine .inr ⟨.inl k,c,e,?_⟩;have q:=x.cell y c e;rw[Zmf ndP hp hu (by show scope.names.lookup y≠_;rw[k];decide)]at q;exact q
 ·exact e0.hok.fresh (Nat.le_of_lt (x.above y c (Bh h)))
 ·unfold start
  show _=N.length;rw[Qw,Xc,UG];omega
theorem Yep{CX:CXT}{P:Qe}{w:Qz}{K:Xb}{mg:Str->Option Xf}{base:YH}{k:Nat}{f:YG}{name qual:Str}{params:Arguments}{body:List YK}{scope:U4}{dV kV doc pm cdv ct oc:Xf}{an od:Option YG}
  {osl:Array (Option Xf)} {N ps:List Str} {sp:Sp} (lk:K.lookup f=YB ⟨oc,od,.func (VH name qual params body scope dV kV doc pm an cdv ct),osl⟩) (hcd:PySem.W.codeIn K cdv qual=YD) (S:Zt N ps scope)
  (len:∀vs H Q E,sp vs H Q E->vs.length=ps.length)
  (hbody:∀(A:Qs) (outer:List Env) (s:Xg) (H:Hp) (vs:List V) (Q:VK) (E:XK),Room k (A.deeper (envOfC qual scope s.heap.objs.size f cdv))->sp vs H Q E ->
   ∃t,PSs (Zv2 CX P w K mg base N qual scope f cdv A outer s H E) body t∧t { nx:=λ_ H'=>Q .non H',rt:=Q } (start N vs) H) :
  FnOk P w K mg base CX (k+1) f (VH name qual params body scope dV kV doc pm an cdv ct) ps sp:=by
 refine⟨len,λA outer s H args us vs Q E hr e0 hb r hsp=>?_⟩;have hl:=len _ _ _ _ hsp;have KX:K.In s.heap:=e0.mod.kin.keeps λb o e=>(e0.bs b o e).1;have lim:s.heap.NoLimit:=e0.mod.nolimit.keeps λb o e=>(e0.bs b o e).1;have hkind:∀y∈ps.zip us,scope.names.lookup y.1=YB .local∨(scope.names.lookup y.1=YB .cell∧((Br (s.heap.objs.size+1) scope.names []).lookup y.1).isSome=YD):=λ⟨n,v⟩ hy=>by
  rcases S.par n (List.of_mem_zip hy).1 with q|q
  ·exact .inl q
  ·exact .inr ⟨q,PySem.W.cellsFrom_some _ _ _ (.inl q)⟩
 refine codeAny_call_function hr.depth (KX _ _ lk) rfl S.co S.gen rfl (PySem.W.codeRec_of KX hcd) (hb _ _ _ _ ?_);refine wpAny_newFunctionEnv_cells S.kind hkind λenv he s1 x=>?_;subst he;refine⟨lim.keeps x.toInCall.keep,codeAny_func ?_⟩;obtain⟨t,ht,hq⟩:=hbody A outer s H vs Q E (hr.deeper _) hsp;have I:Inv (Zv2 CX P w K mg base N qual scope f cdv A outer s H E) [] (start N vs) H s1:=Zuv S hr.hd e0 hl r x;refine BW (ht [] s1 (start N vs) H _ I hq) (λfl s' hs=>?_) λe s' hs=>hs;have fin:∀{Y':St} {H':Hp} {v:V} {u:Xf},Inv (Zv2 CX P w K mg base N qual scope f cdv A outer s H E) [] Y' H' s'->RelV v u->Q v H'->CE outer P w H s Q u s' :=
  fun{Y' H' v u} J rv q=>⟨v,H',J.os,J.bare,J.base,J.hok,rv,q⟩
 cases fl with
 | ret u=>
  obtain⟨v,Y',H',J,rv,q⟩:=hs;exact fin J rv q
 | next=>
  obtain⟨Y',H',J,q⟩:=hs;exact fin (v:=V.non) (u:=QT) J rfl q
 | brk=>
  obtain⟨_,_,_,q⟩:=hs;exact VJ q
 | cont=>
  obtain⟨_,_,_,q⟩:=hs;exact VJ q
section
variable {X:Cx}{x:Str}{p pos:Pos}{e:YJ}{es:List YJ}{t:TA}{id T:String}{r:List V->Hp->VK->Prop}
noncomputable def tCB(r:List V->Hp->VK->Prop)(t:TA):TE:=λY H Q=>t Y H λvs H1=>r vs H1 Q
theorem Zhj(hc:Zas X (.builtin id) r)(hg:Gl X x)(hm:X.mg x=YC)(hv:Qa x=YB (.builtin id))(ha:PA X (e::es) t)(hn:x≠"__name__" :=by decide)(hdb:(x==("__debug__" : Str))=YF:=by decide)
  (he:Xr (e::es) X.env=(YF,eval e X.env)::Xr es X.env:=by rfl) (hpl:(JP pos (Xr es X.env)).any (·.1)=YF:=by rfl):PE X (.Call (.Name x p) (e::es) [] pos) (tCB r t):=by
 intro pins s Y H Q I h;refine VD (Zi0 I hg hm hv ?_ hn hdb);refine PyProof.Rows.callWith_builtin1 (thn (ha pos pins s Y H _ I h) λus s1 qz9=>?_) he hpl;obtain⟨vs,H1,I1,r1,q1⟩:=qz9;exact hc pins s1 Y H1 vs us Q I1 r1 q1
theorem Zay(hc:Zas X (.type T) r)(hg:Gl X x)(hm:X.mg x=YC)(hv:Qa x=YB (.type T))(ha:PA X (e::es) t)(hn:x≠"__name__" :=by decide)(hdb:(x==("__debug__" : Str))=YF:=by decide)
  (he:Xr (e::es) X.env=(YF,eval e X.env)::Xr es X.env:=by rfl) (hpl:(JP pos (Xr es X.env)).any (·.1)=YF:=by rfl):PE X (.Call (.Name x p) (e::es) [] pos) (tCB r t):=by
 intro pins s Y H Q I h;refine VD (Zi0 I hg hm hv ?_ hn hdb);refine BJ (thn (ha pos pins s Y H _ I h) λus s1 qz9=>?_) he hpl;obtain⟨vs,H1,I1,r1,q1⟩:=qz9;exact hc pins s1 Y H1 vs us Q I1 r1 q1
end
end L2
namespace HT
open PySem PyProof.Rows
section
open PySem.SeqAt
open PySem.AutoSeq1 (wpAny_loadPart')
open PySem.MeetsSeq PySem.MeetsSeq2 PySem.MeetsSeq3
end
section
variable {prog:Qe}{w:Qz}{A:Qs}{E:Xf->Xg->Prop}{s:Xg}
noncomputable def sIx(n d:Nat):Option Int->Nat
 | none=>d
 | some v=>if v<0 then(v+(n:Int)).toNat else min v.toNat n
theorem sIx_none(n d:Nat):sIx n d YC=d:=rfl
theorem sIx_nat(n d k:Nat):sIx n d (YB (k:Int))=min k n:=by
 show(if(k:Int)<0 then((k:Int)+(n:Int)).toNat else min (k:Int).toNat n)=min k n;rw[YM (by omega),Q0]
end
end HT
namespace L2
open PySem PySem.Spec PyProof.Rows
noncomputable abbrev TO:=St->Hp->(Option Int->Hp->Prop)->Prop
noncomputable def PO(X:Cx)(e:Option YJ)(t:TO):Prop :=
 ∀(pins:List (YG×Obj)) (s:Xg) (Y:St) (H:Hp) (Q:Option Int->Hp->Prop),Inv X pins Y H s->t Y H Q ->
  Qd (Ql X.prog X.w) X.A (evalPart e X.env) (λu s'=>∃o H',Inv X pins Y H' s'∧IsPart u o∧Q o H') X.xe s
noncomputable def Z4d:TO:=λ_ H Q=>Q YC H
noncomputable def Yes(t:TE):TO:=λY H Q=>t Y H λx H1=>∃i,x= .int i∧Q (YB i) H1
section
variable {X:Cx}{e:YJ}{te:TE}{lo hi:Option YJ}{tl th:TO}{pos p2:Pos}
theorem Z4q:PO X YC Z4d:=by
 intro pins s Y H Q I h;rw[evalPart_none];exact Qk ⟨YC,H,I,.none,h⟩
theorem Z2d(h:PE X e te):PO X (YB e) (Yes te):=by
 intro pins s Y H Q I hw;rw[evalPart_some];refine thn (h pins s Y H _ I hw) λu s1 qz9=>?_;obtain⟨x,H1,I1,r1,q1⟩:=qz9;obtain⟨i,rfl,q⟩:=q1;obtain⟨t,rfl⟩:=r1;exact⟨YB i,H1,I1,.int i t,q⟩
noncomputable def SlR(X:Cx)(r:V->Option Int->Option Int->Hp->VK->Prop):Prop :=
 ∀(pins:List (YG×Obj)) (s:Xg) (Y:St) (H:Hp) (x:V) (v vl vu:Xf) (lo hi:Option Int) (sl:YG) (Q:VK),Inv X pins Y H s->RelV x v->s.heap.IsSliceOf sl vl vu .none->IsPart vl lo->IsPart vu hi->r x lo hi H Q ->
  ∃T id,typeLookup (.type T) "__getitem__"=pure (YB (.builtin id))∧s.TypeIs v T∧Qd (Ql X.prog X.w) X.A (getItem v (.ref sl)) (EP X pins Y Q) X.xe s
noncomputable def tSl(r:V->Option Int->Option Int->Hp->VK->Prop)(te:TE)(tl th:TO):TE:=λY H Q=>te Y H λx H1=>tl Y H1 λl H2=>th Y H2 λu H3=>r x l u H3 Q
theorem Zv5{r:V->Option Int->Option Int->Hp->VK->Prop}(hr:SlR X r)(he:PE X e te)(hl:PO X lo tl)(hu:PO X hi th):PE X (.Subscript e (.Slice lo hi YC p2) pos) (tSl r te tl th):=by
 intro pins s Y H Q I h;refine Subscript_ (thn (he pins s Y H _ I h) λv s1 qz9=>?_);obtain⟨x,H1,I1,r1,q1⟩:=qz9;refine wpAny_Slice (thn (hl pins s1 Y H1 _ I1 q1) λvl s2 qz9=>?_);obtain⟨l,H2,I2,pl,q2⟩:=qz9;refine thn (hu pins s2 Y H2 _ I2 q2) λvu s3 qz9=>?_;obtain⟨u,H3,I3,pu,q3⟩:=qz9;rw[evalPart_none];refine Qk ?_;have I4:Inv X pins Y H3 { s3 with heap:=s3.heap.push { cls:=.type "slice",data:=.fields #[vl,vu,.none] } }:=I3.kept (t':=s3.toks) λb ob q=>Xo _ q;obtain⟨T,id,hT,ht,hg⟩:=hr pins { s3 with heap:=s3.heap.push { cls:=.type "slice",data:=.fields #[vl,vu,.none] } } Y H3 x v vl vu l u s3.heap.objs.size Q I4 r1 (Heap.IsSliceOf.new ..) pl pu q3;show Qd (Ql X.prog X.w) X.A (subscriptTail e (.Slice lo hi YC p2) v (.ref s3.heap.objs.size)) (EP X pins Y Q) X.xe { s3 with heap:=s3.heap.push { cls:=.type "slice",data:=.fields #[vl,vu,.none] } };exact tail_any (ops:=[.ref s3.heap.objs.size,v]) ht hT hg (by with_unfolding_all rfl)
noncomputable def Z5l(xs:List V)(lo hi:Option Int):List V:=(xs.drop (HT.sIx xs.length 0 lo)).take (HT.sIx xs.length xs.length hi-HT.sIx xs.length 0 lo)
theorem Zny(xs:List V)(lo hi:Option Int):(Z5l xs lo hi).length≤xs.length:=by
 unfold Z5l;rw[Bv,Q8];omega
end
noncomputable def ixN(n:Nat)(i:Int):Option Nat:=if 0≤i then(if i<n then YB i.toNat else YC)else if -(n:Int)≤i then YB (i+n).toNat else YC
noncomputable def atI{α:Type}(xs:List α)(i:Int):Option α:=(ixN xs.length i).bind λj=>xs[j]?
theorem Zom{n:Nat}{i:Int}{j:Nat}(h:ixN n i=YB j):seqIndex? i n=YB j∧j<n∧-(n:Int)≤i∧i<n:=by
 unfold ixN at h
 by_cases h0:0≤i
 ·rw[YL h0]at h
  by_cases h1:i<n
  ·rw[YL h1]at h
   have e:i.toNat=j:=QR h;exact⟨by rw[seqIndex_of h0 h1,e],by omega,by omega,h1⟩
  ·rw[YM h1]at h;cases h
 ·rw[YM h0]at h
  by_cases h1:-(n:Int)≤i
  ·rw[YL h1]at h
   have e:(i+n).toNat=j:=QR h;exact⟨by rw[seqIndex_neg (by omega) h1,e],by omega,h1,by omega⟩
  ·rw[YM h1]at h;cases h
theorem Znx{α:Type}{xs:List α}{i:Int}{v:α}(h:atI xs i=YB v):∃j,seqIndex? i xs.length=YB j∧xs[j]? =YB v∧j<xs.length∧-(xs.length:Int)≤i∧i<xs.length:=by
 unfold atI at h;cases e:ixN xs.length i with
 | none=>rw[e]at h;cases h
 | some j=>
  rw[e]at h;obtain⟨h1,h2,h3,h4⟩:=Zom e;exact⟨j,h1,h,h2,h3,h4⟩
noncomputable def Zk7(b:YJ):Prop:=∀o i,subscripted b YF o i=operate [o,i] (getItem o i)
noncomputable def IxR(X:Cx)(r:R2):Prop :=
 ∀(value slice:YJ) (pins:List (YG×Obj)) (s:Xg) (Y:St) (H:Hp) (x y:V) (v u:Xf) (Q:VK),Inv X pins Y H s->RelV x v->RelV y u->r x y H Q ->
  subscripted slice YF v u=operate [v,u] (getItem v u)->Qd (Ql X.prog X.w) X.A (subscriptTail value slice v u) (EP X pins Y Q) X.xe s
noncomputable def MtR(X:Cx)(id:String)(r:V->List V->Hp->VK->Prop):Prop :=
 ∀(pins:List (YG×Obj)) (s:Xg) (Y:St) (H:Hp) (x:V) (xs:List V) (v:Xf) (us:List Xf) (Q:VK),Inv X pins Y H s->RelV x v->Vals xs us->r x xs H Q ->
  Qd (Ql X.prog X.w) X.A (call (.builtin id) (v::us)) (EP X pins Y Q) X.xe s
section
variable {X:Cx}{a b:YJ}{ta tb:TE}{pos:Pos}
theorem IxR.or{r r':R2}(h:IxR X r)(h':IxR X r'):IxR X (λx y H Q=>r x y H Q∨r' x y H Q):=by
 intro value slice pins s Y H x y v u Q I rx ry q hs;rcases q with q|q
 ·exact h value slice pins s Y H x y v u Q I rx ry q hs
 ·exact h' value slice pins s Y H x y v u Q I rx ry q hs
theorem Z6w{r:R2}(hr:IxR X r)(ha:PE X a ta)(hb:PE X b tb)(hs:Zk7 b):PE X (.Subscript a b pos) (tOp r ta tb):=by
 intro pins s Y H Q I h;exact Subscript_ (Ydq ha hb I h λv u s2 x y H2 I2 rx ry q=>hr a b pins s2 Y H2 x y v u Q I2 rx ry q (hs _ _))
noncomputable def Yd8(K:Xb):R2:=λx y H Q=>∃p xs i v,x= .ref p∧y= .int i∧SqL K H p xs∧atI xs i=YB v∧Q v H
noncomputable def Yfn(K:Xb):R2:=λx y H Q=>∃p xs i v,x= .ref p∧y= .int i∧SqT K H p xs∧atI xs i=YB v∧Q v H
noncomputable def Yf1:R2:=λx y H Q=>∃z i c,x= .str z∧y= .int i∧z.length≤Xz∧atI z.cps.toList i=YB c∧Q (.str ⟨#[c]⟩) H
theorem Zur:IxR X (Yd8 X.K):=by
 intro value slice pins s Y H x y v u Q I rx ry h hs;obtain⟨p,xs,i,z,rfl,rfl,hq,he,q⟩:=h;cases rx;obtain⟨t,rfl⟩:=ry;obtain⟨its,r,pl,hz⟩:=I.list hq;obtain⟨j,h1,h2,h3,h4,h5⟩:=Znx he;obtain⟨w,ew,rw'⟩:=r.get h2;have hl:=r.length;have hn:=Zjz;have fin:EP X pins Y Q w s:=⟨z,H,I,rw',q⟩
 by_cases h0:0≤i
 ·have hj:i.toNat=j:=by
   rw[seqIndex_of h0 h5]at h1;exact QR h1
  exact item_listR pl.isList h0 (by omega) (by rw[hj];simpa using ew) fin hs
 ·have hj:(i+(its.toArray.size:Int)).toNat=j:=by
   rw[seqIndex_neg (by omega) h4]at h1;rw[XF,←hl];exact QR h1
  exact subscriptTail_builtinR (x:=w) pl.isList.typeIs slot_list_getitem.lookup
   (wpAny_getItem_list_neg (Q:=λr s'=>r=w∧EP X pins Y Q r s') pl.isList (by omega) (by rw[XF]<;>omega) (by omega) (by rw[hj];simpa using ew) ⟨rfl,fin⟩) hs
theorem Z6g:IxR X (Yfn X.K):=by
 intro value slice pins s Y H x y v u Q I rx ry h hs;obtain⟨p,xs,i,z,rfl,rfl,hq,he,q⟩:=h;cases rx;obtain⟨t,rfl⟩:=ry;obtain⟨its,r,pl,hz⟩:=I.tuple hq;obtain⟨j,h1,h2,h3,h4,h5⟩:=Znx he;obtain⟨w,ew,rw'⟩:=r.get h2;have hl:=r.length;have hn:=Zjz;have fin:EP X pins Y Q w s:=⟨z,H,I,rw',q⟩;exact subscriptTail_builtinR (x:=w) pl.typeIs slot_tuple_getitem.lookup
  (getItem_tuple (j:=j) (Q:=λr s'=>r=w∧EP X pins Y Q r s') pl (by omega) (by omega) (by rw[XF,←hl];exact h1) (by simpa using ew) ⟨rfl,fin⟩) hs
theorem Ya1:IxR X Yf1:=by
 intro value slice pins s Y H x y v u Q I rx ry h hs;obtain⟨z,i,c,rfl,rfl,hz,he,q⟩:=h;obtain⟨t,rfl⟩:=rx;obtain⟨t',rfl⟩:=ry;obtain⟨j,h1,h2,h3,h4,h5⟩:=Znx he;have hl:z.cps.toList.length=z.length:=by simp[Str.length]
 rw[hl]at h1 h4 h5;have hn:=Zjz;exact tail_any (typeIs_str s z t) slot_str_getitem.lookup (getItem_str (c:=c) (by
  have e1:decide (i< -(2^63:Int))=YF:=YS (by omega);have e2:decide (i≥2^63)=YF:=YS (by omega);rw[e1,e2,Bool.or_false]) (by rw[h1];simpa using h2) ⟨.str ⟨#[c]⟩,H,I.tok _,⟨_,rfl⟩,q⟩) hs
noncomputable def rIx(K:Xb):R2:=λx y H Q=>Yd8 K x y H Q∨Yfn K x y H Q∨Yf1 x y H Q
theorem Z6u:IxR X (rIx X.K):=Zur.or (Z6g.or Ya1)
theorem Zq8(its:List Xf)(n j:Nat)(u:Xf):QK (·.setIfInBounds j u) { cls:=.type "list",data:=.seq its.toArray n }={ cls:=.type "list",data:=.seq (its.set j u).toArray n }:=by
 simp[QK]
theorem Inv.lst{pins:List (YG×Obj)}{Y:St}{H:Hp}{s:Xg}{p:YG}{xs:List V}(I:Inv X pins Y H s)(h:H p=YB (.lst xs)) :
  ∃(its:List Xf) (n:Nat),Vals xs its∧s.heap.get? p=YB { cls:=.type "list",data:=.seq its.toArray n }∧xs.length≤Xz:=by
 obtain⟨z,its,n,r,e⟩:=I.hok p _ h;exact⟨its,n,r,e,z⟩
theorem Inv.lstUpd{pins:List (YG×Obj)}{Y:St}{H:Hp}{s:Xg}{p:YG}{xs ys:List V}{its its':List Xf}{n n':Nat}{f:Obj->Obj}(I:Inv X pins Y H s)(h:H p=YB (.lst xs))
  (ho:s.heap.get? p=YB { cls:=.type "list",data:=.seq its.toArray n }) (hf:f { cls:=.type "list",data:=.seq its.toArray n }={ cls:=.type "list",data:=.seq its'.toArray n' }) (r:Vals ys its') (hz:ys.length≤Xz) (t:Nat) :
  Inv X pins Y (upd H p (.lst ys)) { s with heap:=s.heap.update p f,toks:=t }:=by
 have e:(s.heap.update p f).get? p=YB { cls:=.type "list",data:=.seq its'.toArray n' }:=by
  rw[Heap.get?_update_self f ho (by rw[hf]<;>rfl),hf]
 refine I.write (x:=p) (e:=p) (by rw[h];trivial) (.inl rfl) (λb u hb q=>(Heap.get?_update_other _ _ (JR hb)).trans q) ⟨_,e⟩ ?_;exact⟨hz,its',n',r,e⟩
noncomputable def Z1p:V->V->V->Hp->(Hp->Prop)->Prop:=λo i v H Q=>∃p xs k j,o= .ref p∧i= .int k∧H p=YB (.lst xs)∧ixN xs.length k=YB j∧Q (upd H p (.lst (xs.set j v)))
theorem set_list:Yez X Z1p:=by
 intro pins s Y H o i v ov iv u Q I ro ri rv h;obtain⟨p,xs,k,j,rfl,rfl,hp,hj,q⟩:=h;cases ro;obtain⟨t,rfl⟩:=ri;obtain⟨its,n,r,ho,hz⟩:=I.lst hp;obtain⟨h1,h2,h3,h4⟩:=Zom hj;have hl:=r.length;have hn:=Zjz;have I':Inv X pins Y (upd H p (.lst (xs.set j v))) { s with heap:=s.heap.update p (QK (·.setIfInBounds j u)) } :=
  I.lstUpd hp ho (Zq8 its n j u) (r.set rv j) (by rw[V9];exact hz) s.toks
 by_cases h0:0≤k
 ·have hk:k.toNat=j:=by
   rw[seqIndex_of h0 h4]at h1;exact QR h1
  exact PySem.W.ki_setAt ho h0 (by omega) (by rw[XF,←hl];exact h4) (by rw[hk];exact⟨_,I',q⟩)
 ·have hk:(k+(its.toArray.size:Int)).toNat=j:=by
   rw[seqIndex_neg (by omega) h3]at h1;rw[XF,←hl];exact QR h1
  exact PySem.W.ki_setBack ho (by omega) (by rw[XF,←hl];exact h3) (by omega) (by rw[hk];exact⟨_,I',q⟩)
theorem Zm5(lo hi:Option Int)(n:Nat):(sliceBounds lo hi YC n).1=((HT.sIx n 0 lo:Nat):Int)∧(sliceBounds lo hi YC n).2.1=((HT.sIx n n hi:Nat):Int)∧(sliceBounds lo hi YC n).2.2=1:=by
 refine⟨?_,?_,rfl⟩
 ·cases lo with
  | none=>simp[sliceBounds,HT.sIx]
  | some i=>
   simp only[sliceBounds,HT.sIx,Option.getD_none,show(1:Int)>0 by decide,if_true]
   by_cases h:i<0
   ·simp only[h,if_true]<;>omega
   ·simp only[h,if_false]<;>omega
 ·cases hi with
  | none=>simp[sliceBounds,HT.sIx]
  | some i=>
   simp only[sliceBounds,HT.sIx,Option.getD_none,show(1:Int)>0 by decide,if_true]
   by_cases h:i<0
   ·simp only[h,if_true]<;>omega
   ·simp only[h,if_false]<;>omega
theorem Zks(its:List Xf)(lo hi:Option Int):slicePick its.toArray lo hi YC=((its.drop (HT.sIx its.length 0 lo)).take (HT.sIx its.length its.length hi-HT.sIx its.length 0 lo)).toArray:=by
 obtain⟨h1,h2,h3⟩:=Zm5 lo hi its.toArray.size;unfold slicePick;rw[h1,h2,h3];simp only[sliceRange_one,pick_run,XF]<;>rfl
noncomputable def Yhg(K:Xb):V->Option Int->Option Int->Hp->VK->Prop:=λx lo hi H Q=>∃a xs,x= .ref a∧SqL K H a xs∧∀p,H p=YC->Q (.ref p) (upd H p (.lst (Z5l xs lo hi)))
theorem Z2e:SlR X (Yhg X.K):=by
 intro pins s Y H x v vl vu lo hi sl Q I rx hs pl pu h;obtain⟨a,xs,rfl,hx,q⟩:=h;cases rx;obtain⟨its,r,ht,hz⟩:=I.list hx;have hlen:=r.length;refine⟨"list",_,slot_list_getitem.lookup,ht.isList.typeIs,?_⟩;refine wpAny_getItem_list_slice ht.isList hs pl pu .none (by simp) ?_ (by rw[XF]<;>omega);rw[Zks,←hlen];refine⟨.ref s.heap.objs.size,_,I.laid (t':=s.toks) (o:=.lst (Z5l xs lo hi)) (λb ob q=>Xo _ q) (X6 _) ?_,rfl,q _ (I.hok.fresh (X6 _))⟩;exact⟨Qt (Zny xs lo hi) hz,_,0,(r.drop (HT.sIx xs.length 0 lo)).take (HT.sIx xs.length xs.length hi-HT.sIx xs.length 0 lo),Qi _ rfl⟩
noncomputable def Zh6:V->Bool
 | .non=>YD
 | .bl _=>YD
 | .int _=>YD
 | .str _=>YD
 | _=>YF
noncomputable def eqV:V->V->Bool
 | .non,.non=>YD
 | .bl a,.bl b=>a==b
 | .bl a,.int b=>(if a then 1 else 0)==b
 | .int a,.bl b=>a==(if b then 1 else 0)
 | .int a,.int b=>a==b
 | .str a,.str b=>a==b
 | _,_=>YF
theorem Yar{A:Qs}{s:Xg}{y x:V}{u v:Xf}(ry:RelV y u)(rx:RelV x v)(fy:Zh6 y=YD)(fx:Zh6 x=YD):Bg A s u v (eqV y x):=by
 cases y with
 | non=>
  cases ry;cases x with
  | non=>cases rx;exact Bg.same _
  | bl b=>cases rx;exact Bg.none_bool b
  | int b=>obtain⟨t,rfl⟩:=rx;exact Bg.none_int b t
  | str b=>obtain⟨t,rfl⟩:=rx;exact Bg.none_str b t
  | _=>exact YX (show YF=YD from fx) XC
 | bl a=>
  cases ry;cases x with
  | non=>cases rx;exact Bg.bool_none a
  | bl b=>cases rx;exact Bg.bool_bool a b
  | int b=>obtain⟨t,rfl⟩:=rx;exact Bg.bool_int a b t
  | str b=>obtain⟨t,rfl⟩:=rx;exact Bg.bool_str a b t
  | _=>exact YX (show YF=YD from fx) XC
 | int a=>
  obtain⟨t',rfl⟩:=ry;cases x with
  | non=>cases rx;exact Bg.int_none a t'
  | bl b=>cases rx;exact Bg.int_bool a t' b
  | int b=>obtain⟨t,rfl⟩:=rx;exact Bg.int_int a t' b t
  | str b=>obtain⟨t,rfl⟩:=rx;exact SeqAt.EqAt.int_str a t' b t
  | _=>exact YX (show YF=YD from fx) XC
 | str a=>
  obtain⟨t',rfl⟩:=ry;cases x with
  | non=>cases rx;exact Bg.str_none a t'
  | bl b=>cases rx;exact Bg.str_bool a t' b
  | int b=>obtain⟨t,rfl⟩:=rx;exact SeqAt.EqAt.str_int a t' b t
  | str b=>obtain⟨t,rfl⟩:=rx;exact Bg.str_str a t' b t
  | _=>exact YX (show YF=YD from fx) XC
 | _=>exact YX (show YF=YD from fy) XC
noncomputable def eqU(x:V)(u:Xf):Bool:=match u with
 | .none=>eqV .non x
 | .bool b=>eqV (.bl b) x
 | .int i _=>eqV (.int i) x
 | .str z _=>eqV (.str z) x
 | _=>YF
theorem Zzg{x y:V}{u:Xf}(r:RelV y u)(f:Zh6 y=YD):eqU x u=eqV y x:=by
 cases y with
 | non=>cases r;rfl
 | bl b=>cases r;rfl
 | int i=>obtain⟨t,rfl⟩:=r;rfl
 | str z=>obtain⟨t,rfl⟩:=r;rfl
 | _=>exact YX (show YF=YD from f) XC
theorem Zk4{x:V}{xs:List V}{us:List Xf}(h:Vals xs us)(f:xs.all Zh6=YD):us.any (eqU x)=xs.any λy=>eqV y x:=by
 induction h with
 | nil=>rfl
 | cons r t ih=>
  rw[List.all_cons,Xv]at f;rw[List.any_cons,List.any_cons,Zzg r f.1,ih f.2]
theorem Zha{A:Qs}{s:Xg}{x:V}{v:Xf}(rx:RelV x v)(fx:Zh6 x=YD){xs:List V}{us:List Xf}(h:Vals xs us)(f:xs.all Zh6=YD):∀u∈us,Bg A s u v (eqU x u):=by
 induction h with
 | nil=>intro u hu;cases hu
 | cons r t ih=>
  intro u' hu;rw[List.all_cons,Xv]at f;rcases Xu.mp hu with rfl|hu
  ·rw[Zzg r f.1];exact Yar r rx f.1 fx
  ·exact ih f.2 u' hu
noncomputable def inV(x:V)(xs:List V):Bool:=xs.any λy=>eqV y x
noncomputable def rIn(K:Xb)(neg:Bool):R2:=λx y H Q=>∃p xs,y= .ref p∧(SqL K H p xs∨SqT K H p xs)∧Zh6 x=YD∧xs.all Zh6=YD∧Q (.bl (if neg then !inV x xs else inV x xs)) H
theorem Zss:OpR X (Bf .In) (rIn X.K YF):=by
 intro pins s Y H x y v u Q I rx ry h;obtain⟨p,xs,rfl,hq,fx,fs,q⟩:=h;cases ry;rcases hq with hq|hq
 ·obtain⟨its,r,pl,hz⟩:=I.list hq
  refine SeqAt.in_listAt (eqU x) pl.isList (λw hw=>Zha rx fx r fs w (by simpa using hw)) ⟨.bl _,H,I,rfl,?_⟩;rw[show its.toArray.any (eqU x)=its.any (eqU x) by simp,Zk4 r fs];exact q
 ·obtain⟨its,r,pl,hz⟩:=I.tuple hq
  refine SeqAt.in_tupleAt (eqU x) pl (λw hw=>Zha rx fx r fs w (by simpa using hw)) ⟨.bl _,H,I,rfl,?_⟩;rw[show its.toArray.any (eqU x)=its.any (eqU x) by simp,Zk4 r fs];exact q
theorem Zl5:OpR X (Bf .NotIn) (rIn X.K YD):=by
 intro pins s Y H x y v u Q I rx ry h;obtain⟨p,xs,rfl,hq,fx,fs,q⟩:=h;cases ry;rcases hq with hq|hq
 ·obtain⟨its,r,pl,hz⟩:=I.list hq
  refine SeqAt.notIn_listAt (eqU x) pl.isList (λw hw=>Zha rx fx r fs w (by simpa using hw)) ⟨.bl _,H,I,rfl,?_⟩;rw[show its.toArray.any (eqU x)=its.any (eqU x) by simp,Zk4 r fs];exact q
 ·obtain⟨its,r,pl,hz⟩:=I.tuple hq
  refine SeqAt.notIn_tupleAt (eqU x) pl (λw hw=>Zha rx fx r fs w (by simpa using hw)) ⟨.bl _,H,I,rfl,?_⟩;rw[show its.toArray.any (eqU x)=its.any (eqU x) by simp,Zk4 r fs];exact q
theorem Zmc:Zas X (.builtin "len") (λxs H Q=>∃p ys,xs=[.ref p]∧(SqL X.K H p ys∨SqT X.K H p ys)∧Q (.int ys.length) H):=by
 intro pins s Y H xs us Q I r h;obtain⟨p,ys,rfl,hq,q⟩:=h;obtain⟨u,rfl,rx⟩:=vals1 r;cases rx;have hn:=Zjz;rcases hq with hq|hq
 ·obtain⟨its,r',pl,hz⟩:=I.list hq
  have hlen:=r'.length;exact Calls.call_len_list pl.isList (by simp only[XF]<;>omega) ⟨.int ys.length,H,I.tok _,⟨s.toks+1,by rw[XF,hlen]⟩,q⟩
 ·obtain⟨its,r',pl,hz⟩:=I.tuple hq
  have hlen:=r'.length;exact len_tuple pl (by simp only[XF]<;>omega) ⟨.int ys.length,H,I.tok _,⟨s.toks+1,by rw[XF,hlen]⟩,q⟩
theorem Zmb:Zas X (.type "list") (λxs H Q=>∃p ys,xs=[.ref p]∧(SqL X.K H p ys∨SqT X.K H p ys)∧∀l,H l=YC->Q (.ref l) (upd H l (.lst ys))):=by
 intro pins s Y H xs us Q I r h;obtain⟨p,ys,rfl,hq,q⟩:=h;obtain⟨u,rfl,rx⟩:=vals1 r;cases rx;have fin:∀(its:List Xf),Vals ys its->ys.length≤Xz->∀(h':YH) (c':Nat),(∀b o',s.heap.get? b=YB o'->h'.get? b=YB o') ->
   h'.get? s.heap.objs.size=YB { cls:=.type "list",dict:=YC,data:=.seq its.toArray c',slots:=#[] }->EP X pins Y Q (.ref s.heap.objs.size) { s with heap:=h' }:=λits r' hz h' c' kp e=>
  ⟨.ref s.heap.objs.size,_,I.laid (t':=s.toks) kp (X6 _) (show ObjOk X.prog X.w _ h' _ (.lst ys)from⟨hz,its,c',r',e⟩),rfl,q _ (I.hok.fresh (X6 _))⟩
 rcases hq with hq|hq
 ·obtain⟨its,r',pl,hz⟩:=I.list hq
  have hlen:=r'.length;obtain⟨o,ho,hc,n,hd⟩:=pl.isList;exact call_list_seq p (.inl rfl) ho hc hd (λh' c' kp e=>fin its r' hz h' c' kp e) (by simp only[XF]<;>omega)
 ·obtain⟨its,r',pl,hz⟩:=I.tuple hq
  have hlen:=r'.length;obtain⟨o,ho,hc,n,hd⟩:=pl;exact call_list_seq p (.inr rfl) ho hc hd (λh' c' kp e=>fin its r' hz h' c' kp e) (by simp only[XF]<;>omega)
noncomputable def tyV(K:Xb)(T:String)(x:V)(H:Hp):Prop:=match x with
 | .str _=>T="str"
 | .int _=>T="int"
 | .ref p=>(T="list"∧∃xs,SqL K H p xs)∨(T="tuple"∧∃o,K.lookup p=YB o∧o.cls= .type "tuple"∧o.dict=YC)∨
   (T="dict"∧((∃kvs,H p=YB (.dK kvs))∨∃kvs,H p=YB (.dT kvs)))∨(T="set"∧∃S n,H p=YB (.set S n))
 | _=>False
theorem Z5s{pins:List (YG×Obj)}{Y:St}{H:Hp}{s:Xg}{T:String}{x:V}{v:Xf}(I:Inv X pins Y H s)(r:RelV x v)(ty:tyV X.K T x H) :
  s.TypeIs v T∧∀a,v= .ref a->∃ob,s.heap.get? a=YB ob∧ob.dict=YC:=by
 cases x with
 | str z=>
  obtain⟨t,rfl⟩:=r;cases(show T="str"from ty);exact⟨typeIs_str s z t,λ_ e=>nomatch e⟩
 | int i=>
  obtain⟨t,rfl⟩:=r;cases(show T="int"from ty);exact⟨typeIs_int s i t,λ_ e=>nomatch e⟩
 | ref p=>
  cases r;rcases ty with⟨rfl,xs,hq⟩|⟨rfl,o,hk,hc,hd⟩|⟨rfl,hk⟩|⟨rfl,S,n,hk⟩
  ·obtain⟨its,_,pl,_⟩:=I.list hq
   refine⟨pl.isList.typeIs,λa e=>?_⟩;cases e;obtain⟨o,n,e,c,hd,_⟩:=pl;exact⟨o,e,hd⟩
  ·refine⟨⟨o,I.kIn p o hk,hc⟩,λa e=>?_⟩
   cases e;exact⟨o,I.kIn _ o hk,hd⟩
  ·have z:∃o,s.heap.get? p=YB o∧o.ExactDict:=by
    rcases hk with⟨kvs,hk⟩|⟨kvs,hk⟩
    ·obtain⟨_,_,_,_,o,_,_,e,ex,_⟩:=I.hok p _ hk
     exact⟨o,e,ex⟩
    ·obtain⟨_,_,_,_,o,_,_,e,ex,_⟩:=I.hok p _ hk
     exact⟨o,e,ex⟩
   obtain⟨o,e,ex⟩:=z;refine⟨⟨o,e,ex.1⟩,λa e2=>?_⟩;cases e2;exact⟨o,e,ex.2.1⟩
  ·obtain⟨o,_,_,_,e,ex,_⟩:=I.hok p _ hk
   refine⟨⟨o,e,ex.1⟩,λa e2=>?_⟩;cases e2;exact⟨o,e,ex.2.1⟩
 | _=>exact VJ ty
noncomputable def tBM(K:Xb)(T:String)(r:V->List V->Hp->VK->Prop)(to:TE)(t:TA):TE:=λY H Q=>to Y H λx H1=>tyV K T x H1∧t Y H1 λxs H2=>r x xs H2 Q
variable {o e:YJ}{es:List YJ}{to:TE}{t:TA}{name:Str}{apos cpos:Pos}{T id:String}{r:V->List V->Hp->VK->Prop}
theorem Z84(pa:PlainAttrs T)(slot:Slot T name id)(hty:typeOf (.builtin id)=pure (.type "method_descriptor"))(hm:MtR X id r)(ho:PE X o to)(ha:PA X (e::es) t)
  (hbase:attributeBase o name X.env (eval o X.env)=eval o X.env:=by rfl)
  (hfew:((JP cpos (Xr (e::es) X.env)).all (λx=>!x.1)&&(backToKw cpos (keywordEach [] X.env)).all (λx=>x.1.isSome)
   &&decide ((e::es).length+([]:List Keyword).length+(if([]:List Keyword).isEmpty then 0 else 1)<30))=YD:=by rfl)
  (hline:(apos.endLine==cpos.line)=YD:=by rfl) (hs:Xr (e::es) X.env=(YF,eval e X.env)::Xr es X.env:=by rfl) (hplain:(JP cpos (Xr es X.env)).any (·.1)=YF:=by rfl) :
  PE X (.Call (.Attribute o name apos) (e::es) [] cpos) (tBM X.K T r to t):=by
 intro pins s Y H Q I h;refine wpAny_Call_method_late hbase hfew hline rfl (thn (ho pins s Y H _ I h) λv s1 qz9=>?_);obtain⟨x,H1,I1,r1,ty,q1⟩:=qz9;obtain⟨h1,h2⟩:=Z5s I1 r1 ty;refine⟨T,id,pa,slot,hty,h1,h2,?_⟩;have hA:=ha cpos pins s1 Y H1 _ I1 q1;rw[hs]at hA⊢;refine Calls.callWith_builtin (by show(YF||(JP cpos (Xr es X.env)).any (·.1))=YF;rw[hplain]<;>rfl) (Calls.evalArgs_plain ?_);refine thn hA λus s2 qz9=>?_;obtain⟨vs,H2,I2,r2,q2⟩:=qz9;exact hm pins s2 Y H2 x vs v us Q I2 r1 r2 q2
end
noncomputable def MtM(X:Cx)(id:String)(r:V->List V->Hp->VK->Prop):Prop :=
 ∀(pins:List (YG×Obj)) (s:Xg) (Y:St) (H:Hp) (x:V) (xs:List V) (v:Xf) (us:List Xf) (Q:VK),Inv X pins Y H s->RelV x v->Vals xs us->r x xs H Q ->
  Qd (Ql X.prog X.w) X.A (call (.builtin id) (v::us)) (EP X pins Y Q) X.xe s
theorem Vals.one{x:V}{us:List Xf}(h:Vals [x] us):∃u,us=[u]∧RelV x u:=by
 cases h with
 | cons r t=>cases t;exact⟨_,rfl,r⟩
theorem Vals.zero:∀{us:List Xf},Vals [] us->us=[]
 | _,.nil=>rfl
theorem Vals.eraseIdx:∀{xs:List V} {us:List Xf} (i:Nat),Vals xs us->Vals (xs.eraseIdx i) (us.eraseIdx i)
 | _,_,_,.nil=>.nil
 | _,_,0,.cons _ t=>t
 | _,_,i+1,.cons r t=>.cons r (Vals.eraseIdx i t)
theorem Vals.rep{xs:List V}{us:List Xf}(h:Vals xs us):∀k:Nat,Vals (XJ k xs).flatten (XJ k us).flatten
 | 0=>.nil
 | k+1=>by
  rw[Vt,Vt,Uq,Uq];exact Vals.append h (Vals.rep h k)
theorem Zlq{α:Type}:∀(l:List α) (i:Nat),(l.eraseIdx i).length≤l.length
 | [],_=>X6 _
 | _::_,0=>Nat.le_succ _
 | _::r,i+1=>Nat.succ_le_succ (Zlq r i)
theorem foldl_rep(its:List Xf):∀(k:Nat) (acc:List Xf),
  List.foldl (λx1 x2=>x1++x2) acc.toArray (XJ k its.toArray)=(acc++(XJ k its).flatten).toArray
 | 0,acc=>by simp
 | k+1,acc=>by
  have e:acc.toArray++its.toArray=(acc++its).toArray:=by simp
  have e2:(acc++its)++(XJ k its).flatten=acc++(XJ (k+1) its).flatten:=by
   rw[Vt,Uq,Bm]
  rw[←e2,←foldl_rep its k (acc++its),←e,Vt,Ua]
section
variable {X:Cx}{pins:List (YG×Obj)}{Y:St}{H:Hp}{s:Xg}{l b:YG}{xs ys zs:List V}
theorem Inv.lset{its its':List Xf}{n:Nat}{f:Array Xf->Array Xf}{t':Nat}(I:Inv X pins Y H s)(hH:H l=YB (.lst xs))
  (e:s.heap.get? l=YB { cls:=.type "list",data:=.seq its.toArray n }) (hf:f its.toArray=its'.toArray) (hv:Vals ys its') (hz:ys.length≤Xz) :
  Inv X pins Y (upd H l (.lst ys)) { s with heap:=s.heap.update l (QK f),toks:=t' }:=by
 have q:=PySem.IsL.update e f;rw[hf]at q;refine I.write (x:=l) (e:=l) (by rw[hH];exact trivial) (.inl rfl) (λb' u hb hu=>(Heap.get?_update_other s.heap (QK f) (JR hb)).trans hu) ⟨_,q⟩ ?_;exact⟨hz,its',_,hv,q⟩
theorem Inv.lnew{its:List Xf}{t':Nat}(I:Inv X pins Y H s)(hv:Vals ys its)(hz:ys.length≤Xz) :
  Inv X pins Y (upd H s.heap.objs.size (.lst ys)) { s with heap:=s.heap.push { cls:=.type "list",data:=.seq its.toArray },toks:=t' } :=
 I.laid (λ_ _ q=>Xo _ q) (X6 _) ⟨hz,its,0,hv,Qi _ rfl⟩
theorem Inv.fresh(I:Inv X pins Y H s):H s.heap.objs.size=YC:=I.hok.fresh (X6 _)
theorem Inv.lstM(I:Inv X pins Y H s)(hH:H l=YB (.lst xs)):xs.length≤Xz∧∃(its:List Xf) (n:Nat),Vals xs its∧xs.length=its.length∧s.heap.get? l=YB { cls:=.type "list",data:=.seq its.toArray n }:=by
 obtain⟨z,its,n,r,e⟩:=I.hok l _ hH;exact⟨z,its,n,r,r.length,e⟩
theorem Zxj{n:Nat}(h:n≤Xz):U6 n=YF:=by
 unfold U6;exact YS (by omega)
end
section
variable {X:Cx}
noncomputable def Z43:V->List V->Hp->VK->Prop:=λx vs H Q=>∃l xs y,x= .ref l∧vs=[y]∧H l=YB (.lst xs)∧xs.length<Xz∧Q .non (upd H l (.lst (xs++[y])))
theorem Zl9:MtM X "list.append" Z43:=by
 intro pins s Y H x vs v us Q I rx rv h;obtain⟨l,xs,y,rfl,rfl,hH,hz,q⟩:=h;cases rx;obtain⟨u,rfl,ru⟩:=rv.one;obtain⟨z,its,n,r,hl,e⟩:=I.lstM hH;refine call_meets F.slot_list_append ⟨_,e,rfl⟩ F.entry_list_append (F.args_list_append_2 _ _) (PySem.list_append l its.toArray n u (by rw[XF];omega)) ⟨e,?_⟩;refine⟨.non,_,I.lset (its':=its++[u]) hH e (by simp) (r.append (.cons ru .nil)) ?_,rfl,q⟩;rw[Qw,List.length_singleton];omega
noncomputable def Z7b:V->List V->Hp->VK->Prop:=λx vs H Q=>∃l xs i k y,x= .ref l∧vs=[.int i]∧H l=YB (.lst xs)∧-(2^63)≤i∧i<2^63∧seqIndex? i xs.length=YB k∧xs[k]? =YB y∧Q y (upd H l (.lst (xs.eraseIdx k)))
theorem Zxp:MtM X "list.pop" Z7b:=by
 intro pins s Y H x vs v us Q I rx rv h;obtain⟨l,xs,i,k,y,rfl,rfl,hH,h1,h2,hk,hy,q⟩:=h;cases rx;obtain⟨u,rfl,ru⟩:=rv.one;obtain⟨t,rfl⟩:=ru;obtain⟨z,its,n,r,hl,e⟩:=I.lstM hH;obtain⟨w,hw,rw'⟩:=r.get hy;refine call_meets F.slot_list_pop ⟨_,e,rfl⟩ F.entry_list_pop (F.args_list_pop_2 _ _)
  (MeetsSeq.list_pop_at l its.toArray n i t k w (fitsIndex_both h1 h2) (by rw[XF,←hl];exact hk) (by rw[←JH];exact hw) (by rw[XF];omega)) ⟨e,?_⟩
 refine⟨y,_,I.lset (its':=its.eraseIdx k) hH e ?_ (r.eraseIdx k) ?_,rw',q⟩
 ·show its.toArray.eraseIdxIfInBounds k=(its.eraseIdx k).toArray
  rw[List.eraseIdxIfInBounds_toArray]
 ·have:=Zlq xs k
  omega
noncomputable def Yi6:R2:=λx y H Q=>∃l k xs,x= .ref l∧y= .int k∧H l=YB (.lst xs)∧-(2^63)≤k∧k<2^63∧xs.length*k.toNat≤Xz∧
 ∀p,H p=YC->Q (.ref p) (upd H p (.lst (XJ k.toNat xs).flatten))
theorem len_rep{α:Type}(xs:List α)(k:Nat):(XJ k xs).flatten.length=k*xs.length:=by
 induction k with
 | zero=>simp
 | succ k ih=>rw[Vt,Uq,Qw,ih,Nat.succ_mul,Nat.add_comm]
theorem Z7s:OpR X (Uk .Mult) Yi6:=by
 intro pins s Y H x y v u Q I rx ry h;obtain⟨l,k,xs,rfl,rfl,hH,h1,h2,hz,q⟩:=h;cases rx;obtain⟨t,rfl⟩:=ry;obtain⟨z,its,n,r,hl,e⟩:=I.lstM hH;have hlen:its.toArray.size*k.toNat≤Xz:=by rw[XF,←hl];exact hz
 have hcap:¬its.toArray.size*k.toNat>(2^63-1)/8:=by
  have:(Xz:Nat)≤(2^63-1)/8:=by decide
  omega
 have hfit:¬(!UW.List.listFitsIndex k)=YD:=by
  rw[fitsIndex_both h1 h2];exact XC
 have hlong:¬U6 (its.toArray.size*k.toNat)=YD:=by
  rw[Zxj hlen];exact XC
 have hnew:List.foldl (λx1 x2=>x1++x2) #[] (XJ (if its.toArray.isEmpty=YD then 0 else k.toNat) its.toArray)=(XJ k.toNat its).flatten.toArray:=by
  have f0:∀m:Nat,List.foldl (λx1 x2=>x1++x2) #[] (XJ m its.toArray)=(XJ m its).flatten.toArray:=λm=>by
   have:=foldl_rep its m [];rw[List.nil_append]at this;exact this
  rw[f0];cases its with
  | nil=>simp
  | cons a r'=>rw[YM (by simp)]
 refine wpAny_binaryOp_repeat_ref (T :="list") (U :="int") (by decide) ⟨_,e,rfl⟩ (λs'=>typeIs_int s' k t) noFill_list_mul F.fills_int_mul F.slot_int_rmul repeat_list F.slot_int_index.lookup
  (call_meets F.slot_int_rmul (typeIs_int s k t) F.entry_int_rmul (F.args_int_rmul_2 _ _) (int___rmul___int_list k t l its.toArray n)
   ⟨e,rfl,⟨_,e,rfl⟩,call_meets F.slot_list_mul ⟨_,e,rfl⟩ F.entry_list_mul (F.args_list_mul_2 _ _) (AutoListH.list___mul___list_int_3 l its.toArray n k t hfit hcap hlong) ⟨e,?_⟩⟩)
 rw[hnew];exact⟨.ref _,_,I.lnew (t':=s.toks) (r.rep k.toNat) (by rw[len_rep,Nat.mul_comm];exact hz),rfl,q _ I.fresh⟩
end
section
variable {prog:Qe}{w:Qz}{A:Qs}{E:Xf->Xg->Prop}{s:Xg}
end
section
variable {X:Cx}
end
end L2
namespace Att
open PySem PySem.W PySem.Calls PyProof.Rows
theorem Zit{P:Params}{h:YH}:∀(ns:List Int) (vs:List Xf),WellAll P h vs (ns.map WData.int)->Vj vs ns:=by
 intro ns
 induction ns with
 | nil=>
  intro vs w;rw[List.map_nil]at w;cases w;exact .nil
 | cons n ns ih=>
  intro vs w;rw[Qg]at w;cases w with
  | cons a b=>
   cases a;exact .cons _ _ (ih _ b)
theorem Zvq{l:OpenLaw}{n:Nat}(hn:l.most=YB n){P:Params}{h:YH}{args:List WData}{vals:List Xf}
  (hpre:l.row.toRowW.claim.pre args=YD) (hwl:WellAll P h vals args) :
  ∃a vs ns,vals=[QJ a]∧args=[WData.list (ns.map WData.int)]∧h.get? a=YB { cls:=.type "list",data:=.seq vs.toArray }∧Vj vs ns∧ns.length≤n:=by
 have hsh:WShape.hasAll [] args [.list .int]=YD:=(pre_splitW hpre).1;have hc:l.pre.holds [] { args:=args }=YD:=(pre_splitW hpre).2;obtain⟨d,r,rfl,h1,h2⟩:=hasAllW_cons hsh;obtain rfl:=hasAllW_nil h2;obtain⟨xs,rfl,h3⟩:=hasW_list h1;obtain⟨ns,rfl⟩:=items_int h3;have hlen:ns.length≤n:=by
  unfold OpenLaw.pre at hc;have h4:(WTm.not (.lt (.lit (.int (n:Int))) (.len (.arg 0)))).holds [] { args:=[.list (ns.map .int)] }=YD:=by
   have h4:=(holds_andW hc).1;rw[hn]at h4;exact h4
  have h5:=condW_of h4 (w_not (w_lt w_lit (w_len_list (w_arg rfl))));rw[Xc]at h5;refine Nat.le_of_not_lt λq=>?_;have q':(n:Int)<((ns.length:Nat):Int):=by omega
  first
   | (rw[YQ q']at h5;exact YX h5 (by decide))
   | (simp at h5;omega)
 cases hwl with
 | cons w1 w2=>
  cases w2;cases w1 with
  | list ho hall=>exact⟨_,_,ns,rfl,rfl,ho,Zit ns _ hall,hlen⟩
theorem Zu6(l:OpenLaw)(args:List WData):l.row.toRowW.claim.post args (.bool YD) args=YD :=
 postW_of (r:=l.row.toRowW) (X:=(YD==YD))
  (show WShape.has [] (.bool YD) .bool=YD by first|rfl|decide|simp[WShape.has,WShape.arms,WShape.armsAll])
  (show(WTm.eq .res (.lit (.bool YD))).value [] { args:=args,res:=YB (.bool YD),after:=args }=YB (.bool (YD==YD))from w_eq_bool (w_res rfl) w_lit) rfl
theorem attach_call{l:OpenLaw}{n:Nat}{q:Qe}{loose:List Str}{XP:(Str->Option Xf)->YH->Prop}{YP:Qz->YH->Prop}{d:DefRec}
  (hn:l.most=YB n) (hdf:d.params.defaults=[])
  (call:∀(w:Qz) (s₀ s₁:Xg) (mg mb:Str->Option Xf) (fa:YG) (o:Obj) (pm cd doc:Xf) (a:YG) (vs:List Xf) (ns:List Int),
   Ground q loose [] XP w s₀ mg mb s₁.heap->YP w s₁.heap ->
   s₁.heap.get? fa=YB o->o.data= .func (docDef d.name d.params d.body d.scope pm cd doc)->s₁.heap.CodeRec cd d.name->mg d.name=YB (.ref fa) ->
   s₁.heap.get? a=YB { cls:=.type "list",data:=.seq vs.toArray }->Vj vs ns->ns.length≤n->s₁.gens=#[] ->
   codeAny (Ql l.prog w) callerA (.call (.ref fa) ⟨[.ref a],[]⟩) (λr s'=>r= .ok (.ret (.bool YD))∧OldK s₁.heap s'.heap∧s'.os=s₁.os∧AllBare s'.gens) s₁) :
  WalkO q loose XP YP l.row.toRowW d [] (λf vs=>PySem.call f vs):=by
 intro w s₀ s₁ mg mb G Y_a fa o pm cd doc dV kV ho hd hcd hD hmg hg args vals as hpre hlay hrd hwl hlo;obtain rfl:dV= .none:=Dflts.none hD hdf;obtain rfl:kV= .none:=Dflts.noKw hD;obtain⟨a,vs,ns,rfl,rfl,hobj,hints,hlen⟩:=Zvq hn hpre hwl;refine enter_call (codeAny_mono (call w s₀ s₁ mg mb fa o pm cd doc a vs ns G Y_a ho (fd_plain hd) hcd hmg hobj hints hlen hg) λr s' hq=>?_);obtain⟨rfl,h2,h3,h4⟩:=hq;exact⟨.inl ⟨.bool YD,.bool YD,[],rfl,λ_=>rfl,.bool YD,Zu6 l _,λ_=>⟨List.Pairwise.nil,λ_ hm=>(nomatch hm)⟩⟩,h2,h3,h4⟩
section
variable {prog:Qe}{w:Qz}{A:Qs}{E:Xf->Xg->Prop}{s:Xg}{K:Frag}
end
end Att
namespace L2
open PySem PySem.Spec PyProof.Rows
theorem Zts{vs:List Xf}{ns:List Int}(h:Vj vs ns):Vals (ns.map V.int) vs:=by
 induction h with
 | nil=>exact .nil
 | cons n t h ih=>exact .cons ⟨t,rfl⟩ ih
noncomputable def Only(H:Hp):Prop:=∀b,H b=YC∨∃o xs,H b=YB (.frz o (.lst xs))
theorem Zwi{P:Qe}{w:Qz}{K:Xb}{mg mb:Str->Option Xf}{CX:CXT}{k:Nat}{fa a:YG}{fd:XN}{x:Str}{sp:Sp}{s₁:Xg}{vs:List Xf}{ns:List Int}
  (KX:K.In s₁.heap) (hns:s₁.heap.Ns Qj mg) (hb:s₁.heap.Ns builtinsNs mb) (hbb:∀x:Str,x≠"__name__" ->mb x=Qa x) (hlim:s₁.heap.NoLimit) (hg:s₁.gens=#[])
  (ha:s₁.heap.get? a=YB { cls:=.type "list",data:=.seq vs.toArray }) (hi:Vj vs ns) (hl:ns.length≤Xz) (hr:Room k callerA)
  (F:∀base:YH,K.In base->base.Ns Qj mg->FnOk P w K mg base CX k fa fd [x] sp) (hbind:∀(s:Xg) (u:Xf),BindsTo s fd ⟨[u],[]⟩ [(x,u)])
  (hsp:∀H:Hp,Only H->SqL K H a (ns.map V.int)->sp [.ref a] H (λv _=>v= .bl YD) λ_ _ _=>False)
  (hCX:∀H e s',CX [] H s₁ (λ_ _ _=>False) e s'->False) :
  codeAny (Ql P w) callerA (.call (.ref fa) ⟨[.ref a],[]⟩) (λr s'=>r= .ok (.ret (.bool YD))∧OldK s₁.heap s'.heap∧s'.os=s₁.os∧AllBare s'.gens) s₁:=by
 have rv:=Zts hi;have lenV:=hi.length
 -- from an abstract heap in which nothing but the script may be tracked
 have core:∀H:Hp,Only H->SqL K H a (ns.map V.int)->HOk P w H s₁.heap->(∀b,H b≠YC->b=a)->(H a≠YC->K.lookup a=YC) ->
   codeAny (Ql P w) callerA (.call (.ref fa) ⟨[.ref a],[]⟩) (λr s'=>r= .ok (.ret (.bool YD))∧OldK s₁.heap s'.heap∧s'.os=s₁.os∧AllBare s'.gens) s₁:=by
  intro H hO hS hok hA hK;have base_of:∀{b:YG} {o:Obj},s₁.heap.get? b=YB o->H b=YC->(Zx2 s₁.heap H).get? b=YB o:=λe n=>Zyx e n;have noA:∀{b:YG} {o:Obj} {es:Array DictEntry} {ep:Nat},s₁.heap.get? b=YB o->o.data= .dict es ep->H b=YC:=fun{b o es ep} e d=>by
   cases q:H b with
   | none=>rfl
   | some u=>
    have e':b=a:=hA b (by rw[q];simp);subst e';rw[ha]at e;cases e;have d':Data.seq vs.toArray _=Data.dict es ep:=d;cases d'
  have nsK:∀{b:YG} {m:Str->Option Xf},s₁.heap.Ns b m->(Zx2 s₁.heap H).Ns b m:=fun{b m} ⟨o,es,ep,e,d,r⟩=>⟨o,es,ep,base_of e (noA e d),d,r⟩;have hKb:K.In (Zx2 s₁.heap H):=λb o e=>base_of (KX b o e) (by
   cases q:H b with
   | none=>rfl
   | some u=>
    have e':b=a:=hA b (by rw[q];simp);subst e';rw[hK (by rw[q];simp)]at e;cases e)
  have hM:Mod K mg (Zx2 s₁.heap H):=⟨hKb,nsK hns,⟨mb,nsK hb,hbb⟩,let⟨mc,h1,h2⟩:=hlim;⟨mc,nsK h1,h2⟩⟩;have e0:Ybu P w K mg (Zx2 s₁.heap H) callerA [] s₁ H:=⟨rfl,hM,λb o e=>Z2t e,Nat.le_of_eq (Zsd _ _),trivial,λb hb=>YX (show b∈([]:List YG)from hb) (by simp),hok,.of_eq hg⟩;refine codeAny_mono ((F _ hKb (nsK hns)).run callerA [] s₁ H ⟨[.ref a],[]⟩ [.ref a] [.ref a] _ _ hr e0 (hbind s₁ (.ref a)) (.cons rfl .nil) (hsp H hO hS)) λr s' h=>?_;cases r with
  | error e=>exact(hCX H e s' h).elim
  | ok fl=>
   cases fl with
   | next=>exact VJ h
   | brk=>exact VJ h
   | cont=>exact VJ h
   | ret u=>
    obtain⟨v,H',os,bare,un,hok',r',q⟩:=h;have q':v= .bl YD:=q;subst q';obtain rfl:u=Value.bool YD:=r';refine⟨rfl,OldK.of_keep λb o e=>?_,os,bare⟩;cases q:H b with
    | none=>exact un.keep b o e q (by intro z;exact YX (show b∈([]:List YG)from z) (by simp)) (by simp)
    | some u=>
     rcases hO b with z|⟨ob,xs,z⟩
     ·rw[q]at z;cases z
     ·have z2:=un.frzs b ob _ z
      obtain⟨e1,_⟩:=hok b _ z;obtain⟨e2,_⟩:=hok' b _ z2;rw[e]at e1;cases e1;exact e2
 cases hk:K.lookup a with
 | some o=>
  -- the script is one of the module's own objects
  have e:=KX a o hk;rw[ha]at e;cases e;refine core (λ_=>YC) (λ_=>.inl rfl) (.inr ⟨_,vs.toArray,_,hk,rfl,rfl,rfl,by rw[XF,lenV];exact hl,by simpa using rv⟩) (λb u z=>by have z':(YC:Option HO)=YB u:=z;cases z') (λb z=>YX rfl z) λz=>YX rfl z
 | none=>
  refine core (λb=>if b=a then YB (.frz { cls:=.type "list",data:=.seq vs.toArray } (.lst (ns.map V.int)))else YC) (λb=>?_) (.inl (.inr ⟨{ cls:=.type "list",data:=.seq vs.toArray },YL rfl⟩)) (λb u z=>?_) (λb z=>?_) λ_=>hk
  ·by_cases hb:b=a
   ·exact .inr ⟨_,_,YL hb⟩
   ·exact .inl (YM hb)
  ·by_cases hb:b=a
   ·have z':=(YL hb).symm.trans z
    cases z';subst hb;exact⟨ha,by rw[Xc];exact hl,vs,_,rv,ha⟩
   ·have z':=(YM hb).symm.trans z
    cases z'
  ·by_cases hb:b=a
   ·exact hb
   ·exact YX (YM hb) z
noncomputable abbrev KOf{K:Xb}{h:YH}(_:K.In h):Xb:=K
theorem Z2c{l:PySem.W.OpenLaw}{n k:Nat}{q:Qe}{loose:List Str}{XP:(Str->Option Xf)->YH->Prop}{YP:Qz->YH->Prop}{d:DefRec}{K:Params->Xb}{CX:Qz->CXT}{sp:Qz->Sp}{x:Str}
  (hn:l.most=YB n) (hn2:n≤Xz) (hdf:d.params.defaults=[]) (hr:Room k callerA)
  (hY:∀(w:Qz) (h:YH),YP w h->(K w.params).In h)
  (F:∀(w:Qz) (mg:Str->Option Xf) (fa:YG) (h:YH),(K w.params).In h->h.Ns Qj mg->mg d.name=YB (.ref fa) ->
   ∃fd:XN,(∀(s:Xg) (u:Xf),BindsTo s fd ⟨[u],[]⟩ [(x,u)])∧
    ∀base:YH,(K w.params).In base->base.Ns Qj mg->FnOk l.prog w (K w.params) mg base (CX w) k fa fd [x] (sp w))
  (hsp:∀(w:Qz) (H:Hp) (a:YG) (ns:List Int),ns.length≤n->Only H->SqL (K w.params) H a (ns.map V.int)->sp w [.ref a] H (λv _=>v= .bl YD) λ_ _ _=>False)
  (hCX:∀(w:Qz) (H:Hp) (s:Xg) (e:Xf) (s':Xg),CX w [] H s (λ_ _ _=>False) e s'->False) :
  PySem.W.WalkO q loose XP YP l.row.toRowW d [] (λf vs=>PySem.call f vs):=by
 refine Att.attach_call hn hdf λw s₀ s₁ mg mb fa o pm cd doc a vs ns G Y_a ho hd hcd hmg hobj hints hlen hg=>?_;have KX:=hY w _ Y_a;obtain⟨fd,hb,hF⟩:=F w mg fa _ KX G.T.g hmg;exact Zwi KX G.T.g G.T.b G.T.builtins G.T.nolimit hg hobj hints (Qt hlen hn2) hr hF hb (λH hO hS=>hsp w H a ns hlen hO hS) λH e s'=>hCX w H s₁ e s'
noncomputable def Zfx(s:YK):Arguments:=match s with
 | .FunctionDef _ a _ _ _ _ _ _ _ _=>a
 | _=>{ posonlyargs:=[],args:=[],vararg:=YC,kwonlyargs:=[],kw_defaults:=[],kwarg:=YC,defaults:=[] }
noncomputable def Za7(s:YK):List YK:=match s with
 | .FunctionDef _ _ b _ _ _ _ _ _ _=>b
 | _=>[]
noncomputable def Zm(s:YK):U4:=match s with
 | .FunctionDef _ _ _ _ _ _ sc _ _ _=>sc
 | _=>{ kind:=.function,names:=[],isGenerator:=YF,isCoroutine:=YF }
noncomputable abbrev CX0:CXT:=λ_ _ _ _ _ _=>False
noncomputable abbrev E0:XK:=λ_ _ _=>False
theorem Zcv{X:Cx}:Zhp CX0 X E0:=λ_ _ _ _ _ _ _ h=>h.elim
structure Fun(K:Xb)(x qual:Str)(st:YK)(f:YG)(fd:XN):Prop where
 ex:∃(oc:Xf) (od:Option YG) (kV doc pm:Xf) (an:Option YG) (cdv ct:Xf) (osl:Array (Option Xf)),
  fd=VH x qual (Zfx st) (Za7 st) (Zm st) .none kV doc pm an cdv ct∧K.lookup f=YB ⟨oc,od,.func fd,osl⟩∧PySem.W.codeIn K cdv qual=YD
 kp:Bw K (.ref f)=YD
section
variable {P:Qe}{w:Qz}{K:Xb}{mg:Str->Option Xf}{base:YH}
theorem Fun.ok{x qual:Str}{st:YK}{f:YG}{fd:XN}{N ps:List Str}{k:Nat}{sp:Sp}(F:Fun K x qual st f fd)(S:Zt N ps (Zm st))(len:∀vs H Q E,sp vs H Q E->vs.length=ps.length)
  (hbody:∀(cdv:Xf) (A:Qs) (outer:List Env) (s:Xg) (H:Hp) (vs:List V) (Q:VK) (E:XK),Room k (A.deeper (envOfC qual (Zm st) s.heap.objs.size f cdv))->sp vs H Q E ->
   ∃t,PSs (Zv2 CX0 P w K mg base N qual (Zm st) f cdv A outer s H E).nox (Za7 st) t∧t { nx:=λ_ H'=>Q .non H',rt:=Q } (start N vs) H):FnOk P w K mg base CX0 (k+1) f fd ps sp:=by
 obtain⟨oc,od,kV,doc,pm,an,cdv,ct,osl,rfl,lk,hcd⟩:=F.ex;refine Yep lk hcd S len λA outer s H vs Q E hr hsp=>?_;obtain⟨t,h,q⟩:=hbody cdv A outer s H vs Q E hr hsp;exact⟨t,h.nox,q⟩
theorem Fun.binds{x qual:Str}{st:YK}{f:YG}{fd:XN}{ps:List Str}(F:Fun K x qual st f fd)
  (h:∀(kV doc pm:Xf) (an:Option YG) (cdv ct:Xf) (us:List Xf),us.length=ps.length->bindArgs (VH x qual (Zfx st) (Za7 st) (Zm st) .none kV doc pm an cdv ct) ⟨us,[]⟩=pure (ps.zip us)):Binds K fd ps []:=by
 obtain⟨oc,od,kV,doc,pm,an,cdv,ct,osl,rfl,lk,hcd⟩:=F.ex;exact .all (h kV doc pm an cdv ct)
theorem Z8q{x qual:Str}{st:YK}{f:YG}{oc:Xf}{od an:Option YG}{osl:Array (Option Xf)}{kV doc pm cdv ct:Xf}(l:K.lookup f=YB ⟨oc,od,.func (VH x qual (Zfx st) (Za7 st) (Zm st) .none kV doc pm an cdv ct),osl⟩)
  (c:PySem.W.codeIn K cdv qual=YD) (k:Bw K (.ref f)=YD):Fun K x qual st f (VH x qual (Zfx st) (Za7 st) (Zm st) .none kV doc pm an cdv ct):=⟨⟨oc,od,kV,doc,pm,an,cdv,ct,osl,rfl,l,c⟩,k⟩
end
section
variable {X:Cx}
theorem pv(i:Nat){x:Str}{pos:Pos}(hN:X.N[i]? =YB x:=by rfl)(hv:Vis X.env.scope x:=by first|exact QD rfl|exact Qx (QD rfl)|exact Qx (Qx rfl))(hd:(x==("__debug__" : Str))=YF:=by decide)
  (hcd:(x==("__classdict__" : Str))=YF:=by decide):PE X (.Name x pos) (Yea i):=Zy5 hN hv hd hcd
end
noncomputable def Same(H H':Hp):Prop:=∀b o,H b=YB o->H' b=YB o
theorem Same.refl(H:Hp):Same H H:=λ_ _ h=>h
theorem Same.trans{H H1 H2:Hp}(a:Same H H1)(b:Same H1 H2):Same H H2:=λc o h=>b c o (a c o h)
theorem Same.free{H H':Hp}(e:Same H H'){l:YG}(h:H' l=Option.none):H l=Option.none:=by
 cases q:H l with
 | none=>rfl
 | some o=>
  rw[e l o q]at h;cases h
end L2
set_option maxHeartbeats 4000000
namespace L2
open PySem PySem.Spec PyProof.Rows
noncomputable def Bt(n:Nat)(x:Int):Prop:=x.natAbs<2^n
theorem Bt.mono{m n:Nat}{x:Int}(h:Bt m x)(hn:m≤n):Bt n x:=Qo h (Ba (by decide) hn)
theorem Bt.mul{m n:Nat}{x y:Int}(h:Bt m x)(k:Bt n y):Bt (m+n) (x*y):=by
 unfold Bt at*
 rw[Int.natAbs_mul,Nat.pow_add];exact Nat.mul_lt_mul'' h k
theorem Bt.neg{m:Nat}{x:Int}(h:Bt m x):Bt m (-x):=by
 unfold Bt at*
 rw[Int.natAbs_neg];exact h
theorem Bt.add{m n:Nat}{x y:Int}(h:Bt m x)(k:Bt n y):Bt (m+n+1) (x+y):=by
 unfold Bt at*
 have h1:2^m≤2^(m+n):=Ba (by decide) (by omega);have h2:2^n≤2^(m+n):=Ba (by decide) (by omega);have h3:2^(m+n+1)=2*2^(m+n):=by rw[Nat.pow_succ];omega
 have h4:=Int.natAbs_add_le x y;omega
theorem Bt.add'{m:Nat}{x y:Int}(h:Bt m x)(k:Bt m y):Bt (m+1) (x+y):=by
 unfold Bt at*
 have h3:2^(m+1)=2*2^m:=by rw[Nat.pow_succ];omega
 have h4:=Int.natAbs_add_le x y;omega
theorem Bt.sub'{m:Nat}{x y:Int}(h:Bt m x)(k:Bt m y):Bt (m+1) (x-y):=by
 rw[Int.sub_eq_add_neg];exact h.add' k.neg
theorem Bt.of_le{m:Nat}{x y:Int}(h:Bt m x)(k:y.natAbs≤x.natAbs):Bt m y:=Nat.lt_of_le_of_lt k h
theorem Bt.of_lt{m:Nat}{x:Int}(h1:-(2^m)<x)(h2:x<2^m):Bt m x:=by
 unfold Bt;have e:((2^m:Nat):Int)=2^m:=by simp
 omega
theorem Bt.bits{m:Nat}{x:Int}(h:Bt m x):JZ x≤m:=by
 unfold JZ;split
 ·exact QZ _
 ·rename_i hx
  have hp:x.natAbs≠0:=by
   intro e;apply hx;have:x=0:=by omega
   subst this;rfl
  have:=(Nat.log2_lt hp).mpr h;omega
theorem Bt.mulOk{m n:Nat}{x y:Int}(h:Bt m x)(k:Bt n y)(hmn:m+n≤100000000:=by decide):IntMulOk x y:=by
 have h1:=h.bits;have h2:=k.bits;have h3:Builtin.Int.intTooBig (JZ x+JZ y)=YF:=by
  unfold Builtin.Int.intTooBig bitsLine;exact YS (by omega)
 unfold IntMulOk;rw[h3];simp
noncomputable def DivOk(_ j:Int):Prop:=j≠0∧j.natAbs.log2<9000
theorem DivOk.of{i j:Int}{n:Nat}(h0:j≠0)(h:Bt n j)(hn:n≤9000:=by decide):DivOk i j:=by
 refine⟨h0,?_⟩;have hp:j.natAbs≠0:=by omega
 have:=(Nat.log2_lt hp).mpr h;omega
section
variable {X:Cx}
theorem Z1j:OpR X (Uk .Mult) (rI IntMulOk λi j=>.int (i*j)):=opI λ_ _ _ _ _ _ _ hc q=>mul_int q hc
theorem Zyj:OpR X (Uk .FloorDiv) (rI DivOk λi j=>.int (i.fdiv j)):=opI λ_ _ _ _ _ _ _ hc q=>floordiv_int hc.1 q (.inl (PyProof.noPylong_of_log2 hc.2))
theorem Z04:OpR X (Uk .Pow) (rI Ybs λi j=>.int (i^j.toNat)):=Z8u
end
theorem Zi9(elt target iter:YJ)(ifs:List YJ)(scope:U4)(pos:Pos)(it acc:Xf)(env:Env) :
  compTurn (.ListComp elt [⟨target,iter,ifs,0⟩] scope pos) 0 it acc env=(standAt iter.pos>>= λ_=>pyNext it>>= λr=>match r with
   | none=>pure (.done .next)
   | some v=>letOwnedTupleGo target it v>>= λ_=>UT target env v>>= λ_=>
    (forIn ifs YD λc r=>if r=YD then do let ok←isTrue c env (eval c env);pure (Be ok)else pure (Be r))>>= λok=>
     if ok=YD then((eval elt env>>= λx=>call (.builtin "list.append") [acc,x]>>= λ_=>pure ())>>= λ_=>
      again (.compLoop (.ListComp elt [⟨target,iter,ifs,0⟩] scope pos) 0 it acc env))
     else again (.compLoop (.ListComp elt [⟨target,iter,ifs,0⟩] scope pos) 0 it acc env)):=by rfl
theorem Zmh{prog:Qe}{w:Qz}{A:Qs}{R:Result->Xg->Prop}{s:Xg}{elt target iter:YJ}{ifs:List YJ}{scope:U4}{pos:Pos}{it acc:Xf}{env:Env}(I:Nat->Xg->Prop)
  (turn:∀n s,I n s->Qd (Ql prog w) A (pyNext it) (λr s₁=>match r with
   | none=>R (.ok .next) s₁
   | some v=>Qd (Ql prog w) A (letOwnedTupleGo target it v) (λ_ s₁=>Qd (Ql prog w) A (UT target env v) (λ_ s₂=>
     Qd (Ql prog w) A (forIn ifs YD λc r=>if r=YD then do let ok←isTrue c env (eval c env);pure (Be ok)else pure (Be r)) (λok s₃=>
      if ok=YD then Qd (Ql prog w) A (eval elt env) (λx s₄=>
       Qd (Ql prog w) A (call (.builtin "list.append") [acc,x]) (λ_ s₅=>∃m,m<n∧I m s₅) (notedBy (Ql prog w) A env λe s'=>R (.error e) s') s₄) (notedBy (Ql prog w) A env λe s'=>R (.error e) s') s₃
      else∃m,m<n∧I m s₃) (notedBy (Ql prog w) A env λe s'=>R (.error e) s') s₂) (notedBy (Ql prog w) A env λe s'=>R (.error e) s') s₁) (notedBy (Ql prog w) A env λe s'=>R (.error e) s') s₁) (notedBy (Ql prog w) A env λe s'=>R (.error e) s') s)
  (n:Nat) (h:I n s) :
  codeAny (Ql prog w) A (.compLoop (.ListComp elt [⟨target,iter,ifs,0⟩] scope pos) 0 it acc env) R s:=by
 refine codeAny_loop rfl I (λn s hI=>?_) n h;show Qd _ A ((compTurn (.ListComp elt [⟨target,iter,ifs,0⟩] scope pos) 0 it acc env).onRaise (λx=>do noteFrame x env;theTreesLotGoes x)) _ _ s;refine wpAny_noted ?_;rw[Zi9];refine Xi (wpAny_standAt (Xi (BW (turn n s hI) (λr s₁ h₁=>?_) λ_ _ h'=>h')));cases r with
 | none=>exact Qk h₁
 | some v=>
  refine Xi (BW h₁ (λ_ s₂ h₂=>?_) λ_ _ h'=>h');refine Xi (BW h₂ (λ_ s₂ h₂=>Xi (BW h₂ (λok s₃ h₃=>?_) λ_ _ h'=>h')) λ_ _ h'=>h');cases ok with
  | false=>exact Qk ⟨rfl,h₃⟩
  | true=>
   exact Xi (Xi (BW h₃ (λx s₄ h₄=>Xi (BW h₄ (λ_ s₅ h₅=>Qk (Qk ⟨rfl,h₅⟩)) λ_ _ h'=>h')) λ_ _ h'=>h'))
noncomputable def Zi5(env:Env):List (Str×BP)->List (Str×YG)->List (Str×YG)
 | [],acc=>acc
 | (n,k)::r,acc=>if k== .free then Zi5 env r ((n,(env.cells.lookup n).getD 0)::acc)else Zi5 env r acc
theorem Zk9{env:Env}:∀(names:List (Str×BP)) (acc:List (Str×YG)),(∀y∈names,y.2= .free->∃c,env.cells.lookup y.1=YB c) ->
  (forIn names acc (λ(y:Str×BP) cs=>(if y.2== .free then(cellOf env y.1>>= λc=>pure (Be ((y.1,c)::cs)))else pure (Be cs):Sem (ForInStep (List (Str×YG))))))=pure (Zi5 env names acc)
 | [],acc,_=>by rw[Uo];rfl
 | (n,k)::r,acc,h=>by
  by_cases hk:k= .free
  ·subst hk
   obtain⟨c,hc⟩:=h (n,.free) (.head _) rfl;have hc':env.cells.lookup n=YB c:=hc;have e:=Zk9 (env:=env) r ((n,c)::acc) λy hy=>h y (.tail _ hy);have ec:cellOf env n=pure c:=by
    unfold cellOf;rw[hc']
   rw[U5];simp only[beq_self_eq_true,if_true];rw[ec];simp only[Zi5,beq_self_eq_true,if_true,hc',Option.getD_some];exact e
  ·have e:=Zk9 (env:=env) r acc λy hy=>h y (.tail _ hy)
   have hb:(k==Q6)=YF:=by simpa using hk
   rw[U5];simp only[Zi5,hb,Vh,if_false];exact e
theorem Zd0{scope:U4}{env:Env}(h:∀y∈scope.names,y.2= .free->∃c,env.cells.lookup y.1=YB c):closureFor scope env=pure (Zi5 env scope.names []):=by
 have e:=Zk9 scope.names [] h;have e':(forIn scope.names ([]:List (Str×YG)) (λ(y:Str×BP) cs=>(match y with|(name,kind)=>do
   if kind== .free then do let a←cellOf env name;pure (Be ((name,a)::cs))else pure (Be cs):Sem (ForInStep (List (Str×YG))))))=pure (Zi5 env scope.names []):=e
 exact YT (λ(m:Sem (List (Str×YG)))=>m>>= λx=>pure x) e'
theorem Zkj{env:Env}:∀(names:List (Str×BP)) (acc:List (Str×YG)),(∀y∈names,y.2= .free->∃c,env.cells.lookup y.1=YB c) ->
  ∀n c,(n,c)∈Zi5 env names acc->(n,c)∈acc∨((n,Q6)∈names∧env.cells.lookup n=YB c)
 | [],acc,_,n,c,h=>.inl h
 | (m,k)::r,acc,h,n,c,hm=>by
  by_cases hk:k= .free
  ·subst hk
   obtain⟨d,hd⟩:=h (m,.free) (.head _) rfl;have hd':env.cells.lookup m=YB d:=hd;simp only[Zi5,beq_self_eq_true,if_true,hd',Option.getD_some]at hm;rcases Zkj r _ (λy hy=>h y (.tail _ hy)) n c hm with z|⟨z1,z2⟩
   ·rcases Xu.mp z with z|z
    ·cases z;exact .inr ⟨.head _,hd'⟩
    ·exact .inl z
   ·exact .inr ⟨.tail _ z1,z2⟩
  ·have hb:(k==Q6)=YF:=by simpa using hk
   simp only[Zi5,hb,Vh,if_false]at hm;refine(Zkj r _ (λy hy=>h y (.tail _ hy)) n c hm).imp id λqz9=>?_;obtain⟨z1,z2⟩:=qz9;exact⟨.tail _ z1,z2⟩
theorem Zj7{env:Env}:∀(names:List (Str×BP)) (acc:List (Str×YG)),∀p∈acc,p∈Zi5 env names acc
 | [],_,_,h=>h
 | (m,k)::r,acc,p,h=>by
  unfold Zi5;split
  ·exact Zj7 r _ p (.tail _ h)
  ·exact Zj7 r _ p h
theorem Zky{env:Env}:∀(names:List (Str×BP)) (acc:List (Str×YG)) (n:Str),(n,Q6)∈names->∃c,(n,c)∈Zi5 env names acc
 | [],_,_,h=>nomatch h
 | (m,k)::r,acc,n,h=>by
  rcases Xu.mp h with z|z
  ·cases z
   exact⟨_,by
    simp only[Zi5,beq_self_eq_true,if_true];exact Zj7 _ _ _ (.head _)⟩
  ·unfold Zi5
   split
   ·exact Zky r _ n z
   ·exact Zky r _ n z
theorem Zge{env:Env}(inj:∀x y c,env.cells.lookup x=YB c->env.cells.lookup y=YB c->x=y):∀(names:List (Str×BP)) (acc:List (Str×YG)),
  (∀ y∈names,y.2= .free->∃c,env.cells.lookup y.1=YB c)->(names.map (·.1)).Nodup->(∀p∈acc,env.cells.lookup p.1=YB p.2)->(∀p∈acc,p.1∉names.map (·.1))->(acc.Pairwise λx y=>x.2≠y.2) ->
  (Zi5 env names acc).Pairwise λx y=>x.2≠y.2
 | [],_,_,_,_,_,h=>h
 | (m,k)::r,acc,hf,hn,ha,hd,hp=>by
  rw[Qg,Qy]at hn;have hf':∀y∈r,y.2= .free->∃c,env.cells.lookup y.1=YB c:=λy hy=>hf y (.tail _ hy);have hd':∀p∈acc,p.1∉r.map (·.1):=λp hp z=>hd p hp (by rw[Qg];exact .tail _ z)
  by_cases hk:k= .free
  ·subst hk
   obtain⟨d,hd0⟩:=hf (m,.free) (.head _) rfl;have hd1:env.cells.lookup m=YB d:=hd0;simp only[Zi5,beq_self_eq_true,if_true,hd1,Option.getD_some];refine Zge inj r _ hf' hn.2 (λp hp'=>?_) (λp hp'=>?_) (List.pairwise_cons.mpr ⟨λp hp' z=>?_,hp⟩)
   ·rcases Xu.mp hp' with rfl|hp'
    ·exact hd1
    ·exact ha p hp'
   ·rcases Xu.mp hp' with rfl|hp'
    ·exact hn.1
    ·exact hd' p hp'
   ·have e:m=p.1:=inj m p.1 d hd1 (by rw[ha p hp',←z])
    exact hd p hp' (by rw[Qg,←e];exact .head _)
  ·have hb:(k==Q6)=YF:=by simpa using hk
   simp only[Zi5,hb,Vh,if_false];exact Zge inj r _ hf' hn.2 ha hd' hp
structure Zqk(h:YH)(lo:Nat)(names:List (Str×BP))(acc cs:List (Str×YG)):Prop where
 mem:∀n c,(n,c)∈cs->(n,c)∈acc∨(h.IsCell c YC∧lo≤c∧(n,Bs)∈names)
 has:∀n,(n,Bs)∈names->∃c,(n,c)∈cs
 old:∀p∈acc,p∈cs
theorem Zgl:∀(names:List (Str×BP)) (h:YH) (lo:Nat) (acc:List (Str×YG)),lo≤h.objs.size->Zqk (Vm h names) lo names acc (Br h.objs.size names acc)
 | [],_,_,_,_=>⟨λ_ _ m=>.inl m,(λ_ m=>nomatch m),λ_ m=>m⟩
 | (name,kind)::r,h,lo,acc,hlo=>by
  by_cases hk:(kind==Bs)=YD
  ·have ek:kind= .cell:=by simpa using hk
   subst ek;have ih:=Zgl r (h.push { cls:=.type "cell",data:=.cell YC }) lo ((name,h.objs.size)::acc) (by rw[JM];omega);rw[JM]at ih;have e1:Br h.objs.size ((name,.cell)::r) acc=Br (h.objs.size+1) r ((name,h.objs.size)::acc):=by
    rw[Br,YL hk]
   have e2:Vm h ((name,.cell)::r)=Vm (h.push { cls:=.type "cell",data:=.cell YC }) r:=by
    rw[Vm,YL hk]
   rw[e1,e2];refine⟨λn c m=>?_,λn m=>?_,λp m=>ih.old p (.tail _ m)⟩
   ·rcases ih.mem n c m with z|⟨z1,z2,z3⟩
    ·rcases Xu.mp z with z|z
     ·cases z
      exact .inr ⟨⟨_,pushCells_keeps _ _ _ _ (Qi _ rfl),rfl⟩,hlo,.head _⟩
     ·exact .inl z
    ·exact .inr ⟨z1,z2,.tail _ z3⟩
   ·rcases Xu.mp m with z|z
    ·cases z
     exact⟨_,ih.old _ (.head _)⟩
    ·exact ih.has n z
  ·have ih:=Zgl r h lo acc hlo
   have e1:Br h.objs.size ((name,kind)::r) acc=Br h.objs.size r acc:=by
    rw[Br,YM hk]
   have e2:Vm h ((name,kind)::r)=Vm h r:=by
    rw[Vm,YM hk]
   rw[e1,e2];refine⟨λn c m=>(ih.mem n c m).imp id λ⟨z1,z2,z3⟩=>⟨z1,z2,.tail _ z3⟩,λn m=>?_,ih.old⟩;rcases Xu.mp m with z|z
   ·cases z
    exact YX rfl hk
   ·exact ih.has n z
theorem Zh2(names:List (Str×BP)):∀(h:YH) (acc:List (Str×YG)),(acc.Pairwise λx y=>x.2≠y.2)->(∀p∈acc,p.2<h.objs.size)->(Br h.objs.size names acc).Pairwise λx y=>x.2≠y.2:=by
 induction names with
 | nil=>intro h acc ha _;exact ha
 | cons y r ih=>
  intro h acc ha hb;obtain⟨name,kind⟩:=y;unfold Br;split
  ·have:=ih (h.push { cls:=.type "cell",data:=.cell YC }) ((name,h.objs.size)::acc) (List.pairwise_cons.mpr ⟨λp hp=>X4 (hb p hp),ha⟩) (λp hp=>by
    rw[JM];rcases Xu.mp hp with rfl|hp
    ·exact Vv _
    ·exact Nat.lt_succ_of_lt (hb p hp))
   rwa[JM]at this
  ·exact ih h acc ha hb
theorem Zja{M:Model}{A:Qs}{E:Xf->Xg->Prop}{s:Xg}{scope:U4}{globals:YG}{cl:List (Str×YG)}{qual:Str}{env:Env}{Q:Env->Xg->Prop}
  (hQ:Q (newEnv scope s.heap.objs.size globals (Br (s.heap.objs.size+1) scope.names cl) qual YC .none (YB env) builtinsNs)
   { s with heap:=Vm (s.heap.push { cls:=.type "dict",data:=.dict #[] }) scope.names }) :
  Qd M A (newFunctionEnv scope globals cl [] qual YC .none (YB env)) Q E s:=by
 simp only[newFunctionEnv,Option.isSome_some,if_true];refine Xi (wpAny_alloc ?_);refine Xi (wpAny_layCells _ (λname kind cells=>by cases hkc:kind==Bs<;>simp[hkc]) _ _ _ _ ?_);rw[show({ s with heap:=s.heap.push { cls:=.type "dict",data:=.dict #[] } }:Xg).heap.objs.size=s.heap.objs.size+1 from JM ..];rw[Uo];exact Xi (Qk (Qk hQ))
noncomputable def Ww(X:Cx)(N':List Str)(sc:U4)(C:YG)(cells:List (Str×YG))(s₂:Xg)(H₂:Hp)(fp:List YG):Cx :=
 { X with N:=N',s₀:=s₂,H₀:=H₂,env:=compEnvC sc cells C X.env,outer:=X.stack,stack:=X.stack,ex:=fp,fn:=λx=>sc.names.lookup x==YB .cell,pn:=[],xe:=λ_ _=>False }
theorem Zd2{env:Env}:∀{names:List (Str×BP)} {x:Str} {k:BP},names.lookup x=YB k ->
  (names.map λ(n,k)=>if(k==Q6&&env.scope.kind== .function&&env.kindOf n==YB .cell)then(n,Bs)else(n,k)).lookup x=
   YB (if(k==Q6&&env.scope.kind== .function&&env.kindOf x==YB .cell)then Bs else k)
 | [],_,_,h=>by simp at h
 | (n,k')::r,x,k,h=>by
  have ih:=@Zd2 env r x k;show List.lookup x ((if(k'==Q6&&env.scope.kind== .function&&env.kindOf n==YB .cell)=YD then(n,Bs)else(n,k'))::_)=_;cases hx:x==n with
  | true=>
   simp only[Q7,hx]at h;cases h;have e:=YZ.mp hx;subst e;split<;>simp[Q7]
  | false=>
   simp only[Q7,hx]at h;split
   ·simp only[Q7,hx];exact ih h
   ·simp only[Q7,hx];exact ih h
theorem Zgs{env:Env}:∀{names:List (Str×BP)} {x:Str},names.lookup x=YC ->
  (names.map λ(n,k)=>if(k==Q6&&env.scope.kind== .function&&env.kindOf n==YB .cell)then(n,Bs)else(n,k)).lookup x=YC
 | [],_,_=>rfl
 | (n,k')::r,x,h=>by
  have ih:=@Zgs env r x;show List.lookup x ((if(k'==Q6&&env.scope.kind== .function&&env.kindOf n==YB .cell)=YD then(n,Bs)else(n,k'))::_)=_;cases hx:x==n with
  | true=>
   simp only[Q7,hx]at h;cases h
  | false=>
   simp only[Q7,hx]at h;split
   ·simp only[Q7,hx];exact ih h
   ·simp only[Q7,hx];exact ih h
theorem Zep{α:Type}:∀{l:List (Str×α)} {n:Str} {c:α},(l.map (·.1)).Nodup->(n,c)∈l->l.lookup n=YB c
 | (k,v)::r,n,c,hd,h=>by
  rw[Qg,Qy]at hd;rcases Xu.mp h with e|hr
  ·cases e
   simp[Q7]
  ·have hne:(n==k)=YF:=by
    refine Vq.mpr λz=>hd.1 ?_;have e:n=k:=YZ.mp z;rw[←e];exact XD.mpr ⟨(n,c),hr,rfl⟩
   rw[Q7,hne];exact Zep hd.2 hr
theorem Y6{α:Type}:∀{l:List (Str×α)} {n:Str} {c:α},(n,c)∈l->∃d,l.lookup n=YB d∧(n,d)∈l
 | (k,v)::r,n,c,h=>by
  by_cases e:n=k
  ·subst e
   exact⟨v,by simp[Q7],List.mem_cons_self⟩
  ·have hne:(n==k)=YF:=by simpa using e
   rcases Xu.mp h with z|z
   ·cases z;exact YX rfl e
   ·obtain⟨d,h1,h2⟩:=Y6 z
    exact⟨d,by rw[Q7,hne];exact h1,.tail _ h2⟩
structure CompScope(X:Cx)(own:List Str)(caps:List Nat)(N':List Str)(sc:U4):Prop where
 kind:sc.kind= .function
 nd:N'.Nodup
 names:N'=own++caps.map λi=>X.N.getD i Str.empty
 nn:(sc.names.map (·.1)).Nodup
 free:(sc.names.all λy=>y.2 != .free||(X.env.kindOf y.1==YB .cell||X.env.kindOf y.1==YB .free))=YD
 caps:(caps.all λi=>sc.names.lookup (X.N.getD i Str.empty)==YB .free)=YD
noncomputable def Zam(own:List Str)(caps:List Nat)(Y:St):St:=own.map (λ_=>YC)++caps.map λi=>(Y[i]?).getD YC
section
variable {X:Cx}{own:List Str}{caps:List Nat}{N':List Str}{sc:U4}
theorem CompScope.lk(S:CompScope X own caps N' sc){n:Str}{k:BP}(h:(n,k)∈sc.names):sc.names.lookup n=YB k:=Zep S.nn h
theorem CompScope.fr(S:CompScope X own caps N' sc){n:Str}(h:(n,Q6)∈sc.names):X.env.kindOf n=YB .cell∨X.env.kindOf n=YB .free:=by
 have:=Vd.mp S.free _ h;simpa using this
theorem Zq9{pins:List (YG×Obj)}{Y:St}{H:Hp}{s:Xg}{fp:List YG}{cl:List (Str×YG)}(S:CompScope X own caps N' sc)(I:Inv X pins Y H s)
  (f:∀b∈fp,Zlj X pins H b) (fo:∀b∈fp,∃o,s.heap.get? b=YB o)
  (hcl:∀n c,(n,c)∈cl->(n,Q6)∈sc.names∧X.env.cells.lookup n=YB c) (hcl2:∀n,(n,Q6)∈sc.names->∃c,(n,c)∈cl) (hapart:cl.Pairwise λx y=>x.2≠y.2) :
  Inv (Ww X N' sc (s.heap.objs.size+1) (Br (s.heap.objs.size+2) sc.names cl) s H fp) [] (Zam own caps Y) (upd H s.heap.objs.size (.lst []))
   { s with heap:=Vm ((s.heap.push { cls:=.type "list",data:=.seq #[] }).push { cls:=.type "dict",data:=.dict #[] }) sc.names }:=by
 generalize hh1:s.heap.push { cls:=.type "list",data:=.seq #[] }=h1;have z1:h1.objs.size=s.heap.objs.size+1:=by rw[←hh1,JM]
 generalize hh2:h1.push { cls:=.type "dict",data:=.dict #[] }=h2;have z2:h2.objs.size=s.heap.objs.size+2:=by rw[←hh2,JM,z1]
 have BC:=Zgl sc.names h2 (s.heap.objs.size+2) cl (by omega);have AP:=Zh2 sc.names h2 cl hapart (λp hp=>by
  obtain⟨v,hv⟩:=I.cell p.1 p.2 (hcl p.1 p.2 hp).2;exact Qo hv.lt (by omega))
 rw[z2]at BC AP;have keep:∀b o,s.heap.get? b=YB o->(Vm h2 sc.names).get? b=YB o:=λb o e=>pushCells_keeps _ _ _ _ (by
  rw[←hh2];refine Xo _ ?_;rw[←hh1];exact Xo _ e)
 have hD:(Vm h2 sc.names).get? s.heap.objs.size=YB { cls:=.type "list",data:=.seq #[] }:=pushCells_keeps _ _ _ _ (by
  rw[←hh2];refine Xo _ ?_;rw[←hh1];exact Qi _ rfl)
 have hC:(Vm h2 sc.names).Ns (s.heap.objs.size+1) (λ_=>YC):=by
  refine Heap.Ns.keeps ?_ (pushCells_keeps _ _);have:=Heap.Ns.new h1 (.type "dict");rw[hh2,z1]at this;exact this
 have cellOld:∀n c,X.env.cells.lookup n=YB c->c<s.heap.objs.size:=λn c e=>by
  obtain⟨v,hv⟩:=I.cell n c e;exact hv.lt
 have lk':∀n c,(Br (s.heap.objs.size+2) sc.names cl).lookup n=YB c->(n,c)∈Br (s.heap.objs.size+2) sc.names cl:=λn c e=>Bh e;have hnD:H s.heap.objs.size=YC:=I.fresh;have fresh:∀c,s.heap.objs.size<c->upd H s.heap.objs.size (.lst []) c=YC:=λc hc=>by
  rw[Zy (X4 hc)];exact I.hok.fresh (Nat.le_of_lt hc)
 have isc:∀n c,(n,c)∈Br (s.heap.objs.size+2) sc.names cl->∃v,(Vm h2 sc.names).IsCell c v:=λn c m=>by
  rcases BC.mem n c m with z|⟨z,_⟩
  ·obtain⟨v,hv⟩:=I.cell n c (hcl n c z).2
   exact⟨v,hv.keeps keep⟩
  ·exact⟨YC,z⟩
 have okH:HOk X.prog X.w (upd H s.heap.objs.size (.lst [])) (Vm h2 sc.names):=by
  refine I.hok.laid keep (X6 _) ?_;exact⟨QZ _,[],0,.nil,hD⟩
 have kinds:∀x k,sc.names.lookup x=YB k->(relabel sc X.env).names.lookup x=YB (if(k==Q6&&X.env.scope.kind== .function&&X.env.kindOf x==YB .cell)then Bs else k):=λx k e=>Zd2 e;have kindsR:∀x k,(relabel sc X.env).names.lookup x=YB k->∃k',(x,k')∈sc.names∧k=(if(k'==Q6&&X.env.scope.kind== .function&&X.env.kindOf x==YB .cell)then Bs else k'):=λx k e=>by
  cases q:sc.names.lookup x with
  | none=>
   have:=Zgs (env:=X.env) q;rw[show(relabel sc X.env).names.lookup x=_ from this]at e;cases e
  | some k'=>
   refine⟨k',Bh q,?_⟩;rw[kinds x k' q]at e;exact(QR e).symm
 refine⟨⟨I.ok.mod,S.kind,I.ok.glob,I.ok.blt,?_,?_,?_,?_,I.ok.hd,I.ok.frames,.inl rfl,?_,?_,?_,?_,?_,?_,?_⟩,rfl,I.bare,?_,?_,?_,?_,?_,(λp hp=>nomatch hp),okH,?_⟩
 ·show s.heap.objs.size≤s.heap.objs.size+1;omega
 ·intro x y c e1 e2
  exact name_of_addr AP (lk' x c e1) (lk' y c e2)
 ·intro x hx
  rcases hx with hx|hx
  ·obtain⟨k',hm,hk'⟩:=kindsR x _ hx
   cases k' with
   | cell=>
    obtain⟨c,hc⟩:=BC.has x hm;obtain⟨d,h1,_⟩:=Y6 hc;exact⟨d,h1⟩
   | free=>
    obtain⟨c,hc⟩:=hcl2 _ hm;obtain⟨d,h1,_⟩:=Y6 (BC.old _ hc);exact⟨d,h1⟩
   | _=>simp at hk'
  ·obtain⟨k',hm,hk'⟩:=kindsR x _ hx
   cases k' with
   | free=>
    obtain⟨c,hc⟩:=hcl2 _ hm;obtain⟨d,h1,_⟩:=Y6 (BC.old _ hc);exact⟨d,h1⟩
   | _=>simp at hk'
 ·intro x c hf e
  have hf':sc.names.lookup x=YB .cell:=by simpa [Ww]using hf
  rcases BC.mem x c (lk' x c e)with z|⟨_,z,_⟩
  ·-- a free one and a cell at once: the name stands once
   exfalso;have q:=S.lk (hcl x c z).1;rw[hf']at q;cases q
  ·show s.heap.objs.size≤c;omega
 ·intro b hb
  obtain⟨o,ho⟩:=fo b hb;have hlt:=XH ho;refine⟨Xy (Nat.lt_trans hlt (Vv _)),λx c e z=>?_⟩;rcases BC.mem x c (lk' x c e)with q|⟨_,q,_⟩
  ·exact(f b hb).2.2.2.2.1 x c (hcl x c q).2 z
  ·subst z
   exact YX hlt (Nat.not_lt.mpr (Qt (V1 _ 2) q))
 ·exact I.bs
 ·exact Qt I.ok.bsz I.sz
 ·intro b o e hb
  rcases(f b hb).2.2.2.1 with z|z
  ·exact I.ok.noex b o e z
  ·exact YX (Qo (XH e) I.ok.bsz) (Nat.not_lt.mpr z)
 ·intro b hb z
  rcases Xu.mp (I.stkSub b z)with q|q
  ·exact(f b hb).2.1 q
  ·exact(f b hb).2.2.1 q
 ·exact I.stack
 ·exact I.stkFree
 ·exact Un.laid keep (X6 _) hnD
 ·refine⟨_,hC,λi x v e1 e2 e3=>?_⟩
  have e1':(own++caps.map λi=>X.N.getD i Str.empty)[i]? =YB x:=by rw[←S.names];exact e1
  have e2':(own.map (λ_=>(YC:Option V))++caps.map λi=>(Y[i]?).getD YC)[i]? =YB (YB v):=e2
  by_cases hi:i<own.length
  ·rw[Vo (by simpa using hi),Xl]at e2'
   cases q:own[i]? with
   | none=>rw[q]at e2';cases e2'
   | some y=>rw[q]at e2';cases e2'
  ·rw[Bl (by simpa using hi),Xl]at e2'
   rw[Bl (by omega),Xl]at e1';rw[Xc]at e2';cases q:caps[i-own.length]? with
   | none=>rw[q]at e2';cases e2'
   | some j=>
    rw[q]at e1' e2';have e1:X.N.getD j Str.empty=x:=QR e1';have e2:(Y[j]?).getD YC=YB v:=QR e2';have e4:Y[j]? =YB (YB v):=by
     cases r:Y[j]? with
     | none=>rw[r]at e2;cases e2
     | some o=>rw[r]at e2;exact YT YB e2
    have hj:j<X.N.length:=by rw[←I.len];exact(Xw.mp e4).1
    have e5:X.N[j]? =YB x:=by rw[←e1];simp[Xe,hj]
    have hc:=Vd.mp S.caps j (Qn q);have e6:sc.names.lookup x=YB .free:=by rw[←e1];simpa using hc
    have hm:=Bh e6;have kx:=S.fr hm;obtain⟨m,hn,hl⟩:=I.loc;obtain⟨u,ru,lo⟩:=hl j x v e5 e4 (by rcases kx with z|z;exact .inr (.inl z);exact .inr (.inr z));refine⟨u,ru,.inr ⟨?_,?_⟩⟩
    ·have:=kinds x _ e6
     show(relabel sc X.env).names.lookup x=_∨(relabel sc X.env).names.lookup x=_;rw[this];split
     ·exact .inl rfl
     ·exact .inr rfl
    ·rcases lo with⟨z,_⟩|⟨_,c,hc1,hc2⟩
     ·rcases kx with w|w<;>(rw[w]at z;cases z)
     ·obtain⟨d,hd⟩:=hcl2 x hm
      obtain⟨d',h1,h2⟩:=Y6 (BC.old _ hd);refine⟨d',h1,?_⟩;rcases BC.mem x d' h2 with w|⟨_,_,w⟩
      ·have w':=(hcl x d' w).2
       rw[hc1]at w';cases w';exact hc2.keeps keep
      ·have:=S.lk w
       rw[e6]at this;cases this
 ·intro x c e
  exact isc x c (lk' x c e)
 ·exact fresh _ (Vv _)
 ·intro x c e
  rcases BC.mem x c (lk' x c e)with z|⟨_,z,_⟩
  ·have e':=(hcl x c z).2
   have hlt:=cellOld x c e';rw[Zy (Xy hlt)];exact I.freeC x c e'
  ·exact fresh c (by omega)
 ·show(Zam own caps Y).length=N'.length
  rw[S.names];unfold Zam;simp
end
noncomputable def Z1h(J:It)(g:TG)(tt:TT)(te:TE)(Y0:St)(D:YG)(Q:Hp->Prop)(H1:Hp):Prop :=
 ∃W:Nat->Nat->St->Hp->Prop,(∃m,W 0 m Y0 (upd H1 D (.lst [])))∧∀i m Y' H',W i m Y' H' ->
  (J.stop i H'∧Q H')∨(J.go i H'∧∀x H2,J.yld i H' x H2->g x Y' H2 λY2 H3=>tt Y2 H3 λb H4=>
   if b=YD then te Y2 H4 λy H5=>∃ys,H5 D=YB (.lst ys)∧ys.length<Xz∧∃m',m'<m∧W (i+1) m' Y2 (upd H5 D (.lst (ys++[y])))
   else∃m',m'<m∧W (i+1) m' Y2 H4)
noncomputable def Z16(own:List Str)(caps:List Nat)(wi:TI)(g:TG)(tt:TT)(te:TE):TE:=λY H Q=>wi Y H λJ H1=>∀D,H1 D=YC->Z1h J g tt te (Zam own caps Y) D (Q (.ref D)) H1
noncomputable def Yeq:TT:=λ_ H Q=>Q YD H
noncomputable def Z45(X:Cx)(ifs:List YJ)(t:TT):Prop :=
 ∀(pins:List (YG×Obj)) (s:Xg) (Y:St) (H:Hp) (Q:Bool->Hp->Prop),Inv X pins Y H s->t Y H Q ->
  Qd (Ql X.prog X.w) X.A (forIn ifs YD λc r=>if r=YD then do let ok←isTrue c X.env (eval c X.env);pure (Be ok)else pure (Be r)) (TP X pins Y Q) X.xe s
theorem Z2w{X:Cx}:Z45 X [] Yeq:=λpins s Y H Q I h=>by
 rw[Uo];exact Qk ⟨H,I,h⟩
theorem Z3i{X:Cx}{c:YJ}{t:TT}(h:PT X c t):Z45 X [c] t:=λpins s Y H Q I q=>wpAny_tests_one (h pins s Y H Q I q)
theorem Z3p{M:Model}{A:Qs}{α:Type}{t:Sem α}{Q Q':α->Xg->Prop}{E:Xf->Xg->Prop}{s:Xg}(h:Qd M A t Q (λ_ _=>False) s)(hQ:∀a s,Q a s->Q' a s):Qd M A t Q' E s :=
 BW h hQ λ_ _ z=>z.elim
section
variable {X:Cx}{own:List Str}{caps:List Nat}{N':List Str}{sc:U4}{tg elt iter:YJ}{ifs:List YJ}{pos:Pos}{wi:TI}{g:TG}{tt:TT}{te:TE}
theorem Zpq{pins p':List (YG×Obj)}{Y Y':St}{H H':Hp}{s s':Xg}{fp:List YG}{C:YG}{cells:List (Str×YG)}{h':YH}(I:Inv X pins Y H s)(f:∀b∈fp,Zlj X pins H b)
  (I':Inv (Ww X N' sc C cells s H fp) p' Y' H' s') (hs:VP C s'.heap h'):Inv X pins Y H' { s' with heap:=h' }:=by
 have hC:s.heap.objs.size≤C:=I'.ok.above;have B:=I'.base;have ne:∀b o,s.heap.get? b=YB o->b≠C:=λb o e=>Xy (Qo (XH e) hC);obtain⟨m,⟨oC,_,_,hoC,_⟩,_⟩:=I'.loc;refine I.call' (ch:=fp) (s':={ s' with heap:=h' }) I'.os ⟨λb o e n hb hx=>?_,λb o e n hb hx=>?_,B.free,λb o e hx=>?_,B.tups,B.frzs,B.tbls⟩ (λb ob e=>?_) I'.bare λb hb=>?_
 ·exact(hs.2 b (ne b o e)).trans (B.keep b o e n hb hx)
 ·obtain⟨sl,q⟩:=B.slot b o e n hb hx
  exact⟨sl,(hs.2 b (ne b o e)).trans q⟩
 ·obtain⟨o',q⟩:=B.there b o e hx
  exact⟨o',(hs.2 b (ne b o e)).trans q⟩
 ·have hfree:H' C=YC:=I'.free
  refine(I'.hok b ob e).stay (λc w' hc q=>(hs.2 c ?_).trans q) (λ_ q=>q) λ_ _ q=>q;rintro rfl;rcases hc with rfl|hc
  ·rw[hfree]at e;cases e
  ·rw[hfree]at hc;cases hc
 ·obtain⟨_,f1,_,f3,f4,f5⟩:=f b hb
  exact⟨f3,f1,f4,f5⟩
theorem Zj1{Qf:Result->Xg->Prop}(S:CompScope X own caps N' sc)(hc:X.calm=YD)
  (hg:∀C cells s₂ H₂ fp,PG (Ww X N' sc C cells s₂ H₂ fp) tg g) (ht:∀C cells s₂ H₂ fp,Z45 (Ww X N' sc C cells s₂ H₂ fp) ifs tt) (he:∀C cells s₂ H₂ fp,PE (Ww X N' sc C cells s₂ H₂ fp) elt te)
  {pins:List (YG×Obj)} {Y:St} {H:Hp} {s:Xg} {fp:List YG} {it:YG} {tn:Nat->YH->Prop} {J:It} {Q:Hp->Prop} (I:Inv X pins Y H s) (T:Turn X.prog X.w X.K tg J fp it tn) (st:tn 0 s.heap) (f:∀b∈fp,Zlj X pins H b)
  (h:Z1h J g tt te (Zam own caps Y) s.heap.objs.size Q H)
  (fin:∀s' Y' H' p' C cells,Inv (Ww X N' sc C cells s H fp) p' Y' H' s'->C=s.heap.objs.size+1->Q H'->Qf (.ok .next) s') :
  Qd (Ql X.prog X.w) X.A (newFunctionEnv sc X.env.globals (Zi5 X.env sc.names []) [] X.env.qual YC .none (YB X.env)) (λcenv s₄=>
   cenv.locals=s.heap.objs.size+1∧codeAny (Ql X.prog X.w) X.A (.compStart (.ListComp elt [⟨tg,iter,ifs,0⟩] sc pos) 0 (.ref it) (.ref s.heap.objs.size) { cenv with scope:=relabel sc X.env }) Qf s₄) X.xe
    { s with heap:=s.heap.push { cls:=.type "list",data:=.seq #[] } }:=by
 have hf:∀y∈sc.names,y.2= .free->∃c,X.env.cells.lookup y.1=YB c:=λy hy e=>by
  obtain⟨n,k⟩:=y;have e':k= .free:=e;subst e';exact I.ok.has n (S.fr hy)
 have hcl:∀n c,(n,c)∈Zi5 X.env sc.names []->(n,Q6)∈sc.names∧X.env.cells.lookup n=YB c:=λn c m=>(Zkj sc.names [] hf n c m).elim (λz=>nomatch z) id;have hap:=Zge I.ok.inj sc.names [] hf S.nn (λ_ z=>nomatch z) (λ_ z=>nomatch z) .nil;have I0:=Zq9 (cl:=Zi5 X.env sc.names []) S I f (λb hb=>let⟨o,e,_⟩:=T.obj _ _ st b hb;⟨o,e⟩) hcl (λn m=>Zky sc.names [] n m) hap;refine Zja ?_;rw[show({ s with heap:=s.heap.push { cls:=.type "list",data:=.seq #[] } }:Xg).heap.objs.size=s.heap.objs.size+1 from JM ..];refine⟨rfl,?_⟩;dsimp only;generalize hs0:({ s with heap:=Vm ((s.heap.push { cls:=.type "list",data:=.seq #[] }).push { cls:=.type "dict",data:=.dict #[] }) sc.names }:Xg)=s0 at I0⊢;have st0:tn 0 s0.heap:=T.keep _ _ _ st λb hb o e=>by
  rw[←hs0];exact pushCells_keeps _ _ _ _ (Xo _ (Xo _ e))
 generalize hcells:Br (s.heap.objs.size+1+1) sc.names (Zi5 X.env sc.names [])=cells at I0⊢
 -- the loop
 obtain⟨W,⟨m0,w0⟩,turn⟩:=h;have loop:codeAny (Ql X.prog X.w) X.A (.compLoop (.ListComp elt [⟨tg,iter,ifs,0⟩] sc pos) 0 (.ref it) (.ref s.heap.objs.size) (Ww X N' sc (s.heap.objs.size+1) cells s H fp).env) Qf s0:=by
  generalize hX':Ww X N' sc (s.heap.objs.size+1) cells s H fp=X' at I0⊢;have hg':=hg (s.heap.objs.size+1) cells s H fp;have ht':=ht (s.heap.objs.size+1) cells s H fp;have he':=he (s.heap.objs.size+1) cells s H fp;have fin':=λs' Y' H' p' (z:Inv (Ww X N' sc (s.heap.objs.size+1) cells s H fp) p' Y' H' s')=>fin s' Y' H' p' _ _ z rfl;rw[hX']at hg' ht' he' fin';have hxe:X'.xe= λ_ _=>False:=by rw[←hX'];rfl
  have hpr:X'.prog=X.prog:=by rw[←hX'];rfl
  have hw:X'.w=X.w:=by rw[←hX'];rfl
  have hK:X'.K=X.K:=by rw[←hX'];rfl
  have hA:X'.A=X.A:=by rw[←hX'];rfl
  have hcm:X'.calm=YD:=by rw[←hX'];exact hc
  have hex:X'.ex=fp:=by rw[←hX'];rfl
  have hpn:X'.pn=[]:=by rw[←hX'];rfl
  have stat:∀{H':Hp},(∀b∈fp,H' b=YC)->∀b∈fp,Zlj X' [] H' b:=λhn b hb=>by
   have e1:=I0.ok.exf b (by rw[hex];exact hb);have e2:=I0.ok.exfs b (by rw[hex];exact hb);exact⟨hn b hb,e1.1,e2,.inl (by rw[hex];exact hb),e1.2,λp hp=>by rw[hpn]at hp;exact nomatch hp⟩
  have frD:∀b∈fp,(upd H s.heap.objs.size (.lst [])) b=YC:=λb hb=>by
   obtain⟨o,e,_⟩:=T.obj _ _ st b hb;rw[Zy (Xy (XH e))];exact(f b hb).1
  have T':Turn X'.prog X'.w X'.K tg J fp it tn:=by rw[hpr,hw,hK];exact T
  rw[←hpr,←hw,←hA];refine Zmh (λn s'=>∃i Y' H',Inv X' [] Y' H' s'∧tn i s'.heap∧(∀b∈fp,H' b=YC)∧W i n Y' H') ?_ m0 ⟨0,_,_,I0,st0,frD,w0⟩;rintro n s3 ⟨i,Y3,H3,I3,st3,fr3,w3⟩;rcases turn i n Y3 H3 w3 with⟨stop,qn⟩|⟨go,step⟩
  ·refine Z3p (T'.done X' rfl rfl rfl hcm i [] s3 Y3 H3 _ I3 (stat fr3) st3 stop) λr s4 qz9=>?_
   obtain⟨hr,I4⟩:=qz9;subst hr;exact fin' s4 Y3 H3 [] I4 qn
  ·refine Z3p (T'.item X' rfl rfl rfl hcm i [] s3 Y3 H3 _ I3 (stat fr3) st3 go) λr s4 qz9=>?_
   obtain⟨u,hr,h4⟩:=qz9;subst hr;refine Z3p h4 λ_ s5 qz9=>?_;obtain⟨x,H5,I5,r5,y5,st5,fr5⟩:=qz9;have I5':=I5.pinned (stat fr5) (T.obj _ _ st5);have hgg:=hg' _ s5 Y3 H5 x u _ I5' r5 (step x H5 y5);rw[hxe]at hgg;refine Z3p hgg λ_ s6 qz9=>?_;obtain⟨Y6,H6,I6,q6⟩:=qz9;have htt:=ht' _ s6 Y6 H6 _ I6 q6;rw[hxe]at htt;refine Z3p htt λok s7 qz9=>?_;obtain⟨H7,I7,q7⟩:=qz9;have again:∀{Y7:St} {H7:Hp} {s7:Xg} {m:Nat},Inv X' ([]++Zmi fp s5.heap) Y7 H7 s7->W (i+1) m Y7 H7->m<n->∃m,m<n∧∃i Y' H',Inv X' [] Y' H' s7∧tn i s7.heap∧(∀b∈fp,H' b=YC)∧W i m Y' H':=fun{Y7 H7 s7 m} I7 w7 hm=>by
    refine⟨m,hm,i+1,Y7,H7,I7.unpinned,T.keep _ _ _ st5 λb hb o e=>(I7.pin (b,o) (QC _ (QC _ (Zdo hb e)))).1,λb hb=>?_,w7⟩;obtain⟨o,e,d⟩:=T.obj _ _ st5 b hb;exact(I7.pin (b,o) (QC _ (QC _ (Zdo hb e)))).2.1
   cases ok with
   | false=>
    obtain⟨m',hm,w7⟩:=q7;rw[YM XC];exact again I7 w7 hm
   | true=>
    rw[YL rfl];have hee:=he' _ s7 Y6 H7 _ I7 q7;rw[hxe]at hee;refine Z3p hee λy s8 qz9=>?_;obtain⟨vy,H8,I8,r8,ys,hD,hlen,m',hm,w8⟩:=qz9;have hap:=Zl9 (X:=X') _ s8 Y6 H8 (.ref s.heap.objs.size) [vy] (.ref s.heap.objs.size) [y] (λ_ H'=>W (i+1) m' Y6 H') I8 rfl (.cons r8 .nil) ⟨_,ys,vy,rfl,rfl,hD,hlen,w8⟩;rw[hxe]at hap;refine Z3p hap λz s9 qz9=>?_;obtain⟨_,H9,I9,_,w9⟩:=qz9;exact again I9 w9 hm
 exact codeAny_compStart_list loop (T.self _ 0 _ _ _ st0 loop)
theorem Z4h(S:CompScope X own caps N' sc)(hc:X.calm=YD)(hi:PI X tg iter wi)
  (hg:∀C cells s₂ H₂ fp,PG (Ww X N' sc C cells s₂ H₂ fp) tg g) (ht:∀C cells s₂ H₂ fp,Z45 (Ww X N' sc C cells s₂ H₂ fp) ifs tt) (he:∀C cells s₂ H₂ fp,PE (Ww X N' sc C cells s₂ H₂ fp) elt te)
  (hs:∀x,BV iter X.env x=pure x:=by intro _;rfl):PE X (.ListComp elt [⟨tg,iter,ifs,0⟩] sc pos) (Z16 own caps wi g tt te):=by
 intro pins s Y H Q I h;rw[eval_ListComp];have hf:∀y∈sc.names,y.2= .free->∃c,X.env.cells.lookup y.1=YB c:=λy hy e=>by
  obtain⟨n,k⟩:=y;have e':k= .free:=e;subst e';exact I.ok.has n (S.fr hy)
 refine wpAny_comprehension_free (use:=YC) rfl hs (Zd0 hf) S.kind (λy hy e=>by obtain⟨n,k⟩:=y;have e':k= .local:=e;subst e';exact S.lk hy) ?_;refine thn (hi pins s Y H _ I h) λv s1 h1=>thn h1 λitv s2 h2=>?_;obtain⟨it,fp,tn,J,H2,e,I2,T,st2,f2,q⟩:=h2;subst e;refine wpAny_newObj_type ?_;refine thn (Zj1 (iter:=iter) (pos:=pos) (Qf:=compPost (Ql X.prog X.w) X.A X.xe YC (EP X pins Y Q) (.ref s2.heap.objs.size) (s2.heap.objs.size+1)) S hc hg ht he I2 T st2 f2 (q s2.heap.objs.size I2.fresh) ?_) λcenv s4 ⟨hl,hr⟩=>?_
 ·intro s' Y' H' p' C cells I' eC q'
  subst eC;obtain⟨m,hn,_⟩:=id I'.loc;exact⟨m,hn,λh' hs'=>⟨.ref s2.heap.objs.size,H',Zpq I2 f2 I' hs',rfl,q'⟩⟩
 ·rw[←hl]at hr
  exact hr
end
section
variable {X:Cx}{own:List Str}{caps:List Nat}{N':List Str}{sc:U4}{tg elt iter:YJ}{ifs:List YJ}{pos:Pos}{wi:TI}{g:TG}{tt:TT}{te:TE}
theorem Zqq{i:Nat}{y:Str}{py spos:Pos}(hN:X.N.Nodup)(hy:X.N[i]? =YB y)(hx:Loc X.env.scope y)(S:CompScope X own caps N' sc)(hc:X.calm=YD)(hi:PI X tg iter wi)
  (hg:∀C cells s₂ H₂ fp,PG (Ww X N' sc C cells s₂ H₂ fp) tg g) (ht:∀C cells s₂ H₂ fp,Z45 (Ww X N' sc C cells s₂ H₂ fp) ifs tt) (he:∀C cells s₂ H₂ fp,PE (Ww X N' sc C cells s₂ H₂ fp) elt te)
  (hsw:Ux (.ListComp elt [⟨tg,iter,ifs,0⟩] sc pos) (YB (.Name y py)) spos.line X.env=pure YD:=by rfl)
  (hs:∀x,BV iter X.env x=pure x:=by intro _;rfl) (hf:X.fn y=YD∨X.env.scope.names.lookup y=YB .local:=by first|exact .inl rfl|exact .inr rfl|assumption) :
  PS X (.Assign [.Name y py] (.ListComp elt [⟨tg,iter,ifs,0⟩] sc pos) spos) (Z5x (Z16 own caps wi g tt te) (Zux i)):=by
 intro pins s Y H D I h;have hfr:∀y∈sc.names,y.2= .free->∃c,X.env.cells.lookup y.1=YB c:=λy hy e=>by
  obtain⟨n,k⟩:=y;have e':k= .free:=e;subst e';exact I.ok.has n (S.fr hy)
 rw[exec_Assign_Name_used _ _ _ _ hsw];refine Xi (wpAny_standAt (Xi ?_));show Qd _ X.A (do let _←comprehension (.ListComp elt [⟨tg,iter,ifs,0⟩] sc pos) sc X.env _ (newList []) YF (eval iter X.env) (YB (UT (.Name y py) X.env))) _ _ s;refine Xi (BW (wpAny_comprehension_free (use:=YB (UT (.Name y py) X.env)) (Q:=λ_ s'=>SP X pins D .next s') rfl hs (Zd0 hfr) S.kind (λy hy e=>by obtain⟨n,k⟩:=y;have e':k= .local:=e;subst e';exact S.lk hy) ?_) (λ_ s' hq=>Qk (Qk hq)) λ_ _ e=>e);refine thn (hi pins s Y H _ I h) λv s1 h1=>thn h1 λitv s2 h2=>?_;obtain⟨it,fp,tn,J,H2,e,I2,T,st2,f2,q⟩:=h2;subst e;refine wpAny_newObj_type ?_;refine thn (Zj1 (iter:=iter) (pos:=pos) (Qf:=compPost (Ql X.prog X.w) X.A X.xe (YB (UT (.Name y py) X.env)) (λ_ s'=>SP X pins D .next s') (.ref s2.heap.objs.size) (s2.heap.objs.size+1)) S hc hg ht he I2 T st2 f2 (q s2.heap.objs.size I2.fresh) ?_) λcenv s4 ⟨hl,hr⟩=>?_
 ·intro s' Y' H' p' C cells I' eC q'
  subst eC;obtain⟨m,hn,_⟩:=id I'.loc;have I3:Inv X pins Y H' s':=Zpq I2 f2 I' (.refl ..);show Qd _ X.A (UT (.Name y py) X.env (.ref s2.heap.objs.size)) _ _ s';refine wpAny_assign_Name (Zmn (v:=.ref s2.heap.objs.size) I3 hN hy hx rfl (λs5 I5 hsb=>?_) hf);have hC:s2.heap.objs.size<s2.heap.objs.size+1:=Vv _;have ltL:X.env.locals<s2.heap.objs.size:=I2.lt;have ltC:∀x c,X.env.cells.lookup x=YB c->c<s2.heap.objs.size:=λx c e=>by
   obtain⟨w',z⟩:=I2.cell x c e;exact z.lt
  refine⟨m,?_,λh' hs'=>⟨Y.set i (YB (.ref s2.heap.objs.size)),H',?_,q'⟩⟩
  ·obtain⟨a,hsa,ha⟩:=hsb
   refine hn.sameBut hsa ?_;rcases ha with ha|ha
   ·rw[ha];exact X4 (Nat.lt_trans ltL hC)
   ·exact X4 (Nat.lt_trans (ltC _ _ ha) hC)
  ·refine I5.turned (t':=s5.toks) (it:=s2.heap.objs.size+1) (λb o hb e=>(hs'.2 b hb).trans e) I'.free (X4 (Nat.lt_trans ltL hC)) (.inr (Qt I2.sz (Nat.le_of_lt hC))) (λx c e=>Xy (Nat.lt_trans (ltC x c e) hC)) λp hp=>?_
   obtain⟨e,_⟩:=I2.pin p hp;exact Xy (Nat.lt_trans (XH e) hC)
 ·rw[←hl]at hr
  exact hr
end
section
variable (n:Nat)(D:YG)(Pv:Nat->List V->St->Hp->Prop)
variable {n D Pv}
end
mutual
inductive Is(H:Hp)(L:YG->Prop):V->Xa->Prop where
 | non:Is H L .non .none
 | bl (b:Bool):Is H L (.bl b) (.bool b)
 | int (i:Int):Is H L (.int i) (.int i)
 | str (x:Str):Is H L (.str x) (.str x)
 | lst {a:YG} {xs:List V} {ds:List Xa}:L a->H a=YB (.lst xs)->IsAll H L xs ds->Is H L (.ref a) (.list ds)
 | tup {a:YG} {xs:List V} {ds:List Xa}:H a=YB (.tup xs)->IsAll H L xs ds->Is H L (.ref a) (.tuple ds)
inductive IsAll(H:Hp)(L:YG->Prop):List V->List Xa->Prop where
 | nil:IsAll H L [] []
 | cons {x:V} {xs:List V} {d:Xa} {ds:List Xa}:Is H L x d->IsAll H L xs ds->IsAll H L (x::xs) (d::ds)
end
section
variable {H H':Hp}{L L':YG->Prop}
theorem IsAll.ind{Q:List V->List Xa->Prop}(n:Q [] [])(c:∀{x:V} {xs:List V} {d:Xa} {ds:List Xa},Is H L x d->IsAll H L xs ds->Q xs ds->Q (x::xs) (d::ds)):∀{xs ds},IsAll H L xs ds->Q xs ds:=λh=>
 IsAll.rec (motive_1:=λ_ _ _=>True) (motive_2:=λxs ds _=>Q xs ds) trivial (λ_=>trivial) (λ_=>trivial) (λ_=>trivial) (λ_ _ _ _=>trivial) (λ_ _ _=>trivial) n (λp q _ r=>c p q r) h
theorem IsAll.length{xs:List V}{ds:List Xa}(h:IsAll H L xs ds):xs.length=ds.length:=IsAll.ind (Q:=λxs ds=>xs.length=ds.length) rfl (λ_ _ r=>YT (·+1) r) h
theorem IsAll.set{xs:List V}{ds:List Xa}{x:V}{d:Xa}(i:Nat)(h:IsAll H L xs ds)(k:Is H L x d):IsAll H L (xs.set i x) (ds.set i d) :=
 IsAll.ind (Q:=λxs ds=>∀i,IsAll H L (xs.set i x) (ds.set i d)) (λ_=>.nil) (λh q r i=>Nat.casesOn i (.cons k q) λi=>.cons h (r i)) h i
end
section
variable {X:Cx}{pins:List (YG×Obj)}{Y:St}{H:Hp}{s:Xg}{L L':YG->Prop}
end
noncomputable abbrev Shp(d:Xa):Prop:=U7 d=YD
section
variable {X:Cx}
end
mutual
noncomputable def Wf:Xa->Bool
 | .none=>YD
 | .int _=>YD
 | .str _=>YD
 | .list ds=>Zci ds
 | .tuple ds=>Zci ds
 | _=>YF
noncomputable def Zci:List Xa->Bool
 | []=>YD
 | d::ds=>Wf d&&Zci ds
end
mutual
theorem Zn4:∀(d e:Xa),Wf d=YD->Wf e=YD->(Q3 d e=YD↔d=e)
 | .none,e,_,he=>by cases e<;>simp_all [Q3,Wf]
 | .int i,e,_,he=>by cases e<;>simp_all [Q3,Wf]
 | .str i,e,_,he=>by cases e<;>simp_all [Q3,Wf]
 | .list ds,e,hd,he=>by
  cases e with
  | list es=>
   rw[Wf]at hd he;rw[Q3,XX.injEq];exact Zfq ds es hd he
  | _=>simp_all [Q3,Wf]
 | .tuple ds,e,hd,he=>by
  cases e with
  | tuple es=>
   rw[Wf]at hd he;rw[Q3,PyData.tuple.injEq];exact Zfq ds es hd he
  | _=>simp_all [Q3,Wf]
 | .bool b,e,hd,_=>by simp[Wf]at hd
 | .dict b,e,hd,_=>by simp[Wf]at hd
theorem Zfq:∀(ds es:List Xa),Zci ds=YD->Zci es=YD->(PyData.eqvAll ds es=YD↔ds=es)
 | [],[],_,_=>by simp[PyData.eqvAll]
 | [],_::_,_,_=>by simp[PyData.eqvAll]
 | _::_,[],_,_=>by simp[PyData.eqvAll]
 | d::ds,e::es,hd,he=>by
  rw[Zci,Xv]at hd he;rw[PyData.eqvAll,Xv,Zn4 d e hd.1 he.1,Zfq ds es hd.2 he.2,List.cons.injEq]
end
theorem Zzr{d e:Xa}(h:Wf d=YD)(k:Wf e=YD)(q:d=e):Q3 d e=YD:=(Zn4 d e h k).mpr q
theorem Z5t{d e:Xa}(h:Wf d=YD)(k:Wf e=YD)(q:d≠e):Q3 d e=YF:=Vq.mpr λz=>q ((Zn4 d e h k).mp z)
noncomputable def fr(a b:Int):Xa:=.tuple [.int a,.int b]
theorem Zfe{t b:Int}(hb:b≠0):0<(Bo t b:Int):=by
 have:=Int.gcd_pos_of_ne_zero_right t hb;omega
theorem Jo{t g:Int}(hg:0<g):t.fdiv g=t/g:=Int.fdiv_eq_ediv_of_nonneg t (by omega)
theorem Zc1{t g:Int}(hg:0<g)(h:g∣t):t.fdiv (-g)= -(t/g):=by
 obtain⟨k,rfl⟩:=h;rw[Int.mul_ediv_cancel_left _ (by omega)];have e:g*k=(-k)*(-g):=by rw[Int.neg_mul_neg,Int.mul_comm]
 rw[e,Int.mul_fdiv_cancel _ (by omega)]
noncomputable def shr(t b:Int):Int:=if b<0 then -(Bo t b:Int)else(Bo t b:Int)
theorem Z2v{t b:Int}(hb:b≠0):t.fdiv (shr t b)=(Xh t b).num:=by
 have hg:=Zfe (t:=t) hb;have hd:(Bo t b:Int)∣t:=Int.gcd_dvd_left ..;rw[Rat.num_divInt,Int.gcd_comm b t];unfold shr
 by_cases h:b<0
 ·rw[YL h,Zc1 hg hd,Int.sign_eq_neg_one_of_neg h,Int.neg_one_mul,Int.neg_ediv_of_dvd hd]
 ·rw[YM h,Jo hg,Int.sign_eq_one_of_pos (by omega),Int.one_mul]
theorem Z14{t b:Int}(hb:b≠0):b.fdiv (shr t b)=((Xh t b).den:Int):=by
 have hg:=Zfe (t:=t) hb;have hd:(Bo t b:Int)∣b:=Int.gcd_dvd_right ..;rw[Rat.den_divInt,YM hb,Int.gcd_comm b t];unfold shr
 by_cases h:b<0
 ·have e:(b.natAbs:Int)= -b:=by omega
  rw[YL h,Zc1 hg hd,Int.natCast_ediv,e,Int.neg_ediv_of_dvd hd]
 ·have e:(b.natAbs:Int)=b:=by omega
  rw[YM h,Jo hg,Int.natCast_ediv,e]
theorem Zzl{t b:Int}(hb:b≠0):shr t b≠0:=by
 have hg:=Zfe (t:=t) hb;unfold shr;split<;>omega
theorem Zz4{n:Nat}{t b:Int}(hb:b≠0)(h:Bt n b):Bt n (shr t b):=by
 have h1:Bt n (Bo t b:Int):=by
  refine Bt.of_le h ?_;have:=Int.gcd_le_natAbs_right t hb;omega
 unfold shr;split
 ·exact h1.neg
 ·exact h1
theorem Zfl{n:Nat}{t b:Int}(hb:b≠0)(h:Bt n t):Bt n (Xh t b).num:=by
 rw[Rat.num_divInt];refine Bt.of_le h ?_;refine Qt (V5 _ _) ?_;rw[Int.natAbs_mul];have:b.sign.natAbs≤1:=by
  rw[Int.natAbs_sign];split<;>omega
 calc b.sign.natAbs*t.natAbs≤1*t.natAbs:=Nat.mul_le_mul_right _ this
  _=t.natAbs:=Nat.one_mul _
theorem Znc{n:Nat}{t b:Int}(hb:b≠0)(h:Bt n b):Bt n ((Xh t b).den:Int):=by
 rw[Rat.den_divInt,YM hb];refine Bt.of_le h ?_;show((b.natAbs/b.gcd t:Nat):Int).natAbs≤_;rw[Int.natAbs_natCast];exact Nat.div_le_self _ _
theorem Zi1(q:Rat):(q.den:Int)≠0:=by
 have:=q.den_pos;omega
theorem Zab(q:Rat):(0:Int)<(q.den:Int):=by
 have:=q.den_pos;omega
theorem Z7l{a b:Int}(ha:a≠0)(hb:b≠0):a*b≠0:=Int.mul_ne_zero ha hb
theorem Zj5(q r:Rat):Xh (q.num*(r.den:Int)+r.num*(q.den:Int)) ((q.den:Int)*(r.den:Int))=q+r:=by
 rw[Rat.add_def',←Int.natCast_mul,Rat.divInt_ofNat]
theorem Zlw(q r:Rat):Xh (q.num*(r.den:Int)-r.num*(q.den:Int)) ((q.den:Int)*(r.den:Int))=q-r:=by
 rw[Rat.sub_def',←Int.natCast_mul,Rat.divInt_ofNat]
theorem Zsz(q r:Rat):q.num*(r.den:Int)<r.num*(q.den:Int)↔q<r:=(Rat.lt_iff q r).symm
noncomputable def frD(q:Rat):Xa:=fr q.num (q.den:Int)
noncomputable def BQ(n:Nat)(q:Rat):Prop:=Bt n q.num∧Bt n (q.den:Int)
theorem BQ.mono{m n:Nat}{q:Rat}(h:BQ m q)(k:m≤n):BQ n q:=⟨h.1.mono k,h.2.mono k⟩
theorem BQ.div{n:Nat}{t b:Int}(hb:b≠0)(h:Bt n t)(k:Bt n b):BQ n (Xh t b):=⟨Zfl hb h,Znc hb k⟩
theorem BQ.minus{n:Nat}{q r:Rat}(h:BQ n q)(k:BQ n r):BQ (n+n+1) (q-r):=by
 rw[←Zlw];exact .div (Z7l (Zi1 _) (Zi1 _)) ((h.1.mul k.2).sub' (k.1.mul h.2)) ((h.2.mul k.2).mono (by omega))
theorem BQ.zero:BQ 1 0:=⟨by unfold Bt;decide,by unfold Bt;decide⟩
section
variable {X:Cx}{K:Xb}{a b o e:YJ}{ta tb tl to:TE}{pos:Pos}
theorem Zwp(hK:X.K=K):IxR X (Yd8 K):=hK▸Zur
theorem Z1c(hK:X.K=K):IxR X (rIx K):=hK▸Z6u
theorem Zxy(hK:X.K=K):SlR X (Yhg K):=hK▸Z2e
noncomputable def Yfa(K:Xb):List V->Hp->VK->Prop:=λxs H Q=>∃p ys,xs=[.ref p]∧(SqL K H p ys∨SqT K H p ys)∧Q (.int ys.length) H
theorem Ztt(hK:X.K=K):Zas X (.builtin "len") (Yfa K):=by subst hK;exact Zmc
noncomputable def Zvr(K:Xb):List V->Hp->VK->Prop:=λxs H Q=>∃p ys,xs=[.ref p]∧(SqL K H p ys∨SqT K H p ys)∧∀l,H l=YC->Q (.ref l) (upd H l (.lst ys))
theorem Zrd(hK:X.K=K):Zas X (.type "list") (Zvr K):=by subst hK;exact Zmb
noncomputable def Yin(K:Xb)(ta:TE):TT:=λY H Q=>ta Y H λx H'=>∃k,Yc6 K x H' k∧Q k H'
theorem Z1t(hK:X.K=K)(ha:PE X a ta)(he:∀whole,isTrue a X.env whole=(do let v←whole;standAt a.pos;holding [v] (truthy v))):PT X a (Yin K ta):=by subst hK;exact Zxw ha he
theorem Zxo{tg l:YJ}(hK:X.K=K)(hl:PE X l tl):PI X tg l (Z6j K tl):=by subst hK;exact Z4o hl
theorem Z6z(hK:X.K=K):OpR X (Bf .In) (rIn K YF):=by subst hK;exact Zss
theorem Ztx(hK:X.K=K):OpR X (Bf .NotIn) (rIn K YD):=by subst hK;exact Zl5
end
theorem Z7{H:Hp}{p:YG}(h:H p=YC)(o:HO):Same H (upd H p o):=λb u q=>by rw[Zy (Wg q h)];exact q
noncomputable def But(p:YG)(H H':Hp):Prop:=∀b o,b≠p->H b=YB o->H' b=YB o
theorem But.upd(p:YG)(H:Hp)(o:HO):But p H (upd H p o):=λb u n e=>by rw[Zy n];exact e
noncomputable def Pl(H:Hp)(p:YG)(n:Nat):Prop:=∃a b c:Int,H p=YB (.lst [.int a,.int b,.int c])∧0≤c∧c≤n
theorem Pl.at{H:Hp}{p:YG}{n:Nat}(h:Pl H p n):∃xs,H p=YB (.lst xs):=by
 obtain⟨a,b,c,e,h1,h2⟩:=h;exact⟨_,e⟩
namespace B
theorem boot_abs:Qa "abs"=YB (.builtin "abs"):=by decide +kernel
theorem boot_len:Qa "len"=YB (.builtin "len"):=by decide +kernel
theorem boot_max:Qa "max"=YB (.builtin "max"):=by decide +kernel
theorem boot_min:Qa "min"=YB (.builtin "min"):=by decide +kernel
theorem boot_isinstance:Qa "isinstance"=YB (.builtin "isinstance"):=by decide +kernel
theorem boot_sum:Qa "sum"=YB (.builtin "sum"):=by decide +kernel
theorem boot_sorted:Qa "sorted"=YB (.builtin "sorted"):=by decide +kernel
theorem boot_int:Qa "int"=YB (.type "int"):=by decide +kernel
theorem boot_bool:Qa "bool"=YB (.type "bool"):=by decide +kernel
theorem boot_list:Qa "list"=YB (.type "list"):=by decide +kernel
theorem boot_range:Qa "range"=YB (.type "range"):=by decide +kernel
theorem boot_zip:Qa "zip"=YB (.type "zip"):=by decide +kernel
theorem boot_enumerate:Qa "enumerate"=YB (.type "enumerate"):=by decide +kernel
theorem boot_set:Qa "set"=YB (.type "set"):=by decide +kernel
end B
theorem Zhi{a b:Int}(hb:0<b):a.fmod b=a%b:=Int.fmod_eq_emod_of_nonneg a (by omega)
theorem Zyg{x y:Int}(hx:0≤x)(hy:0<y):Bo y (x.fmod y)=Bo x y:=by
 rw[Zhi hy,Int.gcd_comm x y];have e:=Int.emod_add_mul_ediv x y
 conv=>rhs;rw[←e]
 rw[Int.gcd_add_mul_left_right]
theorem Zzy:(2:Nat)≤Xz:=by decide
theorem Zyt(q:Rat):Xh q.num (q.den:Int)=q:=Vy q
theorem BQ.n{n:Nat}{q:Rat}(h:BQ n q):Bt n q.num:=h.1
theorem BQ.d{n:Nat}{q:Rat}(h:BQ n q):Bt n (q.den:Int):=h.2
theorem Yja(q:Rat):(((q.den:Int)):Rat)≠0:=by
 intro z;exact Zi1 q (Rat.intCast_eq_zero_iff.mp z)
theorem Yh5(q:Rat):((q.num:Int):Rat)=q*(((q.den:Int)):Rat):=by
 have h:=Zyt q;rw[QM]at h;have d:=Yja q
 conv=>rhs;lhs;rw[←h]
 grind
variable {G:Xb}
noncomputable def KS(G:Xb)(a:YG)(ns:List Int):Prop:=∃(o:Obj) (its:Array Xf) (n:Nat),G.lookup a=YB o∧o.cls= .type "list"∧o.dict=YC∧o.data= .seq its n∧its.size≤Xz∧Vals (ns.map V.int) its.toList
theorem KS.sq{G:Xb}{H:Hp}{a:YG}{ns:List Int}(h:KS G a ns):SqL G H a (ns.map V.int):=.inr h
noncomputable def exD(x:Str):Xa:=.dict [(.str x,.none)]
noncomputable def fnD(x:Str):Xa:=.dict [(.str x,.bool YD)]
noncomputable def Zlx:Xa->Bool| .dict ((_,.bool _)::_)=>YD|_=>YF
noncomputable def ClsAt(G:Xb)(x:Str)(C:YG):Prop:=QQ G Qj x=YB (YB (.ref C))
structure Zef(G:Xb)(C:YG):Prop where
 ga:Vs G (.ref C) "__getattribute__"=YB (YB (.builtin "BaseException.__getattribute__"))
 gt:Vs G (.ref C) "__getattr__"=YB YC
 cl:Vs G (.ref C) "__class__"=YB (YB (.builtin "object.__class__"))
 isB:PySem.W.subIn G (.ref C) (.type "BaseException")=YB YD
 isO:PySem.W.subIn G (.ref C) (.type "object")=YB YD
 isC:(PySem.W.clsIn G C).isSome=YD
 k1:Vr G (.ref C) (.type "int")=YB YF
 k2:Vr G (.ref C) (.type "bool")=YB YF
 k3:Vr G (.ref C) (.type "str")=YB YF
 k4:Vr G (.ref C) (.type "list")=YB YF
 k5:Vr G (.ref C) (.type "tuple")=YB YF
noncomputable def ExO(C a:YG)(h:YH):Prop:=∃o vs,h.get? a=YB o∧o.cls= .ref C∧o.data= .fields vs
inductive ImO where
 | tup (xs:List V)
 | ext (φ:YH->Prop)
noncomputable def ImO.ho:ImO->HO
 | .tup xs=>.tup xs
 | .ext φ=>.ext φ
inductive MuO where
 | lst (xs:List V)
 | dK (kvs:List (Key×V))
 | dT (kvs:List (List Key×V))
noncomputable def MuO.ho:MuO->HO
 | .lst xs=>.lst xs
 | .dK kvs=>.dK kvs
 | .dT kvs=>.dT kvs
noncomputable def Yfe:Key->Xa
 | .inl i=>.int i
 | .inr x=>.str x
noncomputable def Yi2(ks:List Key):Xa:=.tuple (ks.map Yfe)
noncomputable abbrev KY:=Sum Key (List Key)
noncomputable def kyD:KY->Xa
 | .inl k=>Yfe k
 | .inr ks=>Yi2 ks
noncomputable def MuO.dic(t:Bool)(ks:List KY)(xs:List V):MuO->Prop
 | .lst _=>False
 | .dK kvs=>t=YF∧ks=kvs.map (λp=>.inl p.1)∧xs=kvs.map (·.2)
 | .dT kvs=>t=YD∧ks=kvs.map (λp=>.inr p.1)∧xs=kvs.map (·.2)
noncomputable def dcD(t:Bool)(ks:List KY)(ds:List Xa):Xa:=.dict ((.none,.bool t)::(ks.map kyD).zip ds)
theorem ImO.nm{H:Hp}{a:YG}{x:ImO}{y:MuO}(h:H a=YB x.ho)(h':H a=YB y.ho):False:=by
 rw[h]at h';cases x<;>cases y<;>cases h'
theorem ImO.nl{H:Hp}{a:YG}{x:ImO}{ys:List V}(h:H a=YB x.ho)(h':H a=YB (.lst ys)):False:=by
 rw[h]at h';cases x<;>cases h'
mutual
inductive Da(G:Xb)(H:Hp)(L:YG->Prop):V->Xa->Prop where
 | non:Da G H L .non .none
 | bl (b:Bool):Da G H L (.bl b) (.bool b)
 | int (i:Int):Da G H L (.int i) (.int i)
 | str (x:Str):Da G H L (.str x) (.str x)
 | lst {a:YG} {xs:List V} {ds:List Xa}:L a->Rd H a (.lst xs)->Das G H L xs ds->Da G H L (.ref a) (.list ds)
 | tup {a:YG} {xs:List V} {ds:List Xa}:H a=YB (.tup xs)->Das G H L xs ds->Da G H L (.ref a) (.tuple ds)
 | scr {a:YG} {ns:List Int}:KS G a ns->Da G H L (.ref a) (.list (ns.map Xq))
 | exc {a C:YG} {x:Str}:Zef G C->ClsAt G x C->H a=YB (.ext (ExO C a))->Da G H L (.ref a) (exD x)
 | fn {a:YG} {x:Str}:ClsAt G x a->Da G H L (.ref a) (fnD x)
 | dic {a:YG} {o:MuO} {t:Bool} {ks:List KY} {xs:List V} {ds:List Xa}:L a->Rd H a o.ho->o.dic t ks xs->Das G H L xs ds->Da G H L (.ref a) (dcD t ks ds)
inductive Das(G:Xb)(H:Hp)(L:YG->Prop):List V->List Xa->Prop where
 | nil:Das G H L [] []
 | cons {x:V} {xs:List V} {d:Xa} {ds:List Xa}:Da G H L x d->Das G H L xs ds->Das G H L (x::xs) (d::ds)
end
section
variable {H H':Hp}{L L':YG->Prop}
theorem Da.both{P:V->Xa->Prop}{Q:List V->List Xa->Prop}(c1:P .non .none)(c2:∀b,P (.bl b) (.bool b))(c3:∀i,P (.int i) (.int i))(c4:∀x,P (.str x) (.str x))
  (c5:∀{a:YG} {xs:List V} {ds:List Xa},L a->Rd H a (.lst xs)->Q xs ds->P (.ref a) (.list ds)) (c6:∀{a:YG} {xs:List V} {ds:List Xa},H a=YB (.tup xs)->Q xs ds->P (.ref a) (.tuple ds))
  (c7:∀{a:YG} {ns:List Int},KS G a ns->P (.ref a) (.list (ns.map Xq))) (c8:∀{a C:YG} {x:Str},Zef G C->ClsAt G x C->H a=YB (.ext (ExO C a))->P (.ref a) (exD x)) (c9:∀{a:YG} {x:Str},ClsAt G x a->P (.ref a) (fnD x))
  (c10:∀{a:YG} {o:MuO} {t:Bool} {ks:List KY} {xs:List V} {ds:List Xa},L a->Rd H a o.ho->o.dic t ks xs->Q xs ds->P (.ref a) (dcD t ks ds)) (n:Q [] []) (c:∀{x:V} {xs:List V} {d:Xa} {ds:List Xa},P x d->Q xs ds->Q (x::xs) (d::ds)):(∀{v d},Da G H L v d->P v d)∧∀{xs ds},Das G H L xs ds->Q xs ds :=
 ⟨λh=>Da.rec (motive_1:=λv d _=>P v d) (motive_2:=λxs ds _=>Q xs ds) c1 c2 c3 c4 (λp e _ r=>c5 p e r) (λe _ r=>c6 e r) (λk=>c7 k) (λk l m=>c8 k l m) (λk=>c9 k) (λp e k _ r=>c10 p e k r) n (λ_ _ p q=>c p q) h,
   λh=>Das.rec (motive_1:=λv d _=>P v d) (motive_2:=λxs ds _=>Q xs ds) c1 c2 c3 c4 (λp e _ r=>c5 p e r) (λe _ r=>c6 e r) (λk=>c7 k) (λk l m=>c8 k l m) (λk=>c9 k) (λp e k _ r=>c10 p e k r) n (λ_ _ p q=>c p q) h⟩
theorem Das.ind{Q:List V->List Xa->Prop}(n:Q [] [])(c:∀{x:V} {xs:List V} {d:Xa} {ds:List Xa},Da G H L x d->Das G H L xs ds->Q xs ds->Q (x::xs) (d::ds)):∀{xs ds},Das G H L xs ds->Q xs ds:=λh=>
 Das.rec (motive_1:=λ_ _ _=>True) (motive_2:=λxs ds _=>Q xs ds) trivial (λ_=>trivial) (λ_=>trivial) (λ_=>trivial) (λ_ _ _ _=>trivial) (λ_ _ _=>trivial) (λ_=>trivial) (λ_ _ _=>trivial) (λ_=>trivial) (λ_ _ _ _ _=>trivial) n (λp q _ r=>c p q r) h
theorem Da.frame2(hl:∀a (xs:MuO),L a->Rd H a xs.ho->L' a∧Rd H' a xs.ho)(ht:∀a (xs:ImO),H a=YB xs.ho->H' a=YB xs.ho):(∀{v:V} {d:Xa},Da G H L v d->Da G H' L' v d)∧∀{xs:List V} {ds:List Xa},Das G H L xs ds->Das G H' L' xs ds :=
 Da.both .non .bl .int .str (fun{_ xs _} p e r=>.lst (hl _ (.lst xs) p e).1 (hl _ (.lst xs) p e).2 r) (fun{_ xs _} e r=>.tup (ht _ (.tup xs) e) r) .scr (λc n e=>.exc c n (ht _ (.ext _) e)) .fn (λp e k r=>.dic (hl _ _ p e).1 (hl _ _ p e).2 k r) .nil .cons
theorem Da.frame(hl:∀a (xs:MuO),L a->Rd H a xs.ho->L' a∧Rd H' a xs.ho)(ht:∀a (xs:ImO),H a=YB xs.ho->H' a=YB xs.ho){v:V}{d:Xa}(h:Da G H L v d):Da G H' L' v d:=(Da.frame2 hl ht).1 h
theorem Das.frame(hl:∀a (xs:MuO),L a->Rd H a xs.ho->L' a∧Rd H' a xs.ho)(ht:∀a (xs:ImO),H a=YB xs.ho->H' a=YB xs.ho){xs:List V}{ds:List Xa}(h:Das G H L xs ds):Das G H' L' xs ds:=(Da.frame2 hl ht).2 h
theorem Rd.same{a:YG}{u:HO}(s:Same H H')(h:Rd H a u):Rd H' a u:=h.imp (s _ _) λ⟨o,h⟩=>⟨o,s _ _ h⟩
theorem Rd.some{a:YG}{u:HO}(h:Rd H a u):H a≠Option.none:=by
 rcases h with h|⟨o,h⟩<;>rw[h]<;>intro z<;>cases z
theorem Da.same(h:Same H H'){v:V}{d:Xa}(x:Da G H L v d):Da G H' L v d:=x.frame (λa xs p e=>⟨p,e.same h⟩) λa xs e=>h _ _ e
theorem Das.same(h:Same H H'){v:List V}{d:List Xa}(x:Das G H L v d):Das G H' L v d:=x.frame (λa xs p e=>⟨p,e.same h⟩) λa xs e=>h _ _ e
theorem Da.wide(h:∀a,L a->H a≠YC->L' a){v:V}{d:Xa}(x:Da G H L v d):Da G H L' v d:=x.frame (λa xs p e=>⟨h a p e.some,e⟩) λa xs e=>e
theorem Das.wide(h:∀a,L a->H a≠YC->L' a){v:List V}{d:List Xa}(x:Das G H L v d):Das G H L' v d:=x.frame (λa xs p e=>⟨h a p e.some,e⟩) λa xs e=>e
theorem Das.length{xs:List V}{ds:List Xa}(h:Das G H L xs ds):xs.length=ds.length:=Das.ind (Q:=λxs ds=>xs.length=ds.length) rfl (λ_ _ r=>YT (·+1) r) h
theorem Das.append{xs ys:List V}{ds es:List Xa}(h:Das G H L xs ds)(k:Das G H L ys es):Das G H L (xs++ys) (ds++es):=Das.ind (Q:=λxs ds=>Das G H L (xs++ys) (ds++es)) k (λh _ r=>.cons h r) h
theorem Das.get{xs:List V}{ds:List Xa}{i:Nat}{d:Xa}(h:Das G H L xs ds):ds[i]? =YB d->∃x,xs[i]? =YB x∧Da G H L x d :=
 Das.ind (Q:=λxs ds=>∀i,ds[i]? =YB d->∃x,xs[i]? =YB x∧Da G H L x d) (λ_ e=>(Option.some_ne_none _ (e.symm.trans List.getElem?_nil)).elim) (fun{x _ _ _} h _ r i=>Nat.casesOn i (λe=>⟨x,rfl,QR e▸h⟩) λi e=>r i e) h i
theorem Das.get'{xs:List V}{ds:List Xa}{i:Nat}{x:V}(h:Das G H L xs ds):xs[i]? =YB x->∃d,ds[i]? =YB d∧Da G H L x d :=
 Das.ind (Q:=λxs ds=>∀i,xs[i]? =YB x->∃d,ds[i]? =YB d∧Da G H L x d) (λ_ e=>(Option.some_ne_none _ (e.symm.trans List.getElem?_nil)).elim) (fun{_ _ d _} h _ r i=>Nat.casesOn i (λe=>⟨d,rfl,QR e▸h⟩) λi e=>r i e) h i
theorem Das.take{xs:List V}{ds:List Xa}(n:Nat)(h:Das G H L xs ds):Das G H L (xs.take n) (ds.take n) :=
 Das.ind (Q:=λxs ds=>∀n,Das G H L (xs.take n) (ds.take n)) (λn=>by rw[List.take_nil,List.take_nil];exact .nil) (λh _ r n=>Nat.casesOn n .nil λn=>.cons h (r n)) h n
theorem Das.drop{xs:List V}{ds:List Xa}(n:Nat)(h:Das G H L xs ds):Das G H L (xs.drop n) (ds.drop n) :=
 Das.ind (Q:=λxs ds=>∀n,Das G H L (xs.drop n) (ds.drop n)) (λn=>by rw[List.drop_nil,List.drop_nil];exact .nil) (λh q r n=>Nat.casesOn n (.cons h q) λn=>r n) h n
theorem Das.ints(ns:List Int):Das G H L (ns.map V.int) (ns.map Xq):=by
 induction ns with
 | nil=>exact .nil
 | cons n ns ih=>exact .cons (.int n) ih
theorem Das.int_inv{xs:List V}{ns:List Int}(h:Das G H L xs (ns.map Xq)):xs=ns.map V.int:=by
 induction ns generalizing xs with
 | nil=>cases h;rfl
 | cons n ns ih=>
  rw[Qg]at h;cases h with
  | cons h r=>cases h;rw[ih r];rfl
end
theorem Zqv{h:YH}(ns:List Int){us:List Xf}(v:Vals (ns.map V.int) us):∃as,ReadsAll h us (ns.map Xq) as:=by
 induction ns generalizing us with
 | nil=>cases v;exact⟨_,.nil⟩
 | cons n ns ih=>
  rw[Qg]at v;cases v with
  | cons r rs=>
   obtain⟨t,e⟩:=(show∃t,_=Uz n t from r);subst e;obtain⟨bs,k'⟩:=ih rs;exact⟨_,.cons (.int n t) k'⟩
section
variable {X:Cx}{pins:List (YG×Obj)}{Y:St}{H:Hp}{s:Xg}{L L':YG->Prop}
theorem Da.reads2(hG:X.K=G)(I:Inv X pins Y H s):(∀{v:V} {d:Xa},Da G H L v d->∀u,RelV v u->d.canLay0=YD->∃as,Reads s.heap u d as)∧∀{xs:List V} {ds:List Xa},Das G H L xs ds->∀us,Vals xs us->Bb ds=YD->∃as,ReadsAll s.heap us ds as:=by
 refine Da.both ?_ ?_ ?_ ?_ ?_ ?_ ?_ ?_ ?_ ?_ ?_ ?_
 ·intro u r _
  cases(show _=QT from r);exact⟨_,.none⟩
 ·intro b u r _
  cases(show _=Value.bool b from r);exact⟨_,.bool b⟩
 ·intro i u r _
  obtain⟨t,e⟩:=(show∃t,_=Uz i t from r);subst e;exact⟨_,.int i t⟩
 ·intro x u r _
  obtain⟨t,e⟩:=(show∃t,_=Value.str x t from r);subst e;exact⟨_,.str x t⟩
 ·intro a xs ds _ e q u r hcl
  cases(show _=QJ a from r);obtain⟨_,its,n,vs,h1⟩:=(show ObjOk X.prog X.w H s.heap a (.lst xs)from e.ok I.hok);rw[Vb]at hcl;obtain⟨as,k⟩:=q _ vs hcl;exact⟨_,Reads.list h1 rfl rfl k⟩
 ·intro a xs ds e q u r hcl
  cases(show _=QJ a from r);obtain⟨_,its,vs,o,ho,hc,n,hd⟩:=(show ObjOk X.prog X.w H s.heap a (.tup xs)from I.hok a _ e);rw[Vb]at hcl;obtain⟨as,k⟩:=q _ vs hcl;exact⟨_,Reads.tuple ho hc hd k⟩
 ·intro a ns k u r _
  cases(show _=QJ a from r);subst hG;obtain⟨its,vs,⟨o,n,ho,hc,hd,hs⟩,_⟩:=I.list (k.sq (H:=H));obtain⟨as,q⟩:=Zqv ns vs;exact⟨_,Reads.list ho hc hs q⟩
 ·intro a C x _ _ e u r hc
  rw[exD,Vb]at hc;cases hc
 ·intro a x _ u r hc
  rw[fnD,Vb]at hc;cases hc
 ·intro a o t ks xs ds _ _ _ _ u r hc
  rw[dcD,Vb]at hc;cases hc
 ·intro us v _
  cases v;exact⟨_,.nil⟩
 ·intro x xs d ds h q us v hc
  cases v with
  | cons r rs=>
   rw[Bb,Xv]at hc;obtain⟨as,k⟩:=h _ r hc.1;obtain⟨bs,k'⟩:=q _ rs hc.2;exact⟨_,.cons k k'⟩
theorem Da.reads(hG:X.K=G)(I:Inv X pins Y H s){v:V}{d:Xa}{u:Xf}(h:Da G H L v d)(r:RelV v u)(c:d.canLay0=YD):∃as,Reads s.heap u d as:=(Da.reads2 hG I).1 h u r c
theorem Das.reads(hG:X.K=G)(I:Inv X pins Y H s){xs:List V}{ds:List Xa}{us:List Xf}(h:Das G H L xs ds)(r:Vals xs us)(c:Bb ds=YD):∃as,ReadsAll s.heap us ds as:=(Da.reads2 hG I).2 h us r c
end
inductive OT where
 | fz (d:Xa)
 | nd (ts:List OT)
 | tp (ts:List OT)
 | dc (t:Bool) (ks:List KY) (ds:List Xa)
mutual
noncomputable def OT.data:OT->Xa
 | .fz d=>d
 | .nd ts=>.list (OT.datas ts)
 | .tp ts=>.tuple (OT.datas ts)
 | .dc t ks ds=>dcD t ks ds
noncomputable def OT.datas:List OT->List Xa
 | []=>[]
 | t::ts=>t.data::OT.datas ts
end
theorem OT.datas_map:∀(ts:List OT),OT.datas ts=ts.map OT.data
 | []=>rfl
 | t::ts=>by rw[OT.datas,OT.datas_map ts];rfl
@[simp] theorem OT.data_fz(d:Xa):(OT.fz d).data=d:=by rw[OT.data]
@[simp] theorem OT.data_nd(ts:List OT):(OT.nd ts).data= .list (ts.map OT.data):=by rw[OT.data,OT.datas_map]
@[simp] theorem OT.data_tp(ts:List OT):(OT.tp ts).data= .tuple (ts.map OT.data):=by rw[OT.data,OT.datas_map]
theorem OT.data_dc(t:Bool)(ks:List KY)(ds:List Xa):(OT.dc t ks ds).data=dcD t ks ds:=by rw[OT.data]
@[simp] theorem OT.map_fz(ds:List Xa):(ds.map OT.fz).map OT.data=ds:=by
 rw[XQ];exact(Xn λd _=>OT.data_fz d).trans (List.map_id _)
mutual
inductive Own(G:Xb)(H:Hp)(L:YG->Prop):V->OT->List YG->Prop where
 | fz {v:V} {d:Xa}:Da G H L v d->Own G H L v (.fz d) []
 | nd {a:YG} {xs:List V} {ts:List OT} {bs:List YG}:H a=YB (.lst xs)->Owns G H L xs ts bs->Own G H L (.ref a) (.nd ts) (a::bs)
 | tp {a:YG} {xs:List V} {ts:List OT} {bs:List YG}:H a=YB (.tup xs)->Owns G H L xs ts bs->Own G H L (.ref a) (.tp ts) bs
 | dc {a:YG} {o:MuO} {t:Bool} {ks:List KY} {xs:List V} {ds:List Xa}:H a=YB o.ho->o.dic t ks xs->Das G H L xs ds->Own G H L (.ref a) (.dc t ks ds) [a]
inductive Owns(G:Xb)(H:Hp)(L:YG->Prop):List V->List OT->List YG->Prop where
 | nil:Owns G H L [] [] []
 | cons {x:V} {xs:List V} {t:OT} {ts:List OT} {as bs:List YG}:Own G H L x t as->Owns G H L xs ts bs->Owns G H L (x::xs) (t::ts) (as++bs)
end
section
variable {H H':Hp}{L L':YG->Prop}
theorem Own.both{P:V->OT->List YG->Prop}{Q:List V->List OT->List YG->Prop}(c1:∀{v:V} {d:Xa},Da G H L v d->P v (.fz d) [])(c2:∀{a:YG} {xs:List V} {ts:List OT} {bs:List YG},H a=YB (.lst xs)->Q xs ts bs->P (.ref a) (.nd ts) (a::bs))
  (c3:∀{a:YG} {xs:List V} {ts:List OT} {bs:List YG},H a=YB (.tup xs)->Q xs ts bs->P (.ref a) (.tp ts) bs) (c4:∀{a:YG} {o:MuO} {t:Bool} {ks:List KY} {xs:List V} {ds:List Xa},H a=YB o.ho->o.dic t ks xs->Das G H L xs ds->P (.ref a) (.dc t ks ds) [a]) (n:Q [] [] []) (c:∀{x:V} {xs:List V} {t:OT} {ts:List OT} {as bs:List YG},P x t as->Q xs ts bs->Q (x::xs) (t::ts) (as++bs)) :
  (∀ {v t as},Own G H L v t as->P v t as)∧∀{xs ts as},Owns G H L xs ts as->Q xs ts as :=
 ⟨λh=>Own.rec (motive_1:=λv t as _=>P v t as) (motive_2:=λxs ts as _=>Q xs ts as) c1 (λe _ r=>c2 e r) (λe _ r=>c3 e r) (λe k r=>c4 e k r) n (λ_ _ p q=>c p q) h,
   λh=>Owns.rec (motive_1:=λv t as _=>P v t as) (motive_2:=λxs ts as _=>Q xs ts as) c1 (λe _ r=>c2 e r) (λe _ r=>c3 e r) (λe k r=>c4 e k r) n (λ_ _ p q=>c p q) h⟩
theorem Own.frame2(hl:∀a (xs:MuO),L a->Rd H a xs.ho->L' a∧Rd H' a xs.ho)(ht:∀a (xs:ImO),H a=YB xs.ho->H' a=YB xs.ho) :
  (∀ {v:V} {t:OT} {as:List YG},Own G H L v t as->(∀a∈as,∀xs:MuO,H a=YB xs.ho->H' a=YB xs.ho)->Own G H' L' v t as)∧∀{xs:List V} {ts:List OT} {as:List YG},Owns G H L xs ts as->(∀a∈as,∀xs:MuO,H a=YB xs.ho->H' a=YB xs.ho)->Owns G H' L' xs ts as :=
 Own.both (λh _=>.fz (h.frame hl ht)) (fun{_ xs _ _} e r ha=>.nd (ha _ (.head _) (.lst xs) e) (r λa m=>ha a (.tail _ m))) (fun{_ xs _ _} e r ha=>.tp (ht _ (.tup xs) e) (r ha)) (λe k r ha=>.dc (ha _ (.head _) _ e) k (r.frame hl ht)) (λ_=>.nil) (λh r ha=>.cons (h λa m=>ha a (VL _ m)) (r λa m=>ha a (QC _ m)))
theorem Own.frame(hl:∀a (xs:MuO),L a->Rd H a xs.ho->L' a∧Rd H' a xs.ho)(ht:∀a (xs:ImO),H a=YB xs.ho->H' a=YB xs.ho){v:V}{t:OT}{as:List YG}(ha:∀a∈as,∀xs:MuO,H a=YB xs.ho->H' a=YB xs.ho)(h:Own G H L v t as):Own G H' L' v t as:=(Own.frame2 hl ht).1 h ha
theorem Owns.frame(hl:∀a (xs:MuO),L a->Rd H a xs.ho->L' a∧Rd H' a xs.ho)(ht:∀a (xs:ImO),H a=YB xs.ho->H' a=YB xs.ho){xs:List V}{ts:List OT}{as:List YG}(ha:∀a∈as,∀xs:MuO,H a=YB xs.ho->H' a=YB xs.ho)(h:Owns G H L xs ts as):Owns G H' L' xs ts as:=(Own.frame2 hl ht).2 h ha
theorem Own.same(h:Same H H'){v:V}{t:OT}{as:List YG}(x:Own G H L v t as):Own G H' L v t as:=x.frame (λa xs p e=>⟨p,e.same h⟩) (λa xs e=>h _ _ e) λa _ xs e=>h _ _ e
theorem Own.wide(h:∀a,L a->H a≠YC->L' a){v:V}{t:OT}{as:List YG}(x:Own G H L v t as):Own G H L' v t as:=x.frame (λa xs p e=>⟨h a p e.some,e⟩) (λa xs e=>e) λa _ xs e=>e
theorem Owns.wide(h:∀a,L a->H a≠YC->L' a){v:List V}{t:List OT}{as:List YG}(x:Owns G H L v t as):Owns G H L' v t as:=x.frame (λa xs p e=>⟨h a p e.some,e⟩) (λa xs e=>e) λa _ xs e=>e
theorem Owns.same(h:Same H H'){v:List V}{t:List OT}{as:List YG}(x:Owns G H L v t as):Owns G H' L v t as:=x.frame (λa xs p e=>⟨p,e.same h⟩) (λa xs e=>h _ _ e) λa _ xs e=>h _ _ e
theorem Own.da2(h:∀a,L a->H a≠YC->L' a):(∀{v:V} {t:OT} {as:List YG},Own G H L v t as->(∀a∈as,L' a)->Da G H L' v t.data)∧∀{v:List V} {t:List OT} {as:List YG},Owns G H L v t as->(∀a∈as,L' a)->Das G H L' v (OT.datas t) :=
 Own.both (λk _=>by rw[OT.data_fz];exact k.wide h) (λe r ha=>by rw[OT.data];exact .lst (ha _ (.head _)) (.inl e) (r λa m=>ha a (.tail _ m))) (λe r ha=>by rw[OT.data];exact .tup e (r ha)) (λe k r ha=>by rw[OT.data];exact .dic (ha _ (.head _)) (.inl e) k (r.wide h)) (λ_=>.nil) (λk r ha=>.cons (k λa m=>ha a (VL _ m)) (r λa m=>ha a (QC _ m)))
theorem Own.da(h:∀a,L a->H a≠YC->L' a){v:V}{t:OT}{as:List YG}(ha:∀a∈as,L' a)(k:Own G H L v t as):Da G H L' v t.data:=(Own.da2 h).1 k ha
theorem Owns.das(h:∀a,L a->H a≠YC->L' a){v:List V}{t:List OT}{as:List YG}(ha:∀a∈as,L' a)(k:Owns G H L v t as):Das G H L' v (OT.datas t):=(Own.da2 h).2 k ha
theorem Own.some2:(∀{v:V} {t:OT} {as:List YG},Own G H L v t as->∀a∈as,∃xs:MuO,H a=YB xs.ho)∧∀{v:List V} {t:List OT} {as:List YG},Owns G H L v t as->∀a∈as,∃xs:MuO,H a=YB xs.ho :=
 Own.both (λ_ _ m=>nomatch m) (fun{_ xs _ _} e r a m=>(Xu.mp m).elim (λq=>⟨.lst xs,q▸e⟩) (r a)) (λ_ r=>r) (fun{_ o _ _ _ _} e _ _ a m=>⟨o,Xp.mp m▸e⟩) (λ_ m=>nomatch m) (λk r a m=>(QV.mp m).elim (k a) (r a))
theorem Own.some{v:V}{t:OT}{as:List YG}(h:Own G H L v t as):∀a∈as,∃xs:MuO,H a=YB xs.ho:=Own.some2.1 h
theorem Owns.some{v:List V}{t:List OT}{as:List YG}(h:Owns G H L v t as):∀a∈as,∃xs:MuO,H a=YB xs.ho:=Own.some2.2 h
theorem Owns.length{xs:List V}{ts:List OT}{as:List YG}(h:Owns G H L xs ts as):xs.length=ts.length:=(Own.both (P:=λ_ _ _=>True) (Q:=λxs ts _=>xs.length=ts.length) (λ_=>trivial) (λ_ _=>trivial) (λ_ _=>trivial) (λ_ _ _=>trivial) rfl (λ_ r=>YT (·+1) r)).2 h
theorem Das.owns{xs:List V}{ds:List Xa}(h:Das G H L xs ds):Owns G H L xs (ds.map OT.fz) []:=Das.ind (Q:=λxs ds=>Owns G H L xs (ds.map OT.fz) []) .nil (λh _ r=>.cons (.fz h) r) h
end
variable {G:Xb}
noncomputable abbrev Zh:=List (Option OT)
noncomputable abbrev Fp:=Nat->List YG
set_option genInjectivity false in
structure MC(G:Xb) where
 H₀:Hp
 as₀:YG->Prop
 L:YG->Prop
 Y₀:St
noncomputable def Foot(fp:Fp)(a:YG):Prop:=∃i,a∈fp i
noncomputable def Lf(C:MC G)(fp:Fp)(ex:YG->Prop)(a:YG):Prop:=¬Foot fp a∧¬ex a∧(C.L a∨C.H₀ a=YC)
structure Rel(C:MC G)(io:List Nat)(H:Hp)(Y:St)(δ:Zh)(fp:Fp)(ex:YG->Prop):Prop where
 len:Y.length=δ.length
 own:∀(i:Nat) (t:OT),δ[i]? =YB (YB t)->∃v,Y[i]? =YB (YB v)∧Own G H (Lf C fp ex) v t (fp i)
 emp:∀i:Nat,(∀t,δ[i]? ≠YB (YB t))->fp i=[]
 nd:∀i,(fp i).Nodup
 dj:∀i j a,a∈fp i->a∈fp j->i=j
 dx:∀i a,a∈fp i->¬ex a
 xa:∀a,ex a->H a≠YC
 fr:∀b o,C.H₀ b=YB o->¬C.as₀ b->H b=YB o
 al:∀b,H b=YC->C.H₀ b=YC
 new:∀i a,a∈fp i->(i∈io∧C.as₀ a)∨C.H₀ a=YC
 io:∀i∈io,Y[i]? =C.Y₀[i]?
structure Stp(p:Bool)(H:Hp)(δ:Zh)(fp:Fp)(H':Hp)(δ':Zh)(fp':Fp):Prop where
 keep:∀b o,H b=YB o->(p=YD∨¬Foot fp b)->H' b=YB o
 env:p=YD->δ'=δ∧fp'=fp
 grow:∀a,Foot fp' a->Foot fp a∨H a=YC
 al:∀b,H' b=YC->H b=YC
section
variable {C:MC G}{io:List Nat}{H H' H'':Hp}{Y:St}{δ δ' δ'':Zh}{fp fp' fp'':Fp}{ex ex':YG->Prop}{p p' c:Bool}{v:V}{d:Xa}{r:OT}{new:List YG}
theorem Rel.foot(R:Rel C io H Y δ fp ex){a:YG}(h:Foot fp a):∃xs:MuO,H a=YB xs.ho:=by
 obtain⟨i,h⟩:=h
 by_cases q:∃t,δ[i]? =YB (YB t)
 ·obtain⟨t,q⟩:=q
  obtain⟨v,_,o⟩:=R.own i t q;exact o.some a h
 ·rw[R.emp i (λt z=>q ⟨t,z⟩)]at h
  exact nomatch h
theorem Rel.footSome(R:Rel C io H Y δ fp ex){a:YG}(h:H a=YC):¬Foot fp a:=λz=>by
 obtain⟨xs,e⟩:=R.foot z;rw[h]at e;cases e
theorem Stp.refl(p:Bool)(H:Hp)(δ:Zh)(fp:Fp):Stp p H δ fp H δ fp:=⟨λ_ _ h _=>h,λ_=>⟨rfl,rfl⟩,λ_ h=>.inl h,λ_ h=>h⟩
theorem Stp.same(h:Same H H')(hn:∀b,H' b=YC->H b=YC):Stp p H δ fp H' δ fp:=⟨λ_ _ q _=>h _ _ q,λ_=>⟨rfl,rfl⟩,λ_ h=>.inl h,hn⟩
theorem Same.al(h:Same H H'):∀b,H' b=YC->H b=YC:=λ_ q=>h.free q
theorem Stp.trans(a:Stp p H δ fp H' δ' fp')(b:Stp p' H' δ' fp' H'' δ'' fp''):Stp (p&&p') H δ fp H'' δ'' fp'' where
 keep:=λx o e h=>by
  rcases h with h|h
  ·rw[Xv]at h
   exact b.keep x o (a.keep x o e (.inl h.1)) (.inl h.2)
  ·refine b.keep x o (a.keep x o e (.inr h)) (.inr λz=>?_)
   rcases a.grow x z with z|z
   ·exact h z
   ·rw[e]at z;cases z
 env:=λh=>by
  rw[Xv]at h;obtain⟨e1,e2⟩:=a.env h.1;obtain⟨e3,e4⟩:=b.env h.2;exact⟨e3.trans e1,e4.trans e2⟩
 grow:=λx h=>by
  rcases b.grow x h with h|h
  ·exact a.grow x h
  ·exact .inr (a.al x h)
 al:=λx h=>a.al x (b.al x h)
theorem Rel.frameL(R:Rel C io H Y δ fp ex)(S:Stp p H δ fp H' δ' fp')(hc:p=YD∨c=YD)(hx:∀a,ex' a->ex a∨H a=YC) :
  (∀ a (xs:MuO),(c=YD->Lf C fp ex a)->Rd H a xs.ho->(c=YD->Lf C fp' ex' a)∧Rd H' a xs.ho)∧(∀a (xs:ImO),H a=YB xs.ho->H' a=YB xs.ho):=by
 have nf:∀a,Foot fp a->∃xs:MuO,H a=YB xs.ho:=λa h=>R.foot h;refine⟨λa xs l q=>⟨λhc'=>?_,?_⟩,λa xs q=>S.keep a _ q (.inr λz=>?_)⟩
 ·obtain⟨l1,l2,l3⟩:=l hc'
  refine⟨λz=>?_,λz=>?_,l3⟩
  ·rcases S.grow a z with z|z
   ·exact l1 z
   ·exact q.some z
  ·rcases hx a z with z|z
   ·exact l2 z
   ·exact q.some z
 ·have hk:p=YD∨¬Foot fp a:=by
   rcases hc with h|h
   ·exact .inl h
   ·exact .inr (l h).1
  rcases q with q|⟨o,q⟩
  ·exact .inl (S.keep a _ q hk)
  ·exact .inr ⟨o,S.keep a _ q hk⟩
 ·obtain⟨ys,e⟩:=nf a z
  exact ImO.nm q e
theorem Rel.own_step(R:Rel C io H Y δ fp ex)(S:Stp p H δ fp H' δ' fp')(hc:p=YD∨c=YD)(hx:∀a,ex' a->ex a∨H a=YC)(hn:∀a∈new,ex a)
  (x:Own G H (λa=>c=YD->Lf C fp ex a) v r new):Own G H' (λa=>c=YD->Lf C fp' ex' a) v r new :=
 x.frame (R.frameL S hc hx).1 (R.frameL S hc hx).2 λa m xs e=>S.keep a _ e (.inr λ⟨i,z⟩=>R.dx i a z (hn a m))
theorem Rel.owns_step(R:Rel C io H Y δ fp ex)(S:Stp p H δ fp H' δ' fp')(hc:p=YD∨c=YD)(hx:∀a,ex' a->ex a∨H a=YC)(hn:∀a∈new,ex a){vs:List V}{rs:List OT}
  (x:Owns G H (λa=>c=YD->Lf C fp ex a) vs rs new):Owns G H' (λa=>c=YD->Lf C fp' ex' a) vs rs new :=
 x.frame (R.frameL S hc hx).1 (R.frameL S hc hx).2 λa m xs e=>S.keep a _ e (.inr λ⟨i,z⟩=>R.dx i a z (hn a m))
theorem Rel.drop(R:Rel C io H Y δ fp ex)(h:∀a,ex' a->ex a):Rel C io H Y δ fp ex' :=
 ⟨R.len,λi t e=>by
  obtain⟨v,e1,o⟩:=R.own i t e;exact⟨v,e1,o.wide λa l _=>⟨l.1,λz=>l.2.1 (h a z),l.2.2⟩⟩,R.emp,R.nd,R.dj,λi a m z=>R.dx i a m (h a z),λa z=>R.xa a (h a z),R.fr,R.al,R.new,R.io⟩
theorem Rel.made(R:Rel C io H Y δ fp ex)(s:Same H H')(hn:∀a∈new,H a=YC∧H' a≠YC):Rel C io H' Y δ fp (λa=>ex a∨a∈new) :=
 ⟨R.len,λi t e=>by
  obtain⟨v,e1,o⟩:=R.own i t e;refine⟨v,e1,(o.wide λa l q=>⟨l.1,λz=>?_,l.2.2⟩).same s⟩;rcases z with z|z
  ·exact l.2.1 z
  ·exact q (hn a z).1,R.emp,R.nd,R.dj,λi a m z=>by
   rcases z with z|z
   ·exact R.dx i a m z
   ·exact R.footSome (hn a z).1 ⟨i,m⟩,λa z=>by
   rcases z with z|z
   ·intro q;exact R.xa a z (s.free q)
   ·exact(hn a z).2,λb o e n=>s _ _ (R.fr b o e n),λb q=>R.al b (s.free q),R.new,R.io⟩
end
noncomputable abbrev MEt:=Zh->(OT->Zh->Prop)->Prop
noncomputable abbrev MAt:=Zh->(List OT->Zh->Prop)->Prop
noncomputable abbrev MTt:=Zh->(Bool->Zh->Prop)->Prop
noncomputable abbrev exu(ex:YG->Prop)(new:List YG):YG->Prop:=λa=>ex a∨a∈new
structure RE(C:MC G)(io:List Nat)(p c:Bool)(H:Hp)(Y:St)(δ:Zh)(fp:Fp)(ex:YG->Prop)(H':Hp)(v:V)(r:OT)(δ':Zh)(fp':Fp)(new:List YG):Prop where
 rel:Rel C io H' Y δ' fp' (exu ex new)
 stp:Stp p H δ fp H' δ' fp'
 own:Own G H' (λa=>c=YD->Lf C fp' (exu ex new) a) v r new
 nd:new.Nodup
 fresh:∀a∈new,H a=YC
structure RA(C:MC G)(io:List Nat)(p c:Bool)(H:Hp)(Y:St)(δ:Zh)(fp:Fp)(ex:YG->Prop)(H':Hp)(v:List V)(r:List OT)(δ':Zh)(fp':Fp)(new:List YG):Prop where
 rel:Rel C io H' Y δ' fp' (exu ex new)
 stp:Stp p H δ fp H' δ' fp'
 own:Owns G H' (λa=>c=YD->Lf C fp' (exu ex new) a) v r new
 nd:new.Nodup
 fresh:∀a∈new,H a=YC
noncomputable def SE(G:Xb)(io:List Nat)(p c:Bool)(t:TE)(m:MEt):Prop:=∀(C:MC G) (H:Hp) (Y:St) (δ:Zh) (fp:Fp) (ex:YG->Prop) (K:OT->Zh->Prop) (Q:VK),Rel C io H Y δ fp ex->m δ K ->
 (∀ H' v r δ' fp' new,RE C io p c H Y δ fp ex H' v r δ' fp' new->K r δ'->Q v H')->t Y H Q
noncomputable def SA(G:Xb)(io:List Nat)(p c:Bool)(t:TA)(m:MAt):Prop:=∀(C:MC G) (H:Hp) (Y:St) (δ:Zh) (fp:Fp) (ex:YG->Prop) (K:List OT->Zh->Prop) (Q:List V->Hp->Prop),Rel C io H Y δ fp ex->m δ K ->
 (∀ H' v r δ' fp' new,RA C io p c H Y δ fp ex H' v r δ' fp' new->K r δ'->Q v H')->t Y H Q
noncomputable def STt(G:Xb)(io:List Nat)(p:Bool)(t:TT)(m:MTt):Prop:=∀(C:MC G) (H:Hp) (Y:St) (δ:Zh) (fp:Fp) (ex:YG->Prop) (K:Bool->Zh->Prop) (Q:Bool->Hp->Prop),Rel C io H Y δ fp ex->m δ K ->
 (∀ H' b δ' fp',Rel C io H' Y δ' fp' ex->Stp p H δ fp H' δ' fp'->K b δ'->Q b H')->t Y H Q
noncomputable def ME(X:Cx)(io:List Nat)(p c:Bool)(e:YJ)(m:MEt):Prop:=∃t,PE X e t∧SE X.K io p c t m
noncomputable def MA(X:Cx)(io:List Nat)(p c:Bool)(e:List YJ)(m:MAt):Prop:=∃t,PA X e t∧SA X.K io p c t m
noncomputable def MT(X:Cx)(io:List Nat)(p:Bool)(e:YJ)(m:MTt):Prop:=∃t,PT X e t∧STt X.K io p t m
noncomputable def MW(X:Cx)(io:List Nat)(p:Bool)(e:YJ)(m:MTt):Prop:=∃t,PW X e t∧STt X.K io p t m
section
variable {C:MC G}{io:List Nat}{H H' H'':Hp}{Y:St}{δ δ' δ'':Zh}{fp fp' fp'':Fp}{ex ex':YG->Prop}{p p' c:Bool}{v:V}{d:Xa}{r:OT}{vs:List V}{rs:List OT}{new:List YG}
theorem Rel.newOk(R:Rel C io H Y δ fp ex){a:YG}(h:H a=YC):¬Foot fp a∧¬ex a∧C.H₀ a=YC:=⟨R.footSome h,λz=>R.xa a z h,R.al a h⟩
theorem RE.da(R:RE C io p c H Y δ fp ex H' v r δ' fp' new)(R0:Rel C io H Y δ fp ex):Da G H' (λa=>c=YD->Lf C fp' ex a) v r.data:=by
 refine R.own.da (λa l _ h=>?_) (λa m _=>?_)
 ·exact⟨(l h).1,λz=>(l h).2.1 (.inl z),(l h).2.2⟩
 ·refine⟨λqz9=>?_,(R0.newOk (R.fresh a m)).2.1,.inr (R0.newOk (R.fresh a m)).2.2⟩
  obtain⟨i,z⟩:=qz9;exact R.rel.dx i a z (.inr m)
theorem RA.das(R:RA C io p c H Y δ fp ex H' vs rs δ' fp' new)(R0:Rel C io H Y δ fp ex):Das G H' (λa=>c=YD->Lf C fp' ex a) vs (OT.datas rs):=by
 refine R.own.das (λa l _ h=>?_) (λa m _=>?_)
 ·exact⟨(l h).1,λz=>(l h).2.1 (.inl z),(l h).2.2⟩
 ·refine⟨λqz9=>?_,(R0.newOk (R.fresh a m)).2.1,.inr (R0.newOk (R.fresh a m)).2.2⟩
  obtain⟨i,z⟩:=qz9;exact R.rel.dx i a z (.inr m)
theorem RE.base(R:RE C io p c H Y δ fp ex H' v r δ' fp' new):Rel C io H' Y δ' fp' ex:=R.rel.drop λa z=>.inl z
theorem RA.base(R:RA C io p c H Y δ fp ex H' vs rs δ' fp' new):Rel C io H' Y δ' fp' ex:=R.rel.drop λa z=>.inl z
theorem Zb5{a:YG}:exu ex [] a↔ex a:=by simp[exu]
theorem RE.fz(R:Rel C io H' Y δ' fp' ex)(S:Stp p H δ fp H' δ' fp')(h:Da G H' (λa=>c=YD->Lf C fp' ex a) v d):RE C io p c H Y δ fp ex H' v (.fz d) δ' fp' [] :=
 ⟨R.drop λa z=>Zb5.mp z,S,.fz (h.wide λa l _ hc=>⟨(l hc).1,λz=>(l hc).2.1 (Zb5.mp z),(l hc).2.2⟩),.nil,λa m=>nomatch m⟩
theorem RE.tree{H1:Hp}(R0:Rel C io H Y δ fp ex)(R:Rel C io H1 Y δ' fp' ex)(S:Stp p H δ fp H1 δ' fp')(s:Same H1 H')(hn:∀a∈new,H1 a=YC)(nd:new.Nodup)
  (o:Own G H' (λa=>((c=YD->Lf C fp' ex a)∨H1 a=YC)∧a∉new) v r new):RE C io p c H Y δ fp ex H' v r δ' fp' new:=by
 refine⟨R.made s λa m=>⟨hn a m,λz=>?_⟩,?_,o.wide λa l q hc=>?_,nd,λa m=>S.al a (hn a m)⟩
 ·obtain⟨xs,e⟩:=o.some a m
  rw[z]at e;cases e
 ·have:=S.trans (p':=YD) (Stp.same (p:=YD) (δ:=δ') (fp:=fp') s s.al)
  rwa[V6]at this
 ·rcases l.1 with l1|l1
  ·exact⟨(l1 hc).1,λz=>z.elim (l1 hc).2.1 l.2,(l1 hc).2.2⟩
  ·exact⟨R.footSome l1,λz=>z.elim (λz=>R.xa a z l1) l.2,.inr (R.al a l1)⟩
end
inductive ScD:V->Xa->Prop where
 | non:ScD .non .none
 | bl (b:Bool):ScD (.bl b) (.bool b)
 | int (i:Int):ScD (.int i) (.int i)
 | str (x:Str):ScD (.str x) (.str x)
theorem ScD.da{H:Hp}{L:YG->Prop}{v:V}{d:Xa}(h:ScD v d):Da G H L v d:=by
 cases h
 ·exact .non
 ·exact .bl _
 ·exact .int _
 ·exact .str _
section
variable {X:Cx}{io:List Nat}{p p' c c':Bool}{e a b:YJ}{m ma mb:MEt}{es:List YJ}
noncomputable def Ybe(i:Nat):MEt:=λδ K=>match δ[i]? with|some (YB (.fz d))=>K (.fz d) δ|_=>False
noncomputable def Ybz(i:Nat):MEt:=λδ K=>match δ[i]? with|some (YB t)=>K (.fz t.data) δ|_=>False
noncomputable def mC(d:Xa):MEt:=λδ K=>K (.fz d) δ
theorem mv(i:Nat){x:Str}{pos:Pos}(hN:X.N[i]? =YB x:=by rfl)(hv:Vis X.env.scope x:=by first|exact QD rfl|exact Qx (QD rfl)|exact Qx (Qx rfl))(hd:(x==("__debug__" : Str))=YF:=by decide)
  (hcd:(x==("__classdict__" : Str))=YF:=by decide):ME X io YD YD (.Name x pos) (Ybe i):=by
 refine⟨_,pv i hN hv hd hcd,λC H Y δ fp ex K Q R h k=>?_⟩;unfold Ybe at h;split at h
 ·rename_i d hd
  obtain⟨v,e,o⟩:=R.own i _ hd;refine⟨v,e,k H v _ δ fp [] (.fz R (.refl _ _ _ _) ?_) h⟩;generalize fp i=as at o;cases o with
  | fz q=>exact q.wide λa l _ _=>l
 ·exact h.elim
theorem mo(i:Nat){x:Str}{pos:Pos}(hN:X.N[i]? =YB x:=by rfl)(hv:Vis X.env.scope x:=by first|exact QD rfl|exact Qx (QD rfl)|exact Qx (Qx rfl))(hd:(x==("__debug__" : Str))=YF:=by decide)
  (hcd:(x==("__classdict__" : Str))=YF:=by decide):ME X io YD YF (.Name x pos) (Ybz i):=by
 refine⟨_,pv i hN hv hd hcd,λC H Y δ fp ex K Q R h k=>?_⟩;unfold Ybz at h;split at h
 ·rename_i d hd
  obtain⟨v,e,o⟩:=R.own i _ hd;exact⟨v,e,k H v _ δ fp [] (.fz R (.refl _ _ _ _) (o.da (λa _ _ z=>(nomatch z)) λa _ z=>(nomatch z))) h⟩
 ·exact h.elim
theorem Zn9{t:V}{d:Xa}(h:PE X e (tC t))(s:ScD t d):ME X io YD YD e (mC d) :=
 ⟨_,h,λC H Y δ fp ex K Q R h k=>k H t _ δ fp [] (.fz R (.refl _ _ _ _) s.da) h⟩
theorem Z51{i j pos}:ME X io YD YD (.Constant (.int i) j pos) (mC (.int i)):=Zn9 Z7o (.int i)
theorem Zqw{b j pos}:ME X io YD YD (.Constant (.bool b) j pos) (mC (.bool b)):=Zn9 Ydi (.bl b)
theorem Z0k{j pos}:ME X io YD YD (.Constant .none j pos) (mC .none):=Zn9 Yay .non
theorem SE.two{ta tb:TE}(ha:SE G io p c ta ma)(hb:SE G io p' c' tb mb)(hc:p'=YD∨c=YD){C:MC G}{H:Hp}{Y:St}{δ:Zh}{fp:Fp}{ex:YG->Prop}{K:OT->OT->Zh->Prop}{Q:V->V->Hp->Prop}
  (R:Rel C io H Y δ fp ex) (h:ma δ λx δ1=>mb δ1 λy δ2=>K x y δ2)
  (k:∀H' x y u v δ' fp',Rel C io H' Y δ' fp' ex->Stp (p&&p') H δ fp H' δ' fp'->Da G H' (λa=>(c&&c')=YD->Lf C fp' ex a) x u.data->Da G H' (λa=>(c&&c')=YD->Lf C fp' ex a) y v.data->K u v δ'->Q x y H') :
  ta Y H λx H1=>tb Y H1 λy H2=>Q x y H2:=by
 refine ha C H Y δ fp ex _ _ R h λH1 x u δ1 fp1 new1 r1 h1=>?_;refine hb C H1 Y δ1 fp1 (exu ex new1) _ _ r1.rel h1 λH2 y v δ2 fp2 new2 r2 h2=>?_;have o1:=r1.rel.own_step (ex':=exu (exu ex new1) new2) r2.stp (c:=c) hc (λa z=>z.imp id λz=>r2.fresh a z) (λa m=>.inr m) r1.own;have R2:Rel C io H2 Y δ2 fp2 ex:=r2.rel.drop λa z=>.inl (.inl z);have q1:Da G H2 (λa=>c=YD->Lf C fp2 ex a) x u.data:=by
  refine o1.da (λa l _ z=>?_) (λa m z=>?_)
  ·exact⟨(l z).1,λw=>(l z).2.1 (.inl (.inl w)),(l z).2.2⟩
  ·have:=R.newOk (r1.fresh a m)
   refine⟨λqz9=>?_,this.2.1,.inr this.2.2⟩;obtain⟨i,w⟩:=qz9;exact r2.rel.dx i a w (.inl (.inr m))
 have q2:=r2.da r1.rel;refine k H2 x y u v δ2 fp2 R2 (r1.stp.trans r2.stp) (q1.wide λa l _ z=>l (by rw[Xv]at z;exact z.1)) (q2.wide λa l _ z=>?_) h2;have l:=l (by rw[Xv]at z;exact z.2);exact⟨l.1,λw=>l.2.1 (.inl w),l.2.2⟩
noncomputable def P2s(G:Xb)(r:R2)(rp:Xa->Xa->(Xa->Prop)->Prop):Prop:=∀(H:Hp) (L:YG->Prop) (x y:V) (d e:Xa) (k:Xa->Prop) (Q:VK),Da G H L x d->Da G H L y e->rp d e k->(∀v d',ScD v d'->k d'->Q v H)->r x y H Q
noncomputable def P2(G:Xb)(r:R2)(rp:Xa->Xa->(OT->Prop)->Prop):Prop:=∀(H:Hp) (L:YG->Prop) (x y:V) (d e:Xa) (k:OT->Prop) (Q:VK),Da G H L x d->Da G H L y e->rp d e k ->
 (∀ H' v o new,Same H H'->Own G H' (λa=>(L a∨H a=YC)∧a∉new) v o new->new.Nodup->(∀a∈new,H a=YC)->k o->Q v H')->r x y H Q
noncomputable def Znm(rp:Xa->Xa->(Xa->Prop)->Prop)(ma mb:MEt):MEt:=λδ K=>ma δ λx δ1=>mb δ1 λy δ2=>rp x.data y.data λd=>K (.fz d) δ2
noncomputable def Ybl(rp:Xa->Xa->(OT->Prop)->Prop)(ma mb:MEt):MEt:=λδ K=>ma δ λx δ1=>mb δ1 λy δ2=>rp x.data y.data λd=>K d δ2
theorem Z2l{r:R2}{rp}{ta tb:TE}(P:P2s G r rp)(ha:SE G io p c ta ma)(hb:SE G io p' c' tb mb)(hc:p'=YD∨c=YD):SE G io (p&&p') YD (tOp r ta tb) (Znm rp ma mb):=by
 intro C H Y δ fp ex K Q R h k;refine SE.two (K:=λx y δ2=>rp x.data y.data λd=>K (.fz d) δ2) (Q:=λx y H2=>r x y H2 Q) ha hb hc R h λH' x y u v δ' fp' R' S q1 q2 h'=>?_;exact P H' _ x y _ _ _ _ q1 q2 h' λw d' sc h''=>k H' w _ δ' fp' [] (.fz R' S sc.da) h''
theorem Ygg{r:R2}{rp}{ta tb:TE}(P:P2 G r rp)(ha:SE G io p c ta ma)(hb:SE G io p' c' tb mb)(hc:p'=YD∨c=YD):SE G io (p&&p') (c&&c') (tOp r ta tb) (Ybl rp ma mb):=by
 intro C H Y δ fp ex K Q R h k;refine SE.two (K:=λx y δ2=>rp x.data y.data λd=>K d δ2) (Q:=λx y H2=>r x y H2 Q) ha hb hc R h λH' x y u v δ' fp' R' S q1 q2 h'=>?_;exact P H' _ x y _ _ _ _ q1 q2 h' λH2 w o new s ow nd hn h''=>k H2 w o δ' fp' new (RE.tree R R' S s hn nd ow) h''
theorem Zrh{op:Operator}{r:R2}{rp}{pos:Pos}(ho:OpR X (Uk op) r)(P:P2s X.K r rp)(ha:ME X io p c a ma)(hb:ME X io p' c' b mb)(hc:p'=YD∨c=YD:=by first|exact QD rfl|exact Qx rfl):ME X io (p&&p') YD (.BinOp a op b pos) (Znm rp ma mb):=by
 obtain⟨_,A,sa⟩:=ha;obtain⟨_,B,sb⟩:=hb;exact⟨_,Z23 ho A B,Z2l P sa sb hc⟩
theorem Z5i{op:Operator}{r:R2}{rp}{pos:Pos}(ho:OpR X (Uk op) r)(P:P2 X.K r rp)(ha:ME X io p c a ma)(hb:ME X io p' c' b mb)(hc:p'=YD∨c=YD:=by first|exact QD rfl|exact Qx rfl):ME X io (p&&p') (c&&c') (.BinOp a op b pos) (Ybl rp ma mb):=by
 obtain⟨_,A,sa⟩:=ha;obtain⟨_,B,sb⟩:=hb;exact⟨_,Z23 ho A B,Ygg P sa sb hc⟩
theorem Zg2{op:CmpOp}{r:R2}{rp}{pos:Pos}(ho:OpR X (Bf op) r)(P:P2s X.K r rp)(ha:ME X io p c a ma)(hb:ME X io p' c' b mb)(hc:p'=YD∨c=YD:=by first|exact QD rfl|exact Qx rfl)(hm:U9 op b=YF):ME X io (p&&p') YD (.Compare a [op] [b] pos) (Znm rp ma mb):=by
 obtain⟨_,A,sa⟩:=ha;obtain⟨_,B,sb⟩:=hb;exact⟨_,Z13 ho A B hm,Z2l P sa sb hc⟩
theorem Yh9{r:R2}{rp}{pos:Pos}(ho:IxR X r)(P:P2 X.K r rp)(ha:ME X io p c a ma)(hb:ME X io p' c' b mb)(hc:p'=YD∨c=YD:=by first|exact QD rfl|exact Qx rfl)(hs:Zk7 b):ME X io (p&&p') (c&&c') (.Subscript a b pos) (Ybl rp ma mb):=by
 obtain⟨_,A,sa⟩:=ha;obtain⟨_,B,sb⟩:=hb;exact⟨_,Z6w ho A B hs,Ygg P sa sb hc⟩
noncomputable def kB(K:Bool->Zh->Prop):OT->Zh->Prop:=λo δ=>match o with| .fz (.bool b)=>K b δ|_=>False
theorem Yd4{t:TE}(h:SE G io p c t m):STt G io p (Z6m t) (λδ K=>m δ (kB K)):=by
 intro C H Y δ fp ex K Q R h' k;refine h C H Y δ fp ex _ _ R h' λH' v r δ' fp' new r1 h1=>?_;cases r with
 | nd ts=>exact h1.elim
 | tp ts=>exact h1.elim
 | dc _ _ _=>exact h1.elim
 | fz d=>
  cases d with
  | bool b=>
   cases r1.own with
   | fz q=>
    cases q;exact⟨b,rfl,k H' b δ' fp' r1.base r1.stp h1⟩
  | _=>exact h1.elim
theorem Ze5{op:CmpOp}{r:R2}{rp}{pos:Pos}(ho:OpR X (Bf op) r)(P:P2s X.K r rp)(ha:ME X io p c a ma)(hb:ME X io p' c' b mb)(hc:p'=YD∨c=YD:=by first|exact QD rfl|exact Qx rfl)(hm:U9 op b=YF) :
  MT X io (p&&p') (.Compare a [op] [b] pos) (λδ K=>Znm rp ma mb δ (kB K)):=by
 obtain⟨_,A,sa⟩:=ha;obtain⟨_,B,sb⟩:=hb;exact⟨_,Z3z ho A B hm,Yd4 (Z2l P sa sb hc)⟩
end
variable {G:Xb}
section
variable {X:Cx}{io:List Nat}{p p' p'' c c':Bool}{e a b:YJ}{m ma mb:MEt}{es rest:List YJ}{ta tb:MTt}{pos:Pos}
noncomputable def Yfr(t:MTt):MTt:=λδ K=>t δ λb δ'=>K (!b) δ'
noncomputable def mOr(t u:MTt):MTt:=λδ K=>t δ λb δ'=>if b=YD then K YD δ' else u δ' K
theorem Z9s(h:MT X io p a ta):MT X io p (.UnaryOp .Not a pos) (Yfr ta):=by
 obtain⟨_,A,sa⟩:=h;exact⟨_,Z7i A,λC H Y δ fp ex K Q R h k=>sa C H Y δ fp ex _ _ R h λH' b δ' fp' R' S h'=>k H' (!b) δ' fp' R' S h'⟩
theorem Ztw(h:MT X io p a ta):MW X io p (.BoolOp .Or [a] pos) ta:=by
 obtain⟨_,A,sa⟩:=h;exact⟨_,Z8o A,sa⟩
theorem Stp.andL{H H':Hp}{δ δ':Zh}{fp fp':Fp}(S:Stp p H δ fp H' δ' fp'):Stp (p&&p') H δ fp H' δ' fp':=by
 have:=S.trans (Stp.refl p' H' δ' fp');exact this
theorem Zwy(h:MT X io p a ta)(g:MW X io p' (.BoolOp .Or (b::rest) pos) tb):MW X io (p&&p') (.BoolOp .Or (a::b::rest) pos) (mOr ta tb):=by
 obtain⟨_,A,sa⟩:=h;obtain⟨_,B,sb⟩:=g;exact⟨_,Yce A B,λC H Y δ fp ex K Q R h k=>sa C H Y δ fp ex _ _ R h λH' b δ' fp' R' S h'=>by
  cases b with
  | true=>
   rw[YL rfl]at h'⊢;exact k H' YD δ' fp' R' S.andL h'
  | false=>
   rw[YM XC]at h'⊢;exact sb C H' Y δ' fp' ex _ _ R' h' λH2 b2 δ2 fp2 R2 S2 h2=>k H2 b2 δ2 fp2 R2 (S.trans S2) h2⟩
theorem MW.mt(h:MW X io p e ta):MT X io p e ta:=by
 obtain⟨_,A,sa⟩:=h;exact⟨_,A.pt,sa⟩
noncomputable def Zwc:Xa->Option Bool
 | .none=>YB YF
 | .bool b=>YB b
 | .int i=>YB (i !=0)
 | .list ds=>YB (!ds.isEmpty)
 | .tuple ds=>YB (!ds.isEmpty)
 | _=>YC
noncomputable def Yfj(m:MEt):MTt:=λδ K=>m δ λr δ'=>match Zwc r.data with|some b=>K b δ'|none=>False
theorem Das.isEmpty{H:Hp}{L:YG->Prop}{xs:List V}{ds:List Xa}(h:Das G H L xs ds):xs.isEmpty=ds.isEmpty:=by cases h<;>rfl
theorem Zc4(ha:ME X io p c a ma)(he:∀whole,isTrue a X.env whole=(do let v←whole;standAt a.pos;holding [v] (truthy v))):MT X io p a (Yfj ma):=by
 obtain⟨_,A,sa⟩:=ha;exact⟨_,Z1t rfl A he,λC H Y δ fp ex K' Q R h k=>sa C H Y δ fp ex _ _ R h λH' v r δ' fp' new r1 h1=>by
  have q:=r1.da R;generalize r.data=d at q h1;cases q with
  | non=>exact⟨_,rfl,k H' _ δ' fp' r1.base r1.stp h1⟩
  | bl b=>exact⟨_,rfl,k H' _ δ' fp' r1.base r1.stp h1⟩
  | int b=>exact⟨_,rfl,k H' _ δ' fp' r1.base r1.stp h1⟩
  | str x=>exact h1.elim
  | lst _ e q=>exact⟨_,.inl ⟨_,.inl e,rfl⟩,k H' _ δ' fp' r1.base r1.stp (by rw[q.isEmpty];exact h1)⟩
  | tup e q=>exact⟨_,.inr (.inl ⟨_,.inl (.inl e),rfl⟩),k H' _ δ' fp' r1.base r1.stp (by rw[q.isEmpty];exact h1)⟩
  | scr q=>exact⟨_,.inl ⟨_,q.sq,rfl⟩,k H' _ δ' fp' r1.base r1.stp (by simpa [Zwc]using h1)⟩
  | exc _ _ _=>exact h1.elim
  | fn _=>exact h1.elim
  | dic _ _ _ _=>exact h1.elim⟩
noncomputable def asB(d:Xa)(k:Bool->Prop):Prop:=match d with| .bool b=>k b|_=>False
noncomputable def Z7c(a b:MEt):MEt:=λδ K=>a δ λx δ1=>asB x.data λc=>if c=YD then b δ1 K else K (.fz (.bool YF)) δ1
noncomputable def Z88(a:MEt):MEt:=λδ K=>a δ λx δ1=>asB x.data λc=>K (.fz (.bool (!c))) δ1
noncomputable def mIf(t:MTt)(a b:MEt):MEt:=λδ K=>t δ λc δ1=>if c=YD then a δ1 K else b δ1 K
theorem Da.boolInv{H:Hp}{L:YG->Prop}{v:V}{d:Xa}{k:Bool->Prop}(q:Da G H L v d)(h:asB d k):∃b,v= .bl b∧k b:=by
 cases q with
 | bl b=>exact⟨b,rfl,h⟩
 | _=>exact h.elim
theorem RE.step{C:MC G}{H H1 H2:Hp}{Y:St}{δ δ1 δ2:Zh}{fp fp1 fp2:Fp}{ex:YG->Prop}{v:V}{r:OT}{new:List YG}(S:Stp p H δ fp H1 δ1 fp1)(R:RE C io p' c H1 Y δ1 fp1 ex H2 v r δ2 fp2 new) :
  RE C io (p&&p') c H Y δ fp ex H2 v r δ2 fp2 new:=⟨R.rel,S.trans R.stp,R.own,R.nd,λa m=>S.al a (R.fresh a m)⟩
theorem Zwx{op}(h:ME X io p c a ma):ME X io p c (.BoolOp op [a] pos) ma:=by
 obtain⟨_,A,sa⟩:=h;exact⟨_,Z8t A,sa⟩
theorem Zyf(ha:ME X io p c a ma)(hb:ME X io p' c' (.BoolOp .And (b::rest) pos) mb):ME X io (p&&p') c' (.BoolOp .And (a::b::rest) pos) (Z7c ma mb):=by
 obtain⟨_,A,sa⟩:=ha;obtain⟨_,B,sb⟩:=hb;exact⟨_,Z5y A B,λC H Y δ fp ex K Q R h k=>sa C H Y δ fp ex _ _ R h λH' v r δ' fp' new r1 h1=>by
  obtain⟨b,rfl,h1⟩:=(r1.da R).boolInv h1;refine⟨b,rfl,?_⟩;cases b with
  | true=>
   rw[YL rfl]at h1⊢;exact sb C H' Y δ' fp' ex _ _ r1.base h1 λH2 w r2 δ2 fp2 new2 R2 h2=>k H2 w r2 δ2 fp2 new2 (R2.step r1.stp) h2
  | false=>
   rw[YM XC]at h1⊢;exact k H' _ _ δ' fp' [] (RE.fz r1.base r1.stp.andL (.bl YF)) h1⟩
theorem Yeg(ha:ME X io p c a ma):ME X io p YD (.UnaryOp .Not a pos) (Z88 ma):=by
 obtain⟨_,A,sa⟩:=ha;exact⟨_,Z50 A,λC H Y δ fp ex K Q R h k=>sa C H Y δ fp ex _ _ R h λH' v r δ' fp' new r1 h1=>by
  obtain⟨b,rfl,h1⟩:=(r1.da R).boolInv h1;exact⟨b,rfl,k H' _ _ δ' fp' [] (RE.fz r1.base r1.stp (.bl _)) h1⟩⟩
theorem Stp.cast{p p':Bool}{H H':Hp}{δ δ':Zh}{fp fp':Fp}(h:p'=YD->p=YD)(S:Stp p H δ fp H' δ' fp'):Stp p' H δ fp H' δ' fp' :=
 ⟨λb o e q=>S.keep b o e (q.imp h id),λq=>S.env (h q),S.grow,S.al⟩
theorem RE.cast{C:MC G}{H H1:Hp}{Y:St}{δ δ1:Zh}{fp fp1:Fp}{ex:YG->Prop}{v:V}{r:OT}{new:List YG}(hp:p'=YD->p=YD)(hc:c'=YD->c=YD)(R:RE C io p c H Y δ fp ex H1 v r δ1 fp1 new) :
  RE C io p' c' H Y δ fp ex H1 v r δ1 fp1 new:=⟨R.rel,R.stp.cast hp,R.own.wide λa l _ z=>l (hc z),R.nd,R.fresh⟩
theorem Yjn{t:YJ}(ht:MT X io p t ta)(ha:ME X io p' c a ma)(hb:ME X io p'' c' b mb):ME X io (p&&(p'&&p'')) (c&&c') (.IfExp t a b pos) (mIf ta ma mb):=by
 obtain⟨_,T,st⟩:=ht;obtain⟨_,A,sa⟩:=ha;obtain⟨_,B,sb⟩:=hb;exact⟨_,Zyz T A B,λC H Y δ fp ex K Q R h k=>st C H Y δ fp ex _ _ R h λH' b δ' fp' R' S h'=>by
  cases b with
  | true=>
   rw[YL rfl]at h'⊢;exact sa C H' Y δ' fp' ex _ _ R' h' λH2 w r2 δ2 fp2 new2 R2 h2=>k H2 w r2 δ2 fp2 new2 ((R2.step S).cast (λz=>by simp at z;simp[z]) (λz=>by simp at z;exact z.1)) h2
  | false=>
   rw[YM XC]at h'⊢;exact sb C H' Y δ' fp' ex _ _ R' h' λH2 w r2 δ2 fp2 new2 R2 h2=>k H2 w r2 δ2 fp2 new2 ((R2.step S).cast (λz=>by simp at z;simp[z]) (λz=>by simp at z;exact z.2)) h2⟩
end
section
variable {X:Cx}{io:List Nat}{p p' p'' c c':Bool}{e a b:YJ}{m ma mb:MEt}{es rest:List YJ}{mr:MAt}{pos:Pos}
noncomputable def Yg9:MAt:=λδ K=>K [] δ
noncomputable def Z67(m:MEt)(mr:MAt):MAt:=λδ K=>m δ λr δ1=>mr δ1 λrs δ2=>K (r::rs) δ2
theorem Z9e:MA X io YD YD [] Yg9:=⟨_,Zgp,λC H Y δ fp ex K Q R h k=>k H [] [] δ fp [] ⟨R.drop λa z=>Zb5.mp z,.refl _ _ _ _,.nil,.nil,λa m=>nomatch m⟩ h⟩
theorem Z1b(ha:ME X io p c e m)(hr:MA X io p' c' es mr)(hc:p'=YD∨c=YD)(hs:Xr (e::es) X.env=(YF,eval e X.env)::Xr es X.env:=by rfl):MA X io (p&&p') (c&&c') (e::es) (Z67 m mr):=by
 obtain⟨tA,A,sa⟩:=ha;obtain⟨tB,B,sb⟩:=hr;refine⟨_,Zbp A B hs,λC H Y δ fp ex K Q R h k=>?_⟩;refine sa C H Y δ fp ex _ _ R h λH1 x u δ1 fp1 new1 r1 h1=>?_;refine sb C H1 Y δ1 fp1 (exu ex new1) _ _ r1.rel h1 λH2 ys us δ2 fp2 new2 r2 h2=>?_;have o1:=r1.rel.own_step (ex':=exu (exu ex new1) new2) r2.stp (c:=c) hc (λa z=>z.imp id λz=>r2.fresh a z) (λa m=>.inr m) r1.own;have eqx:∀a,exu ex (new1++new2) a->exu (exu ex new1) new2 a:=λa z=>by
  rcases z with z|z
  ·exact .inl (.inl z)
  ·rcases QV.mp z with z|z
   ·exact .inl (.inr z)
   ·exact .inr z
 refine k H2 (x::ys) (u::us) δ2 fp2 (new1++new2) ⟨r2.rel.drop eqx,r1.stp.trans r2.stp,.cons (o1.wide λa l _ z=>?_) (r2.own.wide λa l _ z=>?_),?_,?_⟩ h2
 ·have l:=l (by rw[Xv]at z;exact z.1)
  exact⟨l.1,λw=>l.2.1 (eqx a w),l.2.2⟩
 ·have l:=l (by rw[Xv]at z;exact z.2)
  exact⟨l.1,λw=>l.2.1 (eqx a w),l.2.2⟩
 ·refine BL.mpr ⟨r1.nd,r2.nd,λa m b m' z=>?_⟩
  subst z;obtain⟨xs,e⟩:=r1.own.some a m;rw[r2.fresh a m']at e;cases e
 ·intro a m
  rcases QV.mp m with m|m
  ·exact r1.fresh a m
  ·exact r1.stp.al a (r2.fresh a m)
noncomputable def Yhh(m:MAt):MEt:=λδ K=>m δ λrs δ'=>rs.length≤Xz∧K (.fz (.tuple (OT.datas rs))) δ'
noncomputable def Ygo(m:MAt):MEt:=λδ K=>m δ λrs δ'=>rs.length≤Xz∧K (.nd rs) δ'
theorem Yc4{x1}(h:MA X io p c es mr):ME X io p c (.Tuple es x1 pos) (Yhh mr):=by
 obtain⟨tA,A,sa⟩:=h;refine⟨_,Zzd A,λC H Y δ fp ex K Q R h k=>?_⟩;refine sa C H Y δ fp ex _ _ R h λH1 vs rs δ1 fp1 new1 r1 h1=>⟨by rw[r1.own.length];exact h1.1,λq hq=>?_⟩;have s:=Z7 hq (.tup vs);have R1:=r1.base;have S:=r1.stp.trans (p':=YD) (Stp.same (p:=YD) (δ:=δ1) (fp:=fp1) s s.al);rw[V6]at S;refine k _ _ _ δ1 fp1 [] (.fz ?_ S (.tup Z8 ((r1.das R).same s))) h1.2;exact(R1.made (new:=[]) s λa m=>nomatch m).drop λa z=>.inl z
theorem Yc1(h:MA X io p c es mr):ME X io p c (.List es pos) (Ygo mr):=by
 obtain⟨tA,A,sa⟩:=h;refine⟨_,Zzv A,λC H Y δ fp ex K Q R h k=>?_⟩;refine sa C H Y δ fp ex _ _ R h λH1 vs rs δ1 fp1 new1 r1 h1=>⟨by rw[r1.own.length];exact h1.1,λq hq=>?_⟩;have s:=Z7 hq (.lst vs);have S:=r1.stp.trans (p':=YD) (Stp.same (p:=YD) (δ:=δ1) (fp:=fp1) s s.al);rw[V6]at S;have hqn:q∉new1:=λm=>by
  obtain⟨xs,e⟩:=r1.own.some q m;rw[hq]at e;cases e
 have R2:=(r1.rel.made (new:=[q]) s λa m=>by
  rcases Xp.mp m with rfl;exact⟨hq,by rw[Z8];intro z;cases z⟩)
 have eqx:∀a,exu ex (q::new1) a->exu (exu ex new1) [q] a:=λa z=>by
  rcases z with z|z
  ·exact .inl (.inl z)
  ·rcases Xu.mp z with z|z
   ·exact .inr (Xp.mpr z)
   ·exact .inl (.inr z)
 refine k _ _ _ δ1 fp1 (q::new1) ⟨R2.drop eqx,S,.nd Z8 ((r1.own.wide λa l w z=>?_).same s),Qy.mpr ⟨hqn,r1.nd⟩,λa m=>?_⟩ h1.2
 ·have l:=l z
  refine⟨l.1,λy=>?_,l.2.2⟩;rcases eqx a y with y|y
  ·exact l.2.1 y
  ·rcases Xp.mp y with rfl
   exact w hq
 ·rcases Xu.mp m with rfl|m
  ·exact r1.stp.al _ hq
  ·exact r1.fresh a m
end
variable {G:Xb}
noncomputable def spD(G:Xb)(S:List Xa->(OT->Prop)->Prop):Sp:=λvs H Q _=>∃L ds k,Das G H L vs ds∧S ds k∧
 ∀r v H' new,k r->Same H H'->Own G H' (λa=>(L a∨H a=YC)∧a∉new) v r new->new.Nodup->(∀a∈new,H a=YC)->Q v H'
noncomputable def spI(G:Xb)(S:OT->List Xa->(OT->OT->Prop)->Prop):Sp:=λvs H Q _=>∃L v0 t0 as vs' ds k,vs=v0::vs'∧Own G H L v0 t0 as∧as.Nodup∧(∀a∈as,¬L a)∧Das G H L vs' ds∧S t0 ds k∧
 ∀r t' v H' new as',k r t'->(∀b o,H b=YB o->b∉as->H' b=YB o)->(∀b,H' b=YC->H b=YC) ->
  Own G H' (λa=>(L a∨H a=YC)∧a∉new∧a∉as') v r new->Own G H' (λa=>(L a∨H a=YC)∧a∉new∧a∉as') v0 t' as'->(as'++new).Nodup->(∀a∈new,H a=YC)->(∀a∈as',a∈as∨H a=YC)->Q v H'
section
variable {X:Cx}{io:List Nat}{p p' p'' c c':Bool}{e a b:YJ}{m ma mb:MEt}{es rest:List YJ}{mr:MAt}{pos:Pos}
variable {CX:CXT}{k:Nat}{f:YG}{fd:XN}{ps:List Str}{E:XK}{x:Str}{pp:Pos}
noncomputable def Zwu(S:List Xa->(OT->Prop)->Prop)(mr:MAt):MEt:=λδ K=>mr δ λrs δ1=>S (OT.datas rs) λr=>K r δ1
theorem Z9y{S}{t:TA}(sa:SA G io p c t mr):SE G io p c (Zxz (spD G S) [] E t) (Zwu S mr):=by
 intro C H Y δ fp ex K Q R h kk;refine sa C H Y δ fp ex _ _ R h λH1 vs rs δ1 fp1 new1 r1 h1=>?_;rw[QW];refine⟨_,_,_,r1.das R,h1,λr v H' new kr s o nd hn=>?_⟩;exact kk H' v r δ1 fp1 new (RE.tree R r1.base r1.stp s hn nd o) kr
theorem Z57{S}(F:FnOk X.prog X.w X.K X.mg X.base CX k f fd ps (spD X.K S))(hr:Room k X.A)(hg:Gl X x)(hm:X.mg x=YB (.ref f))(hk:Bw X.K (.ref f)=YD)(hb:Binds X.K fd ps [])(hx:Zhp CX X E)
  (ha:MA X io p c (e::es) mr) (hdb:(x==("__debug__" : Str))=YF:=by decide) (he:Xr (e::es) X.env=(YF,eval e X.env)::Xr es X.env:=by rfl) (hpl:(JP pos (Xr es X.env)).any (·.1)=YF:=by rfl) :
  ME X io p c (.Call (.Name x pp) (e::es) [] pos) (Zwu S mr):=by
 obtain⟨_,A,sa⟩:=ha;exact⟨_,Zs3 F hr hg hm hk hb .nil hx A hdb he hpl,Z9y sa⟩
theorem Yjc(hg:Gl X x)(hm:X.mg x=YB (.ref f))(hc:ClsAt X.K x f)(hdb:(x==("__debug__" : Str))=YF:=by decide):ME X io YD YD (.Name x pos) (mC (fnD x)) :=
 ⟨_,Z4b (v:=.ref f) hg hm rfl hdb,λC H Y δ fp ex K Q R h k=>k H (.ref f) _ δ fp [] (.fz R (.refl _ _ _ _) (.fn hc)) h⟩
noncomputable def Z8b(i:Nat)(f:YG)(sp:Sp)(E:XK)(t:TA):TE:=λY H Q=>Y[i]? =YB (YB (.ref f))∧Zxz sp [] E t Y H Q
theorem Zx4{sp:Sp}{t:TA}{i:Nat}(F:FnOk X.prog X.w X.K X.mg X.base CX k f fd ps sp)(hr:Room k X.A)(hN:X.N[i]? =YB x)(hv:Vis X.env.scope x)(hk:Bw X.K (.ref f)=YD)(hb:Binds X.K fd ps [])(hx:Zhp CX X E)
  (ha:PA X (e::es) t) (hdb:(x==("__debug__" : Str))=YF:=by decide) (hcd:(x==("__classdict__" : Str))=YF:=by decide) (he:Xr (e::es) X.env=(YF,eval e X.env)::Xr es X.env:=by rfl) (hpl:(JP pos (Xr es X.env)).any (·.1)=YF:=by rfl) :
  PE X (.Call (.Name x pp) (e::es) [] pos) (Z8b i f sp E t):=by
 intro pins s Y H Q I h;obtain⟨e0,h⟩:=h;refine VD (thn (Zy5 hN hv hdb hcd pins s Y H (λv H'=>v= .ref f∧H'=H) I ⟨_,e0,rfl,rfl⟩) λu s0 q=>?_);obtain⟨v,H0,I0,r0,e1,e2⟩:=q;subst e1 e2;cases(show u=QJ f from r0);refine PySem.W.callWith_K (h₀:=X.base) I0.ok.mod.kin hk (thn (ha pos pins s0 Y H0 _ I0 h) λus s1 q=>?_) he hpl;obtain⟨vs,H1,I1,r,q⟩:=q;exact⟨I1.kIn,Zy9 F hr hb .nil hx I1 r q⟩
noncomputable def Zzp(i:Nat)(y:Str)(S:List Xa->(OT->Prop)->Prop)(mr:MAt):MEt:=λδ K=>δ[i]? =YB (YB (.fz (fnD y)))∧Zwu S mr δ K
theorem Da.fnInv{H:Hp}{L:YG->Prop}{v:V}{y:Str}{f:YG}(q:Da G H L v (fnD y))(hf:ClsAt G y f):v= .ref f:=by
 generalize ed:fnD y=d at q;cases q with
 | fn h=>
  unfold fnD at ed;injection ed with ed;injection ed with ed _;injection ed with ed _;injection ed with ed;subst ed;have:=h.symm.trans hf;injection this with this;injection this with this;injection this with this;rw[this]
 | exc _ _ _=>unfold fnD exD at ed;cases ed
 | _=>unfold fnD at ed;cases ed
theorem Zrq{S}{i:Nat}{y:Str}(F:FnOk X.prog X.w X.K X.mg X.base CX k f fd ps (spD X.K S))(hr:Room k X.A)(hc:ClsAt X.K y f)(hk:Bw X.K (.ref f)=YD)(hb:Binds X.K fd ps [])(hx:Zhp CX X E)
  (ha:MA X io p c (e::es) mr) (hN:X.N[i]? =YB x:=by rfl) (hv:Vis X.env.scope x:=by first|exact QD rfl|exact Qx (QD rfl)|exact Qx (Qx rfl)) (hdb:(x==("__debug__" : Str))=YF:=by decide) (hcd:(x==("__classdict__" : Str))=YF:=by decide)
  (he:Xr (e::es) X.env=(YF,eval e X.env)::Xr es X.env:=by rfl) (hpl:(JP pos (Xr es X.env)).any (·.1)=YF:=by rfl):ME X io p c (.Call (.Name x pp) (e::es) [] pos) (Zzp i y S mr):=by
 obtain⟨_,A,sa⟩:=ha;refine⟨_,Zx4 F hr hN hv hk hb hx A hdb hcd he hpl,λC H Y δ fp ex K Q R h kk=>?_⟩;obtain⟨h0,h⟩:=h;obtain⟨v,e1,o⟩:=R.own i _ h0;generalize fp i=as at o;cases o with
 | fz q=>
  rw[q.fnInv hc]at e1;exact⟨e1,Z9y sa C H Y δ fp ex K Q R h kk⟩
noncomputable def Zmg(i:Nat)(S:OT->List Xa->(OT->OT->Prop)->Prop)(mr:MAt):MEt:=λδ K=>match δ[i]? with
 | some (YB _)=>mr δ λrs δ1=>match δ1[i]? with
  | some (YB t)=>S t (OT.datas rs) λr t'=>K r (δ1.set i (YB t'))
  | _=>False
 | _=>False
noncomputable def fpu(fp:Fp)(i:Nat)(as:List YG):Fp:=λj=>if j=i then as else fp j
theorem Yq{fp:Fp}{i:Nat}{as:List YG}:fpu fp i as i=as:=YL rfl
theorem Wx{fp:Fp}{i j:Nat}{as:List YG}(h:j≠i):fpu fp i as j=fp j:=YM h
theorem Foot.of_u{fp:Fp}{i:Nat}{as:List YG}{a:YG}(h:Foot (fpu fp i as) a):a∈as∨∃j,j≠i∧a∈fp j:=by
 obtain⟨j,h⟩:=h
 by_cases e:j=i
 ·subst e;rw[Yq]at h;exact .inl h
 ·rw[Wx e]at h;exact .inr ⟨j,e,h⟩
theorem Rel.change{C:MC G}{H H':Hp}{Y:St}{δ:Zh}{fp:Fp}{ex:YG->Prop}{i:Nat}{t t':OT}{v:V}{as' new:List YG}(R:Rel C io H Y δ fp ex)(hi:δ[i]? =YB (YB t))(hv:Y[i]? =YB (YB v))
  (keep:∀b o,H b=YB o->b∉fp i->H' b=YB o) (al:∀b,H' b=YC->H b=YC) (o:Own G H' (Lf C (fpu fp i as') (exu ex new)) v t' as') (nd:as'.Nodup) (new':∀a∈as',a∈fp i∨H a=YC)
  (hn:∀a∈new,H a=YC∧H' a≠YC∧a∉as') :
  Rel C io H' Y (δ.set i (YB t')) (fpu fp i as') (exu ex new)∧Stp YF H δ fp H' (δ.set i (YB t')) (fpu fp i as'):=by
 have hil:i<δ.length:=(Xw.mp hi).1;have apart:∀j a,j≠i->a∈fp j->a∉as':=λj a e m z=>by
  rcases new' a z with z|z
  ·exact e (R.dj j i a m z)
  ·exact R.footSome z ⟨j,m⟩
 constructor
 ·refine⟨by rw[V9];exact R.len,λj t'' e=>?_,λj h=>?_,λj=>?_,λj k a h1 h2=>?_,λj a h z=>?_,λa z w=>z.elim (λz=>R.xa a z (al a w)) (λz=>(hn a z).2.1 w),λb ob e n=>?_,λb z=>R.al b (al b z),λj a h=>?_,R.io⟩
  ·by_cases ej:j=i
   ·subst ej
    rw[JD hil]at e;cases e;exact⟨v,hv,by rw[Yq];exact o⟩
   ·rw[QL (JR ej)]at e
    obtain⟨w,e1,o1⟩:=R.own j t'' e;refine⟨w,e1,?_⟩;rw[Wx ej];refine o1.frame (λa xs l q=>?_) (λa xs q=>keep a _ q λz=>?_) λa m xs q=>keep a _ q λz=>ej (R.dj j i a m z)
    ·have na:a∉fp i:=λz=>l.1 ⟨i,z⟩
     refine⟨⟨λz=>?_,λz=>z.elim l.2.1 λz=>q.some (hn a z).1,l.2.2⟩,?_⟩
     ·rcases z.of_u with z|⟨k,_,z⟩
      ·rcases new' a z with z|z
       ·exact na z
       ·exact q.some z
      ·exact l.1 ⟨k,z⟩
     ·rcases q with q|⟨u,q⟩
      ·exact .inl (keep a _ q na)
      ·exact .inr ⟨u,keep a _ q na⟩
    ·obtain⟨ys,e⟩:=R.foot ⟨i,z⟩
     exact ImO.nm q e
  ·by_cases ej:j=i
   ·subst ej
    exact YX (JD hil) (h t')
   ·rw[Wx ej]
    refine R.emp j λt'' z=>h t'' ?_;rw[QL (JR ej)];exact z
  ·by_cases ej:j=i
   ·subst ej;rw[Yq];exact nd
   ·rw[Wx ej];exact R.nd j
  ·by_cases ej:j=i
   ·subst ej
    rw[Yq]at h1
    by_cases ek:k=j
    ·exact ek.symm
    ·rw[Wx ek]at h2
     exact YX h1 (apart k a ek h2)
   ·rw[Wx ej]at h1
    by_cases ek:k=i
    ·subst ek
     rw[Yq]at h2;exact YX h2 (apart j a ej h1)
    ·rw[Wx ek]at h2
     exact R.dj j k a h1 h2
  ·by_cases ej:j=i
   ·subst ej
    rw[Yq]at h;rcases z with z|z
    ·rcases new' a h with w|w
     ·exact R.dx _ a w z
     ·exact R.xa a z w
    ·exact(hn a z).2.2 h
   ·rw[Wx ej]at h
    rcases z with z|z
    ·exact R.dx j a h z
    ·exact R.footSome (hn a z).1 ⟨j,h⟩
  ·refine keep b ob (R.fr b ob e n) λz=>?_
   rcases R.new i b z with w|w
   ·exact n w.2
   ·rw[e]at w;cases w
  ·by_cases ej:j=i
   ·subst ej
    rw[Yq]at h;rcases new' a h with w|w
    ·exact R.new _ a w
    ·exact .inr (R.al a w)
   ·rw[Wx ej]at h
    exact R.new j a h
 ·refine⟨λb ob e q=>keep b ob e λz=>(q.resolve_left (by decide)) ⟨i,z⟩,λz=>(nomatch z),λa z=>?_,al⟩
  rcases z.of_u with z|⟨j,_,z⟩
  ·exact(new' a z).imp (λw=>⟨i,w⟩) id
  ·exact .inl ⟨j,z⟩
theorem Z60{S}{i:Nat}{t:TA}(sa:SA G io p YD t mr):SE G io YF YD (Zxz (spI G S) [] E (Z9o (Yea i) t)) (Zmg i S mr):=by
 intro C H Y δ fp ex K Q R h kk;unfold Zmg at h;split at h
 case h_2=>exact h.elim
 rename_i t0 hi0;obtain⟨v0,hv,_⟩:=R.own i t0 hi0;refine⟨v0,hv,?_⟩;refine sa C H Y δ fp ex _ _ R h λH1 vs rs δ1 fp1 new1 r1 h1=>?_;show spI G S ((v0::vs)++[]) H1 Q E;rw[QW];split at h1
 case h_2=>exact h1.elim
 rename_i t1 hi1;have R1:=r1.base;obtain⟨v1,hv1,o1⟩:=R1.own i t1 hi1;rw[hv]at hv1;cases hv1;refine⟨Lf C fp1 ex,v0,t1,fp1 i,vs,_,_,rfl,o1,R1.nd i,λa m l=>l.1 ⟨i,m⟩,(r1.das R).wide λa l _=>l rfl,h1,?_⟩;intro r t' v H' new as' kr keep al orr ot nd hn ha;have nd2:=BL.mp nd;have lw:∀a,((Lf C fp1 ex a∨H1 a=YC)∧a∉new∧a∉as')->H' a≠YC->Lf C (fpu fp1 i as') (exu ex new) a:=λa l _=>by
  have hf:¬Foot (fpu fp1 i as') a:=λz=>by
   rcases z.of_u with z|⟨j,_,z⟩
   ·exact l.2.2 z
   ·rcases l.1 with l1|l1
    ·exact l1.1 ⟨j,z⟩
    ·exact R1.footSome l1 ⟨j,z⟩
  rcases l.1 with l1|l1
  ·exact⟨hf,λz=>z.elim l1.2.1 l.2.1,l1.2.2⟩
  ·have:=R1.newOk l1
   exact⟨hf,λz=>z.elim this.2.1 l.2.1,.inr this.2.2⟩
 have hnn:∀a∈new,H' a≠YC:=λa m z=>by
  obtain⟨xs,e⟩:=orr.some a m;rw[z]at e;cases e
 obtain⟨R2,S2⟩:=R1.change (new:=new) hi1 hv keep al (ot.wide lw) nd2.1 ha (λa m=>⟨hn a m,hnn a m,λz=>nd2.2.2 a z a m rfl⟩);refine kk H' v r _ _ new ⟨R2,?_,orr.wide λa l q _=>lw a l q,nd2.2.1,λa m=>r1.stp.al a (hn a m)⟩ kr;exact(r1.stp.trans S2).cast λz=>nomatch z
theorem Jm{S}{i:Nat}{y:Str}{py:Pos}(F:FnOk X.prog X.w X.K X.mg X.base CX k f fd ps (spI X.K S))(hr:Room k X.A)(hg:Gl X x)(hm:X.mg x=YB (.ref f))(hk:Bw X.K (.ref f)=YD)(hb:Binds X.K fd ps [])(hx:Zhp CX X E)
  (ha:MA X io p YD es mr) (hN:X.N[i]? =YB y:=by rfl) (hv:Vis X.env.scope y:=by first|exact QD rfl|exact Qx (QD rfl)|exact Qx (Qx rfl)) (hd:(y==("__debug__" : Str))=YF:=by decide)
  (hcd:(y==("__classdict__" : Str))=YF:=by decide)
  (hdb:(x==("__debug__" : Str))=YF:=by decide) (he:Xr (.Name y py::es) X.env=(YF,eval (.Name y py) X.env)::Xr es X.env:=by rfl) (hpl:(JP pos (Xr es X.env)).any (·.1)=YF:=by rfl) :
  ME X io YF YD (.Call (.Name x pp) (.Name y py::es) [] pos) (Zmg i S mr):=by
 obtain⟨_,A,sa⟩:=ha;exact⟨_,Zs3 F hr hg hm hk hb .nil hx (Zbp (pv i hN hv hd hcd) A he) hdb he hpl,Z60 sa⟩
noncomputable def PNs(G:Xb)(r:List V->Hp->VK->Prop)(rp:List Xa->(Xa->Prop)->Prop):Prop:=∀(H:Hp) (L:YG->Prop) (xs:List V) (ds:List Xa) (k:Xa->Prop) (Q:VK),Das G H L xs ds->rp ds k->(∀v d',ScD v d'->k d'->Q v H)->r xs H Q
noncomputable def PN(G:Xb)(r:List V->Hp->VK->Prop)(rp:List Xa->(OT->Prop)->Prop):Prop:=∀(H:Hp) (L:YG->Prop) (xs:List V) (ds:List Xa) (k:OT->Prop) (Q:VK),Das G H L xs ds->rp ds k ->
 (∀ H' v o new,Same H H'->Own G H' (λa=>(L a∨H a=YC)∧a∉new) v o new->new.Nodup->(∀a∈new,H a=YC)->k o->Q v H')->r xs H Q
noncomputable def Ybd(rp:List Xa->(Xa->Prop)->Prop)(mr:MAt):MEt:=λδ K=>mr δ λrs δ1=>rp (OT.datas rs) λd=>K (.fz d) δ1
noncomputable def mBl(rp:List Xa->(OT->Prop)->Prop)(mr:MAt):MEt:=λδ K=>mr δ λrs δ1=>rp (OT.datas rs) λo=>K o δ1
theorem Ye0{r rp}{t:TA}(P:PNs G r rp)(sa:SA G io p c t mr):SE G io p YD (tCB r t) (Ybd rp mr):=λC H Y δ fp ex K Q R h kk=>
 sa C H Y δ fp ex _ _ R h λH1 vs rs δ1 fp1 new1 r1 h1=>P H1 _ vs _ _ _ (r1.das R) h1 λv d' sc h2=>kk H1 v _ δ1 fp1 [] (.fz r1.base r1.stp sc.da) h2
theorem sBl{r rp}{t:TA}(P:PN G r rp)(sa:SA G io p c t mr):SE G io p c (tCB r t) (mBl rp mr):=λC H Y δ fp ex K Q R h kk=>
 sa C H Y δ fp ex _ _ R h λH1 vs rs δ1 fp1 new1 r1 h1=>P H1 _ vs _ _ _ (r1.das R) h1 λH' v o new s ow nd hn h2=>kk H' v o δ1 fp1 new (RE.tree R r1.base r1.stp s hn nd ow) h2
variable {id T:String}{r:List V->Hp->VK->Prop}
theorem Zoh{rp}(P:PNs X.K r rp)(hc:Zas X (.builtin id) r)(hg:Gl X x)(hm:X.mg x=YC)(hv:Qa x=YB (.builtin id))(ha:MA X io p c (e::es) mr)(hn:x≠"__name__" :=by decide)(hdb:(x==("__debug__" : Str))=YF:=by decide)
  (he:Xr (e::es) X.env=(YF,eval e X.env)::Xr es X.env:=by rfl) (hpl:(JP pos (Xr es X.env)).any (·.1)=YF:=by rfl):ME X io p YD (.Call (.Name x pp) (e::es) [] pos) (Ybd rp mr):=by
 obtain⟨_,A,sa⟩:=ha;exact⟨_,Zhj hc hg hm hv A hn hdb he hpl,Ye0 P sa⟩
theorem Ygs{rp}(P:PN X.K r rp)(hc:Zas X (.builtin id) r)(hg:Gl X x)(hm:X.mg x=YC)(hv:Qa x=YB (.builtin id))(ha:MA X io p c (e::es) mr)(hn:x≠"__name__" :=by decide)(hdb:(x==("__debug__" : Str))=YF:=by decide)
  (he:Xr (e::es) X.env=(YF,eval e X.env)::Xr es X.env:=by rfl) (hpl:(JP pos (Xr es X.env)).any (·.1)=YF:=by rfl):ME X io p c (.Call (.Name x pp) (e::es) [] pos) (mBl rp mr):=by
 obtain⟨_,A,sa⟩:=ha;exact⟨_,Zhj hc hg hm hv A hn hdb he hpl,sBl P sa⟩
theorem Ya9{rp}(P:PNs X.K r rp)(hc:Zas X (.type T) r)(hg:Gl X x)(hm:X.mg x=YC)(hv:Qa x=YB (.type T))(ha:MA X io p c (e::es) mr)(hn:x≠"__name__" :=by decide)(hdb:(x==("__debug__" : Str))=YF:=by decide)
  (he:Xr (e::es) X.env=(YF,eval e X.env)::Xr es X.env:=by rfl) (hpl:(JP pos (Xr es X.env)).any (·.1)=YF:=by rfl):ME X io p YD (.Call (.Name x pp) (e::es) [] pos) (Ybd rp mr):=by
 obtain⟨_,A,sa⟩:=ha;exact⟨_,Zay hc hg hm hv A hn hdb he hpl,Ye0 P sa⟩
theorem Yiz{rp}(P:PN X.K r rp)(hc:Zas X (.type T) r)(hg:Gl X x)(hm:X.mg x=YC)(hv:Qa x=YB (.type T))(ha:MA X io p c (e::es) mr)(hn:x≠"__name__" :=by decide)(hdb:(x==("__debug__" : Str))=YF:=by decide)
  (he:Xr (e::es) X.env=(YF,eval e X.env)::Xr es X.env:=by rfl) (hpl:(JP pos (Xr es X.env)).any (·.1)=YF:=by rfl):ME X io p c (.Call (.Name x pp) (e::es) [] pos) (mBl rp mr):=by
 obtain⟨_,A,sa⟩:=ha;exact⟨_,Zay hc hg hm hv A hn hdb he hpl,sBl P sa⟩
end
variable {G:Xb}
mutual
noncomputable def Zg4:Xa->Bool
 | .none=>YD
 | .bool _=>YD
 | .int _=>YD
 | .str _=>YD
 | .tuple ds=>Zrz ds
 | .list _=>YF
 | .dict _=>YF
noncomputable def Zrz:List Xa->Bool
 | []=>YD
 | d::ds=>Zg4 d&&Zrz ds
end
set_option genInjectivity false in
structure Zhv where
 nx:Zh->Prop
 rt:OT->Zh->Prop
 bk:Zh->Prop:=λ_=>False
 ct:Zh->Prop:=λ_=>False
noncomputable abbrev MSt:=Zhv->Zh->Prop
noncomputable abbrev Kp(H:Hp)(fp:Fp)(H':Hp)(fp':Fp):Prop:=Stp YF H [] fp H' [] fp'
theorem Stp.kp{p:Bool}{H H':Hp}{δ δ':Zh}{fp fp':Fp}(S:Stp p H δ fp H' δ' fp'):Kp H fp H' fp':=⟨λb o e q=>S.keep b o e (.inr (q.resolve_left (by decide))),λz=>(nomatch z),S.grow,S.al⟩
theorem Kp.trans{H H1 H2:Hp}{fp fp1 fp2:Fp}(a:Kp H fp H1 fp1)(b:Kp H1 fp1 H2 fp2):Kp H fp H2 fp2:=Stp.trans a b
theorem Kp.refl(H:Hp)(fp:Fp):Kp H fp H fp:=Stp.refl _ _ _ _
structure RelEnds(C:MC G)(io:List Nat)(ex:YG->Prop)(H:Hp)(fp:Fp)(D:Zhv)(D':Ends):Prop where
 nx:∀H' Y' δ' fp',Rel C io H' Y' δ' fp' ex->Kp H fp H' fp'->D.nx δ'->D'.nx Y' H'
 bk:∀H' Y' δ' fp',Rel C io H' Y' δ' fp' ex->Kp H fp H' fp'->D.bk δ'->D'.bk Y' H'
 ct:∀H' Y' δ' fp',Rel C io H' Y' δ' fp' ex->Kp H fp H' fp'->D.ct δ'->D'.ct Y' H'
 rt:∀H' Y' v r δ' fp' new,Rel C io H' Y' δ' fp' (exu ex new)->Own G H' (Lf C fp' (exu ex new)) v r new->new.Nodup->(∀a∈new,C.H₀ a=YC)->D.rt r δ'->D'.rt v H'
theorem RelEnds.shift{C:MC G}{io:List Nat}{ex:YG->Prop}{H H1:Hp}{fp fp1:Fp}{D:Zhv}{D':Ends}(E:RelEnds C io ex H fp D D')(k:Kp H fp H1 fp1):RelEnds C io ex H1 fp1 D D' :=
 ⟨λH' Y' δ' fp' R q=>E.nx H' Y' δ' fp' R (k.trans q),λH' Y' δ' fp' R q=>E.bk H' Y' δ' fp' R (k.trans q),λH' Y' δ' fp' R q=>E.ct H' Y' δ' fp' R (k.trans q),E.rt⟩
noncomputable def SS(G:Xb)(io:List Nat)(t:TS)(m:MSt):Prop:=∀(C:MC G) (H:Hp) (Y:St) (δ:Zh) (fp:Fp) (ex:YG->Prop) (D:Zhv) (D':Ends),Rel C io H Y δ fp ex->m D δ->RelEnds C io ex H fp D D'->t D' Y H
noncomputable def MS(X:Cx)(io:List Nat)(st:YK)(m:MSt):Prop:=∃t,PS X st t∧SS X.K io t m
noncomputable def MSs(X:Cx)(io:List Nat)(st:List YK)(m:MSt):Prop:=∃t,PSs X st t∧SS X.K io t m
section
variable {X:Cx}{io:List Nat}{p p' p'' c c':Bool}{e a b:YJ}{m ma mb:MEt}{es rest:List YJ}{mr:MAt}{pos:Pos}{st:YK}{sts:List YK}{u w:MSt}{mt:MTt}
noncomputable def Z80:MSt:=λD δ=>D.nx δ
noncomputable def Yia(w:MSt)(D:Zhv)(δ:Zh):Prop:=w D δ
noncomputable def Yb9(u w:MSt):MSt:=λD δ=>u { D with nx:=Yia w D } δ
theorem Z0z:MSs X io [] Z80:=⟨_,Z3n,λC H Y δ fp ex D D' R h E=>E.nx H Y δ fp R (.refl _ _) h⟩
theorem Zk(h:MS X io st u):MSs X io [st] u:=by
 obtain⟨_,A,s⟩:=h;exact⟨_,Z1w A,s⟩
theorem Zxa(h:MS X io st u)(g:MSs X io sts w):MSs X io (st::sts) (Yb9 u w):=by
 obtain⟨_,A,s⟩:=h;obtain⟨tb,B,s'⟩:=g;exact⟨_,Zwl A B,λC H Y δ fp ex D D' R h E=>s C H Y δ fp ex _ _ R h ⟨λH1 Y1 δ1 fp1 R1 k1 h1=>s' C H1 Y1 δ1 fp1 ex D D' R1 h1 (E.shift k1),E.bk,E.ct,E.rt⟩⟩
noncomputable def Yab:MSt:=λ_ _=>False
theorem Zx9:MS X io st Yab:=⟨_,Zwz,λC H Y δ fp ex D D' R h E=>h.elim⟩
noncomputable def Z8x(m:MEt):MSt:=λD δ=>m δ λ_ δ'=>D.nx δ'
theorem Z1k(he:ME X io p c e m)(hs:Ux e YC pos.line X.env=pure YF:=by rfl):MS X io (.Expr e pos) (Z8x m):=by
 obtain⟨_,A,s⟩:=he;exact⟨_,Zrn A hs,λC H Y δ fp ex D D' R h E=>s C H Y δ fp ex _ _ R h λH' v r δ' fp' new r1 h1=>E.nx H' Y δ' fp' r1.base r1.stp.kp h1⟩
noncomputable def Ygw(m:MEt):MSt:=λD δ=>m δ λr δ'=>D.rt r δ'
theorem Z7y(he:ME X io p YD e m):MS X io (.Return (YB e) pos) (Ygw m):=by
 obtain⟨_,A,s⟩:=he;exact⟨_,Zy8 A,λC H Y δ fp ex D D' R h E=>s C H Y δ fp ex _ _ R h λH' v r δ' fp' new r1 h1=>E.rt H' Y v r δ' fp' new r1.rel (r1.own.wide λa l _=>l rfl) r1.nd (λa m=>(R.newOk (r1.fresh a m)).2.2) h1⟩
noncomputable def Zwv(i:Nat):MSt:=λD δ=>match δ[i]? with|some (YB t)=>D.rt t (δ.set i YC)|_=>False
theorem Rel.take{C:MC G}{H:Hp}{Y:St}{δ:Zh}{fp:Fp}{ex:YG->Prop}{i:Nat}{t:OT}(R:Rel C io H Y δ fp ex)(hi:δ[i]? =YB (YB t)):Rel C io H Y (δ.set i YC) (fpu fp i []) (exu ex (fp i)):=by
 have hil:i<δ.length:=(Xw.mp hi).1;have get:∀j (t':OT),(δ.set i YC)[j]? =YB (YB t')->j≠i∧δ[j]? =YB (YB t'):=λj t' e=>by
  by_cases ej:j=i
  ·subst ej;rw[JD hil]at e;cases e
  ·rw[QL (JR ej)]at e;exact⟨ej,e⟩
 have sub:∀j a,a∈fpu fp i [] j->j≠i∧a∈fp j:=λj a m=>by
  by_cases ej:j=i
  ·subst ej;rw[Yq]at m;exact nomatch m
  ·rw[Wx ej]at m;exact⟨ej,m⟩
 have lw:∀a,Lf C fp ex a->Lf C (fpu fp i []) (exu ex (fp i)) a:=λa l=>⟨λ⟨j,z⟩=>l.1 ⟨j,(sub j a z).2⟩,λz=>z.elim l.2.1 λz=>l.1 ⟨i,z⟩,l.2.2⟩;refine⟨by rw[V9];exact R.len,λj t' e=>?_,λj h=>?_,λj=>?_,λj k a h1 h2=>R.dj j k a (sub j a h1).2 (sub k a h2).2,λj a h z=>?_,λa z w=>?_,R.fr,R.al,λj a h=>R.new j a (sub j a h).2,R.io⟩
 ·obtain⟨ej,e⟩:=get j t' e
  obtain⟨w,e1,o⟩:=R.own j t' e;exact⟨w,e1,by rw[Wx ej];exact o.wide λa l _=>lw a l⟩
 ·by_cases ej:j=i
  ·subst ej;rw[Yq]
  ·rw[Wx ej]
   exact R.emp j λt' z=>h t' (by rw[QL (JR ej)];exact z)
 ·by_cases ej:j=i
  ·subst ej;rw[Yq];exact .nil
  ·rw[Wx ej];exact R.nd j
 ·obtain⟨ej,h⟩:=sub j a h
  rcases z with z|z
  ·exact R.dx j a h z
  ·exact ej (R.dj j i a h z)
 ·rcases z with z|z
  ·exact R.xa a z w
  ·exact R.footSome w ⟨i,z⟩
theorem Zdk(i:Nat){x:Str}{px:Pos}(hio:i∉io:=by decide)(hN:X.N[i]? =YB x:=by rfl)(hv:Vis X.env.scope x:=by first|exact QD rfl|exact Qx (QD rfl)|exact Qx (Qx rfl))(hd:(x==("__debug__" : Str))=YF:=by decide)
  (hcd:(x==("__classdict__" : Str))=YF:=by decide):MS X io (.Return (YB (.Name x px)) pos) (Zwv i):=by
 refine⟨_,Zy8 (pv i hN hv hd hcd),λC H Y δ fp ex D D' R h E=>?_⟩;unfold Zwv at h;split at h
 case h_2=>exact h.elim
 rename_i t hi;obtain⟨v,e,o⟩:=R.own i t hi;have lw:∀a,Lf C fp ex a->H a≠YC->Lf C (fpu fp i []) (exu ex (fp i)) a:=λa l _=>⟨λz=>by
  rcases z.of_u with z|⟨j,_,z⟩
  ·exact nomatch z
  ·exact l.1 ⟨j,z⟩,λz=>z.elim l.2.1 λz=>l.1 ⟨i,z⟩,l.2.2⟩
 have hn:∀a∈fp i,C.H₀ a=YC:=λa m=>by
  rcases R.new i a m with z|z
  ·exact YX z.1 hio
  ·exact z
 exact⟨v,e,E.rt H Y v t _ _ (fp i) (R.take hi) (o.wide lw) (R.nd i) hn h⟩
noncomputable def Ygl(t:MTt)(u w:MSt):MSt:=λD δ=>t δ λb δ'=>if b=YD then u D δ' else w D δ'
theorem Yc5{cnd:YJ}{ss ss':List YK}(hc:MT X io p cnd mt)(ha:MSs X io ss u)(hb:MSs X io ss' w):MS X io (.If cnd ss ss' pos) (Ygl mt u w):=by
 obtain⟨_,T,s⟩:=hc;obtain⟨_,A,sa⟩:=ha;obtain⟨_,B,sb⟩:=hb;exact⟨_,Ycr T A B,λC H Y δ fp ex D D' R h E=>s C H Y δ fp ex _ _ R h λH' b δ' fp' R' S h'=>by
  cases b with
  | true=>
   rw[YL rfl]at h'⊢;exact sa C H' Y δ' fp' ex D D' R' h' (E.shift S.kp)
  | false=>
   rw[YM XC]at h'⊢;exact sb C H' Y δ' fp' ex D D' R' h' (E.shift S.kp)⟩
theorem Rel.put{C:MC G}{H:Hp}{Y:St}{δ:Zh}{fp:Fp}{ex:YG->Prop}{i:Nat}{v:V}{r:OT}{new:List YG}(R:Rel C io H Y δ fp (exu ex new))(hio:i∉io)(o:Own G H (Lf C fp (exu ex new)) v r new)(nd:new.Nodup)
  (hn:∀a∈new,C.H₀ a=YC∧¬ex a):∃fp',Rel C io H (Y.set i (YB v)) (δ.set i (YB r)) fp' ex∧∀a,Foot fp' a->Foot fp a∨a∈new:=by
 by_cases hil:i<δ.length
 case neg=>
  refine⟨fp,?_,λa h=>.inl h⟩;have hl:=R.len;rw[List.set_eq_of_length_le (show δ.length≤i by omega),List.set_eq_of_length_le (show Y.length≤i by omega)];exact R.drop λa z=>.inl z
 have hsl:i<Y.length:=by rw[R.len];exact hil
 have sub:∀a,Foot (fpu fp i new) a->Foot fp a∨a∈new:=λa z=>by
  rcases z.of_u with z|⟨j,_,z⟩
  ·exact .inr z
  ·exact .inl ⟨j,z⟩
 have lw:∀a,Lf C fp (exu ex new) a->Lf C (fpu fp i new) ex a:=λa l=>⟨λz=>(sub a z).elim l.1 λz=>l.2.1 (.inr z),λz=>l.2.1 (.inl z),l.2.2⟩;refine⟨fpu fp i new,⟨by rw[V9,V9];exact R.len,λj t' e=>?_,λj h=>?_,λj=>?_,λj k a h1 h2=>?_,λj a h z=>?_,λa z=>R.xa a (.inl z),R.fr,R.al,λj a h=>?_,λj hj=>?_⟩,sub⟩
 ·by_cases ej:j=i
  ·subst ej
   rw[JD hil]at e;cases e;exact⟨v,JD hsl,by rw[Yq];exact o.wide λa l _=>lw a l⟩
  ·rw[QL (JR ej)]at e
   obtain⟨w,e1,o1⟩:=R.own j t' e;exact⟨w,by rw[QL (JR ej)];exact e1,by rw[Wx ej];exact o1.wide λa l _=>lw a l⟩
 ·by_cases ej:j=i
  ·subst ej;exact YX (JD hil) (h r)
  ·rw[Wx ej]
   exact R.emp j λt' z=>h t' (by rw[QL (JR ej)];exact z)
 ·by_cases ej:j=i
  ·subst ej;rw[Yq];exact nd
  ·rw[Wx ej];exact R.nd j
 ·by_cases ej:j=i
  ·subst ej
   rw[Yq]at h1
   by_cases ek:k=j
   ·exact ek.symm
   ·rw[Wx ek]at h2
    exact YX (.inr h1) (R.dx k a h2)
  ·rw[Wx ej]at h1
   by_cases ek:k=i
   ·subst ek
    rw[Yq]at h2;exact YX (.inr h2) (R.dx j a h1)
   ·rw[Wx ek]at h2
    exact R.dj j k a h1 h2
 ·by_cases ej:j=i
  ·subst ej
   rw[Yq]at h;exact(hn a h).2 z
  ·rw[Wx ej]at h
   exact R.dx j a h (.inl z)
 ·by_cases ej:j=i
  ·subst ej
   rw[Yq]at h;exact .inr (hn a h).1
  ·rw[Wx ej]at h
   exact R.new j a h
 ·have ej:j≠i:=λz=>hio (z▸hj)
  rw[QL (JR ej)];exact R.io j hj
theorem RE.put{C:MC G}{H H':Hp}{Y:St}{δ δ':Zh}{fp fp':Fp}{ex:YG->Prop}{i:Nat}{v:V}{r:OT}{new:List YG}(R:RE C io p YD H Y δ fp ex H' v r δ' fp' new)(R0:Rel C io H Y δ fp ex)(hio:i∉io) :
  ∃fp2,Rel C io H' (Y.set i (YB v)) (δ'.set i (YB r)) fp2 ex∧Kp H fp H' fp2:=by
 obtain⟨fp2,R2,g⟩:=R.rel.put hio (R.own.wide λa l _=>l rfl) R.nd λa m=>⟨(R0.newOk (R.fresh a m)).2.2,(R0.newOk (R.fresh a m)).2.1⟩;refine⟨fp2,R2,λb o e q=>R.stp.keep b o e (.inr (q.resolve_left (by decide))),λz=>(nomatch z),λa z=>?_,R.stp.al⟩;rcases g a z with z|z
 ·exact R.stp.grow a z
 ·exact .inr (R.fresh a z)
theorem RE.fzc{C:MC G}{H H':Hp}{Y:St}{δ δ':Zh}{fp fp':Fp}{ex:YG->Prop}{v:V}{r:OT}{new:List YG}(R:RE C io p c H Y δ fp ex H' v r δ' fp' new)(R0:Rel C io H Y δ fp ex) :
  RE C io p c H Y δ fp ex H' v (.fz r.data) δ' fp' []:=.fz R.base R.stp (R.da R0)
noncomputable def Z5j(i:Nat)(m:MEt):MSt:=λD δ=>m δ λr δ'=>D.nx (δ'.set i (YB (.fz r.data)))
noncomputable def Zra(i:Nat)(m:MEt):MSt:=λD δ=>m δ λr δ'=>D.nx (δ'.set i (YB r))
section
variable {i:Nat}{x:Str}{px:Pos}
theorem Yg3{t:TE}(s:SE G io p YD t m)(hio:i∉io):SS G io (Z5x t (Zux i)) (Z5j i m):=λC H Y δ fp ex D D' R h E=>s C H Y δ fp ex _ _ R h λH' v r δ' fp' new r1 h1=>by
 obtain⟨fp2,R2,k2⟩:=(r1.fzc R).put R hio;exact E.nx H' _ _ fp2 R2 k2 h1
theorem Z75{t:TE}(s:SE G io p YD t m)(hio:i∉io):SS G io (Z5x t (Zux i)) (Zra i m):=λC H Y δ fp ex D D' R h E=>s C H Y δ fp ex _ _ R h λH' v r δ' fp' new r1 h1=>by
 obtain⟨fp2,R2,k2⟩:=r1.put R hio;exact E.nx H' _ _ fp2 R2 k2 h1
theorem Zsl(hN:X.N.Nodup)(hi:X.N[i]? =YB x)(hx:Loc X.env.scope x)(he:ME X io p YD e m)(hio:i∉io:=by decide)(hs:Ux e (YB (.Name x px)) pos.line X.env=pure YF:=by rfl)(hf:X.fn x=YD∨X.env.scope.names.lookup x=YB .local:=by first|exact .inl rfl|exact .inr rfl|assumption) :
  MS X io (.Assign [.Name x px] e pos) (Z5j i m):=by
 obtain⟨_,A,s⟩:=he;exact⟨_,Zz2 hN hi hx A hs hf,Yg3 s hio⟩
theorem Z4p(hN:X.N.Nodup)(hi:X.N[i]? =YB x)(hx:Loc X.env.scope x)(he:ME X io p YD e m)(hio:i∉io:=by decide)(hs:Ux e (YB (.Name x px)) pos.line X.env=pure YF:=by rfl)(hf:X.fn x=YD∨X.env.scope.names.lookup x=YB .local:=by first|exact .inl rfl|exact .inr rfl|assumption) :
  MS X io (.Assign [.Name x px] e pos) (Zra i m):=by
 obtain⟨_,A,s⟩:=he;exact⟨_,Zz2 hN hi hx A hs hf,Z75 s hio⟩
end
noncomputable def Z0o(t:MTt)(u:MSt):MSt:=λD δ=>∃W:Nat->Zh->Prop,(∃n,W n δ)∧∀n δ,W n δ->t δ λb δ'=>if b=YD then∃N:Zh->Prop,(∀δ',N δ'->∃n',n'<n∧W n' δ')∧u { D with nx:=N,ct:=N,bk:=D.nx } δ' else D.nx δ'
theorem Zpn{cnd:YJ}{ss:List YK}(hp:PassesOwn (Ql X.prog X.w) X.A X.env X.xe)(hc:MT X io p cnd mt)(ha:MSs X io ss u):MS X io (.While cnd ss [] pos) (Z0o mt u):=by
 obtain⟨_,T,s⟩:=hc;obtain⟨_,A,sa⟩:=ha;refine⟨_,Zx3 hp T A,λC H Y δ fp ex D D' R h E=>?_⟩;obtain⟨W,⟨n0,w0⟩,turn⟩:=h;refine⟨λn Y' H'=>∃δ' fp',Rel C io H' Y' δ' fp' ex∧Kp H fp H' fp'∧W n δ',⟨n0,δ,fp,R,.refl _ _,w0⟩,?_⟩;rintro n Y1 H1 ⟨δ1,fp1,R1,k1,w1⟩;refine s C H1 Y1 δ1 fp1 ex _ _ R1 (turn n δ1 w1) λH2 b δ2 fp2 R2 S2 h2=>?_;have k2:=k1.trans S2.kp;cases b with
 | true=>
  rw[YL rfl]at h2⊢;obtain⟨N,hN,h2⟩:=h2;refine⟨λY' H'=>∃δ' fp',Rel C io H' Y' δ' fp' ex∧Kp H fp H' fp'∧N δ',λY' H' ⟨δ',fp',R',k',n'⟩=>?_,?_⟩
  ·obtain⟨n1,hn1,w1⟩:=hN δ' n'
   exact⟨n1,hn1,δ',fp',R',k',w1⟩
  ·refine sa C H2 Y1 δ2 fp2 ex _ _ R2 h2 ⟨λH' Y' δ' fp' R' k' n'=>⟨δ',fp',R',k2.trans k',n'⟩,λH' Y' δ' fp' R' k' n'=>E.nx H' Y' δ' fp' R' (k2.trans k') n',λH' Y' δ' fp' R' k' n'=>⟨δ',fp',R',k2.trans k',n'⟩,E.rt⟩
 | false=>
  rw[YM XC]at h2⊢;exact E.nx H2 Y1 δ2 fp2 R2 k2 h2
end
variable {G:Xb}
noncomputable def Zsi(N:List Str)(ds:List Xa):Zh:=ds.map (λd=>YB (.fz d))++XJ (N.length-ds.length) YC
noncomputable def Zij(N:List Str)(t:OT)(ds:List Xa):Zh:=YB t::(ds.map (λd=>YB (.fz d))++XJ (N.length-(ds.length+1)) YC)
section
variable {H:Hp}{L:YG->Prop}{vs:List V}{ds:List Xa}{N:List Str}
theorem Zls{i:Nat}{t:OT}{n:Nat}(h:(ds.map (λd=>YB (.fz d))++XJ n YC:Zh)[i]? =YB (YB t)):∃d,ds[i]? =YB d∧t= .fz d:=by
 rw[VM]at h;split at h
 ·rw[Xl]at h
  cases e:ds[i]? with
  | none=>rw[e]at h;cases h
  | some d=>rw[e]at h;cases h;exact⟨d,rfl,rfl⟩
 ·rw[List.getElem?_replicate]at h
  split at h
  ·cases h
  ·cases h
theorem Rel.entry(h:Das G H L vs ds):Rel (G:=G) ⟨H,λ_=>False,L,start N vs⟩ [] H (start N vs) (Zsi N ds) (λ_=>[]) (λ_=>False):=by
 refine⟨?_,λi t e=>?_,λ_ _=>rfl,λ_=>.nil,λi j a m=>(nomatch m),λi a m=>(nomatch m),λa z=>z.elim,λb o e _=>e,λb e=>e,λi a m=>(nomatch m),λi m=>nomatch m⟩
 ·unfold start Zsi
  simp[h.length]
 ·obtain⟨d,e',rfl⟩:=Zls e
  obtain⟨x,e1,q⟩:=h.get e';refine⟨x,?_,.fz (q.wide λa l _=>⟨λ⟨j,z⟩=>(nomatch z),λz=>z,.inl l⟩)⟩;unfold L2.start;rw[Vo (by rw[Xc];exact(Xw.mp e1).1),Xl,e1];rfl
variable {P:Qe}{w:Qz}{K:Xb}{mg:Str->Option Xf}{base:YH}
noncomputable def Z1r(k:OT->Prop):Zhv:={ nx:=λ_=>k (.fz .none),rt:=λr _=>k r }
theorem Fun.okD{x qual:Str}{st:YK}{f:YG}{fd:XN}{N ps:List Str}{n:Nat}{S:List Xa->(OT->Prop)->Prop}(F:Fun K x qual st f fd)(Sc:Zt N ps (Zm st))(len:∀ds k,S ds k->ds.length=ps.length)
  (hbody:∀(cdv:Xf) (A:Qs) (outer:List Env) (s:Xg) (H:Hp) (E:XK),Room n (A.deeper (envOfC qual (Zm st) s.heap.objs.size f cdv)) ->
   ∃m,MSs (Zv2 CX0 P w K mg base N qual (Zm st) f cdv A outer s H E).nox [] (Za7 st) m∧∀ds k,S ds k->m (Z1r k) (Zsi N ds)):FnOk P w K mg base CX0 (n+1) f fd ps (spD K S):=by
 refine F.ok Sc (λvs H Q E h=>?_) (λcdv A outer s H vs Q E hr h=>?_)
 ·obtain⟨L,ds,k,h1,h2,_⟩:=h
  rw[h1.length];exact len ds k h2
 ·obtain⟨L,ds,k,h1,h2,h3⟩:=h
  obtain⟨m,⟨t,A1,s1⟩,q⟩:=hbody cdv A outer s H E hr;refine⟨t,A1,s1 ⟨H,λ_=>False,L,start N vs⟩ H _ _ _ _ (Z1r k) _ (Rel.entry h1) (q ds k h2) ⟨λH' Y' δ' fp' R _ hk=>?_,λ_ _ _ _ _ _ z=>z.elim,λ_ _ _ _ _ _ z=>z.elim,λH' Y' v r δ' fp' new R o nd hn hk=>?_⟩⟩
  ·exact h3 _ .non H' [] hk (λb o e=>R.fr b o e id) (.fz .non) .nil λa m=>nomatch m
  ·refine h3 r v H' new hk (λb o e=>R.fr b o e id) (o.wide λa l _=>⟨?_,λz=>l.2.1 (.inr z)⟩) nd hn
   exact l.2.2
theorem Rel.entryI{v0:V}{t0:OT}{as:List YG}(o:Own G H L v0 t0 as)(nd:as.Nodup)(hL:∀a∈as,¬L a)(h:Das G H L vs ds) :
  Rel (G:=G) ⟨H,λa=>a∈as,L,start N (v0::vs)⟩ [0] H (start N (v0::vs)) (Zij N t0 ds) (λi=>if i=0 then as else[]) (λ_=>False):=by
 have lw:∀a,L a->H a≠YC->Lf (G:=G) ⟨H,λa=>a∈as,L,L2.start N (v0::vs)⟩ (λi=>if i=0 then as else[]) (λ_=>False) a:=λa l _=>⟨λq91=>by
  obtain⟨i,z⟩:=q91;dsimp only at z;split at z
  ·exact hL a z l
  ·exact(nomatch z),λz=>z,.inl l⟩
 have sub:∀i a,a∈(if i=0 then as else[])->i=0∧a∈as:=λi a m=>by
  split at m
  ·exact⟨by assumption,m⟩
  ·exact nomatch m
 refine⟨?_,λi t e=>?_,λi h=>?_,λi=>?_,λi j a m m'=>(sub i a m).1.trans (sub j a m').1.symm,λi a m z=>z,λa z=>z.elim,λb o e _=>e,λb e=>e,λi a m=>.inl ⟨by rw[(sub i a m).1];exact Xp.mpr rfl,(sub i a m).2⟩,λi _=>rfl⟩
 ·unfold L2.start L2.Zij
  simp[h.length]
 ·cases i with
  | zero=>
   have e':t0=t:=by
    unfold L2.Zij at e;simpa using e
   subst e';exact⟨v0,rfl,o.wide lw⟩
  | succ i=>
   have e':(ds.map (λd=>YB (.fz d))++XJ (N.length-(ds.length+1)) YC:Zh)[i]? =YB (YB t):=e;obtain⟨d,e2,rfl⟩:=Zls e';obtain⟨x,e1,q⟩:=h.get e2;refine⟨x,?_,.fz (q.wide lw)⟩;show(vs.map YB++_)[i]? =_;rw[Vo (by rw[Xc];exact(Xw.mp e1).1),Xl,e1];rfl
 ·split
  ·subst i
   exact YX rfl (h t0)
  ·rfl
 ·split
  ·exact nd
  ·exact .nil
noncomputable def Z1z(k:OT->OT->Prop):Zhv:={ nx:=λδ=>match δ[0]? with|some (YB t)=>k (.fz .none) t|_=>False,rt:=λr δ=>match δ[0]? with|some (YB t)=>k r t|_=>False }
theorem Fun.okI{x qual:Str}{st:YK}{f:YG}{fd:XN}{N ps:List Str}{n:Nat}{S:OT->List Xa->(OT->OT->Prop)->Prop}(F:Fun K x qual st f fd)(Sc:Zt N ps (Zm st))(len:∀t ds k,S t ds k->ds.length+1=ps.length)
  (hbody:∀(cdv:Xf) (A:Qs) (outer:List Env) (s:Xg) (H:Hp) (E:XK),Room n (A.deeper (envOfC qual (Zm st) s.heap.objs.size f cdv)) ->
   ∃m,MSs (Zv2 CX0 P w K mg base N qual (Zm st) f cdv A outer s H E).nox [0] (Za7 st) m∧∀t ds k,S t ds k->m (Z1z k) (Zij N t ds)):FnOk P w K mg base CX0 (n+1) f fd ps (spI K S):=by
 refine F.ok Sc (λvs H Q E h=>?_) (λcdv A outer s H vs Q E hr h=>?_)
 ·obtain⟨L,v0,t0,as,vs',ds,k,rfl,_,_,_,h1,h2,_⟩:=h
  rw[JN,h1.length];exact len t0 ds k h2
 ·obtain⟨L,v0,t0,as,vs',ds,k,rfl,o0,nd0,hL,h1,h2,h3⟩:=h
  obtain⟨m,⟨t,A1,s1⟩,q⟩:=hbody cdv A outer s H E hr;have fin:∀H' Y' v r δ' fp' new,Rel (G:=K) ⟨H,λa=>a∈as,L,L2.start N (v0::vs')⟩ [0] H' Y' δ' fp' (exu (λ_=>False) new)->Own K H' (Lf (G:=K) ⟨H,λa=>a∈as,L,L2.start N (v0::vs')⟩ fp' (exu (λ_=>False) new)) v r new->new.Nodup->(∀a∈new,H a=YC) ->
    (match δ'[0]? with|some (YB t)=>k r t|_=>False)->Q v H':=by
   intro H' Y' v r δ' fp' new R o nd hn hk;split at hk
   case h_2=>exact hk.elim
   rename_i t' e';obtain⟨u,eu,ou⟩:=R.own 0 t' e';have hio:=R.io 0 (by simp);rw[eu]at hio;have:u=v0:=by
    have e2:(L2.start N (v0::vs'))[0]? =YB (YB v0):=rfl;have hio':YB (YB u)=(L2.start N (v0::vs'))[0]?:=hio;rw[e2]at hio';cases hio';rfl
   subst this;refine h3 r t' v H' new (fp' 0) hk (λb ob e nb=>R.fr b ob e nb) (λb e=>R.al b e) (o.wide λa l _=>⟨l.2.2,λz=>l.2.1 (.inr z),λz=>l.1 ⟨0,z⟩⟩) (ou.wide λa l _=>⟨l.2.2,λz=>l.2.1 (.inr z),λz=>l.1 ⟨0,z⟩⟩) ?_ hn λa m=>?_
   ·exact BL.mpr ⟨R.nd 0,nd,λa m b m' z=>by subst z;exact R.dx 0 a m (.inr m')⟩
   ·rcases R.new 0 a m with z|z
    ·exact .inl z.2
    ·exact .inr z
  refine⟨t,A1,s1 ⟨H,λa=>a∈as,L,L2.start N (v0::vs')⟩ H _ _ _ _ (Z1z k) _ (Rel.entryI o0 nd0 hL h1) (q t0 ds k h2) ⟨λH' Y' δ' fp' R _ hk=>?_,λ_ _ _ _ _ _ z=>z.elim,λ_ _ _ _ _ _ z=>z.elim,λH' Y' v r δ' fp' new R o nd hn hk=>fin H' Y' v r δ' fp' new R o nd hn hk⟩⟩;exact fin H' Y' .non (.fz .none) δ' fp' [] (R.drop λa z=>Zb5.mp z) (.fz .non) .nil (λa m=>nomatch m) hk
end
noncomputable abbrev MGt:=Xa->Zh->(Zh->Prop)->Prop
noncomputable abbrev Zvx:=List Xa->Zh->(Zh->Prop)->Prop
noncomputable def SG(G:Xb)(io:List Nat)(c:Bool)(t:TG)(g:MGt):Prop:=∀(C:MC G) (H:Hp) (Y:St) (δ:Zh) (fp:Fp) (ex:YG->Prop) (v:V) (d:Xa) (k:Zh->Prop) (Q:St->Hp->Prop),Rel C io H Y δ fp ex->Da G H (λa=>c=YD->Lf C fp ex a) v d->g d δ k ->
 (∀ Y' δ' fp',Rel C io H Y' δ' fp' ex->Kp H fp H fp'->k δ'->Q Y' H)->t v Y H Q
noncomputable def SGs(G:Xb)(io:List Nat)(c:Bool)(t:TGs)(g:Zvx):Prop:=∀(C:MC G) (H:Hp) (Y:St) (δ:Zh) (fp:Fp) (ex:YG->Prop) (v:List V) (d:List Xa) (k:Zh->Prop) (Q:St->Hp->Prop),Rel C io H Y δ fp ex->Das G H (λa=>c=YD->Lf C fp ex a) v d->g d δ k ->
 (∀ Y' δ' fp',Rel C io H Y' δ' fp' ex->Kp H fp H fp'->k δ'->Q Y' H)->t v Y H Q
noncomputable def MG(X:Cx)(io:List Nat)(c:Bool)(tg:YJ)(g:MGt):Prop:=∃t,PG X tg t∧SG X.K io c t g
noncomputable def MGs(X:Cx)(io:List Nat)(c:Bool)(tg:List YJ)(g:Zvx):Prop:=∃t,PGs X tg t∧SGs X.K io c t g
section
variable {X:Cx}{io:List Nat}{c:Bool}{pos:Pos}{i:Nat}{x:Str}
noncomputable def dName(i:Nat):MGt:=λd δ k=>k (δ.set i (YB (.fz d)))
theorem Rel.putD{C:MC G}{H:Hp}{Y:St}{δ:Zh}{fp:Fp}{ex:YG->Prop}{v:V}{d:Xa}(R:Rel C io H Y δ fp ex)(hio:i∉io)(q:Da G H (Lf C fp ex) v d) :
  ∃fp',Rel C io H (Y.set i (YB v)) (δ.set i (YB (.fz d))) fp' ex∧Kp H fp H fp':=by
 obtain⟨fp',R',g⟩:=(R.drop λa z=>Zb5.mp z).put (new:=[]) hio (.fz (q.wide λa l _=>⟨l.1,λz=>l.2.1 (Zb5.mp z),l.2.2⟩)) .nil (λa m=>nomatch m);exact⟨fp',R',λb o e _=>e,λz=>(nomatch z),λa z=>(g a z).imp id λz=>(nomatch z),λb e=>e⟩
theorem Z4a(hN:X.N.Nodup)(hi:X.N[i]? =YB x:=by rfl)(hx:Loc X.env.scope x:=by first|exact QD rfl|exact Qx rfl)(hio:i∉io:=by decide)(hf:X.fn x=YD∨X.env.scope.names.lookup x=YB .local:=by first|exact .inl rfl|exact .inr rfl|assumption):MG X io YD (.Name x pos) (dName i) :=
 ⟨_,Z3r hN hi hx hf,λC H Y δ fp ex v d k Q R q h kk=>by
  obtain⟨fp',R',k'⟩:=R.putD hio (q.wide λa l _=>l rfl);exact kk _ _ fp' R' k' h⟩
noncomputable def Yg0:Zvx:=λds δ k=>ds=[]∧k δ
noncomputable def Z9w(g:MGt)(gs:Zvx):Zvx:=λds δ k=>match ds with|d::r=>g d δ λδ'=>gs r δ' k|[]=>False
theorem Z2j:MGs X io c [] Yg0:=⟨_,Z2r,λC H Y δ fp ex v d k Q R q h kk=>by
 obtain⟨rfl,h⟩:=h;cases q;exact⟨rfl,kk Y δ fp R (.refl _ _) h⟩⟩
theorem Rel.kp_das{C:MC G}{H H':Hp}{Y:St}{δ:Zh}{fp fp':Fp}{ex:YG->Prop}{vs:List V}{ds:List Xa}(R:Rel C io H Y δ fp ex)(S:Kp H fp H' fp')(h:Das G H (Lf C fp ex) vs ds):Das G H' (Lf C fp' ex) vs ds:=by
 have S':Stp YF H δ fp H' δ fp':=⟨S.keep,λz=>(nomatch z),S.grow,S.al⟩;obtain⟨f1,f2⟩:=R.frameL (c:=YD) (ex':=ex) S' (.inr rfl) λa z=>.inl z;exact h.frame (λa xs l q=>⟨(f1 a xs (λ_=>l) q).1 rfl,(f1 a xs (λ_=>l) q).2⟩) f2
theorem Zos{e:YJ}{es:List YJ}{g:MGt}{gs:Zvx}(h1:MG X io YD e g)(h2:MGs X io YD es gs)
  (hs:(JQ (e::es) X.env).map (·.2)=UT e X.env::(JQ es X.env).map (·.2):=by rfl):MGs X io YD (e::es) (Z9w g gs):=by
 obtain⟨_,A,s⟩:=h1;obtain⟨_,B,s'⟩:=h2;exact⟨_,Zw0 A B hs,λC H Y δ fp ex v d k Q R q h kk=>by
  cases q with
  | nil=>exact h.elim
  | cons q qs=>
   refine⟨_,_,rfl,s C H Y δ fp ex _ _ _ _ R q h λY1 δ1 fp1 R1 k1 h1=>?_⟩;exact s' C H Y1 δ1 fp1 ex _ _ _ _ R1 ((R.kp_das k1 (qs.wide λa l _=>l rfl)).wide λa l _ _=>l) h1 λY2 δ2 fp2 R2 k2 h2=>kk Y2 δ2 fp2 R2 (k1.trans k2) h2⟩
noncomputable def dTup(n:Nat)(gs:Zvx):MGt:=λd δ k=>match d with| .tuple ds=>ds.length=n∧gs ds δ k|_=>False
theorem Z9x{es:List YJ}{k:Nat}{gs:Zvx}{n:Nat}(hc:X.calm=YD)(h:MGs X io c es gs)
  (hn:(JQ es X.env).length=n:=by rfl) (hst:(JQ es X.env).findIdx? (·.1)=YC:=by rfl):MG X io c (.Tuple es k pos) (dTup n gs):=by
 obtain⟨_,A,s⟩:=h;exact⟨_,Z76 hc A hn hst,λC H Y δ fp ex v d k Q R q h kk=>by
  cases q with
  | tup e qs=>exact⟨_,_,rfl,.inl (.inl e),by rw[qs.length];exact h.1,s C H Y δ fp ex _ _ _ _ R qs h.2 kk⟩
  | _=>exact h.elim⟩
noncomputable def Yfq(m:MEt)(g:MGt):MSt:=λD δ=>m δ λr δ'=>g r.data δ' D.nx
theorem Ya8{tg e:YJ}{p:Bool}{m:MEt}{g:MGt}(he:ME X io p c e m)(hg:MG X io c tg g)(hs:swapsWithSole [tg] e pos.line X.env=pure YF:=by rfl)(hw:swappedStores [tg] e X.env=pure YC:=by rfl)
  (h1:(JQ [tg] X.env).map (·.2)=[UT tg X.env]:=by rfl):MS X io (.Assign [tg] e pos) (Yfq m g):=by
 obtain⟨_,A,s⟩:=he;obtain⟨_,B,s'⟩:=hg;exact⟨_,Zsk A B hs hw h1,λC H Y δ fp ex D D' R h E=>s C H Y δ fp ex _ _ R h λH' v r δ' fp' new r1 h1=>
  s' C H' Y δ' fp' ex v _ _ _ r1.base (r1.da R) h1 λY2 δ2 fp2 R2 k2 h2=>E.nx H' Y2 δ2 fp2 R2 (r1.stp.kp.trans k2) h2⟩
end
variable {G:Xb}
noncomputable def IterOk(C:MC G)(fp:Fp)(ex:YG->Prop)(H1:Hp)(c:Bool)(J:It)(ds:List Xa):Prop:=∀H':Hp,(∀b o,H1 b=YB o->(c=YF∨¬Foot fp b)->H' b=YB o)->∀i:Nat,
 (∀ d,ds[i]? =YB d->J.go i H'∧∀x H'',J.yld i H' x H''->Same H' H''∧Da G H'' (λa=>c=YD->(Lf C fp ex a∧H1 a≠YC)) x d)∧(ds[i]? =YC->J.stop i H')
noncomputable abbrev MIt:=Zh->(List Xa->Zh->Prop)->Prop
noncomputable def SI(G:Xb)(io:List Nat)(p c:Bool)(t:TI)(m:MIt):Prop:=∀(C:MC G) (H:Hp) (Y:St) (δ:Zh) (fp:Fp) (ex:YG->Prop) (K:List Xa->Zh->Prop) (Q:It->Hp->Prop),Rel C io H Y δ fp ex->m δ K ->
 (∀ J H1 ds δ1 fp1,Rel C io H1 Y δ1 fp1 ex->Stp p H δ fp H1 δ1 fp1->IterOk C fp1 ex H1 c J ds->K ds δ1->Q J H1)->t Y H Q
noncomputable def MI(X:Cx)(io:List Nat)(p c:Bool)(tg iter:YJ)(m:MIt):Prop:=∃t,PI X tg iter t∧SI X.K io p c t m
section
variable {X:Cx}{io:List Nat}{p c:Bool}{e a b tg:YJ}{m:MEt}{mr:MAt}{K:Xb}
noncomputable def iL(m:MEt):MIt:=λδ K=>m δ λr δ'=>match r.data with| .list ds=>K ds δ'|_=>False
theorem Rel.kept{C:MC G}{H H':Hp}{Y:St}{δ:Zh}{fp:Fp}{ex:YG->Prop}(R:Rel C io H Y δ fp ex)(kp:∀b o,H b=YB o->(c=YF∨¬Foot fp b)->H' b=YB o) :
  (∀ a (xs:MuO),(c=YD->Lf C fp ex a)->Rd H a xs.ho->(c=YD->(Lf C fp ex a∧H a≠YC))∧Rd H' a xs.ho)∧(∀a (xs:ImO),H a=YB xs.ho->H' a=YB xs.ho):=by
 refine⟨λa xs l q=>⟨λhc=>⟨l hc,q.some⟩,?_⟩,λa xs q=>kp a _ q (.inr λz=>?_)⟩
 ·have hk:c=YF∨¬Foot fp a:=by
   cases c with
   | false=>exact .inl rfl
   | true=>exact .inr (l rfl).1
  rcases q with q|⟨o,q⟩
  ·exact .inl (kp a _ q hk)
  ·exact .inr ⟨o,kp a _ q hk⟩
 ·obtain⟨ys,e⟩:=R.foot z
  exact ImO.nm q e
theorem Z3e(h:ME X io p c e m):MI X io p c tg e (iL m):=by
 obtain⟨_,A,s⟩:=h;exact⟨_,Zxo rfl A,λC H Y δ fp ex K' Q R h kk=>s C H Y δ fp ex _ _ R h λH1 v r δ1 fp1 new r1 h1=>by
  have q:=r1.da R;generalize r.data=d at q h1;cases q with
  | lst l e qs=>
   refine⟨_,rfl,⟨_,.inl e⟩,kk _ H1 _ δ1 fp1 r1.base r1.stp (λH' kp i=>?_) h1⟩;obtain⟨f1,f2⟩:=r1.base.kept kp;have e':=(f1 _ (.lst _) l e).2;have qs':=qs.frame f1 f2;refine⟨λd hd=>?_,λhd=>?_⟩
   ·obtain⟨x,hx,qx⟩:=qs'.get hd
    refine⟨⟨_,x,.inl e',hx⟩,λy H'' hy=>?_⟩;obtain⟨rfl,hy⟩:=hy;have:=hy _ (.inl e');rw[hx]at this;cases this;exact⟨Same.refl _,qx⟩
   ·exact⟨_,.inl e',by rw[qs'.length];exact QH.mp hd⟩
  | scr ks=>
   refine⟨_,rfl,⟨_,ks.sq⟩,kk _ H1 _ δ1 fp1 r1.base r1.stp (λH' kp i=>?_) h1⟩;refine⟨λd hd=>?_,λhd=>?_⟩
   ·obtain⟨x,hx,qx⟩:=(Das.ints (G:=X.K) (H:=H') (L:=λa=>c=YD->(Lf C fp1 ex a∧H1 a≠YC)) _).get hd
    refine⟨⟨_,x,ks.sq,hx⟩,λy H'' hy=>?_⟩;obtain⟨rfl,hy⟩:=hy;have:=hy _ ks.sq;rw[hx]at this;cases this;exact⟨Same.refl _,qx⟩
   ·refine⟨_,ks.sq,?_⟩
    have:=QH.mp hd;simpa using this
  | _=>exact h1.elim⟩
noncomputable def Zdh(lo:Int)(n:Nat):List Xa:=(Xd n).map λ(i:Nat)=>Xq (lo+(i:Int))
@[simp] theorem Zcf(lo:Int)(n:Nat):(Zdh lo n).length=n:=by simp[Zdh]
theorem Zfd{lo:Int}{n i:Nat}{d:Xa}(h:(Zdh lo n)[i]? =YB d):i<n∧d= .int (lo+i):=by
 have hi:i<n:=by
  have:=(Xw.mp h).1;simpa using this
 unfold Zdh at h;rw[Xl,Qq hi]at h;cases h;exact⟨hi,rfl⟩
theorem Zps{C:MC G}{fp:Fp}{ex:YG->Prop}{H1:Hp}{lo:Int}{n:Nat}:IterOk C fp ex H1 YD (Itr lo n) (Zdh lo n):=λH' _ i=>by
 refine⟨λd hd=>?_,λhd=>?_⟩
 ·obtain⟨hi,rfl⟩:=Zfd hd
  refine⟨hi,λx H'' hy=>?_⟩;obtain⟨rfl,rfl⟩:=hy;exact⟨Same.refl _,.int _⟩
 ·have:=QH.mp hd
  show n≤i;simpa using this
noncomputable def iR1(mr:MAt):MIt:=λδ K=>mr δ λrs δ'=>match OT.datas rs with|[.int j]=>(-(2^62)≤j∧j<2^62)∧K (Zdh 0 j.toNat) δ'|_=>False
noncomputable def iR2(mr:MAt):MIt:=λδ K=>mr δ λrs δ'=>match OT.datas rs with|[.int i,.int j]=>(-(2^62)≤i∧i<2^62∧-(2^62)≤j∧j<2^62)∧K (Zdh i (j-i).toNat) δ'|_=>False
theorem Yu{p' pos:Pos}(hg:Gl X "range")(hm:X.mg "range"=YC)(ha:MA X io p c [a] mr)(hs:Xr [a] X.env=[(YF,eval a X.env)]:=by rfl):MI X io p YD tg (.Call (.Name "range" p') [a] [] pos) (iR1 mr):=by
 obtain⟨_,A,s⟩:=ha;exact⟨_,Zrr hg hm A hs,λC H Y δ fp ex K' Q R h kk=>s C H Y δ fp ex _ _ R h λH1 vs rs δ1 fp1 new r1 h1=>by
  have q:=r1.das R;generalize OT.datas rs=d at q h1;split at h1
  case h_2=>exact h1.elim
  cases q with
  | cons q1 q2=>
   cases q1;cases q2;exact⟨_,rfl,h1.1.1,h1.1.2,kk _ H1 _ δ1 fp1 r1.base r1.stp Zps h1.2⟩⟩
theorem Zfa{p' pos:Pos}(hg:Gl X "range")(hm:X.mg "range"=YC)(ha:MA X io p c [a,b] mr)(hs:Xr [a,b] X.env=[(YF,eval a X.env),(YF,eval b X.env)]:=by rfl)(hs2:Xr [b] X.env=[(YF,eval b X.env)]:=by rfl):MI X io p YD tg (.Call (.Name "range" p') [a,b] [] pos) (iR2 mr):=by
 obtain⟨_,A,s⟩:=ha;exact⟨_,Zt7 hg hm A hs hs2,λC H Y δ fp ex K' Q R h kk=>s C H Y δ fp ex _ _ R h λH1 vs rs δ1 fp1 new r1 h1=>by
  have q:=r1.das R;generalize OT.datas rs=d at q h1;split at h1
  case h_2=>exact h1.elim
  cases q with
  | cons q1 q2=>
   cases q1;cases q2 with
   | cons q2 q3=>
    cases q2;cases q3;exact⟨_,_,rfl,h1.1,kk _ H1 _ δ1 fp1 r1.base r1.stp Zps h1.2⟩⟩
theorem IterOk.at{C:MC G}{fp fp':Fp}{ex:YG->Prop}{H1 H' H'':Hp}{J:It}{ds:List Xa}{x:V}{d:Xa}(g:∀a,Foot fp' a->Foot fp a∨H1 a=YC)(h:Da G H'' (λa=>YD=YD->(Lf C fp ex a∧H1 a≠YC)) x d):Da G H'' (λa=>YD=YD->Lf C fp' ex a) x d :=
 h.wide λa l _ z=>⟨λw=>(g a w).elim (l z).1.1 (l z).2,(l z).1.2.1,(l z).1.2.2⟩
noncomputable def Yeo(ds:List Xa)(g:MGt)(u:MSt)(D:Zhv)(δ1:Zh):Prop:=∃I:Nat->Zh->Prop,I 0 δ1∧(∀(i:Nat) (d:Xa) (δ':Zh),ds[i]? =YB d->I i δ'->g d δ' λδ2=>u { D with nx:=I (i+1),ct:=I (i+1),bk:=D.nx } δ2)∧∀δ',I ds.length δ'->D.nx δ'
noncomputable def Yg4(mi:MIt)(g:MGt)(u:MSt):MSt:=λD δ=>mi δ λds δ1=>Yeo ds g u D δ1
theorem Rel.mk0{C:MC G}{H H':Hp}{Y:St}{δ:Zh}{fp:Fp}{ex:YG->Prop}(R:Rel C io H Y δ fp ex)(s:Same H H'):Rel C io H' Y δ fp ex:=(R.made (new:=[]) s λa m=>nomatch m).drop λa z=>.inl z
theorem Z6k{iter:YJ}{body:List YK}{mi:MIt}{g:MGt}{u:MSt}{pos:Pos}(hp:PassesOwn (Ql X.prog X.w) X.A X.env X.xe)(hc:X.calm=YD)(hi:MI X io p YD tg iter mi)(hg:MG X io YD tg g)(hb:MSs X io body u)
  (hs:∀x,BV iter X.env x=pure x:=by intro _;rfl):MS X io (.For tg iter body [] pos) (Yg4 mi g u):=by
 obtain⟨_,A,s⟩:=hi;obtain⟨_,G,sg⟩:=hg;obtain⟨_,B,sb⟩:=hb;refine⟨_,Yan hp hc A G B hs,λC H Y δ fp ex D D' R h E=>s C H Y δ fp ex _ _ R h λJ H1 ds δ1 fp1 R1 S1 it h1=>?_⟩;obtain⟨I,h0,turn,fin⟩:=h1;refine⟨λi n Y' H'=>n=ds.length-i∧i≤ds.length∧∃δ' fp',Rel C io H' Y' δ' fp' ex∧Kp H1 fp1 H' fp'∧I i δ',⟨ds.length,rfl,QZ _,δ1,fp1,R1,.refl _ _,h0⟩,?_⟩;rintro i n Y2 H2 ⟨rfl,hle,δ2,fp2,R2,k2,i2⟩;have itk:=it H2 (λb o e q=>k2.keep b o e (.inr (q.resolve_left (by decide)))) i
 by_cases hlt:i<ds.length
 ·have hd:ds[i]? =YB ds[i]:=Xm hlt
  obtain⟨go,yl⟩:=itk.1 _ hd;refine .inr ⟨go,λY' H'=>∃δ' fp',Rel C io H' Y' δ' fp' ex∧Kp H1 fp1 H' fp'∧I (i+1) δ',λY' H' ⟨δ',fp',R',k',i'⟩=>⟨ds.length-(i+1),by omega,rfl,hlt,δ',fp',R',k',i'⟩,λx H3 hy=>?_⟩;obtain⟨s3,q3⟩:=yl x H3 hy;have R3:=R2.mk0 s3;have k3:Kp H1 fp1 H3 fp2:=k2.trans ⟨λb o e _=>s3 _ _ e,λz=>(nomatch z),λa z=>.inl z,s3.al⟩;refine sg C H3 Y2 δ2 fp2 ex x _ _ _ R3 (IterOk.at (H':=H2) (J:=J) (ds:=ds) k2.grow q3) (turn i _ δ2 hd i2) λY4 δ4 fp4 R4 k4 h4=>?_;have k5:=k3.trans k4;refine sb C H3 Y4 δ4 fp4 ex _ _ R4 h4 ⟨λH' Y' δ' fp' R' k' n'=>⟨δ',fp',R',k5.trans k',n'⟩,λH' Y' δ' fp' R' k' n'=>E.nx H' Y' δ' fp' R' (S1.kp.trans (k5.trans k')) n',λH' Y' δ' fp' R' k' n'=>⟨δ',fp',R',k5.trans k',n'⟩,E.rt⟩
 ·have e:i=ds.length:=by omega
  subst e;exact .inl ⟨itk.2 (by simp),E.nx H2 Y2 δ2 fp2 R2 (S1.kp.trans k2) (fin δ2 i2)⟩
end
noncomputable def gM(G:Xb)(io:List Nat)(c:Bool)(g:MGt):TG:=λv Y H Q=>∃(C:MC G) (δ:Zh) (fp:Fp) (ex:YG->Prop) (d:Xa) (k:Zh->Prop),Rel C io H Y δ fp ex∧Da G H (λa=>c=YD->Lf C fp ex a) v d∧g d δ k∧
 ∀Y' δ' fp',Rel C io H Y' δ' fp' ex->Kp H fp H fp'->k δ'->Q Y' H
noncomputable def tM(G:Xb)(io:List Nat)(p c:Bool)(m:MEt):TE:=λY H Q=>∃(C:MC G) (δ:Zh) (fp:Fp) (ex:YG->Prop) (K:OT->Zh->Prop),Rel C io H Y δ fp ex∧m δ K∧∀H' v r δ' fp' new,RE C io p c H Y δ fp ex H' v r δ' fp' new->K r δ'->Q v H'
noncomputable def ttM(G:Xb)(io:List Nat)(p:Bool)(m:MTt):TT:=λY H Q=>∃(C:MC G) (δ:Zh) (fp:Fp) (ex:YG->Prop) (K:Bool->Zh->Prop),Rel C io H Y δ fp ex∧m δ K∧∀H' b δ' fp',Rel C io H' Y δ' fp' ex->Stp p H δ fp H' δ' fp'->K b δ'->Q b H'
noncomputable def MIfs(X:Cx)(io:List Nat)(p:Bool)(ifs:List YJ)(m:MTt):Prop:=∃t,Z45 X ifs t∧STt X.K io p t m
section
variable {X:Cx}{io:List Nat}{p c:Bool}{e tg:YJ}{m:MEt}{mt:MTt}{g:MGt}{ifs:List YJ}
theorem MG.canon(h:MG X io c tg g):PG X tg (gM X.K io c g):=by
 obtain⟨t,A,s⟩:=h;rintro pins sh Y H v u Q I r ⟨C,δ,fp,ex,d,k,R,q,h,kk⟩;exact A pins sh Y H v u Q I r (s C H Y δ fp ex v d k Q R q h kk)
theorem ME.canon(h:ME X io p c e m):PE X e (tM X.K io p c m):=by
 obtain⟨t,A,s⟩:=h;rintro pins sh Y H Q I ⟨C,δ,fp,ex,K,R,h,kk⟩;exact A pins sh Y H Q I (s C H Y δ fp ex K Q R h kk)
theorem MIfs.canon(h:MIfs X io p ifs mt):Z45 X ifs (ttM X.K io p mt):=by
 obtain⟨t,A,s⟩:=h;rintro pins sh Y H Q I ⟨C,δ,fp,ex,K,R,h,kk⟩;exact A pins sh Y H Q I (s C H Y δ fp ex K Q R h kk)
noncomputable def Yac:MTt:=λδ K=>K YD δ
theorem Y9:MIfs X io YD [] Yac:=⟨_,Z2w,λC H Y δ fp ex K Q R h kk=>kk H YD δ fp R (.refl _ _ _ _) h⟩
theorem Zhq{cnd:YJ}(h:MT X io p cnd mt):MIfs X io p [cnd] mt:=by
 obtain⟨_,A,s⟩:=h;exact⟨_,Z3i A,s⟩
end
variable {G:Xb}
noncomputable def blk(n:Nat)(caps:List Nat)(δ:Zh):Zh:=XJ n YC++caps.map λi=>(δ[i]?).getD YC
noncomputable def J8(n:Nat)(caps:List Nat)(fp:Fp):Fp:=λk=>if k<n then[]else match caps[k-n]? with|some i=>fp i|none=>[]
noncomputable def Zbs(n:Nat)(caps:List Nat):List Nat:=(Xd caps.length).map (·+n)
noncomputable def Z0f(C:MC G)(H1:Hp)(fp:Fp)(Y0:St):MC G:=⟨H1,Foot fp,λa=>(C.L a∨C.H₀ a=YC)∧¬Foot fp a,Y0⟩
noncomputable def Zg8(ex:YG->Prop)(D:YG)(fp fpb:Fp)(a:YG):Prop:=ex a∨a=D∨(Foot fp a∧¬Foot fpb a)
section
variable {C:MC G}{io:List Nat}{H1 H':Hp}{Y:St}{δ:Zh}{fp:Fp}{ex:YG->Prop}{own:List Str}{caps:List Nat}{D:YG}{n:Nat}
theorem Zdr{k:Nat}{a:YG}(h:a∈J8 n caps fp k):∃i,n≤k∧caps[k-n]? =YB i∧a∈fp i:=by
 unfold J8 at h;split at h
 ·exact nomatch h
 ·split at h
  ·rename_i i e
   exact⟨i,by omega,e,h⟩
  ·exact nomatch h
theorem Zys{j i:Nat}(h:caps[j]? =YB i):J8 n caps fp (n+j)=fp i:=by
 unfold J8;rw[YM (by omega),show n+j-n=j by omega,h]
theorem Yba{k:Nat}{t:OT}(h:(blk n caps δ)[k]? =YB (YB t)):∃i,n≤k∧caps[k-n]? =YB i∧δ[i]? =YB (YB t):=by
 unfold blk at h;rw[VM]at h;split at h
 ·rw[List.getElem?_replicate]at h
  split at h<;>cases h
 ·rename_i hk
  rw[UG]at hk h;rw[Xl]at h;cases e:caps[k-n]? with
  | none=>rw[e]at h;cases h
  | some i=>
   rw[e]at h;refine⟨i,by omega,rfl,?_⟩;simp only[Qc]at h;cases e2:δ[i]? with
   | none=>rw[e2]at h;cases h
   | some o=>
    rw[e2]at h;simpa using h
theorem Rel.block(R:Rel C io H1 Y δ fp ex)(nd:caps.Nodup)(hD:H1 D=YC) :
  Rel (Z0f C H1 fp (Zam own caps Y)) (Zbs own.length caps) (upd H1 D (.lst [])) (Zam own caps Y) (blk own.length caps δ) (J8 own.length caps fp) (Zg8 ex D fp (J8 own.length caps fp)):=by
 have s:=Z7 hD (.lst []);have sub:∀a,Foot (J8 own.length caps fp) a->Foot fp a:=λa q91=>by
  obtain⟨k,z⟩:=q91;obtain⟨i,_,_,z⟩:=Zdr z;exact⟨i,z⟩
 have neD:∀a,H1 a≠YC->a≠D:=λa h z=>h (z▸hD);refine⟨by unfold Zam blk;simp,λk t e=>?_,λk h=>?_,λk=>?_,λk l a h1 h2=>?_,λk a h z=>?_,λa z=>?_,λb o e _=>s _ _ e,λb e=>s.free e,λk a h=>?_,λk _=>rfl⟩
 ·obtain⟨i,hk,e1,e2⟩:=Yba e
  obtain⟨v,e3,o⟩:=R.own i t e2;refine⟨v,?_,?_⟩
  ·unfold Zam
   rw[Bl (by simpa using hk),Xc,Xl,e1];simp[e3]
  ·have ef:J8 own.length caps fp k=fp i:=by
    have:=Zys (n:=own.length) (fp:=fp) e1
    rwa[show own.length+(k-own.length)=k by omega]at this
   rw[ef];refine(o.wide λa l q=>⟨λz=>l.1 (sub a z),λz=>?_,.inl ⟨l.2.2,l.1⟩⟩).same s;rcases z with z|z|z
   ·exact l.2.1 z
   ·exact neD a q z
   ·exact l.1 z.1
 ·unfold J8
  split
  ·rfl
  ·split
   ·rename_i i e1
    refine R.emp i λt z=>h t ?_;unfold blk;rw[Bl (by rw[UG];omega),UG,Xl,e1];simp[z]
   ·rfl
 ·unfold J8
  split
  ·exact .nil
  ·split
   ·exact R.nd _
   ·exact .nil
 ·obtain⟨i,hk,e1,m1⟩:=Zdr h1
  obtain⟨j,hl,e2,m2⟩:=Zdr h2;have:=R.dj i j a m1 m2;subst this;have hlt:=(Xw.mp e1).1;have:=(List.getElem?_inj hlt nd).mp (e1.trans e2.symm);omega
 ·obtain⟨i,hk,e1,m⟩:=Zdr h
  rcases z with z|z|z
  ·exact R.dx i a m z
  ·exact R.footSome (z▸hD) ⟨i,m⟩
  ·exact z.2 ⟨k,h⟩
 ·rcases z with z|z|z
  ·intro q;exact R.xa a z (s.free q)
  ·subst z;rw[Z8];intro q;cases q
  ·obtain⟨xs,e⟩:=R.foot z.1
   rw[s _ _ e];intro q;cases q
 ·obtain⟨i,hk,e1,m⟩:=Zdr h
  refine .inl ⟨?_,⟨i,m⟩⟩;have:=(Xw.mp e1).1;exact XD.mpr ⟨k-own.length,by simpa using this,by omega⟩
theorem Z9q{Y0:St}{fp':Fp}{ex':YG->Prop}{a:YG}(hx:∀a,ex a->ex' a)(l:Lf (Z0f C H1 fp Y0) fp' ex' a):Lf C fp ex a∨H1 a=YC:=by
 obtain⟨l1,l2,l3⟩:=l;rcases l3 with l3|l3
 ·exact .inl ⟨l3.2,λz=>l2 (hx a z),l3.1⟩
 ·exact .inr l3
theorem Rel.poke(R:Rel C io H' Y δ fp ex){xs ys:List V}(hx:ex D)(hD:H' D=YB (.lst xs))(h0:C.H₀ D=YC):Rel C io (upd H' D (.lst ys)) Y δ fp ex:=by
 have nf:¬Foot fp D:=λ⟨i,z⟩=>R.dx i D z hx;have kp:∀b o,b≠D->H' b=YB o->upd H' D (.lst ys) b=YB o:=λb o n e=>by rw[Zy n];exact e
 refine⟨R.len,λi t e=>?_,R.emp,R.nd,R.dj,R.dx,λa z=>?_,λb o e n=>?_,λb e=>?_,R.new,R.io⟩
 ·obtain⟨v,e1,o⟩:=R.own i t e
  refine⟨v,e1,o.frame (λa zs l q=>⟨l,?_⟩) (λa zs q=>kp a _ (λz=>?_) q) λa m zs q=>kp a _ (λz=>nf ⟨i,z▸m⟩) q⟩
  ·have na:a≠D:=λz=>l.2.1 (z▸hx)
   rcases q with q|⟨u,q⟩
   ·exact .inl (kp a _ na q)
   ·exact .inr ⟨u,kp a _ na q⟩
  ·exact ImO.nl q (z▸hD)
 ·by_cases e:a=D
  ·subst e;rw[Z8];intro q;cases q
  ·rw[Zy e];exact R.xa a z
 ·refine kp b o (λz=>?_) (R.fr b o e n)
  rw[z,h0]at e;cases e
 ·refine R.al b ?_
  by_cases q:b=D
  ·subst q;rw[Z8]at e;cases e
  ·rwa[Zy q]at e
theorem Owns.poke{L:YG->Prop}{xs ys zs:List V}{rs:List OT}{as:List YG}(o:Owns G H' L zs rs as)(hD:H' D=Bx (HO.lst xs))(hL:¬L D)(hn:D∉as):Owns G (upd H' D (.lst ys)) L zs rs as:=by
 refine o.frame (λa zs l q=>⟨l,?_⟩) (λa zs q=>?_) λa m zs q=>?_
 ·have na:a≠D:=λz=>hL (z▸l)
  rcases q with q|⟨u,q⟩
  ·exact .inl (by rw[Zy na];exact q)
  ·exact .inr ⟨u,by rw[Zy na];exact q⟩
 ·rw[Zy (λz=>ImO.nl q (z▸hD))];exact q
 ·have na:a≠D:=λz=>hn (by rw[←z];exact m)
  rw[Zy na];exact q
theorem Owns.snoc{L:YG->Prop}{xs:List V}{rs:List OT}{as bs:List YG}{x:V}{r:OT}(h:Owns G H' L xs rs as)(k:Own G H' L x r bs):Owns G H' L (xs++[x]) (rs++[r]) (as++bs) :=
 Owns.rec (motive_1:=λ_ _ _ _=>True) (motive_2:=λxs rs as _=>Owns G H' L (xs++[x]) (rs++[r]) (as++bs)) (λ_=>trivial) (λ_ _ _=>trivial) (λ_ _ _=>trivial) (λ_ _ _=>trivial) (by have:=Owns.cons k .nil;rwa[QW]at this) (λk _ _ ih=>by rw[Bm];exact .cons k ih) h
end
structure Zza(C:MC G)(H1:Hp)(fp1:Fp)(ex:YG->Prop)(n:Nat)(caps:List Nat)(Y0:St)(D:YG)(pb:Bool)(H':Hp)(Y':St)(δ':Zh)(fp':Fp)(ys:List V)(rs:List OT)(new:List YG):Prop where
 keep:∀b o,H1 b=YB o->(pb=YD∨¬Foot (J8 n caps fp1) b)->H' b=YB o
 al:∀b,H' b=YC->H1 b=YC
 dat:H' D=YB (.lst ys)
 rel:Rel (Z0f C H1 fp1 Y0) (Zbs n caps) H' Y' δ' fp' (exu (Zg8 ex D fp1 (J8 n caps fp1)) new)
 grow:∀a,Foot fp' a->Foot (J8 n caps fp1) a∨H1 a=YC
 own:Owns G H' (λa=>YD=YD->Lf (Z0f C H1 fp1 Y0) fp' (exu (Zg8 ex D fp1 (J8 n caps fp1)) new) a) ys rs new
 nd:new.Nodup
 fresh:∀a∈new,H1 a=YC∧a≠D
section
variable {io:List Nat}{p c pt pe ci:Bool}{g:MGt}{mt:MTt}{me:MEt}{own:List Str}{caps:List Nat}
theorem Zrm{C:MC G}{H1:Hp}{Y:St}{δ1:Zh}{fp1:Fp}{ex:YG->Prop}{J:It}{ds:List Xa}{D:YG}{Qf:Hp->Prop}(I:Nat->List OT->Zh->Prop)(R1:Rel C io H1 Y δ1 fp1 ex)
  (it:∀H':Hp,(∀b o,H1 b=YB o->((pt&&pe)=YD∨¬Foot (J8 own.length caps fp1) b)->H' b=YB o)->∀i:Nat,(∀d,ds[i]? =YB d->J.go i H'∧∀x H'',J.yld i H' x H''->Same H' H''∧Da G H'' (λa=>ci=YD->(Lf C fp1 ex a∧H1 a≠YC)) x d)∧(ds[i]? =YC->J.stop i H'))
  (nd:caps.Nodup) (hD:H1 D=YC) (hz:ds.length≤Xz) (h0:I 0 [] (blk own.length caps δ1))
  (turn:∀(i:Nat) (d:Xa) (rs:List OT) (δ':Zh),ds[i]? =YB d->I i rs δ'->g d δ' λδ2=>mt δ2 λb δ3=>if b=YD then me δ3 λr δ4=>I (i+1) (rs++[r]) δ4 else I (i+1) rs δ3)
  (fin:∀H' Y' δ' fp' ys rs new,Zza C H1 fp1 ex own.length caps (Zam own caps Y) D (pt&&pe) H' Y' δ' fp' ys rs new->I ds.length rs δ'->Qf H') :
  Z1h J (gM G (Zbs own.length caps) ci g) (ttM G (Zbs own.length caps) pt mt) (tM G (Zbs own.length caps) pe YD me) (Zam own caps Y) D Qf H1:=by
 have hx:Zg8 ex D fp1 (J8 own.length caps fp1) D:=.inr (.inl rfl);refine⟨λi n Y' H'=>n=ds.length-i∧i≤ds.length∧∃rs ys new δ' fp',Zza C H1 fp1 ex own.length caps (Zam own caps Y) D (pt&&pe) H' Y' δ' fp' ys rs new∧ys.length≤i∧I i rs δ',⟨ds.length,rfl,QZ _,[],[],[],_,_,⟨λb o e _=>Z7 hD _ _ _ e,(Z7 hD _).al,Z8,?_,λa z=>.inl z,.nil,.nil,λa m=>(nomatch m)⟩,X6 _,h0⟩,?_⟩
 ·exact(R1.block nd hD).drop λa z=>Zb5.mp z
 rintro i n Y2 H2 ⟨rfl,hle,rs,ys,new,δ2,fp2,B,hl,i2⟩;have subB:∀b,Foot (J8 own.length caps fp1) b->Foot fp1 b:=λb q92=>by
  obtain⟨k,z⟩:=q92;obtain⟨i,_,_,z⟩:=Zdr z;exact⟨i,z⟩
 have itk:=it H2 B.keep i
 by_cases hlt:i<ds.length
 case neg=>
  have e:i=ds.length:=by omega
  subst e;exact .inl ⟨itk.2 (by simp),fin H2 Y2 δ2 fp2 ys rs new B i2⟩
 have hd:ds[i]? =YB ds[i]:=Xm hlt;obtain⟨go,yl⟩:=itk.1 _ hd;refine .inr ⟨go,λx H3 hy=>?_⟩;obtain⟨s3,q3⟩:=yl x H3 hy;have R3:=B.rel.mk0 s3;have D3:H3 D=YB (.lst ys):=s3 _ _ B.dat
 -- the item,clean in the block
 have q3':Da G H3 (λa=>ci=YD->Lf (Z0f C H1 fp1 (Zam own caps Y)) fp2 (exu (Zg8 ex D fp1 (J8 own.length caps fp1)) new) a) x ds[i]:=by
  refine q3.wide λa l _ z=>?_;obtain⟨⟨l1,l2,l3⟩,l4⟩:=l z;refine⟨λw=>?_,λw=>?_,.inl ⟨l3,l1⟩⟩
  ·rcases B.grow a w with w|w
   ·exact l1 (subB a w)
   ·exact l4 w
  ·rcases w with(w|w|w)|w
   ·exact l2 w
   ·subst w;exact l4 hD
   ·exact l1 w.1
   ·exact l4 (B.fresh a w).1
 refine⟨_,δ2,fp2,_,_,_,R3,q3',turn i _ rs δ2 hd i2,λY4 δ4 fp4 R4 k4 h4=>?_⟩;refine⟨_,δ4,fp4,_,_,R4,h4,λH5 b δ5 fp5 R5 S5 h5=>?_⟩
 -- the state behind the test
 have keep5:∀b o,H1 b=YB o->((pt&&pe)=YD∨¬Foot (J8 own.length caps fp1) b)->H5 b=YB o:=λb o e q=>by
  refine S5.keep b o (s3 _ _ (B.keep b o e q)) ?_;rcases q with q|q
  ·rw[Xv]at q;exact .inl q.1
  ·refine .inr λz=>?_
   rcases k4.grow b z with z|z
   ·rcases B.grow b z with z|z
    ·exact q z
    ·rw[e]at z;cases z
   ·rw[s3 _ _ (B.keep b o e (.inr q))]at z;cases z
 have al5:∀b,H5 b=YC->H1 b=YC:=λb e=>B.al b (s3.al b (S5.al b e));have grow4:∀a,Foot fp4 a->Foot (J8 own.length caps fp1) a∨H1 a=YC:=λa z=>by
  rcases k4.grow a z with z|z
  ·exact B.grow a z
  ·exact .inr (B.al a (s3.al a z))
 have grow5:∀a,Foot fp5 a->Foot (J8 own.length caps fp1) a∨H1 a=YC:=λa z=>by
  rcases S5.grow a z with z|z
  ·exact grow4 a z
  ·exact .inr (B.al a (s3.al a z))
 have D5:H5 D=YB (.lst ys):=S5.keep D _ D3 (.inr λ⟨k,z⟩=>R4.dx k D z (.inl hx));have own3:=B.own.same s3
 -- the items so far behind the target and the test
 have own4:Owns G H3 (λa=>YD=YD->Lf (Z0f C H1 fp1 (Zam own caps Y)) fp4 (exu (Zg8 ex D fp1 (J8 own.length caps fp1)) new) a) ys rs new:=by
  refine own3.wide λa l q z=>?_;obtain⟨l1,l2,l3⟩:=l z;exact⟨λw=>(k4.grow a w).elim l1 q,l2,l3⟩
 have own5:=R4.owns_step (ex':=exu (Zg8 ex D fp1 (J8 own.length caps fp1)) new) S5 (c:=YD) (.inr rfl) (λa z=>.inl z) (λa m=>.inr m) own4;dsimp only at h5⊢;cases b with
 | false=>
  rw[YM XC]at h5⊢;exact⟨ds.length-(i+1),by omega,rfl,hlt,rs,ys,new,δ5,fp5,⟨keep5,al5,D5,R5,grow5,own5,B.nd,B.fresh⟩,by omega,h5⟩
 | true=>
  rw[YL rfl]at h5⊢;refine⟨_,δ5,fp5,_,_,R5,h5,λH6 v r δ6 fp6 nr r6 h6=>?_⟩;have D6:H6 D=YB (.lst ys):=r6.stp.keep D _ D5 (.inr λ⟨k,z⟩=>R5.dx k D z (.inl hx));have hDnr:D∉nr:=λz=>by
   have:=r6.fresh D z;rw[D5]at this;cases this
  have own6:=R5.owns_step (ex':=exu (exu (Zg8 ex D fp1 (J8 own.length caps fp1)) new) nr) r6.stp (c:=YD) (.inr rfl) (λa z=>z.imp id λz=>r6.fresh a z) (λa m=>.inr m) own5;have eqx:∀a,exu (Zg8 ex D fp1 (J8 own.length caps fp1)) (new++nr) a->exu (exu (Zg8 ex D fp1 (J8 own.length caps fp1)) new) nr a:=λa z=>by
   rcases z with z|z
   ·exact .inl (.inl z)
   ·rcases QV.mp z with z|z
    ·exact .inl (.inr z)
    ·exact .inr z
  have lw:∀a,(YD=YD->Lf (Z0f C H1 fp1 (Zam own caps Y)) fp6 (exu (exu (Zg8 ex D fp1 (J8 own.length caps fp1)) new) nr) a)->H6 a≠YC->(YD=YD->Lf (Z0f C H1 fp1 (Zam own caps Y)) fp6 (exu (Zg8 ex D fp1 (J8 own.length caps fp1)) (new++nr)) a) :=
   λa l _ z=>⟨(l z).1,λw=>(l z).2.1 (eqx a w),(l z).2.2⟩
  have ownA:=(own6.snoc r6.own).wide lw;refine⟨ys,D6,by omega,ds.length-(i+1),by omega,rfl,hlt,rs++[r],ys++[v],new++nr,δ6,fp6,⟨λb o e q=>?_,λb e=>?_,Z8,?_,λa z=>?_,?_,?_,λa m=>?_⟩,by rw[Qw];show ys.length+1≤i+1;omega,h6⟩
  ·have nD:b≠D:=λz=>by rw[z,hD]at e;cases e
   rw[Zy nD];refine r6.stp.keep b o (keep5 b o e q) ?_;rcases q with q|q
   ·rw[Xv]at q;exact .inl q.2
   ·refine .inr λz=>?_
    rcases grow5 b z with z|z
    ·exact q z
    ·rw[e]at z;cases z
  ·by_cases q:b=D
   ·subst q;rw[Z8]at e;cases e
   ·rw[Zy q]at e
    exact al5 b (r6.stp.al b e)
  ·exact(r6.rel.drop eqx).poke (.inl hx) D6 hD
  ·rcases r6.stp.grow a z with z|z
   ·exact grow5 a z
   ·exact .inr (al5 a z)
  ·exact ownA.poke D6 (λz=>(z rfl).2.1 (.inl hx)) (λm=>by
    rcases QV.mp m with m|m
    ·exact(B.fresh D m).2 rfl
    ·exact hDnr m)
  ·refine BL.mpr ⟨B.nd,r6.nd,λa m b m' z=>?_⟩
   subst z;obtain⟨xs,e⟩:=own5.some a m;rw[r6.fresh a m']at e;cases e
  ·rcases QV.mp m with m|m
   ·exact B.fresh a m
   ·exact⟨al5 a (r6.fresh a m),λz=>hDnr (z▸m)⟩
end
variable {G:Xb}
section
variable {X:Cx}{io:List Nat}{p p' c pt pe ci:Bool}{g:MGt}{mt:MTt}{me m:MEt}{mi:MIt}{own:List Str}{caps:List Nat}{e:YJ}
noncomputable def Z9d(n:Nat)(caps:List Nat)(ds:List Xa)(g:MGt)(mt:MTt)(me:MEt)(δ1:Zh)(K:OT->Zh->Prop):Prop:=ds.length≤Xz∧∃I:Nat->List OT->Zh->Prop,I 0 [] (blk n caps δ1)∧
 (∀ (i:Nat) (d:Xa) (rs:List OT) (δ':Zh),ds[i]? =YB d->I i rs δ'->g d δ' λδ2=>mt δ2 λb δ3=>if b=YD then me δ3 λr δ4=>I (i+1) (rs++[r]) δ4 else I (i+1) rs δ3)∧
 ∀rs δ',I ds.length rs δ'->K (.nd rs) δ1
noncomputable def Zia(n:Nat)(caps:List Nat)(mi:MIt)(g:MGt)(mt:MTt)(me:MEt):MEt:=λδ K=>mi δ λds δ1=>Z9d n caps ds g mt me δ1 K
theorem Z17{wi:TI}(si:SI G io p ci wi mi)(nd:caps.Nodup)(hp:(pt&&pe)=YD) :
  SE G io p YD (Z16 own caps wi (gM G (Zbs own.length caps) ci g) (ttM G (Zbs own.length caps) pt mt) (tM G (Zbs own.length caps) pe YD me)) (Zia own.length caps mi g mt me):=by
 intro C H Y δ fp ex K Q R h k;refine si C H Y δ fp ex _ _ R h λJ H1 ds δ1 fp1 R1 S1 it h1 D hD=>?_;obtain⟨hz,I,h0,turn,fin⟩:=h1;refine Zrm I R1 (λH' kp=>it H' λb o e _=>kp b o e (.inl hp)) nd hD hz h0 turn λH' Y' δ' fp' ys rs new B i'=>?_;have s:Same H1 H':=λb o e=>B.keep b o e (.inl hp);refine k H' (.ref D) (.nd rs) δ1 fp1 (D::new) (RE.tree R R1 S1 s (λa m=>?_) (Qy.mpr ⟨λm=>(B.fresh D m).2 rfl,B.nd⟩) (.nd B.dat (B.own.wide λa l _=>?_))) (fin rs δ' i')
 ·rcases Xu.mp m with rfl|m
  ·exact hD
  ·exact(B.fresh a m).1
 ·refine⟨?_,λm=>?_⟩
  ·rcases Z9q (λa z=>.inl (.inl z)) (l rfl)with z|z
   ·exact .inl λ_=>z
   ·exact .inr z
  ·rcases Xu.mp m with z|z
   ·exact(l rfl).2.1 (.inl (.inr (.inl z)))
   ·exact(l rfl).2.1 (.inr z)
variable {N':List Str}{sc:U4}{tg elt iter:YJ}{ifs:List YJ}{pos:Pos}
theorem Z6d(S:CompScope X own caps N' sc)(hc:X.calm=YD)(nd:caps.Nodup)(hi:MI X io p ci tg iter mi)
  (hg:∀C cells s₂ H₂ fp,MG (Ww X N' sc C cells s₂ H₂ fp) (Zbs own.length caps) ci tg g) (ht:∀C cells s₂ H₂ fp,MIfs (Ww X N' sc C cells s₂ H₂ fp) (Zbs own.length caps) pt ifs mt) (he:∀C cells s₂ H₂ fp,ME (Ww X N' sc C cells s₂ H₂ fp) (Zbs own.length caps) pe YD elt me)
  (hp:(pt&&pe)=YD:=by rfl) (hs:∀x,BV iter X.env x=pure x:=by intro _;rfl):ME X io p YD (.ListComp elt [⟨tg,iter,ifs,0⟩] sc pos) (Zia own.length caps mi g mt me):=by
 obtain⟨_,A,si⟩:=hi;exact⟨_,Z4h S hc A (λC cells s₂ H₂ fp=>(hg C cells s₂ H₂ fp).canon) (λC cells s₂ H₂ fp=>(ht C cells s₂ H₂ fp).canon) (λC cells s₂ H₂ fp=>(he C cells s₂ H₂ fp).canon) hs,Z17 si nd hp⟩
section
variable {i:Nat}{y:Str}{py spos:Pos}
theorem Wb(own':Bool)(hN:X.N.Nodup)(hy:X.N[i]? =YB y)(hx:Loc X.env.scope y)(S:CompScope X own caps N' sc)(hc:X.calm=YD)(nd:caps.Nodup)(hi:MI X io p ci tg iter mi)
  (hg:∀C cells s₂ H₂ fp,MG (Ww X N' sc C cells s₂ H₂ fp) (Zbs own.length caps) ci tg g) (ht:∀C cells s₂ H₂ fp,MIfs (Ww X N' sc C cells s₂ H₂ fp) (Zbs own.length caps) pt ifs mt) (he:∀C cells s₂ H₂ fp,ME (Ww X N' sc C cells s₂ H₂ fp) (Zbs own.length caps) pe YD elt me)
  (hp:(pt&&pe)=YD:=by rfl) (hio:i∉io:=by decide)
  (hsw:Ux (.ListComp elt [⟨tg,iter,ifs,0⟩] sc pos) (YB (.Name y py)) spos.line X.env=pure YD:=by rfl)
  (hs:∀x,BV iter X.env x=pure x:=by intro _;rfl) (hf:X.fn y=YD∨X.env.scope.names.lookup y=YB .local:=by first|exact .inl rfl|exact .inr rfl|assumption) :
  MS X io (.Assign [.Name y py] (.ListComp elt [⟨tg,iter,ifs,0⟩] sc pos) spos) (if own'=YD then Zra i (Zia own.length caps mi g mt me)else Z5j i (Zia own.length caps mi g mt me)):=by
 obtain⟨_,A,si⟩:=hi;refine⟨_,Zqq (g:=gM X.K (Zbs own.length caps) ci g) (tt:=ttM X.K (Zbs own.length caps) pt mt) (te:=tM X.K (Zbs own.length caps) pe YD me) hN hy hx S hc A (λC cells s₂ H₂ fp=>(hg C cells s₂ H₂ fp).canon) (λC cells s₂ H₂ fp=>(ht C cells s₂ H₂ fp).canon) (λC cells s₂ H₂ fp=>(he C cells s₂ H₂ fp).canon) hsw hs hf,?_⟩;cases own'
 ·exact Yg3 (Z17 si nd hp) hio
 ·exact Z75 (Z17 si nd hp) hio
end
end
variable {G:Xb}
section
variable {X:Cx}{pins:List (YG×Obj)}{Y:St}{H:Hp}{s:Xg}{l:YG}{xs:List V}
noncomputable def Yaf(K:Xb):R2:=λx y H Q=>∃l b xs zs,x= .ref l∧y= .ref b∧SqL K H l xs∧SqL K H b zs∧xs.length+zs.length≤Xz∧∀p,H p=YC->Q (.ref p) (upd H p (.lst (xs++zs)))
theorem Inv.lstQ{K:Xb}(hK:X.K=K)(I:Inv X pins Y H s)(hH:SqL K H l xs):∃(its:List Xf) (n:Nat),Vals xs its∧xs.length=its.length∧∃o,s.heap.get? l=YB o∧o.cls= .type "list"∧o.dict=YC∧o.data= .seq its.toArray n:=by
 subst hK;obtain⟨its,r,⟨o,n,e,h1,h2,h3⟩,_⟩:=I.list hH;exact⟨its,n,r,r.length,o,e,h1,h2,h3⟩
theorem Zfw{K:Xb}(hK:X.K=K):OpR X (Uk .Add) (Yaf K):=by
 intro pins s Y H x y v u Q I rx ry h;obtain⟨l,b,xs,zs,rfl,rfl,hH,hB,hz,q⟩:=h;cases rx;cases ry;obtain⟨its,n,r,hl,⟨cls,dd,data,sl⟩,ho,hc,_,hd⟩:=I.lstQ hK hH;obtain⟨its2,n2,r2,hl2,⟨cls2,dd2,data2,sl2⟩,ho2,hc2,_,hd2⟩:=I.lstQ hK hB;simp only at hc hd hc2 hd2;subst hc hd hc2 hd2;have ea:its.toArray++its2.toArray=(its++its2).toArray:=by simp
 refine concat_meets ⟨_,ho,rfl⟩ ⟨_,ho2,rfl⟩ noFill_list_add seq_list_add PySem.F.slot_list_add PySem.F.entry_list_add (PySem.F.args_list_add_2 _ _) (list_addW l b its.toArray its2.toArray n n2 dd dd2 sl sl2 (by simp only[XF];omega)) ⟨ho,ho2,?_⟩;rw[ea];exact⟨.ref _,_,I.lnew (t':=s.toks) (r.append r2) (by rw[Qw];omega),rfl,q _ I.fresh⟩
end
noncomputable def asI(d:Xa)(k:Int->Prop):Prop:=match d with| .int i=>k i|_=>False
noncomputable def asL(d:Xa)(k:List Xa->Prop):Prop:=match d with| .list ds=>k ds|_=>False
section
variable {H:Hp}{L:YG->Prop}{v:V}{d:Xa}
theorem Da.intInv{k:Int->Prop}(q:Da G H L v d)(h:asI d k):∃i,v= .int i∧k i:=by
 cases q with
 | int b=>exact⟨b,rfl,h⟩
 | _=>exact h.elim
theorem Da.lstInv{k:List Xa->Prop}(q:Da G H L v d)(h:asL d k):∃a xs ds,v= .ref a∧SqL G H a xs∧Das G H L xs ds∧k ds:=by
 cases q with
 | lst l e r=>exact⟨_,_,_,rfl,.inl e,r,h⟩
 | scr s=>exact⟨_,_,_,rfl,s.sq,.ints _,h⟩
 | _=>exact h.elim
end
noncomputable def d2I(C:Int->Int->Prop)(g:Int->Int->Xa):Xa->Xa->(Xa->Prop)->Prop:=λd e k=>asI d λi=>asI e λj=>C i j∧k (g i j)
noncomputable def Zxl(g:Int->Int->Xa):Xa->Xa->(Xa->Prop)->Prop:=λd e k=>asI d λi=>asI e λj=>k (g i j)
theorem Z6f{C:Int->Int->Prop}{f:Int->Int->Int}:P2s G (rI C λi j=>.int (f i j)) (d2I C λi j=>.int (f i j)):=λH L x y d e k Q hx hy h kk=>by
 obtain⟨i,rfl,h⟩:=hx.intInv h;obtain⟨j,rfl,h⟩:=hy.intInv h;exact⟨i,j,rfl,rfl,h.1,kk _ _ (.int _) h.2⟩
structure MulOk(i j:Int):Prop where
 ok:IntMulOk i j
structure Yg6(i j:Int):Prop where
 ok:DivOk i j
structure Ygj(i j:Int):Prop where
 ok:Ybs i j
theorem Z9v{f:Int->Int->Int}:P2s G (rI IntMulOk λi j=>.int (f i j)) (d2I MulOk λi j=>.int (f i j)):=λH L x y d e k Q hx hy h kk=>by
 obtain⟨i,rfl,h⟩:=hx.intInv h;obtain⟨j,rfl,h⟩:=hy.intInv h;exact⟨i,j,rfl,rfl,h.1.ok,kk _ _ (.int _) h.2⟩
theorem Z96{f:Int->Int->Int}:P2s G (rI DivOk λi j=>.int (f i j)) (d2I Yg6 λi j=>.int (f i j)):=λH L x y d e k Q hx hy h kk=>by
 obtain⟨i,rfl,h⟩:=hx.intInv h;obtain⟨j,rfl,h⟩:=hy.intInv h;exact⟨i,j,rfl,rfl,h.1.ok,kk _ _ (.int _) h.2⟩
theorem Z83{f:Int->Int->Int}:P2s G (rI Ybs λi j=>.int (f i j)) (d2I Ygj λi j=>.int (f i j)):=λH L x y d e k Q hx hy h kk=>by
 obtain⟨i,rfl,h⟩:=hx.intInv h;obtain⟨j,rfl,h⟩:=hy.intInv h;exact⟨i,j,rfl,rfl,h.1.ok,kk _ _ (.int _) h.2⟩
theorem Zvo{f:Int->Int->Int}:P2s G (rI0 λi j=>.int (f i j)) (Zxl λi j=>.int (f i j)):=λH L x y d e k Q hx hy h kk=>by
 obtain⟨i,rfl,h⟩:=hx.intInv h;obtain⟨j,rfl,h⟩:=hy.intInv h;exact⟨i,j,rfl,rfl,kk _ _ (.int _) h⟩
theorem Zgy{f:Int->Int->Bool}:P2s G (rI0 λi j=>.bl (f i j)) (Zxl λi j=>.bool (f i j)):=λH L x y d e k Q hx hy h kk=>by
 obtain⟨i,rfl,h⟩:=hx.intInv h;obtain⟨j,rfl,h⟩:=hy.intInv h;exact⟨i,j,rfl,rfl,kk _ _ (.bl _) h⟩
section
variable {X:Cx}
noncomputable def Yhb(K:Xb):R2:=λx y H Q=>∃(L L':YG->Prop) (d e:Xa),Da K H L x d∧Da K H L' y e∧Shp d∧Shp e∧Q (.bl (Q3 d e)) H
noncomputable def Yf8(K:Xb):R2:=λx y H Q=>∃(L L':YG->Prop) (d e:Xa),Da K H L x d∧Da K H L' y e∧Shp d∧Shp e∧Q (.bl (!Q3 d e)) H
theorem Zfj(hu:X.A.units+64<cLine):OpR X (Bf .Eq) (Yhb X.K):=by
 intro pins s Y H x y v u Q I rx ry h;obtain⟨L,L',d,e,h1,h2,s1,s2,q⟩:=h;obtain⟨as,k1⟩:=h1.reads rfl I rx (Ul s1);obtain⟨bs,k2⟩:=h2.reads rfl I ry (Ul s2);exact eq_dataH k1 k2 s1 s2 hu ⟨.bl _,H,I,rfl,q⟩
theorem Z6i(hu:X.A.units+64<cLine):OpR X (Bf .NotEq) (Yf8 X.K):=by
 intro pins s Y H x y v u Q I rx ry h;obtain⟨L,L',d,e,h1,h2,s1,s2,q⟩:=h;obtain⟨as,k1⟩:=h1.reads rfl I rx (Ul s1);obtain⟨bs,k2⟩:=h2.reads rfl I ry (Ul s2);exact ne_dataH k1 k2 s1 s2 hu ⟨.bl _,H,I,rfl,q⟩
end
structure Z8c(d:Xa):Prop where
 ok:Shp d
noncomputable def dEq:Xa->Xa->(Xa->Prop)->Prop:=λd e k=>Z8c d∧Z8c e∧k (.bool (Q3 d e))
noncomputable def dNe:Xa->Xa->(Xa->Prop)->Prop:=λd e k=>Z8c d∧Z8c e∧k (.bool (!Q3 d e))
theorem Zkm:P2s G (Yhb G) dEq:=λH L x y d e k Q hx hy h kk=>⟨L,L,d,e,hx,hy,h.1.ok,h.2.1.ok,kk _ _ (.bl _) h.2.2⟩
theorem Yd6:P2s G (Yf8 G) dNe:=λH L x y d e k Q hx hy h kk=>⟨L,L,d,e,hx,hy,h.1.ok,h.2.1.ok,kk _ _ (.bl _) h.2.2⟩
noncomputable def Zgd:Xa->Bool
 | .none=>YD
 | _=>YF
theorem Da.isNone{H:Hp}{L:YG->Prop}{v:V}{d:Xa}(h:Da G H L v d):decide (v= .non)=Zgd d:=by
 cases h<;>rfl
noncomputable def Z97:Xa->Xa->(Xa->Prop)->Prop:=λd e k=>e= .none∧k (.bool (!Zgd d))
theorem Z19:P2s G (λx y H Q=>y= .non∧Q (.bl (!decide (x= .non))) H) Z97:=λH L x y d e k Q hx hy h kk=>by
 obtain⟨rfl,h⟩:=h;cases hy;exact⟨rfl,by rw[hx.isNone];exact kk _ _ (.bl _) h⟩
noncomputable def scD:Xa->Bool
 | .none=>YD
 | .bool _=>YD
 | .int _=>YD
 | .str _=>YD
 | _=>YF
noncomputable def eqS:Xa->Xa->Bool
 | .none,.none=>YD
 | .bool a,.bool b=>a==b
 | .bool a,.int b=>(if a then 1 else 0)==b
 | .int a,.bool b=>a==(if b then 1 else 0)
 | .int a,.int b=>a==b
 | .str a,.str b=>a==b
 | _,_=>YF
noncomputable def memS(d:Xa)(ds:List Xa):Bool:=ds.any λe=>eqS e d
theorem Da.toSc{H:Hp}{L:YG->Prop}{v:V}{d:Xa}(h:Da G H L v d)(s:scD d=YD):ScD v d:=by
 cases h with
 | non=>exact .non
 | bl b=>exact .bl b
 | int i=>exact .int i
 | str x=>exact .str x
 | _=>cases s
theorem Da.sc{H:Hp}{L:YG->Prop}{v:V}{d:Xa}(h:Da G H L v d)(s:scD d=YD):Zh6 v=YD:=by
 cases h.toSc s<;>rfl
theorem Das.sc{H:Hp}{L:YG->Prop}{vs:List V}{ds:List Xa}(h:Das G H L vs ds):ds.all scD=YD->vs.all Zh6=YD :=
 Das.ind (Q:=λvs ds=>ds.all scD=YD->vs.all Zh6=YD) (λ_=>rfl) (λh _ r s=>by
  rw[List.all_cons,Xv]at s;rw[List.all_cons,h.sc s.1,r s.2];rfl) h
theorem Da.eqS{H:Hp}{L:YG->Prop}{v u:V}{d e:Xa}(h:Da G H L v d)(g:Da G H L u e)(s:scD d=YD)(t:scD e=YD):eqV v u=L2.eqS d e:=by
 cases h.toSc s<;>cases g.toSc t<;>rfl
theorem Das.memS{H:Hp}{L:YG->Prop}{v:V}{d:Xa}(h:Da G H L v d)(s:scD d=YD){vs:List V}{ds:List Xa}(g:Das G H L vs ds):ds.all scD=YD->inV v vs=L2.memS d ds :=
 Das.ind (Q:=λvs ds=>ds.all scD=YD->inV v vs=L2.memS d ds) (λ_=>rfl) (λg _ r t=>by
  rw[List.all_cons,Xv]at t;have:=r t.2;unfold inV L2.memS at*
  rw[List.any_cons,List.any_cons,this,g.eqS h t.1 s]) g
noncomputable def dIn(neg:Bool):Xa->Xa->(Xa->Prop)->Prop:=λd e k=>scD d=YD∧match e with
 | .list ds=>ds.all scD=YD∧k (.bool (if neg then !memS d ds else memS d ds))
 | .tuple ds=>ds.all scD=YD∧k (.bool (if neg then !memS d ds else memS d ds))
 | _=>False
theorem Z98{neg:Bool}:P2s G (rIn G neg) (dIn neg):=λH L x y d e k Q hx hy h kk=>by
 obtain⟨s,h⟩:=h;cases hy with
 | lst l e r=>exact⟨_,_,rfl,.inl (.inl e),hx.sc s,r.sc h.1,by rw[Das.memS hx s r h.1];exact kk _ _ (.bl _) h.2⟩
 | tup e r=>exact⟨_,_,rfl,.inr (.inl (.inl e)),hx.sc s,r.sc h.1,by rw[Das.memS hx s r h.1];exact kk _ _ (.bl _) h.2⟩
 | scr ks=>exact⟨_,_,rfl,.inl ks.sq,hx.sc s,(Das.ints (G:=G) (H:=H) (L:=L) _).sc h.1,by rw[Das.memS hx s (Das.ints (G:=G) (H:=H) (L:=L) _) h.1];exact kk _ _ (.bl _) h.2⟩
 | _=>exact h.elim
noncomputable def ixD(d e:Xa):Option Xa:=match d,e with
 | .list ds,.int i=>atI ds i
 | .tuple ds,.int i=>atI ds i
 | _,_=>YC
noncomputable def dIx:Xa->Xa->(OT->Prop)->Prop:=λd e k=>match ixD d e with|some x=>k (.fz x)|none=>False
theorem Das.atI{H:Hp}{L:YG->Prop}{xs:List V}{ds:List Xa}{i:Int}{d:Xa}(h:Das G H L xs ds)(e:L2.atI ds i=YB d):∃x,L2.atI xs i=YB x∧Da G H L x d:=by
 unfold L2.atI at*
 rw[h.length];cases q:ixN ds.length i with
 | none=>rw[q]at e;cases e
 | some j=>
  rw[q]at e;exact h.get e
theorem Ydw:P2 G (rIx G) dIx:=λH L x y d e k Q hx hy h kk=>by
 unfold dIx at h;split at h
 case h_2=>exact h.elim
 rename_i z ez;have fin:∀v,Da G H L v z->Q v H:=λv q=>kk H v (.fz z) [] (Same.refl _) (.fz (q.wide λa l _=>⟨.inl l,λm=>nomatch m⟩)) .nil (λa m=>nomatch m) h;cases hx with
 | lst l e1 r=>
  cases hy with
  | int i=>
   obtain⟨v,e2,q⟩:=r.atI (show L2.atI _ i=YB z from ez);exact .inl ⟨_,_,i,v,rfl,rfl,.inl e1,e2,fin v q⟩
  | _=>cases ez
 | tup e1 r=>
  cases hy with
  | int i=>
   obtain⟨v,e2,q⟩:=r.atI (show L2.atI _ i=YB z from ez);exact .inr (.inl ⟨_,_,i,v,rfl,rfl,.inl (.inl e1),e2,fin v q⟩)
  | _=>cases ez
 | scr ks=>
  cases hy with
  | int i=>
   obtain⟨v,e2,q⟩:=(Das.ints (G:=G) (H:=H) (L:=L) _).atI (show L2.atI _ i=YB z from ez);exact .inl ⟨_,_,i,v,rfl,rfl,ks.sq,e2,fin v q⟩
  | _=>cases ez
 | _=>cases ez
theorem Own.list{H:Hp}{L:YG->Prop}{p:YG}{xs:List V}{ds:List Xa}(hp:H p=YC)(h:Das G H L xs ds):Own G (upd H p (.lst xs)) (λa=>(L a∨H a=YC)∧a∉[p]) (.ref p) (.nd (ds.map OT.fz)) [p] :=
 .nd Z8 (((h.wide λa l q=>⟨.inl l,λm=>q (by rw[Xp.mp m];exact hp)⟩).same (Z7 hp _)).owns)
theorem Zcb{H:Hp}{p:YG}(hp:H p=YC):∀a∈[p],H a=YC:=λa m=>by rw[Xp.mp m];exact hp
theorem Zeu(p:YG):[p].Nodup:=Qy.mpr ⟨λm=>(nomatch m),.nil⟩
noncomputable def dCat:Xa->Xa->(OT->Prop)->Prop:=λd e k=>asL d λds=>asL e λes=>ds.length+es.length≤Xz∧k (.nd ((ds++es).map OT.fz))
theorem Zj2:P2 G (Yaf G) dCat:=λH L x y d e k Q hx hy h kk=>by
 obtain⟨a,xs,ds,rfl,e1,r1,h⟩:=hx.lstInv h;obtain⟨b,ys,es,rfl,e2,r2,h⟩:=hy.lstInv h;exact⟨a,b,xs,ys,rfl,rfl,e1,e2,by rw[r1.length,r2.length];exact h.1,λp hp=>kk _ _ _ [p] (Z7 hp _) (Own.list hp (r1.append r2)) (Zeu p) (Zcb hp) h.2⟩
noncomputable def n1(k:Xa->Prop)(ds:List Xa):Prop:=match ds with|[d]=>k d|_=>False
noncomputable def n2(k:Xa->Xa->Prop)(ds:List Xa):Prop:=match ds with|[d,e]=>k d e|_=>False
theorem Das.one{H:Hp}{L:YG->Prop}{vs:List V}{ds:List Xa}{k:Xa->Prop}(q:Das G H L vs ds)(h:n1 k ds):∃v d,vs=[v]∧ds=[d]∧Da G H L v d∧k d:=by
 cases q with
 | nil=>exact h.elim
 | cons q r=>
  cases r with
  | nil=>exact⟨_,_,rfl,rfl,q,h⟩
  | cons _ _=>exact h.elim
theorem Das.two{H:Hp}{L:YG->Prop}{vs:List V}{ds:List Xa}{k:Xa->Xa->Prop}(q:Das G H L vs ds)(h:n2 k ds):∃v u d e,vs=[v,u]∧ds=[d,e]∧Da G H L v d∧Da G H L u e∧k d e:=by
 cases q with
 | nil=>exact h.elim
 | cons q r=>
  cases r with
  | nil=>exact h.elim
  | cons q' r'=>
   cases r' with
   | nil=>exact⟨_,_,_,_,rfl,rfl,q,q',h⟩
   | cons _ _=>exact h.elim
noncomputable def Zv4:Xa->Option Nat
 | .list ds=>YB ds.length
 | .tuple ds=>YB ds.length
 | _=>YC
noncomputable def Yfh:List Xa->(Xa->Prop)->Prop:=λds k=>n1 (λd=>match Zv4 d with|some n=>k (.int n)|none=>False) ds
theorem Z90:PNs G (Yfa G) Yfh:=λH L xs ds k Q hx h kk=>by
 obtain⟨v,d,rfl,rfl,q,h⟩:=hx.one h;cases q with
 | lst l e r=>exact⟨_,_,rfl,.inl (.inl e),by rw[r.length];exact kk _ _ (.int _) h⟩
 | tup e r=>exact⟨_,_,rfl,.inr (.inl (.inl e)),by rw[r.length];exact kk _ _ (.int _) h⟩
 | scr ks=>exact⟨_,_,rfl,.inl ks.sq,by rw[(Das.ints (G:=G) (H:=H) (L:=L) _).length];exact kk _ _ (.int _) h⟩
 | _=>exact h.elim
noncomputable def Yfu:List Xa->(Xa->Prop)->Prop:=λds k=>n1 (λd=>asI d λi=>k (.int (if i<0 then -i else i))) ds
theorem Zu1:PNs G (λxs H Q=>∃i,xs=[.int i]∧Q (.int (if i<0 then -i else i)) H) Yfu:=λH L xs ds k Q hx h kk=>by
 obtain⟨v,d,rfl,rfl,q,h⟩:=hx.one h;obtain⟨i,rfl,h⟩:=q.intInv h;exact⟨i,rfl,kk _ _ (.int _) h⟩
noncomputable def Yf4:List Xa->(Xa->Prop)->Prop:=λds k=>n2 (λd e=>asI d λi=>asI e λj=>k (.int (if j<i then j else i))) ds
theorem Z0x:PNs G (λxs H Q=>∃i j,xs=[.int i,.int j]∧Q (.int (if j<i then j else i)) H) Yf4:=λH L xs ds k Q hx h kk=>by
 obtain⟨v,u,d,e,rfl,rfl,q,q',h⟩:=hx.two h;obtain⟨i,rfl,h⟩:=q.intInv h;obtain⟨j,rfl,h⟩:=q'.intInv h;exact⟨i,j,rfl,kk _ _ (.int _) h⟩
noncomputable def Ye1:List Xa->(Xa->Prop)->Prop:=λds k=>n1 (λd=>match d with| .int i=>k (.int i)| .bool b=>k (.int (if b then 1 else 0))|_=>False) ds
theorem Zzx:PNs G (λxs H Q=>(∃i,xs=[.int i]∧Q (.int i) H)∨∃k,xs=[.bl k]∧Q (.int (if k then 1 else 0)) H) Ye1:=λH L xs ds k Q hx h kk=>by
 obtain⟨v,d,rfl,rfl,q,h⟩:=hx.one h;cases q with
 | int i=>exact .inl ⟨i,rfl,kk _ _ (.int _) h⟩
 | bl b=>exact .inr ⟨b,rfl,kk _ _ (.int _) h⟩
 | _=>exact h.elim
noncomputable def Zpr:Xa->Option (List Xa)
 | .list ds=>YB ds
 | .tuple ds=>YB ds
 | _=>YC
noncomputable def Z5w:List Xa->(OT->Prop)->Prop:=λds k=>n1 (λd=>match Zpr d with|some es=>k (.nd (es.map OT.fz))|none=>False) ds
theorem Z3j:PN G (Zvr G) Z5w:=λH L xs ds k Q hx h kk=>by
 obtain⟨v,d,rfl,rfl,q,h⟩:=hx.one h;cases q with
 | lst l e r=>exact⟨_,_,rfl,.inl (.inl e),λp hp=>kk _ _ _ [p] (Z7 hp _) (Own.list hp r) (Zeu p) (Zcb hp) h⟩
 | tup e r=>exact⟨_,_,rfl,.inr (.inl (.inl e)),λp hp=>kk _ _ _ [p] (Z7 hp _) (Own.list hp r) (Zeu p) (Zcb hp) h⟩
 | scr ks=>exact⟨_,_,rfl,.inl ks.sq,λp hp=>kk _ _ _ [p] (Z7 hp _) (Own.list hp (Das.ints _)) (Zeu p) (Zcb hp) h⟩
 | _=>exact h.elim
section
variable {X:Cx}{io:List Nat}{p c:Bool}{a:YJ}{ma:MEt}{pos:Pos}
noncomputable def Yhe(m:MEt):MEt:=λδ K=>m δ λr δ'=>asI r.data λi=>K (.fz (.int (-i))) δ'
theorem Yc7(ha:ME X io p c a ma):ME X io p YD (.UnaryOp .USub a pos) (Yhe ma):=by
 obtain⟨_,A,s⟩:=ha;exact⟨_,Yd7 Yav A,λC H Y δ fp ex K Q R h k=>s C H Y δ fp ex _ _ R h λH' v r δ' fp' new r1 h1=>by
  obtain⟨i,rfl,h1⟩:=(r1.da R).intInv h1;exact⟨i,rfl,k H' _ _ δ' fp' [] (.fz r1.base r1.stp (.int _)) h1⟩⟩
noncomputable def Zv3(T:String):Xa->Bool
 | .none=>YF
 | .bool _=>T=="bool"||T=="int"
 | .int _=>T=="int"
 | .str _=>T=="str"
 | .list _=>T=="list"
 | .tuple _=>T=="tuple"
 | .dict _=>YF
noncomputable def Ye2(T:String)(m:MEt):MEt:=λδ K=>m δ λr δ'=>Zlx r.data=YF∧K (.fz (.bool (Zv3 T r.data))) δ'
end
section
variable {prog:Qe}{w:Qz}{A:Qs}{E:Xf->Xg->Prop}{h:YH}{g:Array GenState}{d:Drawn}{t:Nat}{os:OsState}{a C:YG}{o:Obj}{K:Xb}
theorem Z3v(M:Model)(hx:h.get? a=YB o)(hc:o.cls= .ref C):JS M h (typeOf (.ref a)) (.ref C):=hc▸(JS.ld hx).andThen .now
theorem Zyr{R:Result->Xg->Prop}(X:K.In h)(Z:Zef K C)(hx:h.get? a=YB o)(hc:o.cls= .ref C)(hq:R (.ok (.ret (.ref C))) ⟨h,g,d,t,os⟩) :
  codeAny (Ql prog w) A (.call (.builtin "getset_descriptor.__get__") ⟨[.builtin "object.__class__",.ref a,.ref C],[]⟩) R ⟨h,g,d,t,os⟩:=by
 have L1:JS (Ql prog w) h (isSubtype (.ref C) (.type (".".intercalate ("object.__class__".cutAt '.').dropLast))) YD:=by
  rw[F.owner_object_class];exact PySem.W.looks_subIn X Z.isO
 have T5:(⟨h,g,d,t,os⟩:Xg).TypeIs (.builtin "object.__class__") "getset_descriptor" :=F.typeOf_object_class;refine codeAny_call_builtin F.slot_gs_get.plain F.entry_gs_get (F.slot_gs_get.check _ _ _ _ _ _ _ _ T5 (F.args_gs_get _ _ _) ?_)
 repeat (any_goals (first|assumption|(with_reducible refine UL hx ?_;rw[hc])|(with_reducible refine Xi (JS.at L1 ?_))|(with_reducible refine JS.at L1 ?_)|wp_step))
 refine⟨Code.quiet_builtin _ (by decide +kernel),codeAny_builtin F.entry_object_class ?_⟩
 repeat (any_goals (first|assumption|(with_reducible refine UL hx ?_;rw[hc])|wp_step))
theorem Zqy{tk:Tok}{Q:Fin->Xg->Prop}(X:K.In h)(Z:Zef K C)(hx:h.get? a=YB o)(hc:o.cls= .ref C)(hq:Q (.done (.ret (.ref C))) ⟨h,g,d,t,os⟩) :
  Qd (Ql prog w) A (UW.«object.__getattribute__» ⟨[.ref a,.str "__class__" tk],[]⟩) Q E ⟨h,g,d,t,os⟩:=by
 have T5:(⟨h,g,d,t,os⟩:Xg).TypeIs (.builtin "object.__class__") "getset_descriptor" :=F.typeOf_object_class;have g5:=F.typeOf_object_class;have g6:=F.slot_gs_get.lookup;have g7:=F.slot_gs_set.lookup;have L4:=PySem.W.looks_findIn (M:=Ql prog w) X Z.cl
 repeat (any_goals (first|assumption|(with_reducible refine UL hx ?_;rw[hc])|(with_reducible refine Xi (JS.at L4 ?_))|(with_reducible refine JS.at L4 ?_)|wp_step))
 refine Zyr X Z hx hc ?_
 repeat (any_goals (first|assumption|wp_step))
theorem Zqh{M:Model}{nameV:Xf}{Q:Unit->Xg->Prop}(X:K.In h)(Z:Zef K C)(hx:h.get? a=YB o)(hc:o.cls= .ref C)(hq:Q () ⟨h,g,d,t,os⟩) :
  Qd M A (checkBuiltinCall "BaseException.__getattribute__" ⟨[.ref a,nameV],[]⟩) Q E ⟨h,g,d,t,os⟩:=by
 have e1:builtinKind "BaseException.__getattribute__"=YB .slot:=by decide +kernel
 have e2:splitId "BaseException.__getattribute__"=YB ("BaseException","__getattribute__"):=by decide +kernel
 have L1:=PySem.W.looks_subIn (M:=M) X Z.isB;have e3:=F.args_bexc_ga (.ref a) nameV;simp only[checkBuiltinCall,e1,e2];refine Xi ?_;unfold isInstance
 repeat (first|(with_reducible refine UL hx ?_;rw[hc])|(with_reducible refine Xi (JS.at L1 ?_))|(with_reducible refine JS.at L1 ?_)|wp_step)
 exact hq
theorem Zuo{tk:Tok}{R:Result->Xg->Prop}(X:K.In h)(Z:Zef K C)(hx:h.get? a=YB o)(hc:o.cls= .ref C)(hq:R (.ok (.ret (.ref C))) ⟨h,g,d,t,os⟩) :
  codeAny (Ql prog w) A (.call (.builtin "BaseException.__getattribute__") ⟨[.ref a,.str "__class__" tk],[]⟩) R ⟨h,g,d,t,os⟩ :=
 codeAny_call_builtin F.excAttr_ValueError.ga.plain F.entry_bexc_ga (Zqh X Z hx hc (Zqy X Z hx hc hq))
theorem Z3t{tk:Tok}{fill expr:Bool}{Q:Xf->Xg->Prop}(X:K.In h)(Z:Zef K C)(hx:h.get? a=YB o)(hc:o.cls= .ref C)(hq:Q (.ref C) ⟨h,g,d,t,os⟩) :
  Qd (Ql prog w) A (getAttrBy (.ref a) (.str "__class__" tk) fill expr) Q E ⟨h,g,d,t,os⟩:=by
 have f3:=F.excAttr_ValueError.ga.bind (.ref a);have y0:(expr&&onTheHeap (Value.builtin "BaseException.__getattribute__"))=YF:=by cases expr<;>rfl
 have y2:(Value.builtin "BaseException.__getattribute__"==Value.builtin "object.__getattribute__")=YF:=by decide +kernel
 have y1:(onTheHeap (QJ C)&&Value.builtin "BaseException.__getattribute__"==Value.builtin "object.__getattribute__")=YF:=by rw[y2];rfl
 have L2:=PySem.W.looks_findIn (M:=Ql prog w) X Z.ga;have L3:=PySem.W.looks_findIn (M:=Ql prog w) X Z.gt
 repeat (any_goals (first|assumption|(with_reducible refine UL hx ?_;rw[hc])|(with_reducible refine JS.at L2 ?_)|(with_reducible refine JS.at L3 ?_)|(with_reducible refine Xi (JS.at L2 ?_))|(with_reducible refine Xi (JS.at L3 ?_))|wp_step))
 refine Zuo X Z hx hc ?_
 repeat (any_goals (first|assumption|wp_step))
theorem Zs0{Q:Option Xf->Xg->Prop}(X:K.In h)(Z:Zef K C)(hx:h.get? a=YB o)(hc:o.cls= .ref C)(hq:Q (YB (.ref C)) ⟨h,g,d,t+1,os⟩) :
  Qd (Ql prog w) A (getAttr? (.ref a) "__class__") Q E ⟨h,g,d,t,os⟩:=by
 unfold getAttr? getAttrBy?
 repeat (any_goals (first|assumption|with_reducible apply Z3t X Z hx hc|wp_step))
end
theorem Zyv{K:Xb}{a C:YG}(Z:Zef K C):PySem.W.KitX K (.ref a) (.ref C) (λh=>∃o,h.get? a=YB o∧o.cls= .ref C) where
 ty:=λM h _ p=>let⟨_,hx,hc⟩:=p;Z3v M hx hc
 it:=λM h X _=>by
  have z:=Z.isC;unfold PySem.W.clsIn at z;split at z
  ·rename_i ho
   intro A' Q' E' s' k q;unfold isType loadHead;exact Xi (wpAny_loadPart (k _ _ (X _ _ ho)) (Qk q))
  ·cases z
 ne:=λh tp dd its n sl X htp=>by
  have z:=Z.isC;refine Vq.mpr λq=>?_;have e:C=tp:=QJ.inj (YZ.mp q);subst e;unfold PySem.W.clsIn at z;split at z
  ·rename_i ho
   have z:=(X _ _ ho).symm.trans htp;cases z
  ·cases z
 ca:=fun{_ _ _ _ _ s} X p k=>by
  obtain⟨h,g,d,t,os⟩:=s;obtain⟨_,hx,hc⟩:=p;exact Zs0 X Z hx hc k
variable {G:Xb}
noncomputable def tyD:Xa->String
 | .none=>"NoneType"
 | .bool _=>"bool"
 | .int _=>"int"
 | .str _=>"str"
 | .list _=>"list"
 | .tuple _=>"tuple"
 | .dict _=>"dict"
theorem Zz9{K:Xb}{T:String}{d:Xa}(h:T="int"∨T="bool"∨T="str"∨T="list"∨T="tuple")(hd:∀kvs,d≠ .dict kvs):Vr K (.type (tyD d)) (.type T)=YB (Zv3 T d):=by
 rcases h with rfl|rfl|rfl|rfl|rfl<;>cases d<;>first|rfl|(exact YX rfl (hd _))|(unfold Vr PySem.W.kitCls;rfl)|(simp only[tyD,Zv3];decide +kernel)
noncomputable def Yc8(G:Xb):List V->Hp->VK->Prop:=λxs H Q=>∃(x:V) (T:String) (L:YG->Prop) (d:Xa),xs=[x,.ty T]∧Da G H L x d∧Zlx d=YF∧(T="int"∨T="bool"∨T="str"∨T="list"∨T="tuple")∧Q (.bl (Zv3 T d)) H
theorem Zty{X:Cx}(hK:X.K=G):Zas X (.builtin "isinstance") (Yc8 G):=by
 subst hK;intro pins s Y H xs us Q I r h;obtain⟨x,T,L,d,rfl,q,hf,hT,h⟩:=h;obtain⟨u,w',rfl,r1,r2⟩:=vals2 r;cases(show w'=Xf.type T from r2);have fin:∀tk:Nat,EP X pins Y Q (.bool (Zv3 T d)) { s with toks:=tk }:=λtk=>⟨.bl _,H,I.tok tk,rfl,h⟩;cases q with
 | non=>exact Za3 I r1 .non (Zz9 (d:=.none) hT λ_ z=>by cases z) fin
 | bl b=>exact Za3 I r1 (.bl b) (Zz9 (d:=.bool b) hT λ_ z=>by cases z) fin
 | int b=>exact Za3 I r1 (.int b) (Zz9 (d:=.int b) hT λ_ z=>by cases z) fin
 | str b=>exact Za3 I r1 (.str b) (Zz9 (d:=.str b) hT λ_ z=>by cases z) fin
 | lst l e qs=>
  rename_i ds;rcases e with e|⟨o,e⟩
  ·exact Za3 I r1 (.lst e) (Zz9 (d:=.list ds) hT λ_ z=>by cases z) fin
  ·exact Za3 I r1 (.frz e) (Zz9 (d:=.list ds) hT λ_ z=>by cases z) fin
 | tup e qs=>
  rename_i ds;exact Za3 I r1 (.tup e) (Zz9 (d:=.tuple ds) hT λ_ z=>by cases z) fin
 | scr ks=>
  rename_i a ns;cases(show u=QJ a from r1);obtain⟨its,vs,⟨o,n,ho,hc,hd,hs⟩,_⟩:=I.list (ks.sq (H:=H));exact JF PySem.W.kitx_list I.kIn ⟨o,ho,hc⟩ (Zz9 (d:=.list (ns.map Xq)) hT λ_ z=>by cases z) (λz=>nomatch z) fin
 | exc Z hn e=>
  rename_i a C x;cases(show u=QJ a from r1);obtain⟨⟨o,vs,ho,hc,_⟩,_,_⟩:=(show ObjOk X.prog X.w H s.heap a (.ext (ExO C a))from I.hok a _ e);refine JF (Zyv Z) I.kIn ⟨o,ho,hc⟩ (b:=Zv3 T (exD x)) ?_ (λz=>nomatch z) fin;rcases hT with rfl|rfl|rfl|rfl|rfl
  ·exact Z.k1
  ·exact Z.k2
  ·exact Z.k3
  ·exact Z.k4
  ·exact Z.k5
 | fn _=>cases hf
 | dic _ _ _ _=>unfold dcD Zlx at hf;cases hf
section
variable {X:Cx}{io:List Nat}{p c p' c':Bool}{a b e:YJ}{ma m:MEt}{pos pp p2:Pos}{K:Xb}
theorem Ya6{T:Str}{T':String}(hT:T'="int"∨T'="bool"∨T'="str"∨T'="list"∨T'="tuple")(hg:Gl X "isinstance")(hm:X.mg "isinstance"=YC)(hv:Qa "isinstance"=YB (.builtin "isinstance"))
  (hg2:Gl X T) (hm2:X.mg T=YC) (hv2:Qa T=YB (.type T')) (ha:ME X io p c a ma) (hn:T≠"__name__" :=by decide) (hd:(T==("__debug__" : Str))=YF:=by decide)
  (he:Xr [a,.Name T p2] X.env=(YF,eval a X.env)::Xr [.Name T p2] X.env:=by rfl) (he2:Xr [.Name T p2] X.env=(YF,eval (.Name T p2) X.env)::Xr [] X.env:=by rfl) (hpl:(JP pos (Xr [.Name T p2] X.env)).any (·.1)=YF:=by rfl) :
  ME X io p YD (.Call (.Name "isinstance" pp) [a,.Name T p2] [] pos) (Ye2 T' ma):=by
 obtain⟨_,A,s⟩:=ha;refine⟨_,Zhj (Zty rfl) hg hm hv (Zbp A (Zbp (Z3f (v:=.ty T') hg2 hm2 hv2 rfl hn hd) Zgp he2) he) (by decide) (by decide) he hpl,?_⟩;intro C H Y δ fp ex K' Q R h k;refine s C H Y δ fp ex _ _ R h λH' v r δ' fp' new r1 h1=>?_;exact⟨v,T',_,_,rfl,r1.da R,h1.1,hT,k H' _ _ δ' fp' [] (.fz r1.base r1.stp (.bl _)) h1.2⟩
noncomputable abbrev MOt:=Zh->(Option Int->Zh->Prop)->Prop
noncomputable def MO(X:Cx)(io:List Nat)(p:Bool)(e:Option YJ)(m:MOt):Prop:=∃t,PO X e t∧∀(C:MC X.K) (H:Hp) (Y:St) (δ:Zh) (fp:Fp) (ex:YG->Prop) (K:Option Int->Zh->Prop) (Q:Option Int->Hp->Prop),Rel C io H Y δ fp ex->m δ K ->
 (∀ H' b δ' fp',Rel C io H' Y δ' fp' ex->Stp p H δ fp H' δ' fp'->K b δ'->Q b H')->t Y H Q
noncomputable def Zst:MOt:=λδ K=>K YC δ
noncomputable def Z8l(m:MEt):MOt:=λδ K=>m δ λr δ'=>asI r.data λi=>K (YB i) δ'
theorem Zr8:MO X io YD YC Zst:=⟨_,Z4q,λC H Y δ fp ex K Q R h k=>k H YC δ fp R (.refl _ _ _ _) h⟩
theorem Zt6(h:ME X io p c e m):MO X io p (YB e) (Z8l m):=by
 obtain⟨_,A,s⟩:=h;exact⟨_,Z2d A,λC H Y δ fp ex K Q R h k=>s C H Y δ fp ex _ _ R h λH' v r δ' fp' new r1 h1=>by
  obtain⟨i,rfl,h1⟩:=(r1.da R).intInv h1;exact⟨i,rfl,k H' _ δ' fp' r1.base r1.stp h1⟩⟩
noncomputable def cutD(ds:List Xa)(lo hi:Option Int):List Xa:=(ds.drop (HT.sIx ds.length 0 lo)).take (HT.sIx ds.length ds.length hi-HT.sIx ds.length 0 lo)
theorem Das.cut{H:Hp}{L:YG->Prop}{xs:List V}{ds:List Xa}(h:Das G H L xs ds)(lo hi:Option Int):Das G H L (Z5l xs lo hi) (cutD ds lo hi):=by
 unfold Z5l cutD;rw[h.length];exact(h.drop _).take _
noncomputable def mSl(m:MEt)(ml mh:MOt):MEt:=λδ K=>m δ λr δ1=>ml δ1 λlo δ2=>mh δ2 λhi δ3=>asL r.data λds=>K (.nd ((cutD ds lo hi).map OT.fz)) δ3
theorem Z7v{lo hi:Option YJ}{ml mh:MOt}(ha:ME X io YD c a ma)(hl:MO X io YD lo ml)(hh:MO X io YD hi mh):ME X io YD c (.Subscript a (.Slice lo hi YC p2) pos) (mSl ma ml mh):=by
 obtain⟨_,A,s⟩:=ha;obtain⟨_,B,sl⟩:=hl;obtain⟨_,D,sh⟩:=hh;refine⟨_,Zv5 (Zxy rfl) A B D,?_⟩;intro C H Y δ fp ex K' Q R h k;refine s C H Y δ fp ex _ _ R h λH1 v r δ1 fp1 new r1 h1=>?_;refine sl C H1 Y δ1 fp1 ex _ _ r1.base h1 λH2 l δ2 fp2 R2 S2 h2=>?_;refine sh C H2 Y δ2 fp2 ex _ _ R2 h2 λH3 u δ3 fp3 R3 S3 h3=>?_;have s2:Same H1 H2:=λb o e=>S2.keep b o e (.inl rfl);have s3:Same H2 H3:=λb o e=>S3.keep b o e (.inl rfl);obtain⟨e1,e2⟩:=r1.stp.env rfl;obtain⟨e3,e4⟩:=S2.env rfl;obtain⟨e5,e6⟩:=S3.env rfl;have q:=((r1.da R).same s2).same s3;obtain⟨a',xs,ds,rfl,e,qs,h3⟩:=q.lstInv h3;refine⟨a',xs,rfl,e,λp hp=>?_⟩;have S:=(r1.stp.trans S2).trans S3;refine k _ _ _ δ3 fp3 [p] (RE.tree R R3 S (Z7 hp _) (Zcb hp) (Zeu p) (Own.list hp ((qs.cut l u).wide λa l _=>?_))) h3;rw[e6,e4];exact l
theorem Owns.set{H:Hp}{L:YG->Prop}{x:V}{r:OT}(hr:Own G H L x r []):∀{xs:List V} {ts:List OT} {as:List YG} (j:Nat),Owns G H L xs ts as->∃bs,Owns G H L (xs.set j x) (ts.set j r) bs∧bs.Sublist as
 | _,_,_,_,.nil=>⟨[],.nil,.refl _⟩
 | _,_,_,0,.cons k t=>⟨_,.cons hr t,by simp⟩
 | _,_,_,j+1,.cons (as:=as) k t=>by
  obtain⟨bs,o,s⟩:=Owns.set hr j t;exact⟨as++bs,.cons k o,List.Sublist.append_left s as⟩
theorem Owns.get{H:Hp}{L:YG->Prop}:∀{xs:List V} {ts:List OT} {as:List YG} {j:Nat} {t:OT},Owns G H L xs ts as->ts[j]? =Bx t->∃x bs,xs[j]? =Bx x∧Own G H L x t bs∧bs.Sublist as
 | _,_,_,_,_,.nil,e=>by simp at e
 | _,_,_,0,_,.cons k _,e=>by simp at e;subst e;exact⟨_,_,rfl,k,List.sublist_append_left _ _⟩
 | _,_,_,j+1,t,.cons _ r,e=>by
  obtain⟨x,bs,h1,h2,h3⟩:=Owns.get (j:=j) (t:=t) r (by simpa using e);exact⟨x,bs,by simpa using h1,h2,h3.trans (List.sublist_append_right _ _)⟩
theorem Rel.top{C:MC G}{H:Hp}{Y:St}{δ:Zh}{fp:Fp}{ex:YG->Prop}{i:Nat}{ts ts':List OT}{a':YG}{xs ys:List V}{bs bs':List YG}(R:Rel C io H Y δ fp ex)(hi:δ[i]? =YB (YB (.nd ts)))(hv:Y[i]? =YB (YB (.ref a')))
  (hf:fp i=a'::bs) (hx:H a'=YB (.lst xs)) (o:Owns G H (Lf C fp ex) ys ts' bs') (hs:bs'.Sublist bs) :
  Rel C io (upd H a' (.lst ys)) Y (δ.set i (YB (.nd ts'))) (fpu fp i (a'::bs')) ex∧Stp YF H δ fp (upd H a' (.lst ys)) (δ.set i (YB (.nd ts'))) (fpu fp i (a'::bs')):=by
 have nd:=R.nd i;rw[hf]at nd;have hn:=Qy.mp nd;have hm:a'∈fp i:=by rw[hf];exact .head _
 have ne':∀a,¬Foot fp a->a≠a':=λa h z=>h ⟨i,by rw[z];exact hm⟩;have kp:∀b o,H b=YB o->b≠a'->upd H a' (.lst ys) b=YB o:=λb o e n=>by rw[Zy n];exact e
 have sub:∀a,a∈a'::bs'->a∈fp i:=λa m=>by
  rw[hf];rcases Xu.mp m with rfl|m
  ·exact .head _
  ·exact .tail _ (hs.subset m)
 have o':Owns G (upd H a' (.lst ys)) (Lf C (fpu fp i (a'::bs')) (exu ex [])) ys ts' bs':=by
  have f0:∀a,¬Foot fp a->¬Foot (fpu fp i (a'::bs')) a:=λa h z=>by
   rcases z.of_u with z|⟨j,_,z⟩
   ·exact h ⟨i,sub a z⟩
   ·exact h ⟨j,z⟩
  have f1:∀a (zs:MuO),Lf C fp ex a->Rd H a zs.ho->Lf C (fpu fp i (a'::bs')) (exu ex []) a∧Rd (upd H a' (.lst ys)) a zs.ho:=λa zs l q=>by
   refine⟨⟨f0 a l.1,λz=>l.2.1 (Zb5.mp z),l.2.2⟩,?_⟩;rcases q with q|⟨u,q⟩
   ·exact .inl (kp a _ q (ne' a l.1))
   ·exact .inr ⟨u,kp a _ q (ne' a l.1)⟩
  have f2:∀a (zs:ImO),H a=YB zs.ho->upd H a' (.lst ys) a=YB zs.ho:=λa zs q=>kp a _ q λz=>ImO.nl q (z▸hx);exact o.frame f1 f2 λa m zs q=>kp a _ q λz=>hn.1 (hs.subset (z▸m))
 have key:=R.change (new:=[]) (as':=a'::bs') (t':=.nd ts') (H':=upd H a' (.lst ys)) hi hv (λb o e nb=>kp b o e λz=>nb (by rw[z];exact hm)) (λb e=>by
   by_cases q:b=a'
   ·subst q;rw[Z8]at e;cases e
   ·rwa[Zy q]at e) (.nd Z8 o') (Qy.mpr ⟨λm=>hn.1 (hs.subset m),hn.2.sublist hs⟩) (λa m=>.inl (sub a m)) (λa m=>nomatch m)
 exact⟨key.1.drop λa z=>.inl z,key.2⟩
end
variable {G:Xb}
section
variable {X:Cx}{io:List Nat}{p c p' c':Bool}{a b e:YJ}{ma m mi mj:MEt}{pos pp p2 apos cpos px:Pos}{K:Xb}{i:Nat}{x:Str}
theorem Rel.ownNd{C:MC G}{H:Hp}{Y:St}{δ:Zh}{fp:Fp}{ex:YG->Prop}{ts:List OT}(R:Rel C io H Y δ fp ex)(hi:δ[i]? =YB (YB (.nd ts))) :
  ∃a' xs bs,Y[i]? =YB (YB (.ref a'))∧H a'=YB (.lst xs)∧Owns G H (Lf C fp ex) xs ts bs∧fp i=a'::bs:=by
 obtain⟨v,e,o⟩:=R.own i _ hi;generalize hf:fp i=as at o;cases o with
 | nd h r=>exact⟨_,_,_,e,h,r,rfl⟩
noncomputable def Zkt(i:Nat)(m:MEt):MSt:=λD δ=>match δ[i]? with
 | some (YB (.nd _))=>m δ λr δ1=>match δ1[i]? with
  | some (YB (.nd ts))=>ts.length<Xz∧D.nx (δ1.set i (YB (.nd (ts++[.fz r.data]))))
  | _=>False
 | _=>False
theorem Wv(i:Nat)(he:ME X io p YD e m)(hN:X.N[i]? =YB x:=by rfl)(hv:Vis X.env.scope x:=by first|exact QD rfl|exact Qx (QD rfl)|exact Qx (Qx rfl))(hd:(x==("__debug__" : Str))=YF:=by decide)
  (hcd:(x==("__classdict__" : Str))=YF:=by decide)
  (hbase:attributeBase (.Name x px) "append" X.env (eval (.Name x px) X.env)=eval (.Name x px) X.env:=by rfl)
  (hfew:((JP cpos (Xr [e] X.env)).all (λx=>!x.1)&&(backToKw cpos (keywordEach [] X.env)).all (λx=>x.1.isSome)
   &&decide ([e].length+([]:List Keyword).length+(if([]:List Keyword).isEmpty then 0 else 1)<30))=YD:=by rfl)
  (hline:(apos.endLine==cpos.line)=YD:=by rfl) (hs:Xr [e] X.env=(YF,eval e X.env)::Xr [] X.env:=by rfl) (hplain:(JP cpos (Xr [] X.env)).any (·.1)=YF:=by rfl)
  (hsw:Ux (.Call (.Attribute (.Name x px) "append" apos) [e] [] cpos) YC pos.line X.env=pure YF:=by rfl) :
  MS X io (.Expr (.Call (.Attribute (.Name x px) "append" apos) [e] [] cpos) pos) (Zkt i m):=by
 obtain⟨_,A,s⟩:=he;refine⟨_,Zrn (Z84 PySem.F.plainAttrs_list PySem.F.slot_list_append PySem.F.type_list_append Zl9 (pv i hN hv hd hcd) (Zbp A Zgp hs) hbase hfew hline hs hplain) hsw,λC H Y δ fp ex D D' R h E=>?_⟩;unfold Zkt at h;split at h
 case h_2=>exact h.elim
 rename_i ts0 hi0;obtain⟨a',xs0,bs0,hv0,hx0,_,_⟩:=R.ownNd hi0;refine⟨_,hv0,.inl ⟨rfl,xs0,.inl (.inl hx0)⟩,?_⟩;refine s C H Y δ fp ex _ _ R h λH1 v r δ1 fp1 new r1 h1=>?_;split at h1
 case h_2=>exact h1.elim
 rename_i ts1 hi1;have R1:=r1.base;obtain⟨a1,xs1,bs1,hv1,hx1,o1,hf1⟩:=R1.ownNd hi1;rw[hv0]at hv1;cases hv1;have q:=(r1.da R).wide (L':=Lf C fp1 ex) λa l _=>l rfl;refine⟨a',xs1,v,rfl,rfl,hx1,by rw[o1.length];exact h1.1,?_⟩;have o2:=o1.snoc (.fz q);obtain⟨R2,S2⟩:=R1.top hi1 hv0 hf1 hx1 o2 (by simp);exact E.nx _ Y _ _ R2 (r1.stp.kp.trans S2.kp) h1.2
noncomputable def Ygp(i:Nat)(m mi:MEt):MSt:=λD δ=>m δ λr δ1=>match δ1[i]? with
 | some (YB (.nd ts))=>mi δ1 λn _=>asI n.data λk=>match ixN ts.length k with
  | some j=>D.nx (δ1.set i (YB (.nd (ts.set j (.fz r.data)))))
  | none=>False
 | _=>False
noncomputable def Z71(i:Nat)(m mi mj:MEt):MSt:=λD δ=>m δ λr δ1=>match δ1[i]? with
 | some (YB (.nd ts))=>mi δ1 λn _=>asI n.data λk=>match ixN ts.length k with
  | some j=>match ts[j]? with
   | some (.nd us)=>mj δ1 λn' _=>asI n'.data λk'=>match ixN us.length k' with
    | some j'=>D.nx (δ1.set i (YB (.nd (ts.set j (.nd (us.set j' (.fz r.data)))))))
    | none=>False
   | _=>False
  | none=>False
 | _=>False
theorem SE.pureAfter{t:TE}{C:MC G}{H:Hp}{Y:St}{δ:Zh}{fp:Fp}{ex:YG->Prop}{K':OT->Zh->Prop}{Q:VK}(s:SE G io YD c t m)(R:Rel C io H Y δ fp ex)(h:m δ K')(k:∀H' v r,Rel C io H' Y δ fp ex->Same H H'->Da G H' (λa=>c=YD->Lf C fp ex a) v r.data->K' r δ->Q v H'):t Y H Q :=
 s C H Y δ fp ex _ _ R h λH1 v r δ1 fp1 new r1 h1=>by
  obtain⟨e1,e2⟩:=r1.stp.env rfl;have q:=r1.da R;have R1:=r1.base;rw[e1]at R1 h1;rw[e2]at R1 q;exact k H1 v r R1 (λb o e=>r1.stp.keep b o e (.inl rfl)) q h1
theorem Z52(i:Nat)(he:ME X io p YD e m)(hj:ME X io YD c a mi)(hN:X.N[i]? =YB x:=by rfl)(hv:Vis X.env.scope x:=by first|exact QD rfl|exact Qx (QD rfl)|exact Qx (Qx rfl))(hd:(x==("__debug__" : Str))=YF:=by decide)
  (hcd:(x==("__classdict__" : Str))=YF:=by decide)
  (hpg:∀{to ti:TE},PE X (.Name x px) to->PE X a ti->PG X (.Subscript (.Name x px) a pp) (Ydx to ti Z1p):=by intro _ _ A B;exact Zzt A B set_list)
  (hs:swapsWithSole [.Subscript (.Name x px) a pp] e pos.line X.env=pure YF:=by rfl) (hw:swappedStores [.Subscript (.Name x px) a pp] e X.env=pure YC:=by rfl)
  (h1:(JQ [.Subscript (.Name x px) a pp] X.env).map (·.2)=[UT (.Subscript (.Name x px) a pp) X.env]:=by rfl):MS X io (.Assign [.Subscript (.Name x px) a pp] e pos) (Ygp i m mi):=by
 obtain⟨_,A,s⟩:=he;obtain⟨_,B,sj⟩:=hj;refine⟨_,Zsk A (hpg (pv i hN hv hd hcd) B) hs hw h1,λC H Y δ fp ex D D' R h E=>?_⟩;refine s C H Y δ fp ex _ _ R h λH1 v r δ1 fp1 new r1 h1=>?_;have R1:=r1.base;have q:=(r1.da R).wide (L':=Lf C fp1 ex) λa l _=>l rfl;split at h1
 case h_2=>exact h1.elim
 rename_i ts hi;obtain⟨a',_,_,hv0,_⟩:=R1.ownNd hi;refine⟨_,hv0,?_⟩;refine sj.pureAfter R1 h1 λH2 w n R2 s2 q2 h2=>?_;obtain⟨k,rfl,h2⟩:=q2.intInv h2;split at h2
 case h_2=>exact h2.elim
 rename_i j hj;obtain⟨a2,xs,bs,hv2,hx,o,hf⟩:=R2.ownNd hi;rw[hv0]at hv2;cases hv2;obtain⟨bs',o',hs'⟩:=Owns.set (.fz (q.same s2)) j o;refine⟨a',xs,k,j,rfl,rfl,hx,by rw[o.length];exact hj,?_⟩;obtain⟨R3,S3⟩:=R2.top hi hv0 hf hx o' hs';exact E.nx _ Y _ _ R3 (r1.stp.kp.trans (Kp.trans ⟨λb o e _=>s2 _ _ e,λz=>(nomatch z),λa z=>.inl z,s2.al⟩ S3.kp)) h2
theorem Owns.deep{H:Hp}{L:YG->Prop}{b':YG}{ws ws':List V}{us us':List OT}(hb:H b'=Bx (HO.lst ws))(hL:¬L b')(hc:∀cs,Owns G H L ws us cs->∃cs',Owns G H L ws' us' cs'∧cs'.Sublist cs) :
  ∀{xs:List V} {ts:List OT} {as:List YG} {j:Nat},Owns G H L xs ts as->as.Nodup->xs[j]? =Bx (.ref b')->ts[j]? =Bx (.nd us)->∃as',Owns G (upd H b' (.lst ws')) L xs (ts.set j (.nd us')) as'∧as'.Sublist as∧b'∈as
 | _,_,_,_,.nil,_,e,_=>by simp at e
 | _,_,_,0,.cons (as:=as) (bs:=bs) k t,nd,e,e'=>by
  simp at e e';subst e e';have nd':=BL.mp nd;have kp:∀a o,a≠b'->H a=Bx o->upd H b' (.lst ws') a=Bx o:=λa o n q=>by rw[Zy n];exact q
  have f1:∀a (zs:MuO),L a->Rd H a zs.ho->L a∧Rd (upd H b' (.lst ws')) a zs.ho:=λa zs l q=>⟨l,by
   have na:a≠b':=λz=>hL (z▸l);rcases q with q|⟨u,q⟩
   ·exact .inl (kp a _ na q)
   ·exact .inr ⟨u,kp a _ na q⟩⟩
  have f2:∀a (zs:ImO),H a=Bx zs.ho->upd H b' (.lst ws') a=Bx zs.ho:=λa zs q=>kp a _ (λz=>ImO.nl q (z▸hb)) q;cases k with
  | nd h r=>
   rename_i xs0 as0;rw[hb]at h;cases h;have nd2:=Qy.mp nd'.1;obtain⟨cs',o',s'⟩:=hc _ r;refine⟨b'::cs'++bs,.cons (.nd Z8 (o'.frame f1 f2 λa m zs q=>kp a _ (λz=>nd2.1 (s'.subset (z▸m))) q)) (t.frame f1 f2 λa m zs q=>kp a _ (λz=>nd'.2.2 b' (.head _) a m z.symm) q),List.Sublist.append_right (List.Sublist.cons₂ _ s') bs,VL _ (.head _)⟩
 | _,_,_,j+1,.cons (as:=as) (bs:=bs) k t,nd,e,e'=>by
  have nd':=BL.mp nd;obtain⟨as',o,s,m⟩:=Owns.deep hb hL hc (j:=j) t nd'.2.1 (by simpa using e) (by simpa using e');have nb:b'∉as:=λz=>nd'.2.2 b' z b' m rfl;refine⟨as++as',.cons ?_ o,List.Sublist.append_left s as,QC _ m⟩;have kp:∀a o,a≠b'->H a=Bx o->upd H b' (.lst ws') a=Bx o:=λa o n q=>by rw[Zy n];exact q
  refine k.frame (λa zs l q=>⟨l,?_⟩) (λa zs q=>kp a _ (λz=>ImO.nl q (z▸hb)) q) λa m' zs q=>kp a _ (λz=>nb (z▸m')) q;have na:a≠b':=λz=>hL (z▸l);rcases q with q|⟨u,q⟩
  ·exact .inl (kp a _ na q)
  ·exact .inr ⟨u,kp a _ na q⟩
theorem Zog(i:Nat)(he:ME X io p YD e m)(hj:ME X io YD c a mi)(hk:ME X io YD c' b mj)(hPa:Zk7 a)(hN:X.N[i]? =YB x:=by rfl)(hv:Vis X.env.scope x:=by first|exact QD rfl|exact Qx (QD rfl)|exact Qx (Qx rfl))(hd:(x==("__debug__" : Str))=YF:=by decide)
  (hcd:(x==("__classdict__" : Str))=YF:=by decide)
  (hpg:∀{to ti:TE},PE X (.Subscript (.Name x px) a pp) to->PE X b ti->PG X (.Subscript (.Subscript (.Name x px) a pp) b p2) (Ydx to ti Z1p):=by intro _ _ A B;exact Zzt A B set_list)
  (hs:swapsWithSole [.Subscript (.Subscript (.Name x px) a pp) b p2] e pos.line X.env=pure YF:=by rfl) (hw:swappedStores [.Subscript (.Subscript (.Name x px) a pp) b p2] e X.env=pure YC:=by rfl)
  (h1:(JQ [.Subscript (.Subscript (.Name x px) a pp) b p2] X.env).map (·.2)=[UT (.Subscript (.Subscript (.Name x px) a pp) b p2) X.env]:=by rfl) :
  MS X io (.Assign [.Subscript (.Subscript (.Name x px) a pp) b p2] e pos) (Z71 i m mi mj):=by
 obtain⟨_,A,s⟩:=he;obtain⟨_,B,sj⟩:=hj;obtain⟨_,B2,sk⟩:=hk;refine⟨_,Zsk A (hpg (Z6w (Zwp rfl) (pv i hN hv hd hcd) B hPa) B2) hs hw h1,λC H Y δ fp ex D D' R h E=>?_⟩;refine s C H Y δ fp ex _ _ R h λH1 v r δ1 fp1 new r1 h1=>?_;have R1:=r1.base;have q:=(r1.da R).wide (L':=Lf C fp1 ex) λa l _=>l rfl;split at h1
 case h_2=>exact h1.elim
 rename_i ts hi;obtain⟨a',_,_,hv0,_⟩:=R1.ownNd hi;refine⟨_,hv0,?_⟩;refine sj.pureAfter R1 h1 λH2 w n R2 s2 q2 h2=>?_;obtain⟨k,rfl,h2⟩:=q2.intInv h2;split at h2
 case h_2=>exact h2.elim
 rename_i j hj;split at h2
 case h_2=>exact h2.elim
 rename_i us hus
 -- the row
 obtain⟨a2,xs2,bs2,hv2,hx2,o2,hf2⟩:=R2.ownNd hi;rw[hv0]at hv2;cases hv2;obtain⟨xr,cr,hxr,orow,_⟩:=o2.get hus;obtain⟨b',rfl⟩:∃b',xr=V.ref b':=by
  cases orow with
  | nd h r=>exact⟨_,rfl⟩
 refine⟨a',xs2,k,V.ref b',rfl,rfl,.inl (.inl hx2),?_,?_⟩
 ·unfold atI
  rw[o2.length,hj];exact hxr
 refine sk.pureAfter R2 h2 λH3 w' n' R3 s3 q3 h3=>?_;obtain⟨k',rfl,h3⟩:=q3.intInv h3;split at h3
 case h_2=>exact h3.elim
 rename_i j' hj';obtain⟨a3,xs3,bs3,hv3,hx3,o3,hf3⟩:=R3.ownNd hi;rw[hv0]at hv3;cases hv3;have exs:xs3=xs2:=by
  have:=s3 _ _ hx2;rw[hx3]at this;cases this;rfl
 subst exs;obtain⟨xr3,cr3,hxr3,orow3,hsub3⟩:=o3.get hus;rw[hxr]at hxr3;cases hxr3;have nd3:=R3.nd i;rw[hf3]at nd3;have hn3:=Qy.mp nd3;cases orow3 with
 | nd hb r3=>
  rename_i ws3 bs4;have hbm:b'∈bs3:=hsub3.subset (.head _);have hbf:b'∈fp1 i:=by rw[hf3];exact .tail _ hbm
  have hLb:¬Lf C fp1 ex b':=λl=>l.1 ⟨i,hbf⟩;obtain⟨as',oo,ss,_⟩:=Owns.deep (ws':=ws3.set j' v) (us':=us.set j' (.fz r.data)) hb hLb (λcs hcs=>Owns.set (.fz ((q.same s2).same s3)) j' hcs) o3 hn3.2 hxr hus;refine⟨b',ws3,k',j',rfl,rfl,hb,by rw[r3.length];exact hj',?_⟩;have hba:a'≠b':=λz=>hn3.1 (z▸hbm)
  -- the change
  have sub:∀a,a∈a'::as'->a∈fp1 i:=λa m=>by
   rw[hf3];rcases Xu.mp m with rfl|m
   ·exact .head _
   ·exact .tail _ (ss.subset m)
  have kp:∀b o,H3 b=YB o->b≠b'->upd H3 b' (.lst (ws3.set j' v)) b=YB o:=λb o e n=>by rw[Zy n];exact e
  have lw:∀a,Lf C fp1 ex a->upd H3 b' (.lst (ws3.set j' v)) a≠YC->Lf C (fpu fp1 i (a'::as')) (exu ex []) a:=λa l _=>⟨λz=>by
   rcases z.of_u with z|⟨j,_,z⟩
   ·exact l.1 ⟨i,sub a z⟩
   ·exact l.1 ⟨j,z⟩,λz=>l.2.1 (Zb5.mp z),l.2.2⟩
  obtain⟨R4,S4⟩:=R3.change (new:=[]) (as':=a'::as') (t':=.nd (ts.set j (.nd (us.set j' (.fz r.data))))) (H':=upd H3 b' (.lst (ws3.set j' v))) hi hv0 (λb o e nb=>kp b o e λz=>nb (by rw[z];exact hbf)) (λb e=>by
    by_cases q:b=b'
    ·subst q;rw[Z8]at e;cases e
    ·rwa[Zy q]at e) (.nd (by rw[Zy hba];exact hx3) (oo.wide lw)) (Qy.mpr ⟨λm=>hn3.1 (ss.subset m),hn3.2.sublist ss⟩) (λa m=>.inl (sub a m)) (λa m=>nomatch m)
  have k23:Kp H1 fp1 H3 fp1:=⟨λb o e _=>s3 _ _ (s2 _ _ e),λz=>(nomatch z),λa z=>.inl z,λb e=>s2.al b (s3.al b e)⟩;exact E.nx _ Y _ _ (R4.drop λa z=>.inl z) (r1.stp.kp.trans (k23.trans S4.kp)) h3
end
variable {G:Xb}
mutual
noncomputable def Z24:OT->Bool
 | .fz d=>Zg4 d
 | .nd ts=>Ztl ts
 | .tp ts=>Ztl ts
 | .dc _ _ _=>YF
noncomputable def Ztl:List OT->Bool
 | []=>YD
 | t::ts=>Z24 t&&Ztl ts
end
section
variable {X:Cx}{io:List Nat}{p c:Bool}{e:YJ}{m:MEt}
theorem Rel.freeze{C:MC G}{H:Hp}{Y:St}{δ:Zh}{fp:Fp}{ex:YG->Prop}{i:Nat}{t:OT}(R:Rel C io H Y δ fp ex)(hio:i∉io)(hi:δ[i]? =YB (YB t)):Rel C io H Y (δ.set i (YB (.fz t.data))) (fpu fp i []) ex:=by
 have hil:i<δ.length:=(Xw.mp hi).1;have sub:∀j a,a∈fpu fp i [] j->j≠i∧a∈fp j:=λj a m=>by
  by_cases ej:j=i
  ·subst ej;rw[Yq]at m;exact nomatch m
  ·rw[Wx ej]at m;exact⟨ej,m⟩
 have lw:∀a,Lf C fp ex a->Lf C (fpu fp i []) ex a:=λa l=>⟨λ⟨j,z⟩=>l.1 ⟨j,(sub j a z).2⟩,l.2.1,l.2.2⟩;have ln:∀a∈fp i,Lf C (fpu fp i []) ex a:=λa m=>⟨λ⟨j,z⟩=>(sub j a z).1 (R.dj j i a (sub j a z).2 m),R.dx i a m,.inr (by
  rcases R.new i a m with z|z
  ·exact YX z.1 hio
  ·exact z)⟩
 refine⟨by rw[V9];exact R.len,λj t' e=>?_,λj h=>?_,λj=>?_,λj k a h1 h2=>R.dj j k a (sub j a h1).2 (sub k a h2).2,λj a h z=>R.dx j a (sub j a h).2 z,R.xa,R.fr,R.al,λj a h=>R.new j a (sub j a h).2,R.io⟩
 ·by_cases ej:j=i
  ·subst ej
   rw[JD hil]at e;cases e;obtain⟨v,e1,o⟩:=R.own j t hi;exact⟨v,e1,by rw[Yq];exact .fz (o.da (λa l _=>lw a l) ln)⟩
  ·rw[QL (JR ej)]at e
   obtain⟨w,e1,o⟩:=R.own j t' e;exact⟨w,e1,by rw[Wx ej];exact o.wide λa l _=>lw a l⟩
 ·by_cases ej:j=i
  ·subst ej;rw[Yq]
  ·rw[Wx ej]
   exact R.emp j λt' z=>h t' (by rw[QL (JR ej)];exact z)
 ·by_cases ej:j=i
  ·subst ej;rw[Yq];exact .nil
  ·rw[Wx ej];exact R.nd j
noncomputable def Zkb(i:Nat)(u:MSt):MSt:=λD δ=>match δ[i]? with|some (YB t)=>u D (δ.set i (YB (.fz t.data)))|_=>False
theorem Zew{st:YK}{u:MSt}(i:Nat)(h:MS X io st u)(hio:i∉io:=by decide):MS X io st (Zkb i u):=by
 obtain⟨_,A,s⟩:=h;exact⟨_,A,λC H Y δ fp ex D D' R h E=>by
  unfold Zkb at h;split at h
  case h_2=>exact h.elim
  rename_i t hi;refine s C H Y _ _ ex D D' (R.freeze hio hi) h (E.shift ⟨λb o e _=>e,λz=>(nomatch z),λa z=>?_,λb e=>e⟩);rcases z.of_u with z|⟨j,_,z⟩
  ·exact nomatch z
  ·exact .inl ⟨j,z⟩⟩
end
variable {G:Xb}
noncomputable def Z8y(ds:List Xa)(k:OT->Prop):Prop:=∃ns:List Int,ds=[.list (ns.map Xq)]∧ns.length≤63∧k (.fz (.bool YD))
theorem Z85{H:Hp}{a:YG}{ns:List Int}{E:XK}(hl:ns.length≤63)(h:SqL G H a (ns.map V.int)):spD G Z8y [.ref a] H (λv _=>v= .bl YD) E:=by
 refine⟨λ_=>True,[.list (ns.map Xq)],λr=>r= .fz (.bool YD),.cons ?_ .nil,⟨ns,rfl,hl,rfl⟩,λr v H' new kr s o _ _=>?_⟩
 ·rcases h with h|h
  ·exact .lst trivial h (.ints ns)
  ·exact .scr h
 ·subst kr
  cases o with
  | fz q=>cases q;rfl
section
variable {P:Qe}{w:Qz}{mg:Str->Option Xf}{base:YH}{CX:CXT}{n:Nat}{f:YG}{fd:XN}{ps:List Str}
theorem Da.ints_sq{H:Hp}{L:YG->Prop}{v:V}{ns:List Int}(h:Da G H L v (.list (ns.map Xq))):∃a,v= .ref a∧SqL G H a (ns.map V.int):=by
 generalize e:XX (ns.map Xq)=d at h;cases h with
 | lst l e1 r=>
  cases e;rw[r.int_inv]at e1;exact⟨_,rfl,.inl e1⟩
 | scr k=>
  rename_i a ms;have e':=PyData.list.inj e;have:ns=ms:=(List.map_inj_right (λ_ _ h=>by cases h;rfl)).mp e';subst this;exact⟨_,rfl,k.sq⟩
 | _=>cases e
end
@[simp] theorem Ze2:OT.datas []=[]:=rfl
@[simp] theorem Zds(t:OT)(ts:List OT):OT.datas (t::ts)=t.data::OT.datas ts:=rfl
theorem Zmr{α:Type}{xs:List α}{i:Int}(h0:0≤i):atI xs i=xs[i.toNat]?:=by
 unfold atI ixN;rw[YL h0];split
 ·rfl
 ·rename_i h
  symm;exact QH.mpr (by omega)
theorem Zlo{α:Type}{xs:List α}{i:Nat}:atI xs (i:Int)=xs[i]?:=by
 rw[Zmr (by omega),Q0]
@[simp] theorem Yje{α:Type}(x:α)(xs:List α):atI (x::xs) 0=YB x:=by
 rw[Zmr (by decide)];rfl
@[simp] theorem Yif{α:Type}(x y:α)(xs:List α):atI (x::y::xs) 1=YB y:=by
 rw[Zmr (by decide)];rfl
@[simp] theorem Yhw{α:Type}(x y z:α)(xs:List α):atI (x::y::z::xs) 2=YB z:=by
 rw[Zmr (by decide)];rfl
@[simp] theorem Ybx(ds:List Xa)(i:Int):ixD (.list ds) (.int i)=atI ds i:=rfl
@[simp] theorem Yed(ds:List Xa)(i:Int):ixD (.tuple ds) (.int i)=atI ds i:=rfl
@[simp] theorem Z70(ds:List Xa):Zv4 (.list ds)=YB ds.length:=rfl
@[simp] theorem Ybv(ds:List Xa):Zv4 (.tuple ds)=YB ds.length:=rfl
noncomputable def Zp4(r:List Rat):Xa:=.list (r.map frD)
noncomputable def tbD(T:List (List Rat)):Xa:=.list (T.map Zp4)
noncomputable def Ydh(r:List Rat):OT:=.nd (r.map λq=>.fz (frD q))
noncomputable def tbT(T:List (List Rat)):OT:=.nd (T.map Ydh)
@[simp] theorem Zuq(r:List Rat):(Ydh r).data=Zp4 r:=by
 unfold Ydh Zp4;rw[OT.data_nd,XQ];rfl
@[simp] theorem Yb5(T:List (List Rat)):(tbT T).data=tbD T:=by
 unfold tbT tbD;rw[OT.data_nd,XQ];exact YT XX (Xn λr _=>Zuq r)
noncomputable def dd(T:List (List Rat))(i j:Nat):Rat:=(T.getD i []).getD j 0
@[simp] theorem Yd1(T:List (List Rat)):Zv4 (tbD T)=YB T.length:=by unfold tbD Zv4;simp
@[simp] theorem Ybw(r:List Rat):Zv4 (Zp4 r)=YB r.length:=by unfold Zp4 Zv4;simp
@[simp] theorem Yd0(q:Rat):Zg4 (frD q)=YD:=by unfold frD fr;simp[Zg4,Zrz]
theorem Zvh{t b:Int}(ht:0≤t)(hb:0<b):0≤Xh t b:=Rat.divInt_nonneg ht (by omega)
theorem Zsy{n a:Nat}(h:a<n):ixN n (a:Int)=YB a:=by
 unfold ixN;rw[YL (by omega),YL (by omega)];simp
theorem Zya{d:Xa}(h:Wf d=YD):Q3 d d=YD:=Zzr h h rfl
structure Sh(n:Nat)(d:Xa):Prop where
 lay:Vb d=YD
 dep:PyData.depth d≤n
theorem Sh.shp{n:Nat}{d:Xa}(h:Sh n d)(hn:n≤64:=by decide):Z8c d:=⟨by
 show(Vb d&&decide (PyData.depth d≤64))=YD;rw[h.lay,YQ (Qt h.dep hn)];rfl⟩
theorem Zmq{n:Nat}:∀{ds:List Xa},(∀d∈ds,Sh n d)->Bb ds=YD∧PyData.depthAll ds≤n
 | [],_=>⟨by rw[Bb],by rw[PyData.depthAll];exact QZ _⟩
 | d::ds,h=>by
  obtain⟨h1,h2⟩:=Zmq λe m=>h e (.tail _ m);have h3:=h d (.head _);refine⟨by rw[Bb,h3.lay,h1];rfl,?_⟩;rw[PyData.depthAll];exact Nat.max_le.mpr ⟨h3.dep,h2⟩
theorem Zea{n:Nat}{ds:List Xa}(h:∀d∈ds,Sh n d):Sh (n+1) (.list ds) :=
 ⟨by rw[Vb];exact(Zmq h).1,by rw[PyData.depth];exact Nat.succ_le_succ (Zmq h).2⟩
theorem Zr3{n:Nat}{ds:List Xa}(h:∀d∈ds,Sh n d):Sh (n+1) (.tuple ds) :=
 ⟨by rw[Vb];exact(Zmq h).1,by rw[PyData.depth];exact Nat.succ_le_succ (Zmq h).2⟩
theorem Zop(i:Int):Sh 0 (.int i):=⟨rfl,Nat.le_of_eq rfl⟩
section
variable {X:Cx}{pins:List (YG×Obj)}{Y:St}{H:Hp}{s:Xg}
theorem Inv.turnTup{h':YH}{ch:List YG}{T:YG}{xs:List V}{its:List Xf}(I:Inv X pins Y H s)(f:∀b∈ch,Zlj X pins H b)(k:∀b o,b∉ch->s.heap.get? b=YB o->h'.get? b=YB o)
  (th:∀b∈ch,∃o,h'.get? b=YB o) (hT:s.heap.objs.size≤T) (hz:xs.length≤Xz) (r:Vals xs its) (ht:IsTup h' T its.toArray):Inv X pins Y (upd H T (.tup xs)) { s with heap:=h' }:=by
 have hn:H T=YC:=I.hok.fresh hT;have nch:∀b u,H b=YB u->b∉ch:=λb u e z=>by rw[(f b z).1]at e;cases e
 have new:ObjOk X.prog X.w (upd H T (.tup xs)) h' T (.tup xs):=⟨hz,its,r,ht⟩;refine I.call (ch:=ch) (g':=s.gens) (d':=s.drawn) (t':=s.toks) ⟨λb o e _ _ hc=>k b o hc e,λb o e _ _ hc=>⟨o.slots,k b o hc e⟩,λb o e n _=>?_,λb o e hc=>?_,λb ys e=>?_,λb o u e=>?_,λb ps e=>?_⟩ (λb u e=>?_) I.bare (λb hb=>?_)
 ·rw[Zy (λz=>by rw[z]at e;exact YX (XH e) (Nat.not_lt.mpr hT))];exact n
 ·exact⟨o,k b o hc e⟩
 ·rw[Zy (Wg e hn)];exact e
 ·rw[Zy (Wg e hn)];exact e
 ·exact⟨#[],by rw[Zy (Wg e hn),e];simp⟩
 ·by_cases hb:b=T
  ·subst hb;rw[Z8]at e;cases e;exact new
  ·rw[Zy hb]at e
   refine(I.hok b u e).stay (λc v hc q=>k c v ?_ q) (λc q=>by rw[Zy (Wg q hn)];exact q) λc ys q=>by rw[Zy (Wg q hn)];exact q
   rcases hc with rfl|hc
   ·exact nch _ _ e
   ·exact nch _ _ hc
 ·obtain⟨f0,f1,f2,f3,f4,f5⟩:=f b hb
  exact⟨f3,f1,f4,f5⟩
theorem Inv.turnAll{h':YH}{ch:List YG}(I:Inv X pins Y H s)(f:∀b∈ch,Zlj X pins H b)(k:∀b o,b∉ch->s.heap.get? b=YB o->h'.get? b=YB o):Inv X pins Y H { s with heap:=h' }:=by
 have nch:∀b u,H b=YB u->b∉ch:=λb u e z=>by rw[(f b z).1]at e;cases e
 refine I.call (ch:=ch) (g':=s.gens) (d':=s.drawn) (t':=s.toks) ⟨λb o e _ _ hc=>k b o hc e,λb o e _ _ hc=>⟨o.slots,k b o hc e⟩,λb o e n _=>n,λb o e hc=>⟨o,k b o hc e⟩,λb ys e=>e,λb o u e=>e,λb ps e=>⟨#[],by rw[e];simp⟩⟩ (λb u e=>?_) I.bare (λb hb=>?_)
 ·refine(I.hok b u e).stay (λc v hc q=>k c v ?_ q) (λc q=>q) λc ys q=>q
  rcases hc with rfl|hc
  ·exact nch _ _ e
  ·exact nch _ _ hc
 ·obtain⟨f0,f1,f2,f3,f4,f5⟩:=f b hb
  exact⟨f3,f1,f4,f5⟩
end
variable {G:Xb}
section
variable {X:Cx}{io:List Nat}{p c:Bool}{e a b tg:YJ}{m:MEt}{mr:MAt}
theorem Rel.keptList{C:MC G}{H:Hp}{Y:St}{δ:Zh}{fp:Fp}{ex:YG->Prop}{v:V}{ds:List Xa}(R:Rel C io H Y δ fp ex)(q:Da G H (λa=>c=YD->Lf C fp ex a) v (.list ds)) :
  ∃a xs,v= .ref a∧∀H':Hp,(∀b o,H b=YB o->(c=YF∨¬Foot fp b)->H' b=YB o)->SqL G H' a xs∧Das G H' (λa=>c=YD->(Lf C fp ex a∧H a≠YC)) xs ds:=by
 generalize hd:XX ds=d at q;cases q with
 | lst l e r=>
  cases hd;rename_i a0 xs0;refine⟨a0,xs0,rfl,λH' kp=>?_⟩;obtain⟨f1,f2⟩:=R.kept kp;exact⟨.inl (f1 _ (.lst _) l e).2,r.frame f1 f2⟩
 | scr k=>
  rename_i a ns;have:=PyData.list.inj hd;subst this;exact⟨a,_,rfl,λH' _=>⟨k.sq,.ints ns⟩⟩
 | _=>cases hd
noncomputable def Zl7(as bs:List Xa):List Xa:=(as.zip bs).map λx=>.tuple [x.1,x.2]
theorem Zy1{as bs:List Xa}{i:Nat}{d:Xa}(h:(Zl7 as bs)[i]? =YB d):∃x y,as[i]? =YB x∧bs[i]? =YB y∧d= .tuple [x,y]:=by
 unfold Zl7 at h;rw[Xl]at h;cases e:(as.zip bs)[i]? with
 | none=>rw[e]at h;cases h
 | some z=>
  rw[e]at h;cases h;obtain⟨h1,h2⟩:=List.getElem?_zip_eq_some.mp e;exact⟨z.1,z.2,h1,h2,rfl⟩
theorem Ztv{as bs:List Xa}{i:Nat}(h:(Zl7 as bs)[i]? =YC):as.length≤i∨bs.length≤i:=by
 unfold Zl7 at h;have:=QH.mp h;simp at this;omega
@[simp] theorem Z1a(as bs:List Xa):(Zl7 as bs).length=min as.length bs.length:=by simp[Zl7]
end
variable {G:Xb}
section
variable {X:Cx}{io:List Nat}{c1 c2 c3:Bool}{a b e:YJ}{ma mb mc:MEt}{pos:Pos}{f g:Int->Int->Bool}
noncomputable def Zp5(f g:Int->Int->Bool)(ma mb mc:MEt):MEt:=λδ K=>ma δ λx δ1=>mb δ1 λy δ2=>asI x.data λi=>asI y.data λj=>if f i j=YD then mc δ2 λz δ3=>asI z.data λk=>K (.fz (.bool (g j k))) δ3 else K (.fz (.bool YF)) δ2
theorem Ya7{ta tb tc:TE}(ha:SE G io YD c1 ta ma)(hb:SE G io YD c2 tb mb)(hc:SE G io YD c3 tc mc):SE G io YD YD (Zzo (rI0 λi j=>.bl (f i j)) (rI0 λi j=>.bl (g i j)) ta tb tc) (Zp5 f g ma mb mc):=by
 intro C H Y δ fp ex K Q R h k;refine ha.pureAfter R h λH1 x u R1 s1 q1 h1=>?_;refine hb.pureAfter R1 h1 λH2 y v R2 s2 q2 h2=>?_;obtain⟨i,rfl,h2⟩:=q1.intInv h2;obtain⟨j,rfl,h2⟩:=q2.intInv h2;refine⟨i,j,rfl,rfl,f i j,rfl,?_⟩
 by_cases hf:f i j=YD
 ·rw[YL hf]at h2⊢
  refine hc.pureAfter R2 h2 λH3 z w R3 s3 q3 h3=>?_;obtain⟨l,rfl,h3⟩:=q3.intInv h3;have s13:Same H H3:=(s1.trans s2).trans s3;exact⟨j,l,rfl,rfl,k H3 _ _ δ fp [] (.fz R3 (.same s13 s13.al) (.bl _)) h3⟩
 ·rw[YM hf]at h2⊢
  have s12:Same H H2:=s1.trans s2;exact k H2 _ _ δ fp [] (.fz R2 (.same s12 s12.al) (.bl _)) h2
theorem Z49{op op':CmpOp}(ho:OpR X (Bf op) (rI0 λi j=>.bl (f i j)))(ho':OpR X (Bf op') (rI0 λi j=>.bl (g i j)))(ha:ME X io YD c1 a ma)(hb:ME X io YD c2 b mb)(hc:ME X io YD c3 e mc)
  (hm:lastMarks [op,op'] [b,e]=YF:=by with_unfolding_all rfl):ME X io YD YD (.Compare a [op,op'] [b,e] pos) (Zp5 f g ma mb mc):=by
 obtain⟨_,A,sa⟩:=ha;obtain⟨_,B,sb⟩:=hb;obtain⟨_,D,sc⟩:=hc;exact⟨_,Zyi ho ho' A B D hm,Ya7 sa sb sc⟩
end
theorem Zdu:∀{ns:List Int} {its:List Xf},Vals (ns.map V.int) its->∃xs:List (Int×Tok),its=xs.map (λp=>Uz p.1 p.2)∧xs.map (·.1)=ns
 | [],_,.nil=>⟨[],rfl,rfl⟩
 | n::ns,_,.cons r rs=>by
  obtain⟨t,e⟩:=(show∃t,_=Uz n t from r);obtain⟨xs,h1,h2⟩:=Zdu rs;exact⟨(n,t)::xs,by rw[e,h1];rfl,by rw[Qg,h2]⟩
noncomputable def Ygi(K:Xb):List V->Hp->VK->Prop:=λxs H Q=>∃(a:YG) (ns:List Int),xs=[.ref a]∧SqL K H a (ns.map V.int)∧Q (.int ns.sum) H
theorem Zue{X:Cx}{K:Xb}(hK:X.K=K)(hc:X.calm=YD):Zas X (.builtin "sum") (Ygi K):=by
 subst hK;intro pins s Y H xs us Q I r h;obtain⟨a,ns,rfl,hs,q⟩:=h;obtain⟨u,rfl,ru⟩:=vals1 r;cases(show u=QJ a from ru);obtain⟨its,rv,pl,hz⟩:=I.list hs;obtain⟨ps,rfl,e2⟩:=Zdu rv;refine sum_intListG (xs:=ps.toArray) (I.ok.hd hc) (by simpa [intItems]using pl.isList) λh' tk t' hk=>?_;refine⟨.int ns.sum,H,I.kept (t':=tk) hk,⟨t',?_⟩,q⟩;congr 1;rw[preSum_eq,List.take_of_length_le (by simp)];show(ps.map (·.1)).sum=ns.sum;rw[e2]
noncomputable def Yfy:List Xa->(Xa->Prop)->Prop:=λds k=>n1 (λd=>∃ns:List Int,d= .list (ns.map Xq)∧k (.int ns.sum)) ds
theorem Z9b:PNs G (Ygi G) Yfy:=λH L xs ds k Q hx h kk=>by
 obtain⟨v,d,rfl,rfl,q,ns,e,h'⟩:=hx.one h;subst e;obtain⟨a,rfl,hs⟩:=q.ints_sq;exact⟨a,ns,rfl,hs,kk _ _ (.int _) h'⟩
section
variable {X:Cx}{io:List Nat}{p c:Bool}{a b e:YJ}{ma mb m:MEt}{pos pl:Pos}
noncomputable def Ye6(m mb:MEt):MEt:=λδ K=>m δ λr δ1=>mb δ1 λn _=>asI n.data λk=>(-(2^63)≤k∧k<2^63∧k.toNat≤Xz)∧K (.nd (XJ k.toNat (.fz r.data))) δ1
theorem Zpy{α:Type}(x:α):∀n:Nat,(XJ n [x]).flatten=XJ n x
 | 0=>rfl
 | n+1=>by rw[Vt,Uq,Zpy x n];rfl
theorem Das.rep{H:Hp}{L:YG->Prop}{v:V}{d:Xa}(h:Da G H L v d):∀n:Nat,Das G H L (XJ n v) (XJ n d)
 | 0=>.nil
 | n+1=>.cons h (Das.rep h n)
theorem Yam(ha:ME X io p YD a m)(hb:ME X io YD c b mb)(hs:Xr [a] X.env=(YF,eval a X.env)::Xr [] X.env:=by rfl):ME X io p YD (.BinOp (.List [a] pl) .Mult b pos) (Ye6 m mb):=by
 obtain⟨_,A,sa⟩:=ha;obtain⟨_,B,sb⟩:=hb;refine⟨_,Z23 Z7s (Zzv (Zbp A Zgp hs)) B,λC H Y δ fp ex K Q R h k=>?_⟩;refine sa C H Y δ fp ex _ _ R h λH1 v r δ1 fp1 new r1 h1=>⟨(by show 1≤Xz;decide),λl hl=>?_⟩;have R1:=r1.base;have s1:=Z7 hl (.lst [v]);refine sb.pureAfter (R1.mk0 s1) h1 λH2 w n R2 s2 q2 h2=>?_;obtain⟨i,rfl,h2⟩:=q2.intInv h2;have q:=(((r1.da R).wide (L':=Lf C fp1 ex) λa l _=>l rfl).same s1).same s2;refine⟨l,i,[v],rfl,rfl,s2 _ _ Z8,h2.1.1,h2.1.2.1,by show 1*i.toNat≤Xz;rw[Nat.one_mul];exact h2.1.2.2,λt ht=>?_⟩;rw[Zpy];have S:Stp p H δ fp H2 δ1 fp1:=by
  have:=r1.stp.trans (p':=YD) (Stp.same (p:=YD) (δ:=δ1) (fp:=fp1) (s1.trans s2) (s1.trans s2).al)
  rwa[V6]at this
 refine k _ _ _ δ1 fp1 [t] (RE.tree R R2 S (Z7 ht _) (Zcb ht) (Zeu t) ?_) h2.2;have:=Own.list ht ((Das.rep q i.toNat).wide (L':=λa=>YD=YD->Lf C fp1 ex a) λa l _ _=>l)
 rwa[List.map_replicate]at this
end
variable {G:Xb}
section
variable {X:Cx}
noncomputable def Z1f:List V->Hp->VK->Prop:=λvs H Q=>∃j:Int,vs=[.int j]∧∀r,H r=YC->Q (.ref r) (upd H r (.rng 0 j))
noncomputable def Z3k:List V->Hp->VK->Prop:=λvs H Q=>∃i j:Int,vs=[.int i,.int j]∧∀r,H r=YC->Q (.ref r) (upd H r (.rng i j))
theorem Zt1:Zas X (.type "range") Z1f:=by
 intro pins s Y H vs us Q I r h;obtain⟨j,rfl,q⟩:=h;obtain⟨u,rfl,t,rfl⟩:=vals1 r;refine call_range_1 ?_;exact⟨.ref s.heap.objs.size,_,I.laid (o:=.rng 0 j) (λb o e=>Xo _ e) (X6 _) ⟨_,_,_,Qi _ rfl⟩,rfl,q _ I.fresh⟩
theorem Zsu:Zas X (.type "range") Z3k:=by
 intro pins s Y H vs us Q I r h;obtain⟨i,j,rfl,q⟩:=h;obtain⟨u,u',rfl,⟨t,rfl⟩,⟨t',rfl⟩⟩:=vals2 r;refine call_range_2 ?_;exact⟨.ref s.heap.objs.size,_,I.laid (o:=.rng i j) (λb o e=>Xo _ e) (X6 _) ⟨_,_,_,Qi _ rfl⟩,rfl,q _ I.fresh⟩
noncomputable def Zxq(lo:Int)(n:Nat):List V:=(Xd n).map λ(i:Nat)=>V.int (lo+(i:Int))
noncomputable def Zv8:List V->Hp->VK->Prop:=λvs H Q=>∃r lo hi,vs=[.ref r]∧H r=YB (.rng lo hi)∧(-(2^62)≤lo∧lo<2^62∧-(2^62)≤hi∧hi<2^62)∧(hi-lo).toNat≤Xz∧∀l,H l=YC->Q (.ref l) (upd H l (.lst (Zxq lo (hi-lo).toNat)))
theorem Zmy(lo:Int)(n:Nat):Zxq lo (n+1)= .int lo::Zxq (lo+1) n:=by
 unfold Zxq;rw[List.range_succ_eq_map,Qg,XQ];congr 1
 ·simp
 ·refine Xn λi _=>?_
  show V.int (lo+((i+1:Nat):Int))=V.int (lo+1+(i:Int));congr 1;omega
theorem Zpf:∀(acc:List Xf) (lo:Int),(∀(i:Nat) (v:Xf),acc[i]? =YB v->∃t,v=Uz (lo+i) t)->Vals (Zxq lo acc.length) acc
 | [],_,_=>.nil
 | v::acc,lo,h=>by
  rw[JN,Zmy];obtain⟨t,e⟩:=h 0 v rfl;refine .cons ⟨t,by rw[e];simp⟩ (Zpf acc (lo+1) λi w hw=>?_);obtain⟨t',e'⟩:=h (i+1) w (by simpa using hw);refine⟨t',?_⟩;rw[e'];congr 1;omega
theorem Zfg(hc:X.calm=YD):Zas X (.type "list") Zv8:=by
 intro pins s Y H vs us Q I r h;obtain⟨a,lo,hi,rfl,e,hb,hz,q⟩:=h;obtain⟨u,rfl,ru⟩:=vals1 r;cases(show u=QJ a from ru);obtain⟨t,u',v,e1⟩:=(show ObjOk X.prog X.w H s.heap a (.rng lo hi)from I.hok a _ e);refine call_list_range (n:=(hi-lo).toNat) (I.ok.hd hc) e1 ?_ ?_ hz λh' tk acc c' hk hS hacc=>?_
 ·exact small_one hb.1 hb.2.1 hb.2.2.1 hb.2.2.2
 ·rw[rangeSize_one];split<;>omega
 ·refine⟨.ref s.heap.objs.size,_,I.laid (o:=.lst (Zxq lo (hi-lo).toNat)) (t':=tk) hk (X6 _) ⟨?_,acc.toList,c',?_,by simpa using hS⟩,rfl,q _ I.fresh⟩
  ·simp[Zxq];omega
  ·have:=Zpf acc.toList lo λi v hv=>by
    obtain⟨t,e⟩:=hacc.2 i v (by simpa using hv);exact⟨t,by rw[e,Int.mul_one]⟩
   rwa[show acc.toList.length=(hi-lo).toNat by simpa using hacc.1]at this
end
end L2
namespace L2
open PySem PySem.Spec PyProof.Rows PySem.SeqAt
variable {G:Xb}
theorem Zrp(lo:Int)(n:Nat):Zdh lo (n+1)= .int lo::Zdh (lo+1) n:=by
 unfold Zdh;rw[List.range_succ_eq_map,Qg,XQ];congr 1
 ·simp
 ·refine Xn λi _=>?_
  show Xq (lo+((i+1:Nat):Int))=Xq (lo+1+(i:Int));congr 1;omega
theorem Das.rng{H:Hp}{L:YG->Prop}:∀(n:Nat) (lo:Int),Das G H L (Zxq lo n) (Zdh lo n)
 | 0,_=>.nil
 | n+1,lo=>by
  rw[Zmy,Zrp];exact .cons (.int _) (Das.rng n _)
section
variable {X:Cx}{io:List Nat}{p c:Bool}{a b e:YJ}{ma mb m:MEt}{mr:MAt}{pos pos' pl pr:Pos}
noncomputable def Yhc(mr:MAt):MEt:=λδ K=>mr δ λrs δ'=>n1 (λd=>asI d λj=>(-(2^62)≤j∧j<2^62∧j.toNat≤Xz)∧K (.nd ((Zdh 0 j.toNat).map OT.fz)) δ') (OT.datas rs)
noncomputable def Yf9(mr:MAt):MEt:=λδ K=>mr δ λrs δ'=>n2 (λd d'=>asI d λi=>asI d' λj=>(-(2^62)≤i∧i<2^62∧-(2^62)≤j∧j<2^62∧(j-i).toNat≤Xz)∧K (.nd ((Zdh i (j-i).toNat).map OT.fz)) δ') (OT.datas rs)
theorem Zz8{C:MC G}{H H1:Hp}{Y:St}{δ δ1:Zh}{fp fp1:Fp}{ex:YG->Prop}{r l:YG}{lo hi:Int}{n:Nat}(R:Rel C io H Y δ fp ex)(R1:Rel C io H1 Y δ1 fp1 ex)(S:Stp p H δ fp H1 δ1 fp1)(hr:H1 r=YC)
  (hl:upd H1 r (.rng lo hi) l=YC):RE C io p YD H Y δ fp ex (upd (upd H1 r (.rng lo hi)) l (.lst (Zxq lo n))) (.ref l) (.nd ((Zdh lo n).map OT.fz)) δ1 fp1 [l]:=by
 have s1:=Z7 hr (.rng lo hi);have S':Stp p H δ fp (upd H1 r (.rng lo hi)) δ1 fp1:=by
  have:=S.trans (p':=YD) (Stp.same (p:=YD) (δ:=δ1) (fp:=fp1) s1 s1.al)
  rwa[V6]at this
 exact RE.tree R (R1.mk0 s1) S' (Z7 hl _) (Zcb hl) (Zeu l) (Own.list hl (Das.rng n lo))
theorem Zuc(hc:X.calm=YD)(hgl:Gl X "list")(hml:X.mg "list"=YC)(hvl:Qa "list"=YB (.type "list"))(hg:Gl X "range")(hm:X.mg "range"=YC)(hv:Qa "range"=YB (.type "range"))(ha:MA X io p c [a] mr)
  (he:Xr [a] X.env=(YF,eval a X.env)::Xr [] X.env:=by rfl) (hpl:(JP pos' (Xr [] X.env)).any (·.1)=YF:=by rfl)
  (he':Xr [.Call (.Name "range" pr) [a] [] pos'] X.env=(YF,eval (.Call (.Name "range" pr) [a] [] pos') X.env)::Xr [] X.env:=by rfl) (hpl':(JP pos (Xr [] X.env)).any (·.1)=YF:=by rfl) :
  ME X io p YD (.Call (.Name "list" pl) [.Call (.Name "range" pr) [a] [] pos'] [] pos) (Yhc mr):=by
 obtain⟨_,A,s⟩:=ha;refine⟨_,Zay (Zfg hc) hgl hml hvl (Zbp (Zay Zt1 hg hm hv A (he:=he) (hpl:=hpl)) Zgp he') (he:=he') (hpl:=hpl'),λC H Y δ fp ex K Q R h kk=>s C H Y δ fp ex _ _ R h λH1 vs rs δ1 fp1 new r1 h1=>?_⟩;obtain⟨v,d,rfl,e2,q,h2⟩:=(r1.das R).one h1;obtain⟨j,rfl,h2⟩:=q.intInv h2;refine⟨j,rfl,λr hr=>⟨r,0,j,rfl,Z8,⟨by decide,by decide,h2.1.1,h2.1.2.1⟩,by rw[Int.sub_zero];exact h2.1.2.2,λl hl=>?_⟩⟩;rw[Int.sub_zero];exact kk _ _ _ δ1 fp1 [l] (Zz8 R r1.base r1.stp hr hl) h2.2
theorem Zr1(hc:X.calm=YD)(hgl:Gl X "list")(hml:X.mg "list"=YC)(hvl:Qa "list"=YB (.type "list"))(hg:Gl X "range")(hm:X.mg "range"=YC)(hv:Qa "range"=YB (.type "range"))(ha:MA X io p c [a,b] mr)
  (he:Xr [a,b] X.env=(YF,eval a X.env)::Xr [b] X.env:=by rfl) (hpl:(JP pos' (Xr [b] X.env)).any (·.1)=YF:=by rfl)
  (he':Xr [.Call (.Name "range" pr) [a,b] [] pos'] X.env=(YF,eval (.Call (.Name "range" pr) [a,b] [] pos') X.env)::Xr [] X.env:=by rfl) (hpl':(JP pos (Xr [] X.env)).any (·.1)=YF:=by rfl) :
  ME X io p YD (.Call (.Name "list" pl) [.Call (.Name "range" pr) [a,b] [] pos'] [] pos) (Yf9 mr):=by
 obtain⟨_,A,s⟩:=ha;refine⟨_,Zay (Zfg hc) hgl hml hvl (Zbp (Zay Zsu hg hm hv A (he:=he) (hpl:=hpl)) Zgp he') (he:=he') (hpl:=hpl'),λC H Y δ fp ex K Q R h kk=>s C H Y δ fp ex _ _ R h λH1 vs rs δ1 fp1 new r1 h1=>?_⟩;obtain⟨v,u,d,e,rfl,e2,q,q',h2⟩:=(r1.das R).two h1;obtain⟨i,rfl,h2⟩:=q.intInv h2;obtain⟨j,rfl,h2⟩:=q'.intInv h2;exact⟨i,j,rfl,λr hr=>⟨r,i,j,rfl,Z8,⟨h2.1.1,h2.1.2.1,h2.1.2.2.1,h2.1.2.2.2.1⟩,h2.1.2.2.2.2,λl hl=>kk _ _ _ δ1 fp1 [l] (Zz8 R r1.base r1.stp hr hl) h2.2⟩⟩
end
noncomputable def Zsf(ns:List Int):Nat:=(ns.foldl step_dedup []).length
theorem Zmw:∀(ns acc:List Int),(acc++ns).Nodup->ns.foldl step_dedup acc=acc++ns
 | [],acc,_=>by simp
 | n::ns,acc,h=>by
  have hn:n∉acc:=λm=>(BL.mp h).2.2 n m n (.head _) rfl;have:step_dedup acc n=acc++[n]:=by
   unfold step_dedup;rw[YM];intro z;obtain⟨x,hx,e⟩:=List.any_eq_true.mp z;have:=eq_of_beq e;subst this;exact hn hx
  rw[Ua,this,Zmw ns (acc++[n]) (by rwa[Bm])];simp
theorem Zrc{ns:List Int}(h:ns.Nodup):Zsf ns=ns.length:=by
 unfold Zsf;rw[Zmw ns [] (by simpa using h)];simp
theorem map_getD{ns:List Int}:(Xd ns.length).map (λi=>ns.getD i 0)=ns:=by
 refine List.ext_getElem? λi=>?_;rw[Xl]
 by_cases h:i<ns.length
 ·rw[Qq h,Qc,Xe,Xm h,Option.getD_some]
 ·rw[Qp (by simpa using h),Qp (by simpa using h)];rfl
theorem Zo8:∀{ns:List Int} {its:List Xf},Vals (ns.map V.int) its->Vj its ns
 | [],_,.nil=>.nil
 | n::ns,_,.cons r rs=>by
  obtain⟨t,e⟩:=(show∃t,_=Uz n t from r);rw[e];exact .cons n t (Zo8 rs)
section
variable {X:Cx}{io:List Nat}{p c:Bool}{a b e:YJ}{ma mb m:MEt}{mr:MAt}{pos pos' pl pr:Pos}
noncomputable def Ydn(K:Xb):List V->Hp->VK->Prop:=λxs H Q=>∃(a:YG) (ns:List Int),xs=[.ref a]∧SqL K H a (ns.map V.int)∧ns.length+1<scanBound∧∀(l:YG) (S:Int->Bool),H l=YC->Q (.ref l) (upd H l (.set S (Zsf ns)))
theorem Zvb{K:Xb}(hK:X.K=K)(hc:X.calm=YD):Zas X (.type "set") (Ydn K):=by
 subst hK;intro pins s Y H xs us Q I r h;obtain⟨a,ns,rfl,hs,hb,q⟩:=h;obtain⟨u,rfl,ru⟩:=vals1 r;cases(show u=QJ a from ru);obtain⟨its,rv,pl,hz⟩:=I.list hs;have hi:=Zo8 rv;have hl:=hi.length;refine call_set_list (items:=its.toArray) (ns:=ns) (I.ok.hd hc) pl.isList (by simpa using hi) (by simp;omega) λh' tk hS hk=>?_;have hfm:(firstMet (λi=>ns.getD i 0) its.toArray.size).length=Zsf ns:=by
  unfold firstMet Zsf;rw[show its.toArray.size=ns.length by simp[hl],map_getD]
 refine⟨.ref s.heap.objs.size,_,I.laid (o:=.set (λk'=>(firstMet (λi=>ns.getD i 0) its.toArray.size).any λx=>x==k') (Zsf ns)) (t':=tk) (λb o e=>hk b o (XH e) e) (X6 _) ?_,rfl,q _ _ I.fresh⟩
 ·rw[←hfm];exact hS
noncomputable def Z5d:List V->Hp->VK->Prop:=λxs H Q=>∃(a:YG) (S:Int->Bool) (n:Nat),xs=[.ref a]∧H a=YB (.set S n)∧Q (.int n) H
theorem Znz:Zas X (.builtin "len") Z5d:=by
 intro pins s Y H xs us Q I r h;obtain⟨a,S,n,rfl,e,q⟩:=h;obtain⟨u,rfl,ru⟩:=vals1 r;cases(show u=QJ a from ru);obtain⟨o,es,ep,t,ho,hx,hd,_,_,hz,hf,hn⟩:=(show ObjOk X.prog X.w H s.heap a (.set S n)from I.hok a _ e);subst hn;have:es.size<4096:=hz;exact call_len_set ho hx hd hf (by omega) ⟨.int es.size,H,I.kept (h':=s.heap) (λb o e=>e),⟨_,rfl⟩,q⟩
noncomputable def Zvn(mr:MAt):MEt:=λδ K=>mr δ λrs δ'=>n1 (λd=>∃ns:List Int,d= .list (ns.map Xq)∧ns.length<4095∧K (.fz (.int (Zsf ns))) δ') (OT.datas rs)
theorem Zxb(hc:X.calm=YD)(hgl:Gl X "len")(hml:X.mg "len"=YC)(hvl:Qa "len"=YB (.builtin "len"))(hg:Gl X "set")(hm:X.mg "set"=YC)(hv:Qa "set"=YB (.type "set"))(ha:MA X io p c [a] mr)
  (he:Xr [a] X.env=(YF,eval a X.env)::Xr [] X.env:=by rfl) (hpl:(JP pos' (Xr [] X.env)).any (·.1)=YF:=by rfl)
  (he':Xr [.Call (.Name "set" pr) [a] [] pos'] X.env=(YF,eval (.Call (.Name "set" pr) [a] [] pos') X.env)::Xr [] X.env:=by rfl) (hpl':(JP pos (Xr [] X.env)).any (·.1)=YF:=by rfl) :
  ME X io p YD (.Call (.Name "len" pl) [.Call (.Name "set" pr) [a] [] pos'] [] pos) (Zvn mr):=by
 obtain⟨_,A,s⟩:=ha;refine⟨_,Zhj Znz hgl hml hvl (Zbp (Zay (Zvb rfl hc) hg hm hv A (he:=he) (hpl:=hpl)) Zgp he') (he:=he') (hpl:=hpl'),λC H Y δ fp ex K Q R h kk=>s C H Y δ fp ex _ _ R h λH1 vs rs δ1 fp1 new r1 h1=>?_⟩;obtain⟨v,d,rfl,e2,q,ns,e,hb,h2⟩:=(r1.das R).one h1;subst e;obtain⟨a,rfl,hs⟩:=q.ints_sq;refine⟨a,ns,rfl,hs,by show _<4096;omega,λl S hl=>⟨l,S,_,rfl,Z8,?_⟩⟩;have s1:=Z7 hl (.set S (Zsf ns));have S':Stp p H δ fp (upd H1 l (.set S (Zsf ns))) δ1 fp1:=by
  have:=r1.stp.trans (p':=YD) (Stp.same (p:=YD) (δ:=δ1) (fp:=fp1) s1 s1.al)
  rwa[V6]at this
 exact kk _ _ _ δ1 fp1 [] (.fz (r1.base.mk0 s1) S' (.int _)) h2
noncomputable def Ybo(i:Nat)(m:MEt):MEt:=λδ K=>match δ[i]? with
 | some (YB (.nd _))=>m δ λn δ1=>match δ1[i]? with
  | some (YB (.nd ts))=>asI n.data λj=>match ixN ts.length j with
   | some k=>match ts[k]? with
    | some (.fz d)=>ts.length≤Xz∧K (.fz d) (δ1.set i (YB (.nd (ts.eraseIdx k))))
    | _=>False
   | none=>False
  | _=>False
 | _=>False
theorem Owns.erase{H:Hp}{L:YG->Prop}:∀{xs:List V} {ts:List OT} {as:List YG} {k:Nat} {d:Xa},Owns G H L xs ts as->ts[k]? =Bx (.fz d)->Owns G H L (xs.eraseIdx k) (ts.eraseIdx k) as
 | _,_,_,_,_,.nil,e=>by simp at e
 | _,_,_,0,d,.cons q r,e=>by
  simp at e;subst e;cases q;exact r
 | _,_,_,k+1,d,.cons q r,e=>.cons q (Owns.erase (k:=k) r (by simpa using e))
theorem Yds{x:Str}{px:Pos}{apos cpos:Pos}(i:Nat)(he:ME X io p c e m)(hN:X.N[i]? =YB x:=by rfl)(hv:Vis X.env.scope x:=by first|exact QD rfl|exact Qx (QD rfl)|exact Qx (Qx rfl))(hd:(x==("__debug__" : Str))=YF:=by decide)
  (hcd:(x==("__classdict__" : Str))=YF:=by decide)
  (hbase:attributeBase (.Name x px) "pop" X.env (eval (.Name x px) X.env)=eval (.Name x px) X.env:=by rfl)
  (hfew:((JP cpos (Xr [e] X.env)).all (λx=>!x.1)&&(backToKw cpos (keywordEach [] X.env)).all (λx=>x.1.isSome)
   &&decide ([e].length+([]:List Keyword).length+(if([]:List Keyword).isEmpty then 0 else 1)<30))=YD:=by rfl)
  (hline:(apos.endLine==cpos.line)=YD:=by rfl) (hs:Xr [e] X.env=(YF,eval e X.env)::Xr [] X.env:=by rfl) (hplain:(JP cpos (Xr [] X.env)).any (·.1)=YF:=by rfl) :
  ME X io YF YD (.Call (.Attribute (.Name x px) "pop" apos) [e] [] cpos) (Ybo i m):=by
 obtain⟨_,A,s⟩:=he;refine⟨_,Z84 PySem.F.plainAttrs_list PySem.F.slot_list_pop PySem.F.type_list_pop Zxp (pv i hN hv hd hcd) (Zbp A Zgp hs) hbase hfew hline hs hplain,λC H Y δ fp ex K Q R h kk=>?_⟩;unfold Ybo at h;split at h
 case h_2=>exact h.elim
 rename_i ts0 hi0;obtain⟨a',xs0,bs0,hv0,hx0,_,_⟩:=R.ownNd hi0;refine⟨_,hv0,.inl ⟨rfl,xs0,.inl (.inl hx0)⟩,?_⟩;refine s C H Y δ fp ex _ _ R h λH1 v r δ1 fp1 new r1 h1=>?_;split at h1
 case h_2=>exact h1.elim
 rename_i ts1 hi1;obtain⟨j,rfl,h1⟩:=(r1.da R).intInv h1;split at h1
 case h_2=>exact h1.elim
 rename_i k hk;split at h1
 case h_2=>exact h1.elim
 rename_i d hd1;have R1:=r1.base;obtain⟨a1,xs1,bs1,hv1,hx1,o1,hf1⟩:=R1.ownNd hi1;rw[hv0]at hv1;cases hv1;obtain⟨y,cs,hy,oy,_⟩:=o1.get hd1;have qy:Da X.K H1 (Lf C fp1 ex) y d:=by cases oy;assumption
 obtain⟨z1,z2,z3,z4⟩:=Zom hk;have hz:=h1.1;have hsz:Xz=16777216:=X8;refine⟨a',xs1,j,k,y,rfl,rfl,hx1,by omega,by omega,by rw[o1.length];exact z1,hy,?_⟩;obtain⟨R2,S2⟩:=R1.top hi1 hv0 hf1 hx1 (o1.erase hd1) (List.Sublist.refl _);have S:=(r1.stp.trans S2).cast (p':=YF) λz=>nomatch z;refine kk _ _ _ _ _ [] (.fz R2 S ?_) h1.2;have ne':∀a,¬Foot fp1 a->a≠a':=λa h z=>h ⟨i,by rw[z,hf1];exact .head _⟩;have f0:∀a,¬Foot fp1 a->¬Foot (fpu fp1 i (a'::bs1)) a:=λa h z=>by
  rcases z.of_u with z|⟨j,_,z⟩
  ·exact h ⟨i,by rw[hf1];exact z⟩
  ·exact h ⟨j,z⟩
 refine qy.frame (λa zs l q=>⟨λ_=>⟨f0 a l.1,l.2.1,l.2.2⟩,?_⟩) λa zs q=>?_
 ·rcases q with q|⟨u,q⟩
  ·exact .inl (by rw[Zy (ne' a l.1)];exact q)
  ·exact .inr ⟨u,by rw[Zy (ne' a l.1)];exact q⟩
 ·rw[Zy]
  ·exact q
  ·intro z
   exact ImO.nl q (z▸hx1)
end
end L2
namespace L2
open PySem PySem.Spec PyProof.Rows
structure Apart(X:Cx)(pins:List (YG×Obj))(H:Hp)(b:YG):Prop where
 fr:H b=YC
 new:X.s₀.heap.get? b=YC
 loc:b≠X.env.locals
 cel:∀x c,X.env.cells.lookup x=YB c->c≠b
 pin:∀p∈X.pn++pins,p.1≠b
section
variable {X:Cx}{pins:List (YG×Obj)}{Y:St}{H H':Hp}{s:Xg}{h':YH}{b a C:YG}
noncomputable def Fl(ap:YG->Prop)(C a:YG)(fl:Xf)(h:YH):Prop:=∃a0 oe vs T oT ts,h.get? a=YB oe∧(oe.cls= .ref C∧vs[0]? =YB a0)∧oe.data= .fields vs∧vs[1]? =YB (.ref T)∧T≠a∧h.get? T=YB oT∧oT.data= .fields ts∧ts[3]? =YB fl∧ap a∧ap T
noncomputable def Fl0(ap:YG->Prop)(C a:YG)(h:YH):Prop:=∃a0 oe vs,h.get? a=YB oe∧(oe.cls= .ref C∧vs[0]? =YB a0)∧oe.data= .fields vs∧vs[1]? =YB .none∧ap a
noncomputable def FlA(ap:YG->Prop)(fl:Xf)(C a:YG)(h:YH):Prop:=Fl ap C a .none h∨Fl0 ap C a h∨Fl ap C a fl h
section
variable {M:Model}{A:Qs}{E:Xf->Xg->Prop}{Q:Unit->Xg->Prop}{ch:List YG}
end
end
noncomputable def Zq2(K:Xb)(C:YG):Prop:=PySem.W.excIn K C [.type "ValueError",.type "Exception",.type "BaseException",.type "object"] "ValueError.__new__"=YD
noncomputable abbrev MXt:=Zh->(YG->Zh->Prop)->Prop
noncomputable def XW(X:Cx)(C:MC X.K)(io:List Nat)(pins:List (YG×Obj))(ex:YG->Prop)(H:Hp)(fp:Fp)(k:YG->Zh->Prop)(e:Xf)(s':Xg):Prop :=
 ∃a cl Y' H' δ' fp',e= .ref a∧Inv X pins Y' H' s'∧FlA (Apart X pins H') (rawInt X.env.locals) cl a s'.heap∧Rel C io H' Y' δ' fp' ex∧Kp H fp H' fp'∧k cl δ'
noncomputable def XS(X:Cx)(io:List Nat)(st:YK)(m:MXt):Prop:=∀(C:MC X.K) (pins:List (YG×Obj)) (s:Xg) (Y:St) (H:Hp) (δ:Zh) (fp:Fp) (ex:YG->Prop) (k:YG->Zh->Prop),Inv X pins Y H s->Rel C io H Y δ fp ex->m δ k ->
 Qd (Ql X.prog X.w) X.A (exec st X.env) (λ_ _=>False) (XW X C io pins ex H fp k) s
noncomputable def XSs(X:Cx)(io:List Nat)(sts:List YK)(m:MXt):Prop:=∀(C:MC X.K) (pins:List (YG×Obj)) (s:Xg) (Y:St) (H:Hp) (δ:Zh) (fp:Fp) (ex:YG->Prop) (k:YG->Zh->Prop),Inv X pins Y H s->Rel C io H Y δ fp ex->m δ k ->
 Qd (Ql X.prog X.w) X.A (execs sts X.env) (λ_ _=>False) (XW X C io pins ex H fp k) s
section
variable {X:Cx}{io:List Nat}{p c:Bool}{e:YJ}{es:List YJ}{mr:MAt}{m:MXt}{pos:Pos}{st:YK}{sts a b:List YK}{u:MSt}{w v:MXt}{mt:MTt}{i:Nat}{x:Str}
end
section
variable {P:Qe}{w:Qz}{K:Xb}{mg:Str->Option Xf}{base:YH}
end
section
variable {X:Cx}{io:List Nat}{p c:Bool}{e:YJ}{es:List YJ}{mr:MAt}{pos pp:Pos}{k:Nat}{f:YG}{fd:XN}{ps:List Str}{x:Str}
end
section
variable {X:Cx}{pins:List (YG×Obj)}{Y:St}{H:Hp}{s:Xg}{a C:YG}
noncomputable abbrev Cx.suite(X:Cx)(a:YG):Cx:={ X with A:=X.A.mark (YB (.ref a)),calm:=YF }
end
theorem Zzn(b:Bool)(k:Bool->Prop):asB (.bool b) k=k b:=rfl
inductive Yei:V->Xf->Prop where
 | own (D:YG):Yei (.ref D) (.ref D)
 | ty (T:String):Yei (.ty T) (.type T)
inductive ClsVs:List V->List Xf->Prop where
 | nil:ClsVs [] []
 | cons {v:V} {c:Xf} {vs:List V} {cs:List Xf}:Yei v c->ClsVs vs cs->ClsVs (v::vs) (c::cs)
theorem ClsVs.length:∀{vs:List V} {cs:List Xf},ClsVs vs cs->vs.length=cs.length
 | _,_,.nil=>rfl
 | _,_,.cons _ t=>by simp[t.length]
section
variable {X:Cx}{io:List Nat}{p c:Bool}{a b:YJ}{ma:MEt}{pos pp p2:Pos}
end
end L2
namespace L2
open PySem PySem.Spec PyProof.Rows PySem.P
section
variable {prog:Qe}{w:Qz}{A:Qs}{E:Xf->Xg->Prop}{s:Xg}{e t0 C:YG}{o:Obj}{vs:Array Xf}{K:Xb}{m:Str}{tk:Tok}
structure Yhu(s:Xg)(e C t0:YG)(m:Str)(tk:Tok):Prop where
 ob:∃o vs,s.heap.get? e=YB o∧o.cls= .ref C∧o.data= .fields vs∧vs[0]? =YB (.ref t0)
 tx:s.heap.TupAt t0 [.str m tk]
end
section
variable {X:Cx}{C:YG}{x j:Str}{jk:Nat}{np cpos pos kp p1:Pos}
end
end L2
namespace L2
open PySem PySem.Spec PyProof.Rows
noncomputable abbrev FE:=Zh->Option (OT×Zh)
noncomputable abbrev FA:=Zh->Option (List OT×Zh)
noncomputable abbrev FT:=Zh->Option (Bool×Zh)
noncomputable abbrev FI:=Zh->Option (List Xa×Zh)
noncomputable abbrev FO:=Zh->Option (Option Int×Zh)
noncomputable abbrev FG:=Xa->Zh->Option Zh
noncomputable abbrev FGs:=List Xa->Zh->Option Zh
noncomputable def o2{α:Type}(f:Zh->Option (α×Zh)):Zh->(α->Zh->Prop)->Prop:=λδ K=>∃r δ',f δ=YB (r,δ')∧K r δ'
noncomputable def oG(g:FG):MGt:=λd δ k=>∃δ',g d δ=YB δ'∧k δ'
noncomputable def oGs(g:FGs):Zvx:=λd δ k=>∃δ',g d δ=YB δ'∧k δ'
section
variable {X:Cx}{io:List Nat}{p c:Bool}{e tg:YJ}{es:List YJ}{m m':MEt}{mr mr':MAt}{mt mt':MTt}{mi mi':MIt}{g g':MGt}{gs gs':Zvx}{mo mo':MOt}{st:YK}{sts:List YK}{u u':MSt}{eo:Option YJ}
theorem ME.weak(h:ME X io p c e m)(w:∀δ K,m' δ K->m δ K):ME X io p c e m':=let⟨t,A,s⟩:=h;⟨t,A,λC H Y δ fp ex K Q R h k=>s C H Y δ fp ex K Q R (w δ K h) k⟩
theorem MA.weak(h:MA X io p c es mr)(w:∀δ K,mr' δ K->mr δ K):MA X io p c es mr':=let⟨t,A,s⟩:=h;⟨t,A,λC H Y δ fp ex K Q R h k=>s C H Y δ fp ex K Q R (w δ K h) k⟩
theorem MT.weak(h:MT X io p e mt)(w:∀δ K,mt' δ K->mt δ K):MT X io p e mt':=let⟨t,A,s⟩:=h;⟨t,A,λC H Y δ fp ex K Q R h k=>s C H Y δ fp ex K Q R (w δ K h) k⟩
theorem MW.weak(h:MW X io p e mt)(w:∀δ K,mt' δ K->mt δ K):MW X io p e mt':=let⟨t,A,s⟩:=h;⟨t,A,λC H Y δ fp ex K Q R h k=>s C H Y δ fp ex K Q R (w δ K h) k⟩
theorem MIfs.weak(h:MIfs X io p es mt)(w:∀δ K,mt' δ K->mt δ K):MIfs X io p es mt':=let⟨t,A,s⟩:=h;⟨t,A,λC H Y δ fp ex K Q R h k=>s C H Y δ fp ex K Q R (w δ K h) k⟩
theorem MI.weak(h:MI X io p c tg e mi)(w:∀δ K,mi' δ K->mi δ K):MI X io p c tg e mi':=let⟨t,A,s⟩:=h;⟨t,A,λC H Y δ fp ex K Q R h k=>s C H Y δ fp ex K Q R (w δ K h) k⟩
theorem MO.weak(h:MO X io p eo mo)(w:∀δ K,mo' δ K->mo δ K):MO X io p eo mo':=let⟨t,A,s⟩:=h;⟨t,A,λC H Y δ fp ex K Q R h k=>s C H Y δ fp ex K Q R (w δ K h) k⟩
theorem MG.weak(h:MG X io c tg g)(w:∀d δ K,g' d δ K->g d δ K):MG X io c tg g':=let⟨t,A,s⟩:=h;⟨t,A,λC H Y δ fp ex v d k Q R q h kk=>s C H Y δ fp ex v d k Q R q (w d δ k h) kk⟩
theorem MGs.weak(h:MGs X io c es gs)(w:∀d δ K,gs' d δ K->gs d δ K):MGs X io c es gs':=let⟨t,A,s⟩:=h;⟨t,A,λC H Y δ fp ex v d k Q R q h kk=>s C H Y δ fp ex v d k Q R q (w d δ k h) kk⟩
theorem MS.weak(h:MS X io st u)(w:∀D δ,u' D δ->u D δ):MS X io st u':=let⟨t,A,s⟩:=h;⟨t,A,λC H Y δ fp ex D D' R h E=>s C H Y δ fp ex D D' R (w D δ h) E⟩
theorem MSs.weak(h:MSs X io sts u)(w:∀D δ,u' D δ->u D δ):MSs X io sts u':=let⟨t,A,s⟩:=h;⟨t,A,λC H Y δ fp ex D D' R h E=>s C H Y δ fp ex D D' R (w D δ h) E⟩
end
noncomputable def Ze(i:Nat):FE:=λδ=>match δ[i]? with|some (YB (.fz d))=>YB (.fz d,δ)|_=>YC
noncomputable def Zrj(i:Nat):FE:=λδ=>match δ[i]? with|some (YB t)=>YB (.fz t.data,δ)|_=>YC
noncomputable def fC(d:Xa):FE:=λδ=>YB (.fz d,δ)
noncomputable def Zi(g:Xa->Xa->Option Xa)(a b:FE):FE:=λδ=>(a δ).bind λp=>(b p.2).bind λq=>(g p.1.data q.1.data).bind λd=>YB (.fz d,q.2)
noncomputable def Yb(g:Xa->Xa->Option OT)(a b:FE):FE:=λδ=>(a δ).bind λp=>(b p.2).bind λq=>(g p.1.data q.1.data).bind λd=>YB (d,q.2)
noncomputable def fUn(g:Xa->Option Xa)(a:FE):FE:=λδ=>(a δ).bind λp=>(g p.1.data).bind λd=>YB (.fz d,p.2)
noncomputable def Zy3(a b:FE):FE:=λδ=>(a δ).bind λp=>match p.1.data with| .bool YD=>b p.2| .bool YF=>YB (.fz (.bool YF),p.2)|_=>YC
noncomputable def fOr(a b:FE):FE:=λδ=>(a δ).bind λp=>match p.1.data with| .bool YD=>YB (.fz (.bool YD),p.2)| .bool YF=>b p.2|_=>YC
noncomputable def fIf(t:FT)(a b:FE):FE:=λδ=>(t δ).bind λp=>if p.1=YD then a p.2 else b p.2
noncomputable def tV(e:FE):FT:=λδ=>(e δ).bind λp=>match p.1 with| .fz (.bool b)=>YB (b,p.2)|_=>YC
noncomputable def tNo(t:FT):FT:=λδ=>(t δ).bind λp=>YB (!p.1,p.2)
noncomputable def tAn(t u:FT):FT:=λδ=>(t δ).bind λp=>if p.1=YD then u p.2 else YB (YF,p.2)
noncomputable def tO(t u:FT):FT:=λδ=>(t δ).bind λp=>if p.1=YD then YB (YD,p.2)else u p.2
noncomputable def tD(e:FE):FT:=λδ=>(e δ).bind λp=>(Zwc p.1.data).bind λb=>YB (b,p.2)
noncomputable def Zn:FA:=λδ=>YB ([],δ)
noncomputable def Zc(e:FE)(a:FA):FA:=λδ=>(e δ).bind λp=>(a p.2).bind λq=>YB (p.1::q.1,q.2)
noncomputable def Zfm(a:FA):FE:=λδ=>(a δ).bind λp=>if p.1.length≤Xz then YB (.fz (.tuple (OT.datas p.1)),p.2)else YC
noncomputable def Zb0(a:FA):FE:=λδ=>(a δ).bind λp=>if p.1.length≤Xz then YB (.nd p.1,p.2)else YC
noncomputable def Ycb(e:FE):FE:=λδ=>(e δ).bind λp=>if Zg4 p.1.data=YD then YB (.fz p.1.data,p.2)else YC
noncomputable def Z7z(e:FE):FE:=λδ=>(e δ).bind λp=>if Z24 p.1=YD then YB (p.1,p.2)else YC
inductive RF where
 | ok (r:OT)
 | exn (c:Str)
 | bad
noncomputable abbrev FD:=List Xa->RF
noncomputable abbrev FIO:=OT->List Xa->Option (OT×OT)
noncomputable def Zv(F:FD)(a:FA):FE:=λδ=>(a δ).bind λp=>match F (OT.datas p.1)with| .ok r=>YB (r,p.2)|_=>YC
noncomputable def Jg(i:Nat)(F:FIO)(a:FA):FE:=λδ=>match δ[i]? with
 | some (YB _)=>(a δ).bind λp=>match p.2[i]? with
  | some (YB t)=>(F t (OT.datas p.1)).bind λq=>YB (q.1,p.2.set i (YB q.2))
  | _=>YC
 | _=>YC
noncomputable def Zaq(g:List Xa->Option Xa)(a:FA):FE:=λδ=>(a δ).bind λp=>(g (OT.datas p.1)).bind λd=>YB (.fz d,p.2)
noncomputable def fBl(g:List Xa->Option OT)(a:FA):FE:=λδ=>(a δ).bind λp=>(g (OT.datas p.1)).bind λd=>YB (d,p.2)
noncomputable def Ybm(T:String)(e:FE):FE:=λδ=>(e δ).bind λp=>if Zlx p.1.data=YD then YC else YB (.fz (.bool (Zv3 T p.1.data)),p.2)
noncomputable def oN:FO:=λδ=>YB (YC,δ)
noncomputable def oI(e:FE):FO:=λδ=>(e δ).bind λp=>match p.1.data with| .int i=>YB (YB i,p.2)|_=>YC
noncomputable def fSl(e:FE)(lo hi:FO):FE:=λδ=>(e δ).bind λp=>(lo p.2).bind λq=>(hi q.2).bind λr=>match p.1.data with| .list ds=>YB (.nd ((cutD ds q.1 r.1).map OT.fz),r.2)|_=>YC
noncomputable def Zmu(f g:Int->Int->Bool)(a b c:FE):FE:=λδ=>(a δ).bind λp=>(b p.2).bind λq=>match p.1.data,q.1.data with
 | .int i,.int j=>if f i j=YD then(c q.2).bind λr=>match r.1.data with| .int k=>YB (.fz (.bool (g j k)),r.2)|_=>YC else YB (.fz (.bool YF),q.2)
 | _,_=>YC
noncomputable def Zcu(e:FE):FI:=λδ=>(e δ).bind λp=>match p.1.data with| .list ds=>YB (ds,p.2)|_=>YC
noncomputable def iTp(e:FE):FI:=λδ=>(e δ).bind λp=>match p.1.data with| .tuple ds=>YB (ds,p.2)|_=>YC
noncomputable def rOk(j:Int):Bool:=decide (-(2^62)≤j)&&decide (j<2^62)
theorem Zaf{j:Int}(h:rOk j=YD):-(2^62)≤j∧j<2^62:=by
 unfold rOk at h;rw[Xv]at h;exact⟨YW h.1,YW h.2⟩
theorem Zgr{j:Int}(h0:-1000000≤j)(h1:j≤1000000):rOk j=YD:=by
 unfold rOk;rw[YQ (show -(2^62)≤j by omega),YQ (show j<2^62 by omega)];rfl
noncomputable def iRa(a:FA):FI:=λδ=>(a δ).bind λp=>match OT.datas p.1 with|[.int j]=>if rOk j=YD then YB (Zdh 0 j.toNat,p.2)else YC|_=>YC
noncomputable def iRb(a:FA):FI:=λδ=>(a δ).bind λp=>match OT.datas p.1 with|[.int i,.int j]=>if(rOk i&&rOk j)=YD then YB (Zdh i (j-i).toNat,p.2)else YC|_=>YC
noncomputable def Z91(a:FA):FI:=λδ=>(a δ).bind λp=>match OT.datas p.1 with|[.list as,.list bs]=>YB (Zl7 as bs,p.2)|_=>YC
noncomputable def gNm(i:Nat):FG:=λd δ=>YB (δ.set i (YB (.fz d)))
noncomputable def Yh2(i:Nat):FG:=λd δ=>if Zg4 d=YD then YB (δ.set i (YB (.fz d)))else YC
noncomputable def gNl:FGs:=λds δ=>match ds with|[]=>YB δ|_=>YC
noncomputable def gCn(g:FG)(gs:FGs):FGs:=λds δ=>match ds with|d::r=>(g d δ).bind (gs r)|[]=>YC
noncomputable def gTp(n:Nat)(gs:FGs):FG:=λd δ=>match d with| .tuple ds=>if ds.length=n then gs ds δ else YC|_=>YC
noncomputable def gLs(n:Nat)(gs:FGs):FG:=λd δ=>match d with| .list ds=>if ds.length=n then gs ds δ else YC|_=>YC
noncomputable def compLoop(g:FG)(t:FT)(e:FE):List Xa->Zh->Option (List OT×Zh)
 | [],δ=>YB ([],δ)
 | d::ds,δ=>(g d δ).bind λδ1=>(t δ1).bind λp=>if p.1=YD then(e p.2).bind λq=>(compLoop g t e ds q.2).bind λz=>YB (q.1::z.1,z.2)else compLoop g t e ds p.2
noncomputable def Yr(n:Nat)(caps:List Nat)(it:FI)(g:FG)(t:FT)(e:FE):FE:=λδ=>(it δ).bind λp=>if p.1.length≤Xz then(compLoop g t e p.1 (blk n caps p.2)).bind λz=>YB (.nd z.1,p.2)else YC
noncomputable def Zc7:FT:=λδ=>YB (YD,δ)
inductive RS where
 | nx (δ:Zh)
 | rt (r:OT) (δ:Zh)
 | bk (δ:Zh)
 | ct (δ:Zh)
 | ex (c:Str) (δ:Zh)
 | bad
noncomputable abbrev FS:=Zh->RS
noncomputable def RS.fits(D:Zhv):RS->Prop
 | .nx δ=>D.nx δ
 | .rt r δ=>D.rt r δ
 | .bk δ=>D.bk δ
 | .ct δ=>D.ct δ
 | _=>False
noncomputable def oS(f:FS):MSt:=λD δ=>(f δ).fits D
noncomputable def xS(K:Xb)(f:FS):MXt:=λδ k=>∃c C δ',f δ= .ex c δ'∧ClsAt K c C∧k C δ'
noncomputable def Z5(f g:FS):FS:=λδ=>match f δ with| .nx δ'=>g δ'|r=>r
noncomputable def fNx:FS:=λδ=>.nx δ
noncomputable def Yil:FS:=λδ=>.bk δ
noncomputable def Yhn:FS:=λδ=>.ct δ
noncomputable def wE(e:FE)(k:OT->Zh->RS):FS:=λδ=>match e δ with|some (r,δ')=>k r δ'|none=>.bad
noncomputable def wX(F:FD)(a:FA)(k:OT->Zh->RS):FS:=λδ=>match a δ with
 | some (rs,δ1)=>match F (OT.datas rs)with
  | .ok r=>k r δ1
  | .exn c=>.ex c δ1
  | .bad=>.bad
 | none=>.bad
noncomputable def Zw3:OT->Zh->RS:=λ_ δ=>.nx δ
noncomputable def J7:OT->Zh->RS:=λr δ=>.rt r δ
noncomputable def Ycq:OT->Zh->RS:=λr δ=>if Zg4 r.data=YD then .rt (.fz r.data) δ else .bad
noncomputable def W2(i:Nat):OT->Zh->RS:=λr δ=>.nx (δ.set i (YB (.fz r.data)))
noncomputable def Ycn(i:Nat):OT->Zh->RS:=λr δ=>if Zg4 r.data=YD then .nx (δ.set i (YB (.fz r.data)))else .bad
noncomputable def Zat(i:Nat):OT->Zh->RS:=λr δ=>.nx (δ.set i (YB r))
noncomputable def Z8f(g:FG):OT->Zh->RS:=λr δ=>match g r.data δ with|some δ'=>.nx δ'|none=>.bad
noncomputable def Ydo:FS:=λδ=>.rt (.fz .none) δ
noncomputable def Zgb(i:Nat):FS:=λδ=>match δ[i]? with|some (YB t)=>.rt t (δ.set i YC)|_=>.bad
noncomputable def Zbr(t:FT)(u w:FS):FS:=λδ=>match t δ with|some (b,δ')=>if b=YD then u δ' else w δ'|none=>.bad
noncomputable def Zh9(c:Str):FS:=λδ=>.ex c δ
noncomputable def Yw(i:Nat)(e:FE):FS:=λδ=>match δ[i]? with
 | some (YB (.nd _))=>wE e (λr δ1=>match δ1[i]? with
  | some (YB (.nd ts))=>if ts.length<Xz then .nx (δ1.set i (YB (.nd (ts++[.fz r.data]))))else .bad
  | _=>.bad) δ
 | _=>.bad
noncomputable def Zoq(i:Nat)(e:FE):FS:=λδ=>match δ[i]? with
 | some (YB (.nd _))=>wE e (λr δ1=>match δ1[i]? with
  | some (YB (.nd ts))=>if ts.length<Xz then .nx (δ1.set i (YB (.nd (ts++[r]))))else .bad
  | _=>.bad) δ
 | _=>.bad
noncomputable def Z56(i:Nat)(e j:FE):FS:=wE e λr δ1=>match δ1[i]? with
 | some (YB (.nd ts))=>wE j (λn _=>match n.data with
  | .int k=>match ixN ts.length k with
   | some j=>.nx (δ1.set i (YB (.nd (ts.set j (.fz r.data)))))
   | none=>.bad
  | _=>.bad) δ1
 | _=>.bad
noncomputable def Zg3(i:Nat)(e j j2:FE):FS:=wE e λr δ1=>match δ1[i]? with
 | some (YB (.nd ts))=>wE j (λn _=>match n.data with
  | .int k=>match ixN ts.length k with
   | some j=>match ts[j]? with
    | some (.nd us)=>wE j2 (λn' _=>match n'.data with
     | .int k'=>match ixN us.length k' with
      | some j'=>.nx (δ1.set i (YB (.nd (ts.set j (.nd (us.set j' (.fz r.data)))))))
      | none=>.bad
     | _=>.bad) δ1
    | _=>.bad
   | none=>.bad
  | _=>.bad) δ1
 | _=>.bad
noncomputable def Zce(i:Nat)(u:FS):FS:=λδ=>match δ[i]? with|some (YB t)=>u (δ.set i (YB (.fz t.data)))|_=>.bad
noncomputable def forLoop(g:FG)(u:FS):List Xa->Zh->RS
 | [],δ=>.nx δ
 | d::ds,δ=>match g d δ with
  | none=>.bad
  | some δ1=>match u δ1 with
   | .nx δ2=>forLoop g u ds δ2
   | .ct δ2=>forLoop g u ds δ2
   | .bk δ2=>.nx δ2
   | r=>r
noncomputable def Zaj(it:FI)(g:FG)(u:FS):FS:=λδ=>match it δ with|some (ds,δ1)=>forLoop g u ds δ1|none=>.bad
noncomputable def whileLoop(t:FT)(u:FS):Nat->Zh->RS
 | 0,_=>.bad
 | n+1,δ=>match t δ with
  | none=>.bad
  | some (b,δ1)=>if b=YD then match u δ1 with
   | .nx δ2=>whileLoop t u n δ2
   | .ct δ2=>whileLoop t u n δ2
   | .bk δ2=>.nx δ2
   | .rt r δ2=>.rt r δ2
   | _=>.bad
   else .nx δ1
open Classical in
noncomputable def Zjp(t:FT)(u:FS):FS:=λδ=>if h:∃n,whileLoop t u n δ≠ .bad then whileLoop t u (Classical.choose h) δ else .bad
noncomputable def Zil(n:Nat)(ds:List Xa):Zh:=ds.map (λd=>YB (.fz d))++XJ (n-ds.length) YC
noncomputable def Zko(n:Nat)(t:OT)(ds:List Xa):Zh:=YB t::(ds.map (λd=>YB (.fz d))++XJ (n-(ds.length+1)) YC)
noncomputable def RS.told:RS->RF
 | .nx _=>.ok (.fz .none)
 | .rt r _=>.ok r
 | .ex c _=>.exn c
 | _=>.bad
noncomputable def Zah(np n:Nat)(S:FS):FD:=λds=>if ds.length=np then(S (Zil n ds)).told else .bad
noncomputable def RS.toldI:RS->Option (OT×OT)
 | .nx δ=>match δ[0]? with|some (YB t)=>YB (.fz .none,t)|_=>YC
 | .rt r δ=>match δ[0]? with|some (YB t)=>YB (r,t)|_=>YC
 | _=>YC
noncomputable def Zxx(np n:Nat)(S:FS):FIO:=λt ds=>if ds.length+1=np then(S (Zko n t ds)).toldI else YC
noncomputable def sD(F:FD):List Xa->(OT->Prop)->Prop:=λds k=>∃r,F ds= .ok r∧k r
noncomputable def sI(F:FIO):OT->List Xa->(OT->OT->Prop)->Prop:=λt ds k=>∃r t',F t ds=YB (r,t')∧k r t'
theorem bs{α β:Type}{x:Option α}{f:α->Option β}{b:β}(h:x.bind f=YB b):∃a,x=YB a∧f a=YB b:=Option.bind_eq_some_iff.mp h
section
variable {X:Cx}{io:List Nat}{p c:Bool}{e tg:YJ}{es:List YJ}{st:YK}{sts:List YK}{eo:Option YJ}{fa fb fc:FE}{ra:FA}{ta tb:FT}{i:Nat}
theorem Z9z(h:ME X io p c e (Ybe i)):ME X io p c e (o2 (Ze i)):=h.weak λδ K q91=>by
 obtain⟨r,δ',h,k⟩:=q91;unfold Ze at h;unfold Ybe;split at h
 ·rename_i d hd;(try rw[hd]);cases h;exact k
 ·cases h
theorem Z8k(h:ME X io p c e (Ybz i)):ME X io p c e (o2 (Zrj i)):=h.weak λδ K q92=>by
 obtain⟨r,δ',h,k⟩:=q92;unfold Zrj at h;unfold Ybz;split at h
 ·rename_i d hd;(try rw[hd]);cases h;exact k
 ·cases h
theorem Zvw{d:Xa}(h:ME X io p c e (mC d)):ME X io p c e (o2 (fC d)):=h.weak λδ K ⟨r,δ',h,k⟩=>by cases h;exact k
noncomputable def ByS(g:Xa->Xa->Option Xa)(rp:Xa->Xa->(Xa->Prop)->Prop):Prop:=∀d e r k,g d e=YB r->k r->rp d e k
noncomputable def ByO(g:Xa->Xa->Option OT)(rp:Xa->Xa->(OT->Prop)->Prop):Prop:=∀d e r k,g d e=YB r->k r->rp d e k
theorem Z0g{g rp}(G:ByS g rp){δ:Zh}{K:OT->Zh->Prop}(h:o2 (Zi g fa fb) δ K):Znm rp (o2 fa) (o2 fb) δ K:=by
 obtain⟨r,δ',h,k⟩:=h;obtain⟨⟨x,δ1⟩,h1,h⟩:=bs h;obtain⟨⟨y,δ2⟩,h2,h⟩:=bs h;obtain⟨d,h3,h⟩:=bs h;cases h;exact⟨x,δ1,h1,y,δ2,h2,G _ _ _ _ h3 k⟩
theorem Wz{g rp}(G:ByS g rp)(h:ME X io p c e (Znm rp (o2 fa) (o2 fb))):ME X io p c e (o2 (Zi g fa fb)):=h.weak λδ K z=>Z0g G z
theorem Yh1{f:FE}{δ:Zh}{K:Bool->Zh->Prop}(h:o2 (tV f) δ K):o2 f δ (kB K):=by
 obtain⟨b,δ',h,k⟩:=h;obtain⟨⟨x,δ1⟩,h1,h⟩:=bs h;refine⟨x,δ1,h1,?_⟩;unfold kB
 try dsimp only at h⊢
 split at h
 ·cases h;exact k
 ·cases h
theorem Zev{g rp}(G:ByS g rp)(h:MT X io p e (λδ K=>Znm rp (o2 fa) (o2 fb) δ (kB K))):MT X io p e (o2 (tV (Zi g fa fb))):=h.weak λδ K z=>Z0g G (Yh1 z)
theorem Zi4{g rp}(G:ByO g rp)(h:ME X io p c e (Ybl rp (o2 fa) (o2 fb))):ME X io p c e (o2 (Yb g fa fb)):=h.weak λδ K h=>by
 obtain⟨r,δ',h,k⟩:=h;obtain⟨⟨x,δ1⟩,h1,h⟩:=bs h;obtain⟨⟨y,δ2⟩,h2,h⟩:=bs h;obtain⟨d,h3,h⟩:=bs h;cases h;exact⟨x,δ1,h1,y,δ2,h2,G _ _ _ _ h3 k⟩
noncomputable def Ybn:Xa->Option Xa| .int i=>YB (.int (-i))|_=>YC
noncomputable def Ycc:Xa->Option Xa| .bool b=>YB (.bool (!b))|_=>YC
theorem Z82(h:ME X io p c e (Yhe (o2 fa))):ME X io p c e (o2 (fUn Ybn fa)):=h.weak λδ K h=>by
 obtain⟨r,δ',h,k⟩:=h;obtain⟨⟨x,δ1⟩,h1,h⟩:=bs h;obtain⟨d,h3,h⟩:=bs h;cases h;refine⟨x,δ1,h1,?_⟩;dsimp only at h3⊢;cases q:x.data<;>rw[q]at h3<;>cases h3
 exact k
theorem Z01(h:ME X io p c e (Z88 (o2 fa))):ME X io p c e (o2 (fUn Ycc fa)):=h.weak λδ K h=>by
 obtain⟨r,δ',h,k⟩:=h;obtain⟨⟨x,δ1⟩,h1,h⟩:=bs h;obtain⟨d,h3,h⟩:=bs h;cases h;refine⟨x,δ1,h1,?_⟩;dsimp only at h3⊢;cases q:x.data<;>rw[q]at h3<;>cases h3
 exact k
theorem Zkd(h:ME X io p c e (Z7c (o2 fa) (o2 fb))):ME X io p c e (o2 (Zy3 fa fb)):=h.weak λδ K h=>by
 obtain⟨r,δ',h,k⟩:=h;obtain⟨⟨x,δ1⟩,h1,h⟩:=bs h;refine⟨x,δ1,h1,?_⟩
 try dsimp only at h⊢
 split at h
 ·rename_i q;(try rw[q]);rw[Zzn,YL rfl];exact⟨r,δ',h,k⟩
 ·rename_i q;(try rw[q]);cases h;rw[Zzn,YM XC];exact k
 ·cases h
theorem Yc9(h:ME X io p c e (mIf (o2 ta) (o2 fa) (o2 fb))):ME X io p c e (o2 (fIf ta fa fb)):=h.weak λδ K h=>by
 obtain⟨r,δ',h,k⟩:=h;obtain⟨⟨x,δ1⟩,h1,h⟩:=bs h;refine⟨x,δ1,h1,?_⟩
 try dsimp only at h⊢
 split at h
 ·rename_i q;rw[YL q];exact⟨r,δ',h,k⟩
 ·rename_i q;rw[YM q];exact⟨r,δ',h,k⟩
theorem Z5r(h:MT X io p e (Yfr (o2 ta))):MT X io p e (o2 (tNo ta)):=h.weak λδ K h=>by
 obtain⟨r,δ',h,k⟩:=h;obtain⟨⟨x,δ1⟩,h1,h⟩:=bs h;cases h;exact⟨x,δ1,h1,k⟩
theorem Zyl(h:MW X io p e (mOr (o2 ta) (o2 tb))):MW X io p e (o2 (tO ta tb)):=h.weak λδ K h=>by
 obtain⟨r,δ',h,k⟩:=h;obtain⟨⟨x,δ1⟩,h1,h⟩:=bs h;refine⟨x,δ1,h1,?_⟩
 try dsimp only at h⊢
 split at h
 ·rename_i q;rw[YL q];cases h;exact k
 ·rename_i q;rw[YM q];exact⟨r,δ',h,k⟩
theorem Zc5(h:MT X io p e (Yfj (o2 fa))):MT X io p e (o2 (tD fa)):=h.weak λδ K h=>by
 obtain⟨r,δ',h,k⟩:=h;obtain⟨⟨x,δ1⟩,h1,h⟩:=bs h;obtain⟨d,h3,h⟩:=bs h;cases h;refine⟨x,δ1,h1,?_⟩;dsimp only at h3⊢;rw[h3];exact k
theorem Z8w(h:MA X io p c es Yg9):MA X io p c es (o2 Zn):=h.weak λδ K ⟨r,δ',h,k⟩=>by cases h;exact k
theorem Z32(h:MA X io p c es (Z67 (o2 fa) (o2 ra))):MA X io p c es (o2 (Zc fa ra)):=h.weak λδ K h=>by
 obtain⟨r,δ',h,k⟩:=h;obtain⟨⟨x,δ1⟩,h1,h⟩:=bs h;obtain⟨⟨y,δ2⟩,h2,h⟩:=bs h;cases h;exact⟨x,δ1,h1,y,δ2,h2,k⟩
theorem Z6s(h:ME X io p c e (Yhh (o2 ra))):ME X io p c e (o2 (Zfm ra)):=h.weak λδ K h=>by
 obtain⟨r,δ',h,k⟩:=h;obtain⟨⟨x,δ1⟩,h1,h⟩:=bs h;refine⟨x,δ1,h1,?_⟩;dsimp only at h;split at h
 ·rename_i q;cases h;exact⟨q,k⟩
 ·cases h
theorem Z53(h:ME X io p c e (Ygo (o2 ra))):ME X io p c e (o2 (Zb0 ra)):=h.weak λδ K h=>by
 obtain⟨r,δ',h,k⟩:=h;obtain⟨⟨x,δ1⟩,h1,h⟩:=bs h;refine⟨x,δ1,h1,?_⟩;dsimp only at h;split at h
 ·rename_i q;cases h;exact⟨q,k⟩
 ·cases h
theorem Z48{F:FD}(h:ME X io p c e (Zwu (sD F) (o2 ra))):ME X io p c e (o2 (Zv F ra)):=h.weak λδ K h=>by
 obtain⟨r,δ',h,k⟩:=h;obtain⟨⟨x,δ1⟩,h1,h⟩:=bs h;refine⟨x,δ1,h1,?_⟩;dsimp only at h;split at h
 ·rename_i q;cases h;exact⟨_,q,k⟩
 ·cases h
theorem Ws{F:FIO}(h:ME X io p c e (Zmg i (sI F) (o2 ra))):ME X io p c e (o2 (Jg i F ra)):=h.weak λδ K h=>by
 obtain⟨r,δ',h,k⟩:=h;unfold Jg at h;unfold Zmg;split at h
 case h_2=>cases h
 rename_i t0 q0
 (try rw[q0])
 obtain⟨⟨x,δ1⟩,h1,h⟩:=bs h;refine⟨x,δ1,h1,?_⟩
 try dsimp only at h⊢
 split at h
 case h_2=>cases h
 rename_i t q
 (try rw[q])
 obtain⟨⟨y,t'⟩,h2,h⟩:=bs h;cases h;exact⟨_,_,h2,k⟩
theorem Ze4{g rp}(G:∀ds r k,g ds=YB r->k r->rp ds k)(h:ME X io p c e (Ybd rp (o2 ra))):ME X io p c e (o2 (Zaq g ra)):=h.weak λδ K h=>by
 obtain⟨r,δ',h,k⟩:=h;obtain⟨⟨x,δ1⟩,h1,h⟩:=bs h;obtain⟨d,h3,h⟩:=bs h;cases h;exact⟨x,δ1,h1,G _ _ _ h3 k⟩
theorem Z1x{g rp}(G:∀ds r k,g ds=YB r->k r->rp ds k)(h:ME X io p c e (mBl rp (o2 ra))):ME X io p c e (o2 (fBl g ra)):=h.weak λδ K h=>by
 obtain⟨r,δ',h,k⟩:=h;obtain⟨⟨x,δ1⟩,h1,h⟩:=bs h;obtain⟨d,h3,h⟩:=bs h;cases h;exact⟨x,δ1,h1,G _ _ _ h3 k⟩
theorem Zzs{T:String}(h:ME X io p c e (Ye2 T (o2 fa))):ME X io p c e (o2 (Ybm T fa)):=h.weak λδ K h=>by
 obtain⟨r,δ',h,k⟩:=h;obtain⟨⟨x,δ1⟩,h1,h⟩:=bs h
 by_cases hf:Zlx x.data=YD
 ·have h':(if Zlx x.data=YD then YC else YB (OT.fz (.bool (Zv3 T x.data)),δ1))=YB (r,δ'):=h
  rw[YL hf]at h';cases h'
 ·have h':(if Zlx x.data=YD then YC else YB (OT.fz (.bool (Zv3 T x.data)),δ1))=YB (r,δ'):=h
  rw[YM hf]at h';injection h' with h';injection h' with e1 e2;subst e1 e2;exact⟨x,_,h1,Vq.mpr hf,k⟩
theorem Zvj(h:MO X io p eo Zst):MO X io p eo (o2 oN):=h.weak λδ K ⟨r,δ',h,k⟩=>by cases h;exact k
theorem Zvl(h:MO X io p eo (Z8l (o2 fa))):MO X io p eo (o2 (oI fa)):=h.weak λδ K h=>by
 obtain⟨r,δ',h,k⟩:=h;obtain⟨⟨x,δ1⟩,h1,h⟩:=bs h;refine⟨x,δ1,h1,?_⟩
 try dsimp only at h⊢
 split at h
 ·rename_i q;(try rw[q]);cases h;exact k
 ·cases h
theorem Ya0{lo hi:FO}(h:ME X io p c e (mSl (o2 fa) (o2 lo) (o2 hi))):ME X io p c e (o2 (fSl fa lo hi)):=h.weak λδ K h=>by
 obtain⟨r,δ',h,k⟩:=h;obtain⟨⟨x,δ1⟩,h1,h⟩:=bs h;obtain⟨⟨y,δ2⟩,h2,h⟩:=bs h;obtain⟨⟨z,δ3⟩,h3,h⟩:=bs h;refine⟨x,δ1,h1,y,δ2,h2,z,δ3,h3,?_⟩
 try dsimp only at h⊢
 split at h
 ·rename_i q;(try rw[q]);cases h;exact k
 ·cases h
theorem Z2s{f g:Int->Int->Bool}{δ:Zh}{K:OT->Zh->Prop}(h:o2 (Zmu f g fa fb fc) δ K):Zp5 f g (o2 fa) (o2 fb) (o2 fc) δ K:=by
 obtain⟨r,δ',h,k⟩:=h;obtain⟨⟨x,δ1⟩,h1,h⟩:=bs h;obtain⟨⟨y,δ2⟩,h2,h⟩:=bs h;refine⟨x,δ1,h1,y,δ2,h2,?_⟩
 try dsimp only at h⊢
 split at h
 case h_2=>cases h
 rename_i i j q1 q2
 (try rw[q1,q2])
 show(if f i j=YD then _ else _);split at h
 ·rename_i hf
  rw[YL hf];obtain⟨⟨z,δ3⟩,h3,h⟩:=bs h;refine⟨z,δ3,h3,?_⟩
  try dsimp only at h⊢
  split at h
  ·rename_i q;(try rw[q]);cases h;exact k
  ·cases h
 ·rename_i hf
  rw[YM hf];cases h;exact k
theorem Zxc{f g:Int->Int->Bool}(h:ME X io p c e (Zp5 f g (o2 fa) (o2 fb) (o2 fc))):ME X io p c e (o2 (Zmu f g fa fb fc)):=h.weak λδ K z=>Z2s z
theorem Z3y(h:MI X io p c tg e (iL (o2 fa))):MI X io p c tg e (o2 (Zcu fa)):=h.weak λδ K h=>by
 obtain⟨r,δ',h,k⟩:=h;obtain⟨⟨x,δ1⟩,h1,h⟩:=bs h;refine⟨x,δ1,h1,?_⟩
 try dsimp only at h⊢
 split at h
 ·rename_i q;(try rw[q]);cases h;exact k
 ·cases h
theorem Zdw(h:MI X io p c tg e (iR1 (o2 ra))):MI X io p c tg e (o2 (iRa ra)):=h.weak λδ K h=>by
 obtain⟨r,δ',h,k⟩:=h;obtain⟨⟨x,δ1⟩,h1,h⟩:=bs h;refine⟨x,δ1,h1,?_⟩
 try dsimp only at h⊢
 split at h
 case h_2=>cases h
 rename_i q
 (try rw[q])
 try dsimp only
 split at h
 ·rename_i b;cases h;exact⟨Zaf b,k⟩
 ·cases h
theorem Zwh(h:MI X io p c tg e (iR2 (o2 ra))):MI X io p c tg e (o2 (iRb ra)):=h.weak λδ K h=>by
 obtain⟨r,δ',h,k⟩:=h;obtain⟨⟨x,δ1⟩,h1,h⟩:=bs h;refine⟨x,δ1,h1,?_⟩
 try dsimp only at h⊢
 split at h
 case h_2=>cases h
 rename_i q
 (try rw[q])
 try dsimp only
 split at h
 ·rename_i b
  cases h;rw[Xv]at b;exact⟨⟨(Zaf b.1).1,(Zaf b.1).2,(Zaf b.2).1,(Zaf b.2).2⟩,k⟩
 ·cases h
theorem Z46(h:MG X io c tg (dName i)):MG X io c tg (oG (gNm i)):=h.weak λd δ K ⟨δ',h,k⟩=>by cases h;exact k
theorem Z40(h:MGs X io c es Yg0):MGs X io c es (oGs gNl):=h.weak λd δ K q94=>by
 obtain⟨δ',h,k⟩:=q94;unfold gNl at h;split at h
 ·cases h;exact⟨rfl,k⟩
 ·cases h
theorem Zph{g:FG}{gs:FGs}(h:MGs X io c es (Z9w (oG g) (oGs gs))):MGs X io c es (oGs (gCn g gs)):=h.weak λd δ K q95=>by
 obtain⟨δ',h,k⟩:=q95;unfold gCn at h;split at h
 ·obtain⟨δ1,h1,h⟩:=bs h
  exact⟨δ1,h1,δ',h,k⟩
 ·cases h
theorem Z87{n:Nat}{gs:FGs}(h:MG X io c tg (dTup n (oGs gs))):MG X io c tg (oG (gTp n gs)):=h.weak λd δ K q96=>by
 obtain⟨δ',h,k⟩:=q96;unfold gTp at h;split at h
 case h_2=>cases h
 split at h
 ·rename_i q;exact⟨q,δ',h,k⟩
 ·cases h
theorem Y8(h:MIfs X io p es Yac):MIfs X io p es (o2 Zc7):=h.weak λδ K ⟨r,δ',h,k⟩=>by cases h;exact k
theorem Z4y{g:FG}{t:FT}{me:FE}{ds:List Xa}{δ0:Zh}{zs:List OT}{δe:Zh}(h:compLoop g t me ds δ0=YB (zs,δe)) :
  ∃I:Nat->List OT->Zh->Prop,I 0 [] δ0∧
 (∀ (i:Nat) (d:Xa) (rs:List OT) (δ':Zh),ds[i]? =YB d->I i rs δ'->oG g d δ' λδ2=>o2 t δ2 λb δ3=>if b=YD then o2 me δ3 λr δ4=>I (i+1) (rs++[r]) δ4 else I (i+1) rs δ3)∧
 ∀rs δ',I ds.length rs δ'->rs=zs∧δ'=δe:=by
 refine⟨λi rs δ'=>∃ys,rs++ys=zs∧compLoop g t me (ds.drop i) δ'=YB (ys,δe),⟨zs,rfl,by rw[List.drop_zero];exact h⟩,?_,?_⟩
 ·rintro i d rs δ' hd ⟨ys,e,hl⟩
  obtain⟨hi,hdi⟩:=Xw.mp hd;rw[V2 hi,hdi]at hl;unfold compLoop at hl;obtain⟨δ1,h1,hl⟩:=bs hl;obtain⟨⟨b,δ2⟩,h2,hl⟩:=bs hl;refine⟨δ1,h1,b,δ2,h2,?_⟩;dsimp only at hl;split at hl
  ·rename_i hb
   rw[YL hb];obtain⟨⟨r,δ3⟩,h3,hl⟩:=bs hl;obtain⟨⟨ws,δ4⟩,h4,hl⟩:=bs hl;cases hl;exact⟨r,δ3,h3,ws,by rw[Bm];exact e,h4⟩
  ·rename_i hb
   rw[YM hb];exact⟨ys,e,hl⟩
 ·rintro rs δ' ⟨ys,e,hl⟩
  rw[List.drop_length]at hl;unfold compLoop at hl;cases hl;exact⟨by rw[←e,QW],rfl⟩
theorem Zuw{n:Nat}{caps:List Nat}{it:FI}{g:FG}{t:FT}{me:FE}{δ:Zh}{K:OT->Zh->Prop}(h:o2 (Yr n caps it g t me) δ K):Zia n caps (o2 it) (oG g) (o2 t) (o2 me) δ K:=by
 obtain⟨r,δ',h,k⟩:=h;obtain⟨⟨ds,δ1⟩,h1,h⟩:=bs h;refine⟨ds,δ1,h1,?_⟩;dsimp only at h;split at h
 case isFalse=>cases h
 rename_i hz;obtain⟨⟨zs,δe⟩,h2,h⟩:=bs h;cases h;obtain⟨I,i0,st,en⟩:=Z4y h2;refine⟨hz,I,i0,st,λrs δ'' q=>?_⟩;obtain⟨rfl,rfl⟩:=en rs δ'' q;exact k
theorem Jk{n:Nat}{caps:List Nat}{it:FI}{g:FG}{t:FT}{me:FE}(h:ME X io p c e (Zia n caps (o2 it) (oG g) (o2 t) (o2 me))):ME X io p c e (o2 (Yr n caps it g t me)):=h.weak λδ K z=>Zuw z
end
section
variable {X:Cx}{io:List Nat}{p c:Bool}{e tg iter:YJ}{es:List YJ}{st:YK}{sts:List YK}{fa fb fc:FE}{ra:FA}{ta tb:FT}{i:Nat}{f g u w:FS}
theorem Z5u(h:MSs X io sts (Yb9 (oS f) (oS g))):MSs X io sts (oS (Z5 f g)):=h.weak λD δ h=>by
 unfold oS Z5 at h;unfold Yb9 oS;cases q:f δ<;>rw[q]at h<;>exact h
theorem Z3q(h:MSs X io sts Z80):MSs X io sts (oS fNx):=h.weak λD δ h=>h
theorem Zqt{k:OT->Zh->RS}{D:Zhv}{δ:Zh}(h:oS (wE fa k) D δ):o2 fa δ λr δ'=>(k r δ').fits D:=by
 unfold oS wE at h;split at h
 ·rename_i q;exact⟨_,_,q,h⟩
 ·exact h.elim
theorem o2.imp{α:Type}{f:Zh->Option (α×Zh)}{δ:Zh}{K K':α->Zh->Prop}(h:o2 f δ K)(k:∀r δ',K r δ'->K' r δ'):o2 f δ K':=let⟨r,δ',e,q⟩:=h;⟨r,δ',e,k r δ' q⟩
theorem Zwb{P:Prop}[Decidable P]{a:RS}{D:Zhv}(h:(if P then a else .bad:RS).fits D):P∧a.fits D:=by
 split at h
 ·exact⟨‹_›,h⟩
 ·exact h.elim
theorem Z30(h:MS X io st (Z8x (o2 fa))):MS X io st (oS (wE fa Zw3)):=h.weak λD δ h=>Zqt h
theorem Yak(h:MS X io st (Ygw (o2 fa))):MS X io st (oS (wE fa J7)):=h.weak λD δ h=>Zqt h
theorem Zc9(h:MS X io st (Zwv i)):MS X io st (oS (Zgb i)):=h.weak λD δ h=>by
 unfold oS Zgb at h;unfold Zwv;split at h
 ·rename_i q;(try rw[q]);exact h
 ·exact h.elim
theorem Ycm(h:MS X io st (Ygl (o2 ta) (oS u) (oS w))):MS X io st (oS (Zbr ta u w)):=h.weak λD δ h=>by
 unfold oS Zbr at h;split at h
 ·rename_i b δ' q
  refine⟨b,δ',q,?_⟩;split at h
  ·rename_i hb;rw[YL hb];exact h
  ·rename_i hb;rw[YM hb];exact h
 ·exact h.elim
theorem Zs1(h:MS X io st (Z5j i (o2 fa))):MS X io st (oS (wE fa (W2 i))):=h.weak λD δ h=>Zqt h
theorem Z2z(h:MS X io st (Zra i (o2 fa))):MS X io st (oS (wE fa (Zat i))):=h.weak λD δ h=>Zqt h
section
variable {n:Nat}{caps:List Nat}{o q:Nat}{it:FI}{gg:FG}{t:FT}{me:FE}
theorem Zke(h:MS X io st (if YD=YD then Zra i (Zia n caps (o2 it) (oG gg) (o2 t) (o2 me))else Z5j i (Zia n caps (o2 it) (oG gg) (o2 t) (o2 me)))):MS X io st (oS (wE (Yr n caps it gg t me) (Zat i))) :=
 h.weak λD δ h=>by rw[YL rfl];exact Zuw (Zqt h)
theorem Zdn(h:MS X io st (if YF=YD then Zra i (Zia n caps (o2 it) (oG gg) (o2 t) (o2 me))else Z5j i (Zia n caps (o2 it) (oG gg) (o2 t) (o2 me)))):MS X io st (oS (wE (Yr n caps it gg t me) (W2 i))) :=
 h.weak λD δ h=>by rw[YM XC];exact Zuw (Zqt h)
end
theorem Z7k{gg:FG}(h:MS X io st (Yfq (o2 fa) (oG gg))):MS X io st (oS (wE fa (Z8f gg))):=h.weak λD δ h=>(Zqt h).imp λr δ' q=>by
 unfold Z8f at q;split at q
 ·rename_i z;exact⟨_,z,q⟩
 ·exact q.elim
theorem Wu(h:MS X io st (Zkt i (o2 fa))):MS X io st (oS (Yw i fa)):=h.weak λD δ h=>by
 unfold oS Yw at h;unfold Zkt;split at h
 case h_2=>exact h.elim
 rename_i q;(try rw[q]);refine(Zqt h).imp λr δ' z=>?_;split at z
 ·rename_i q2;(try rw[q2]);exact Zwb z
 ·exact z.elim
theorem Yal(h:MS X io st (Ygp i (o2 fa) (o2 fb))):MS X io st (oS (Z56 i fa fb)):=h.weak λD δ h=>by
 refine(Zqt h).imp λr δ' z=>?_;split at z
 case h_2=>exact z.elim
 rename_i q;(try rw[q]);refine(Zqt z).imp λn δ2 z=>?_;split at z
 case h_2=>exact z.elim
 rename_i k q2;(try rw[q2]);show match ixN _ k with|some j=>_|none=>_
 split at z
 ·rename_i q3;(try rw[q3]);exact z
 ·exact z.elim
theorem Znf(h:MS X io st (Z71 i (o2 fa) (o2 fb) (o2 fc))):MS X io st (oS (Zg3 i fa fb fc)):=h.weak λD δ h=>by
 refine(Zqt h).imp λr δ' z=>?_;split at z
 case h_2=>exact z.elim
 rename_i q;(try rw[q]);refine(Zqt z).imp λn δ2 z=>?_;split at z
 case h_2=>exact z.elim
 rename_i k q2;(try rw[q2]);show match ixN _ k with|some j=>_|none=>_
 split at z
 case h_2=>exact z.elim
 rename_i q3;(try rw[q3])
 try dsimp only
 split at z
 case h_2=>exact z.elim
 rename_i q4;(try rw[q4]);refine(Zqt z).imp λn' δ3 z=>?_;split at z
 case h_2=>exact z.elim
 rename_i k' q5;(try rw[q5]);show match ixN _ k' with|some j=>_|none=>_
 split at z
 ·rename_i q6;(try rw[q6]);exact z
 ·exact z.elim
theorem Zex(h:MS X io st (Zkb i (oS u))):MS X io st (oS (Zce i u)):=h.weak λD δ h=>by
 unfold oS Zce at h;unfold Zkb;split at h
 ·rename_i q;(try rw[q]);exact h
 ·exact h.elim
theorem Zad{gg:FG}{d:Xa}{ds:List Xa}{δ:Zh}:forLoop gg u (d::ds) δ=match gg d δ with
  | none=>.bad
  | some δ1=>match u δ1 with
   | .nx δ2=>forLoop gg u ds δ2
   | .ct δ2=>forLoop gg u ds δ2
   | .bk δ2=>.nx δ2
   | r=>r:=rfl
theorem Z59{it:FI}{gg:FG}(h:MS X io st (Yg4 (o2 it) (oG gg) (oS u))):MS X io st (oS (Zaj it gg u)):=h.weak λD δ h=>by
 unfold oS Zaj at h;split at h
 case h_2=>exact h.elim
 rename_i ds δ1 q;refine⟨ds,δ1,q,λi δ'=>(forLoop gg u (ds.drop i) δ').fits D,by show RS.fits D (forLoop gg u (ds.drop 0) δ1);rw[List.drop_zero];exact h,λi d δ' hd z=>?_,λδ' z=>?_⟩
 ·obtain⟨hi,hdi⟩:=Xw.mp hd
  replace z:RS.fits D (forLoop gg u (ds.drop i) δ'):=z;rw[V2 hi,hdi,Zad]at z;split at z
  case h_1=>exact z.elim
  rename_i δ2 q2;refine⟨δ2,q2,?_⟩;unfold oS;cases q3:u δ2<;>rw[q3]at z<;>(try rw[q3])<;>exact z
 ·replace z:RS.fits D (forLoop gg u (ds.drop ds.length) δ'):=z
  rw[List.drop_length]at z;exact z
theorem Zox(h:MS X io st (Z0o (o2 ta) (oS u))):MS X io st (oS (Zjp ta u)):=h.weak λD δ h=>by
 unfold oS Zjp at h;split at h
 case isFalse=>exact h.elim
 rename_i hn;refine⟨λn δ'=>(whileLoop ta u n δ').fits D,⟨_,h⟩,λn δ' z=>?_⟩;cases n with
 | zero=>exact z.elim
 | succ n=>
  unfold whileLoop at z;split at z
  case h_1=>exact z.elim
  rename_i b δ1 q;refine⟨b,δ1,q,?_⟩;split at z
  ·rename_i hb
   rw[YL hb];refine⟨λδ''=>(whileLoop ta u n δ'').fits D,λδ'' y=>⟨n,Vv n,y⟩,?_⟩;unfold oS;cases q3:u δ1<;>rw[q3]at z<;>exact z
  ·rename_i hb
   rw[YM hb];exact z
theorem Zd4{n m:Nat}:∀{δ:Zh},whileLoop ta u n δ≠ .bad->whileLoop ta u (n+m) δ=whileLoop ta u n δ:=by
 induction n with
 | zero=>intro δ h;exact YX rfl h
 | succ n ih=>
  intro δ h;rw[Nat.succ_add];unfold whileLoop at h⊢;cases q:ta δ with
  | none=>rfl
  | some x=>
   obtain⟨b,δ1⟩:=x;rw[q]at h
   try dsimp only at h⊢
   split
   ·rename_i hb
    rw[YL hb]at h;cases q3:u δ1<;>rw[q3]at h<;>first|exact ih h|rfl
   ·rfl
theorem Zm3{r:RS}{δ:Zh}(n:Nat)(h:whileLoop ta u n δ=r)(hr:r≠ .bad):Zjp ta u δ=r:=by
 have hn:∃n,whileLoop ta u n δ≠ .bad:=⟨n,by rw[h];exact hr⟩;unfold Zjp;rw[dif_pos hn];have h1:=Classical.choose_spec hn;have e1:=Zd4 (m:=n) h1;have e2:=Zd4 (m:=Classical.choose hn) (show whileLoop ta u n δ≠ .bad by rw[h];exact hr);rw[Nat.add_comm]at e2;rw[←e1,e2,h]
theorem Ze6{cn:Str}:MS X io st (oS (Zh9 cn)):=Zx9.weak λD δ h=>h
class NoEx (f:FS):Prop where
 no:∀δ cn δ',f δ≠ .ex cn δ'
class NoExK (k:OT->Zh->RS):Prop where
 no:∀r δ cn δ',k r δ≠ .ex cn δ'
end
section
variable {P:Qe}{w:Qz}{K:Xb}{mg:Str->Option Xf}{base:YH}{x qual:Str}{st:YK}{f:YG}{fd:XN}{N ps:List Str}{n np nn:Nat}{S:FS}
theorem RS.told_fits{r:RS}{o:OT}{k:OT->Prop}(h:r.told= .ok o)(hk:k o):r.fits (Z1r k):=by
 cases r<;>unfold RS.told at h<;>first|(cases h;exact hk)|cases h
theorem Yc(F:Fun K x qual st f fd)(Sc:Zt N ps (Zm st))(hN:N.length=nn)(hp:np=ps.length)
  (hb:∀(cdv:Xf) (A:Qs) (outer:List Env) (s:Xg) (H:Hp) (E:XK),Room n (A.deeper (envOfC qual (Zm st) s.heap.objs.size f cdv))->MSs (Zv2 CX0 P w K mg base N qual (Zm st) f cdv A outer s H E).nox [] (Za7 st) (oS S)) :
  FnOk P w K mg base CX0 (n+1) f fd ps (spD K (sD (Zah np nn S))):=by
 subst hN hp;refine F.okD Sc (λds k h=>?_) λcdv A outer s H E hr=>⟨_,hb cdv A outer s H E hr,λds k h=>?_⟩
 ·obtain⟨r,h,_⟩:=h
  unfold Zah at h;split at h
  ·assumption
  ·cases h
 ·obtain⟨r,h,hk⟩:=h
  unfold Zah at h;split at h
  ·exact RS.told_fits h hk
  ·cases h
theorem Zvu(F:Fun K x qual st f fd)(Sc:Zt N ps (Zm st))(hN:N.length=nn)(hp:np=ps.length)
  (hb:∀(cdv:Xf) (A:Qs) (outer:List Env) (s:Xg) (H:Hp) (E:XK),Room n (A.deeper (envOfC qual (Zm st) s.heap.objs.size f cdv))->MSs (Zv2 CX0 P w K mg base N qual (Zm st) f cdv A outer s H E).nox [0] (Za7 st) (oS S)) :
  FnOk P w K mg base CX0 (n+1) f fd ps (spI K (sI (Zxx np nn S))):=by
 subst hN hp;refine F.okI Sc (λt ds k h=>?_) λcdv A outer s H E hr=>⟨_,hb cdv A outer s H E hr,λt ds k h=>?_⟩
 ·obtain⟨r,t',h,_⟩:=h
  unfold Zxx at h;split at h
  ·assumption
  ·cases h
 ·obtain⟨r,t',h,hk⟩:=h
  unfold Zxx at h;split at h
  case isFalse=>cases h
  have e:Zko N.length t ds=Zij N t ds:=rfl;rw[e]at h;show(S (Zij N t ds)).fits (Z1z k);cases q:S (Zij N t ds)<;>rw[q]at h<;>unfold RS.toldI at h<;>first|cases h|skip
  ·rename_i δ
   show match δ[0]? with|some (YB t)=>k (.fz .none) t|_=>False
   dsimp only at h;split at h
   ·rename_i z;(try rw[z]);cases h;exact hk
   ·cases h
  ·rename_i r' δ
   show match δ[0]? with|some (YB t)=>k r' t|_=>False
   dsimp only at h;split at h
   ·rename_i z;(try rw[z]);cases h;exact hk
   ·cases h
end
noncomputable def i2(g:Int->Int->Xa):Xa->Xa->Option Xa:=λd e=>match d,e with| .int i,.int j=>YB (g i j)|_,_=>YC
noncomputable def i2c(c:Int->Int->Bool)(g:Int->Int->Xa):Xa->Xa->Option Xa:=λd e=>match d,e with| .int i,.int j=>if c i j=YD then YB (g i j)else YC|_,_=>YC
theorem Zq5{g:Int->Int->Xa}:ByS (i2 g) (Zxl g):=λd e r k h hk=>by
 unfold i2 at h;split at h
 ·cases h;exact hk
 ·cases h
theorem Zpd{c:Int->Int->Bool}{C:Int->Int->Prop}{g:Int->Int->Xa}(hc:∀i j,c i j=YD->C i j):ByS (i2c c g) (d2I C g):=λd e r k h hk=>by
 unfold i2c at h;split at h
 ·split at h
  ·cases h;exact⟨hc _ _ ‹_›,hk⟩
  ·cases h
 ·cases h
noncomputable def Z00(a b:Int):Bool:=!(decide (JZ a>shortFactorBits)&&decide (JZ b>shortFactorBits)&&Builtin.Int.intTooBig (JZ a+JZ b))
noncomputable def Z7h(_ j:Int):Bool:=decide (j≠0)&&decide (j.natAbs.log2<9000)
noncomputable def Ygm(_ j:Int):Bool:=decide (j≠0)
noncomputable def Yi9(i j:Int):Bool:=decide (0≤j∧j≤1000000∧i.natAbs<2^64)
theorem Zhd{a b:Int}:Z00 a b=YD↔IntMulOk a b:=by
 unfold Z00 IntMulOk;rw[Bool.not_eq_true',Bool.not_eq_true]
noncomputable def Zeh:=i2 λi j=>.int (i+j)
noncomputable def gSb:=i2 λi j=>.int (i-j)
noncomputable def Zcs:=i2c Z00 λi j=>.int (i*j)
noncomputable def Za9:=i2c Z7h λi j=>.int (i.fdiv j)
noncomputable def Zju:=i2c Ygm λi j=>.int (i.fmod j)
noncomputable def Zlg:=i2c Yi9 λi j=>.int (i^j.toNat)
noncomputable def gLt:=i2 λi j=>.bool (decide (i<j))
noncomputable def gLe:=i2 λi j=>.bool (decide (i≤j))
noncomputable def gGt:=i2 λi j=>.bool (decide (j<i))
noncomputable def gGe:=i2 λi j=>.bool (decide (j≤i))
theorem Yc0:ByS Zeh (Zxl λi j=>.int (i+j)):=Zq5
theorem Ydk:ByS gSb (Zxl λi j=>.int (i-j)):=Zq5
theorem Yef:ByS Zcs (d2I MulOk λi j=>.int (i*j)):=Zpd λi j h=>⟨Zhd.mp h⟩
theorem Yaw:ByS Za9 (d2I Yg6 λi j=>.int (i.fdiv j)):=Zpd λi j h=>⟨by
 unfold Z7h at h;rw[Xv]at h;exact⟨YW h.1,YW h.2⟩⟩
theorem Yco:ByS Zju (d2I (λ_ j=>j≠0) λi j=>.int (i.fmod j)):=Zpd λi j h=>YW h
theorem Ycs:ByS Zlg (d2I Ygj λi j=>.int (i^j.toNat)):=Zpd λi j h=>⟨(YW h:0≤j∧j≤1000000∧i.natAbs<2^64)⟩
theorem Yb3:ByS gLt (Zxl λi j=>.bool (decide (i<j))):=Zq5
theorem Yie:ByS gLe (Zxl λi j=>.bool (decide (i≤j))):=Zq5
theorem Yfz:ByS gGt (Zxl λi j=>.bool (decide (j<i))):=Zq5
theorem Yiv:ByS gGe (Zxl λi j=>.bool (decide (j≤i))):=Zq5
noncomputable def gEq:Xa->Xa->Option Xa:=λd e=>if(U7 d&&U7 e)=YD then YB (.bool (Q3 d e))else YC
noncomputable def gNe:Xa->Xa->Option Xa:=λd e=>if(U7 d&&U7 e)=YD then YB (.bool (!Q3 d e))else YC
theorem Zx1:ByS gEq dEq:=λd e r k h hk=>by
 unfold gEq at h;split at h
 ·rename_i q
  rw[Xv]at q;cases h;exact⟨⟨q.1⟩,⟨q.2⟩,hk⟩
 ·cases h
theorem Yiu:ByS gNe dNe:=λd e r k h hk=>by
 unfold gNe at h;split at h
 ·rename_i q
  rw[Xv]at q;cases h;exact⟨⟨q.1⟩,⟨q.2⟩,hk⟩
 ·cases h
noncomputable def gIs:Xa->Xa->Option Xa:=λd e=>match e with| .none=>YB (.bool (Zgd d))|_=>YC
noncomputable def Zo9:Xa->Xa->Option Xa:=λd e=>match e with| .none=>YB (.bool (!Zgd d))|_=>YC
theorem Z07:ByS Zo9 Z97:=λd e r k h hk=>by
 unfold Zo9 at h;split at h
 ·cases h;exact⟨rfl,hk⟩
 ·cases h
noncomputable def Z2g(neg:Bool):Xa->Xa->Option Xa:=λd e=>match Zpr e with
 | some ds=>if(scD d&&ds.all scD)=YD then YB (.bool (if neg then !memS d ds else memS d ds))else YC
 | none=>YC
theorem Z7u{neg:Bool}:ByS (Z2g neg) (dIn neg):=λd e r k h hk=>by
 unfold Z2g at h;split at h
 case h_2=>cases h
 rename_i ds q;split at h
 case isFalse=>cases h
 rename_i q2;rw[Xv]at q2;cases h;refine⟨q2.1,?_⟩;cases e<;>cases q
 ·exact⟨q2.2,hk⟩
 ·exact⟨q2.2,hk⟩
noncomputable def gIx:Xa->Xa->Option OT:=λd e=>(ixD d e).bind λx=>YB (.fz x)
theorem Yiw:ByO gIx dIx:=λd e r k h hk=>by
 obtain⟨x,h1,h2⟩:=bs h;cases h2;unfold dIx;rw[h1];exact hk
noncomputable def Zrs:Xa->Xa->Option OT:=λd e=>match d,e with| .list ds,.list es=>if ds.length+es.length≤Xz then YB (.nd ((ds++es).map OT.fz))else YC|_,_=>YC
theorem Zqd:ByO Zrs dCat:=λd e r k h hk=>by
 unfold Zrs at h;split at h
 ·split at h
  ·cases h;exact⟨‹_›,hk⟩
  ·cases h
 ·cases h
noncomputable def Zcc:List Xa->Option Xa:=λds=>match ds with|[d]=>(Zv4 d).bind λn=>YB (.int n)|_=>YC
theorem Yd2:∀ds r k,Zcc ds=YB r->k r->Yfh ds k:=λds r k h hk=>by
 unfold Zcc at h;split at h
 ·obtain⟨n,h1,h2⟩:=bs h
  cases h2;show match Zv4 _ with|some n=>_|none=>_
  rw[h1];exact hk
 ·cases h
noncomputable def Z5h:List Xa->Option Xa:=λds=>match ds with|[.int i]=>YB (.int (if i<0 then -i else i))|_=>YC
theorem Z15:∀ds r k,Z5h ds=YB r->k r->Yfu ds k:=λds r k h hk=>by
 unfold Z5h at h;split at h
 ·cases h;exact hk
 ·cases h
noncomputable def Yik:List Xa->Option Xa:=λds=>match ds with|[.int i,.int j]=>YB (.int (if j>i then j else i))|_=>YC
noncomputable def Z0a:List Xa->Option Xa:=λds=>match ds with|[.int i,.int j]=>YB (.int (if j<i then j else i))|_=>YC
theorem Ydr:∀ds r k,Z0a ds=YB r->k r->Yf4 ds k:=λds r k h hk=>by
 unfold Z0a at h;split at h
 ·cases h;exact hk
 ·cases h
noncomputable def Zrk:List Xa->Option Xa:=λds=>match ds with|[.int i]=>YB (.int i)|[.bool b]=>YB (.int (if b then 1 else 0))|_=>YC
theorem Z9p:∀ds r k,Zrk ds=YB r->k r->Ye1 ds k:=λds r k h hk=>by
 unfold Zrk at h;split at h
 ·cases h;exact hk
 ·cases h;exact hk
 ·cases h
noncomputable def Zva:List Xa->Option OT:=λds=>match ds with|[d]=>(Zpr d).bind λes=>YB (.nd (es.map OT.fz))|_=>YC
theorem Z8j:∀ds r k,Zva ds=YB r->k r->Z5w ds k:=λds r k h hk=>by
 unfold Zva at h;split at h
 ·obtain⟨n,h1,h2⟩:=bs h
  cases h2;show match Zpr _ with|some n=>_|none=>_
  rw[h1];exact hk
 ·cases h
noncomputable def Zc8:List Xa->Option (List Int)
 | []=>YB []
 | .int i::r=>(Zc8 r).bind λl=>YB (i::l)
 | _::_=>YC
theorem Zba:∀{ds:List Xa} {ns:List Int},Zc8 ds=YB ns->ds=ns.map Xq
 | [],_,h=>by cases h;rfl
 | .int i::r,_,h=>by
  obtain⟨l,h1,h2⟩:=bs h;cases h2;rw[Zba h1];rfl
 | .none::_,_,h=>by cases h
 | .bool _::_,_,h=>by cases h
 | .str _::_,_,h=>by cases h
 | .list _::_,_,h=>by cases h
 | .tuple _::_,_,h=>by cases h
 | .dict _::_,_,h=>by cases h
@[simp] theorem Zaw:∀ns:List Int,Zc8 (ns.map Xq)=YB ns
 | []=>rfl
 | n::ns=>by rw[Qg,Zc8,Zaw ns];rfl
noncomputable def Z9r:List Xa->Option Xa:=λds=>match ds with|[.list es]=>(Zc8 es).bind λns=>YB (.int ns.sum)|_=>YC
theorem Yer:∀ds r k,Z9r ds=YB r->k r->Yfy ds k:=λds r k h hk=>by
 unfold Z9r at h;split at h
 ·obtain⟨n,h1,h2⟩:=bs h
  cases h2;exact⟨n,by rw[Zba h1],hk⟩
 ·cases h
section
variable {X:Cx}{io:List Nat}{p c:Bool}{e tg:YJ}{es:List YJ}{st:YK}{fa fb fc:FE}{ra:FA}{i:Nat}
noncomputable def Ya5(a:FA):FE:=λδ=>(a δ).bind λp=>match OT.datas p.1 with|[.int j]=>if rOk j=YD∧j.toNat≤Xz then YB (.nd ((Zdh 0 j.toNat).map OT.fz),p.2)else YC|_=>YC
noncomputable def Yby(a:FA):FE:=λδ=>(a δ).bind λp=>match OT.datas p.1 with|[.int i,.int j]=>if rOk i=YD∧rOk j=YD∧(j-i).toNat≤Xz then YB (.nd ((Zdh i (j-i).toNat).map OT.fz),p.2)else YC|_=>YC
theorem Yax(h:ME X io p c e (Yhc (o2 ra))):ME X io p c e (o2 (Ya5 ra)):=h.weak λδ K h=>by
 obtain⟨r,δ',h,k⟩:=h;obtain⟨⟨x,δ1⟩,h1,h⟩:=bs h;refine⟨x,δ1,h1,?_⟩;dsimp only at h;split at h
 case h_2=>cases h
 rename_i q;split at h
 case isFalse=>cases h
 rename_i b;cases h
 (try rw[q])
 exact⟨⟨(Zaf b.1).1,(Zaf b.1).2,b.2⟩,k⟩
theorem Yaa(h:ME X io p c e (Yf9 (o2 ra))):ME X io p c e (o2 (Yby ra)):=h.weak λδ K h=>by
 obtain⟨r,δ',h,k⟩:=h;obtain⟨⟨x,δ1⟩,h1,h⟩:=bs h;refine⟨x,δ1,h1,?_⟩;dsimp only at h;split at h
 case h_2=>cases h
 rename_i q;split at h
 case isFalse=>cases h
 rename_i b;cases h
 (try rw[q])
 exact⟨⟨(Zaf b.1).1,(Zaf b.1).2,(Zaf b.2.1).1,(Zaf b.2.1).2,b.2.2⟩,k⟩
noncomputable def Zvz(a b:FE):FE:=λδ=>(a δ).bind λp=>(b p.2).bind λq=>match q.1.data with| .int k=>if rOk k=YD∧k.toNat≤Xz then YB (.nd (XJ k.toNat (.fz p.1.data)),p.2)else YC|_=>YC
theorem Z0i(h:ME X io p c e (Ye6 (o2 fa) (o2 fb))):ME X io p c e (o2 (Zvz fa fb)):=h.weak λδ K h=>by
 obtain⟨r,δ',h,k⟩:=h;obtain⟨⟨x,δ1⟩,h1,h⟩:=bs h;obtain⟨⟨y,δ2⟩,h2,h⟩:=bs h;refine⟨x,δ1,h1,y,δ2,h2,?_⟩
 try dsimp only at h⊢
 split at h
 case h_2=>cases h
 rename_i q
 (try rw[q])
 split at h
 case isFalse=>cases h
 rename_i b;cases h;have z:=Zaf b.1;exact⟨⟨by omega,by omega,b.2⟩,k⟩
noncomputable def Zkw(a:FA):FE:=λδ=>(a δ).bind λp=>match OT.datas p.1 with|[.list es]=>(Zc8 es).bind λns=>if ns.length<4095 then YB (.fz (.int (Zsf ns)),p.2)else YC|_=>YC
theorem Zup(h:ME X io p c e (Zvn (o2 ra))):ME X io p c e (o2 (Zkw ra)):=h.weak λδ K h=>by
 obtain⟨r,δ',h,k⟩:=h;obtain⟨⟨x,δ1⟩,h1,h⟩:=bs h;refine⟨x,δ1,h1,?_⟩;dsimp only at h;split at h
 case h_2=>cases h
 rename_i q;obtain⟨ns,h2,h⟩:=bs h;split at h
 case isFalse=>cases h
 cases h
 (try rw[q])
 exact⟨ns,by rw[Zba h2],‹_›,k⟩
noncomputable def Z9t(i:Nat)(a:FE):FE:=λδ=>match δ[i]? with
 | some (YB (.nd _))=>(a δ).bind λp=>match p.2[i]? with
  | some (YB (.nd ts))=>match p.1.data with
   | .int j=>match ixN ts.length j with
    | some k=>match ts[k]? with
     | some (.fz d)=>if ts.length≤Xz then YB (.fz d,p.2.set i (YB (.nd (ts.eraseIdx k))))else YC
     | _=>YC
    | none=>YC
   | _=>YC
  | _=>YC
 | _=>YC
theorem Z6c(h:ME X io p c e (Ybo i (o2 fa))):ME X io p c e (o2 (Z9t i fa)):=h.weak λδ K h=>by
 obtain⟨r,δ',h,k⟩:=h;unfold Z9t at h;unfold Ybo;split at h
 case h_2=>cases h
 rename_i q;(try rw[q]);obtain⟨⟨x,δ1⟩,h1,h⟩:=bs h;refine⟨x,δ1,h1,?_⟩
 try dsimp only at h⊢
 split at h
 case h_2=>cases h
 rename_i q2;(try rw[q2])
 try dsimp only
 split at h
 case h_2=>cases h
 rename_i j q3;(try rw[q3]);show match ixN _ j with|some k=>_|none=>_
 split at h
 case h_2=>cases h
 rename_i q4;(try rw[q4]);(try dsimp only);split at h
 case h_2=>cases h
 rename_i q5;(try rw[q5]);split at h
 case isFalse=>cases h
 cases h;exact⟨‹_›,k⟩
end
variable {G:Xb}
section
variable {X:Cx}{io:List Nat}{p c:Bool}{e a b:YJ}{es:List YJ}{m ma mb:MEt}{mr:MAt}{pos apos cpos px py pt sp kp:Pos}{i j:Nat}{x y:Str}{fa fb:FE}{ra:FA}{st:YK}
noncomputable def Z8z(m:MAt):MEt:=λδ K=>m δ λrs δ'=>rs.length≤Xz∧K (.tp rs) δ'
theorem Zvf{x1}(h:MA X io p c es mr):ME X io p c (.Tuple es x1 pos) (Z8z mr):=by
 obtain⟨tA,A,sa⟩:=h;refine⟨_,Zzd A,λC H Y δ fp ex K Q R h k=>?_⟩;refine sa C H Y δ fp ex _ _ R h λH1 vs rs δ1 fp1 new1 r1 h1=>⟨by rw[r1.own.length];exact h1.1,λq hq=>?_⟩;have s:=Z7 hq (.tup vs);have S:=r1.stp.trans (p':=YD) (Stp.same (p:=YD) (δ:=δ1) (fp:=fp1) s s.al);rw[V6]at S;exact k _ _ _ δ1 fp1 new1 ⟨(r1.rel.made (new:=[]) s λa m=>nomatch m).drop λa z=>.inl z,S,.tp Z8 (r1.own.same s),r1.nd,r1.fresh⟩ h1.2
noncomputable def Zqs(a:FA):FE:=λδ=>(a δ).bind λp=>if p.1.length≤Xz then YB (.tp p.1,p.2)else YC
theorem Znd(h:ME X io p c e (Z8z (o2 ra))):ME X io p c e (o2 (Zqs ra)):=h.weak λδ K h=>by
 obtain⟨r,δ',h,k⟩:=h;obtain⟨⟨x,δ1⟩,h1,h⟩:=bs h;refine⟨x,δ1,h1,?_⟩;dsimp only at h;split at h
 ·rename_i q;cases h;exact⟨q,k⟩
 ·cases h
noncomputable def Z0n(i c:Nat)(e:FE):FS:=λδ=>match δ[i]? with
 | some (YB (.tp ts))=>match ts[c]? with
  | some (.nd us)=>wE e (λr _=>if us.length<Xz then .nx (δ.set i (YB (.tp (ts.set c (.nd (us++[.fz r.data]))))))else .bad) δ
  | _=>.bad
 | _=>.bad
noncomputable def Yfx(i j:Nat)(a:FA):FS:=λδ=>match a δ with
 | some (rs,δ1)=>match OT.datas rs with
  | [d,e]=>.nx ((δ1.set i (YB (.fz d))).set j (YB (.fz e)))
  | _=>.bad
 | none=>.bad
end
class NoStar (e:YJ):Prop where
 h:∀es env,Xr (e::es) env=(YF,eval e env)::Xr es env
instance nx_Name{x:Str}{p:Pos}:NoStar (.Name x p):=⟨λ_ _=>rfl⟩
instance nx_Constant{x k}{p:Pos}:NoStar (.Constant x k p):=⟨λ_ _=>rfl⟩
instance nx_BinOp{a o b}{p:Pos}:NoStar (.BinOp a o b p):=⟨λ_ _=>rfl⟩
instance nx_Compare{a o b}{p:Pos}:NoStar (.Compare a o b p):=⟨λ_ _=>rfl⟩
instance nx_Call{f a k}{p:Pos}:NoStar (.Call f a k p):=⟨λ_ _=>rfl⟩
instance nx_List{a}{p:Pos}:NoStar (.List a p):=⟨λ_ _=>rfl⟩
instance nx_Tuple{a k}{p:Pos}:NoStar (.Tuple a k p):=⟨λ_ _=>rfl⟩
instance nx_Subscript{a b}{p:Pos}:NoStar (.Subscript a b p):=⟨λ_ _=>rfl⟩
theorem Zf{X:Cx}{io:List Nat}{p p' c c' p2 c2:Bool}{e:YJ}{es:List YJ}{fa:FE}{ra:FA}[NoStar e](ha:ME X io p c e (o2 fa))(hr:MA X io p' c' es (o2 ra))(hc:p'=YD∨c=YD:=by first|exact QD rfl|exact Qx rfl)(h2:(p&&p')=p2:=by rfl)(h3:(c&&c')=c2:=by rfl):MA X io p2 c2 (e::es) (o2 (Zc fa ra)) :=
 h2▸h3▸Z32 (Z1b ha hr hc (NoStar.h es X.env))
theorem Znq{X:Cx}{io:List Nat}{p p' c c':Bool}{e:YJ}{m:MEt}(h:ME X io p c e m)(h2:p=p':=by rfl)(h3:c=c':=by rfl):ME X io p' c' e m:=h2▸h3▸h
structure Gives(P:Qe)(w:Qz)(it:YG)(f:List YG)(St:YH->Prop)(x:Xf)(St':YH->Prop):Prop where
 mem:it∈f
 run:∀{A:Qs} {E:Xf->Xg->Prop} {s:Xg} {Q:Xf->Xg->Prop},St s.heap->(∀h',St' h'->VP it s.heap h'->Q x { s with heap:=h' })->Qd (Ql P w) A (Q5 (.ref it)) Q E s
 keep:∀h h',(∀c∈f,∀o,h.get? c=YB o->h'.get? c=YB o)->St h->St h'
 keep':∀h h',(∀c∈f,∀o,h.get? c=YB o->h'.get? c=YB o)->St' h->St' h'
structure Zj0(P:Qe)(w:Qz)(it:YG)(f:List YG)(St:YH->Prop):Prop where
 mem:it∈f
 run:∀{A:Qs} {E:Xf->Xg->Prop} {s:Xg} {Q:Xf->Xg->Prop},A.handled=YC->St s.heap->(∀h' e,Heap.ExtBut it s.heap h'->(∃o,h'.get? e=YB o∧o.cls= .type "StopIteration")->E (.ref e) { s with heap:=h' })->Qd (Ql P w) A (Q5 (.ref it)) Q E s
 keep:∀h h',(∀c∈f,∀o,h.get? c=YB o->h'.get? c=YB o)->St h->St h'
structure ZA(z TI TO i1 i2:YG)(f1 f2:List YG):Prop where
 TIz:TI≠z
 TOz:TO≠z
 a1:∀c∈f1,c≠z∧c≠TO∧c≠i2
 a2:∀c∈f2,c≠z∧c≠TO∧c≠i1
section
variable {P:Qe}{w:Qz}{A:Qs}{E:Xf->Xg->Prop}{s:Xg}
theorem Zk3{T:YG}{a b x:Xf}{k:Nat}{Q:Unit->Xg->Prop}(hT:Vi s.heap T a b)(h:∀h',h'.get? T=YB { cls:=.type "tuple",data:=.seq ((#[a,b]:Array Xf).setIfInBounds k x) }->VP T s.heap h'->Q () { s with heap:=h' }) :
  Qd (Ql P w) A (updateSeq T (·.setIfInBounds k x)) Q E s:=wpAny_updateSeq_pair hT h
theorem Ztj{z TI TO i1 i2:YG}{f1 f2:List YG}{S1 T1 S2 T2:YH->Prop}{x y a b:Xf}{Q:Xf->Xg->Prop}(D:ZA z TI TO i1 i2 f1 f2)(G1:Gives P w i1 f1 S1 x T1)(G2:Gives P w i2 f2 S2 y T2)
  (hz:IsZip s.heap z TI TO .none) (hTI:Vi s.heap TI (.ref i1) (.ref i2)) (hTO:Vi s.heap TO a b) (h1:S1 s.heap) (h2:S2 s.heap)
  (hQ:∀h',IsZip h' z TI TO (rawInt s.heap.objs.size)->Vi h' TO x y->T1 h'->T2 h'->Vi h' s.heap.objs.size x y ->
   (∀ c o,c∉[z,TO,i1,i2]->s.heap.get? c=YB o->h'.get? c=YB o)->Q (.ref s.heap.objs.size) { s with heap:=h' }) :
  Qd (Ql P w) A (UW.«zip.__next__» ⟨[.ref z],[]⟩) (λfin s'=>∃v,fin= .done (.ret v)∧Q v s') E s:=by
 obtain⟨i1z,i1O,i12⟩:=D.a1 i1 G1.mem;obtain⟨i2z,i2O,i21⟩:=D.a2 i2 G2.mem;have r1:z∉f1∧TO∉f1∧i2∉f1:=⟨λm=>(D.a1 z m).1 rfl,λm=>(D.a1 TO m).2.1 rfl,λm=>(D.a1 i2 m).2.2 rfl⟩;have r2:z∉f2∧TO∉f2∧i1∉f2:=⟨λm=>(D.a2 z m).1 rfl,λm=>(D.a2 TO m).2.1 rfl,λm=>(D.a2 i1 m).2.2 rfl⟩;have st:∀{b:YG} {h h':YH} {f:List YG},VP b h h'->b∉f->∀c∈f,∀o,h.get? c=YB o->h'.get? c=YB o:=λsb hb c hc o e=>sb.extBut _ _ (λq=>hb (q▸hc)) e;show Qd _ _ (field (.ref z) 2>>=_) _ _ _;refine Xi (Vl hz rfl (x:=.bool YF) rfl ?_);show Qd _ _ (field (.ref z) 3>>=_) _ _ _;refine Xi (Vl hz rfl (x:=.ref TI) rfl (Xi (Vx hTI rfl ?_)));show Qd _ _ (Bu (.ref z)>>=_) _ _ _;refine Xi ?_;unfold Bu;refine Xi (Vl hz rfl (x:=.none) rfl (Qk ?_));simp only[if_true];refine Xi (wpAny_rule (Xi (Vl hz rfl (x:=.ref TO) rfl (Xi (VB hz (by simp) λh3 z3 b3=>?_)))));replace z3:IsZip h3 z TI TO .ellipsis:=z3;refine Xi ?_;simp only[List.zipIdx_cons,List.zipIdx_nil,U5,Uo];refine Xi (Xi (wpAny_onRaise ?_));show Qd _ _ (Q5 (.ref i1)>>=_) _ _ _;refine Xi (G1.run (s:={ s with heap:=h3 }) (G1.keep _ _ (st b3 r1.1) h1) λh4 k4 b4=>Qk ?_);have o4:Vi h4 TO a b:=b4.extBut _ _ i1O.symm (b3.extBut _ _ D.TOz hTO);refine Xi (Vx o4 rfl (Xi (Zk3 (s:={ s with heap:=h4 }) o4 λh5 o5 b5=>Xi (wpAny_letGo (Qk ?_)))));replace o5:Vi h5 TO x b:=o5;refine Xi (Xi (wpAny_onRaise ?_));show Qd _ _ (Q5 (.ref i2)>>=_) _ _ _;refine Xi (G2.run (s:={ s with heap:=h5 }) (G2.keep _ _ (st b5 r2.2.1) (G2.keep _ _ (st b4 r2.2.2) (G2.keep _ _ (st b3 r2.1) h2))) λh6 k6 b6=>Qk ?_);have o6:Vi h6 TO x b:=b6.extBut _ _ i2O.symm o5;refine Xi (Vx o6 rfl (Xi (Zk3 (s:={ s with heap:=h6 }) o6 λh7 o7 b7=>Xi (wpAny_letGo (Qk (Qk ?_))))));replace o7:Vi h7 TO x y:=o7;refine Xi (Vx o7 rfl (Xi (wpAny_newTuple ?_)));have sz:h7.objs.size=s.heap.objs.size:=by rw[b7.1,b6.1,b5.1,b4.1,b3.1]
 have z7:IsZip h7 z TI TO .ellipsis:=b7.extBut _ _ D.TOz.symm (b6.extBut _ _ i2z.symm (b5.extBut _ _ D.TOz.symm (b4.extBut _ _ i1z.symm z3)));have t1:T1 h7:=G1.keep' _ _ (st b7 r1.2.1) (G1.keep' _ _ (st b6 r1.2.2) (G1.keep' _ _ (st b5 r1.2.1) k4));have t2:T2 h7:=G2.keep' _ _ (st b7 r2.2.1) k6;have old:∀c o,c∉[z,TO,i1,i2]->s.heap.get? c=YB o->h7.get? c=YB o:=λc o n e=>by
  simp only[Xu,UJ,or_false,not_or]at n;exact b7.extBut _ _ n.2.1 (b6.extBut _ _ n.2.2.2 (b5.extBut _ _ n.2.1 (b4.extBut _ _ n.2.2.1 (b3.extBut _ _ n.1 e))))
 show Qd _ _ (Builtin.SmallTypes.ownedTupleHandOut (.ref z) (.ref h7.objs.size)>>=_) _ _ _;refine Xi ?_;unfold Builtin.SmallTypes.ownedTupleHandOut;have zp:IsZip (h7.push { cls:=.type "tuple",data:=.seq #[x,y] }) z TI TO .ellipsis:=Xo _ z7;refine Xi (VB zp (by simp) λh8 z8 b8=>?_);replace z8:IsZip h8 z TI TO (rawInt h7.objs.size):=z8;refine VB z8 (by simp) λh9 z9 b9=>?_;replace z9:IsZip h9 z TI TO (rawInt h7.objs.size):=z9;have up:∀c o,c≠z->h7.get? c=YB o->h9.get? c=YB o:=λc o n e=>b9.extBut _ _ n (b8.extBut _ _ n (Xo _ e));have nz:h7.objs.size≠z:=X4 (XH z7);have p9:Vi h9 h7.objs.size x y:=b9.extBut _ _ nz (b8.extBut _ _ nz (Qi _ rfl));refine Qk ⟨_,rfl,?_⟩;show Q (.ref h7.objs.size) _;rw[sz]at z9 p9⊢;exact hQ h9 z9 (up _ _ D.TOz o7) (G1.keep' _ _ (λc hc o e=>up c o (λq=>r1.1 (q▸hc)) e) t1) (G2.keep' _ _ (λc hc o e=>up c o (λq=>r2.1 (q▸hc)) e) t2) p9 λc o n e=>up c o (λq=>n (by simp[q])) (old c o n e)
theorem Zv6{z TI TO i1 i2:YG}{f1 f2:List YG}{S1 T1 S2:YH->Prop}{a b:Xf}{Q:Fin->Xg->Prop}(hh:A.handled=YC)(D:ZA z TI TO i1 i2 f1 f2)(g1:Zj0 P w i1 f1 S1∨(∃x,Gives P w i1 f1 S1 x T1)∧Zj0 P w i2 f2 S2)
  (hz:IsZip s.heap z TI TO .none) (hTI:Vi s.heap TI (.ref i1) (.ref i2)) (hTO:Vi s.heap TO a b) (h1:S1 s.heap) (h2:S2 s.heap)
  (hE:∀h' e,(∀c o,c∉[z,TO,i1,i2]->s.heap.get? c=YB o->h'.get? c=YB o)->(∃o,h'.get? e=YB o∧o.cls= .type "StopIteration")->E (.ref e) { s with heap:=h' }) :
  Qd (Ql P w) A (UW.«zip.__next__» ⟨[.ref z],[]⟩) Q E s:=by
 have r1:z∉f1∧TO∉f1∧i2∉f1:=⟨λm=>(D.a1 z m).1 rfl,λm=>(D.a1 TO m).2.1 rfl,λm=>(D.a1 i2 m).2.2 rfl⟩;have r2:z∉f2∧TO∉f2∧i1∉f2:=⟨λm=>(D.a2 z m).1 rfl,λm=>(D.a2 TO m).2.1 rfl,λm=>(D.a2 i1 m).2.2 rfl⟩;have st:∀{b:YG} {h h':YH} {f:List YG},VP b h h'->b∉f->∀c∈f,∀o,h.get? c=YB o->h'.get? c=YB o:=λsb hb c hc o e=>sb.extBut _ _ (λq=>hb (q▸hc)) e;show Qd _ _ (field (.ref z) 2>>=_) _ _ _;refine Xi (Vl hz rfl (x:=.bool YF) rfl ?_);show Qd _ _ (field (.ref z) 3>>=_) _ _ _;refine Xi (Vl hz rfl (x:=.ref TI) rfl (Xi (Vx hTI rfl ?_)));show Qd _ _ (Bu (.ref z)>>=_) _ _ _;refine Xi ?_;unfold Bu;refine Xi (Vl hz rfl (x:=.none) rfl (Qk ?_));simp only[if_true];refine Xi (wpAny_rule (Xi (Vl hz rfl (x:=.ref TO) rfl (Xi (VB hz (by simp) λh3 z3 b3=>?_)))));replace z3:IsZip h3 z TI TO .ellipsis:=z3;refine Xi ?_;simp only[List.zipIdx_cons,List.zipIdx_nil,U5,Uo];refine Xi (Xi (wpAny_onRaise ?_));show Qd _ _ (Q5 (.ref i1)>>=_) _ _ _;rcases g1 with G1|⟨⟨x,G1⟩,G2⟩
 ·obtain⟨i1z,i1O,i12⟩:=D.a1 i1 G1.mem
  refine Xi (G1.run (s:={ s with heap:=h3 }) hh (G1.keep _ _ (st b3 r1.1) h1) λh4 e b4 he=>?_);obtain⟨oe,hoe,hce⟩:=he;have z4:IsZip h4 z TI TO .ellipsis:=b4 _ _ i1z.symm z3;have ez:e≠z:=λq=>by subst q;rw[z4]at hoe;cases hoe;simp at hce
  refine VB z4 (by simp) λh5 _ b5=>hE h5 e (λc o n q=>?_) ⟨oe,b5.extBut _ _ ez hoe,hce⟩;simp only[Xu,UJ,or_false,not_or]at n;exact b5.extBut _ _ n.1 (b4 _ _ n.2.2.1 (b3.extBut _ _ n.1 q))
 ·obtain⟨i1z,i1O,i12⟩:=D.a1 i1 G1.mem
  obtain⟨i2z,i2O,i21⟩:=D.a2 i2 G2.mem;refine Xi (G1.run (s:={ s with heap:=h3 }) (G1.keep _ _ (st b3 r1.1) h1) λh4 k4 b4=>Qk ?_);have o4:Vi h4 TO a b:=b4.extBut _ _ i1O.symm (b3.extBut _ _ D.TOz hTO);refine Xi (Vx o4 rfl (Xi (Zk3 (s:={ s with heap:=h4 }) o4 λh5 o5 b5=>Xi (wpAny_letGo (Qk ?_)))));refine Xi (Xi (wpAny_onRaise ?_));show Qd _ _ (Q5 (.ref i2)>>=_) _ _ _;refine Xi (G2.run (s:={ s with heap:=h5 }) hh (G2.keep _ _ (st b5 r2.2.1) (G2.keep _ _ (st b4 r2.2.2) (G2.keep _ _ (st b3 r2.1) h2))) λh6 e b6 he=>?_);obtain⟨oe,hoe,hce⟩:=he;have z6:IsZip h6 z TI TO .ellipsis:=b6 _ _ i2z.symm (b5.extBut _ _ D.TOz.symm (b4.extBut _ _ i1z.symm z3));have ez:e≠z:=λq=>by subst q;rw[z6]at hoe;cases hoe;simp at hce
  refine VB z6 (by simp) λh7 _ b7=>hE h7 e (λc o n q=>?_) ⟨oe,b7.extBut _ _ ez hoe,hce⟩;simp only[Xu,UJ,or_false,not_or]at n;exact b7.extBut _ _ n.1 (b6 _ _ n.2.2.2 (b5.extBut _ _ n.2.1 (b4.extBut _ _ n.2.2.1 (b3.extBut _ _ n.1 q))))
theorem Zq4{z TI TO i1 i2:YG}{f1 f2:List YG}{S1 T1 S2 T2:YH->Prop}{x y a b:Xf}{Q:Option Xf->Xg->Prop}(D:ZA z TI TO i1 i2 f1 f2)(G1:Gives P w i1 f1 S1 x T1)(G2:Gives P w i2 f2 S2 y T2)
  (hz:IsZip s.heap z TI TO .none) (hTI:Vi s.heap TI (.ref i1) (.ref i2)) (hTO:Vi s.heap TO a b) (h1:S1 s.heap) (h2:S2 s.heap)
  (hQ:∀h',IsZip h' z TI TO (rawInt s.heap.objs.size)->Vi h' TO x y->T1 h'->T2 h'->Vi h' s.heap.objs.size x y ->
   (∀ c o,c∉[z,TO,i1,i2]->s.heap.get? c=YB o->h'.get? c=YB o)->Q (YB (.ref s.heap.objs.size)) { s with heap:=h' }):Qd (Ql P w) A (pyNext (.ref z)) Q E s:=by
 have hT:s.TypeIs (.ref z) "zip" :=⟨_,hz,rfl⟩;unfold pyNext;exact Xi (wpAny_attempt (Uw (name:=Str.ofString "__next__") hT F.slot_zip_next (V7 F.slot_zip_next hT F.entry_zip_next (Ztj D G1 G2 hz hTI hTO h1 h2 λh' a1 a2 a3 a4 a5 a6=>Qk (hQ h' a1 a2 a3 a4 a5 a6)) (F.args_zip_next_1 _))))
theorem Zsv{z TI TO i1 i2:YG}{f1 f2:List YG}{S1 T1 S2:YH->Prop}{a b:Xf}{Q:Option Xf->Xg->Prop}(hh:A.handled=YC)(D:ZA z TI TO i1 i2 f1 f2)(g1:Zj0 P w i1 f1 S1∨(∃x,Gives P w i1 f1 S1 x T1)∧Zj0 P w i2 f2 S2)
  (hz:IsZip s.heap z TI TO .none) (hTI:Vi s.heap TI (.ref i1) (.ref i2)) (hTO:Vi s.heap TO a b) (h1:S1 s.heap) (h2:S2 s.heap)
  (hQ:∀h',(∀c o,c∉[z,TO,i1,i2]->s.heap.get? c=YB o->h'.get? c=YB o)->Q YC { s with heap:=h' }):Qd (Ql P w) A (pyNext (.ref z)) Q E s:=by
 have hT:s.TypeIs (.ref z) "zip" :=⟨_,hz,rfl⟩;unfold pyNext;refine Xi (wpAny_attempt (Uw (name:=Str.ofString "__next__") hT F.slot_zip_next (V7 F.slot_zip_next hT F.entry_zip_next (Zv6 hh D g1 hz hTI hTO h1 h2 λh' e hk he=>?_) (F.args_zip_next_1 _))));obtain⟨o,ho,hc⟩:=he;exact Xi (wpAny_isInstance (T :="StopIteration") (b:=YD) ⟨o,ho,hc⟩ isSubtype_stop (Qk (hQ _ hk)))
theorem Zsp{it t:YG}{i:Nat}{items:Array Xf}{x:Xf}(hx:items[i]? =YB x):Gives P w it [it,t] (λh=>IsTupIter h it t i∧IsTup h t items) x (λh=>IsTupIter h it t (i+1)) where
 mem:=by simp
 run:=fun{A E s Q} ⟨hit,ht⟩ hQ=>by
  obtain⟨o,ho,hc,hd⟩:=id hit;obtain⟨ol,hol,_,nl,hdl⟩:=ht;unfold Q5;refine Xi (Uw (name:=Str.ofString "__next__") hit.typeIs slot_tupleiter_next (V7 slot_tupleiter_next hit.typeIs entry_tupleiter_next ?_ (args_tupleiter_next _)));show Qd _ _ (field (.ref it) 0>>=_) _ _ s;refine Xi (Vl ho hd (x:=.ref t) rfl ?_);show Qd _ _ (if(QJ t==QT)=YD then _ else _) _ _ s;rw[YM (show¬((QJ t==QT)=YD)from XC)];show Qd _ _ (field (.ref it) 1>>=_) _ _ s;refine Xi (Vl ho hd (x:=.int i 0) rfl ?_);show Qd _ _ (seqItems? (.ref t)>>=_) _ _ s;refine Xi (Vx hol hdl ?_);simp only[Q0,hx];refine Xi (wpAny_setField ho hd (by simp) (Qk ⟨x,rfl,Qk (hQ _ ?_ (Heap.SameBut.update ..))⟩));exact⟨_,Heap.get?_update_self _ ho (Obj.isFreed_of_fields (Obj.data_mapFields hd _)),(Obj.cls_mapFields ..).trans hc,by rw[Obj.data_mapFields hd];simp[rawInt]⟩
 keep:=λh h' k ⟨⟨o,a1,a2⟩,⟨o',b1,b2⟩⟩=>⟨⟨o,k it (by simp) o a1,a2⟩,⟨o',k t (by simp) o' b1,b2⟩⟩
 keep':=λh h' k ⟨o,a1,a2⟩=>⟨o,k it (by simp) o a1,a2⟩
theorem Zyh{it t:YG}{i:Nat}{items:Array Xf}(hx:items[i]? =YC):Zj0 P w it [it,t] (λh=>IsTupIter h it t i∧IsTup h t items) where
 mem:=by simp
 run:=fun{A E s Q} hh ⟨hit,ht⟩ hE=>by
  obtain⟨o,ho,hc,hd⟩:=id hit;obtain⟨ol,hol,_,nl,hdl⟩:=ht;unfold Q5;refine Xi (Uw (name:=Str.ofString "__next__") hit.typeIs slot_tupleiter_next (V7 slot_tupleiter_next hit.typeIs entry_tupleiter_next ?_ (args_tupleiter_next _)));show Qd _ _ (field (.ref it) 0>>=_) _ _ s;refine Xi (Vl ho hd (x:=.ref t) rfl ?_);show Qd _ _ (if(QJ t==QT)=YD then _ else _) _ _ s;rw[YM (show¬((QJ t==QT)=YD)from XC)];show Qd _ _ (field (.ref it) 1>>=_) _ _ s;refine Xi (Vl ho hd (x:=.int i 0) rfl ?_);show Qd _ _ (seqItems? (.ref t)>>=_) _ _ s;refine Xi (Vx hol hdl ?_);simp only[Q0,hx];refine Xi (wpAny_rule (Xi (wpAny_setField ho hd (by simp) ?_)));show Qd _ _ (newExc (.type "StopIteration") []>>=_) _ _ _;refine Xi ?_;simp only[newExc,newTuple];refine Xi (wpAny_newObj_type ?_ (by size_fits));refine Xi (m:=firstArgMember _ _) (wpAny_of_eq (a:=QT) (by first|rfl|(simp only[firstArgMember];rfl)) ?_);refine wpAny_newObj_type ?_ (by size_fits);simp only[raiseNew];refine Xi (wpAny_handled ?_)
  first|rw[show A.in1.handled=YC from hh]|rw[hh]
  exact Xi (Qk (wpAny_throw (hE _ _ (((Heap.SameBut.update ..).extBut.push _).push _) ⟨_,Qi _ rfl,rfl⟩)))
 keep:=λh h' k ⟨⟨o,a1,a2⟩,⟨o',b1,b2⟩⟩=>⟨⟨o,k it (by simp) o a1,a2⟩,⟨o',k t (by simp) o' b1,b2⟩⟩
end
noncomputable abbrev zT1(h:YH)(a:YG):YH:=h.push { cls:=.type "tuple_iterator",data:=.fields #[.ref a,.int 0 0] }
noncomputable abbrev zT2(h:YH)(a b:YG):YH:=(zT1 h a).push { cls:=.type "tuple_iterator",data:=.fields #[.ref b,.int 0 0] }
noncomputable abbrev zT3(h:YH)(a b:YG):YH:=(zT2 h a b).push { cls:=.type "tuple",data:=.seq #[.ref h.objs.size,.ref (zT1 h a).objs.size] }
noncomputable abbrev zT4(h:YH)(a b:YG):YH:=(zT3 h a b).push { cls:=.type "tuple",data:=.seq #[.none,.none] }
noncomputable abbrev zT5(h:YH)(a b:YG):YH:=(zT4 h a b).push { cls:=.type "zip",data:=.fields #[.none,.bool YF,.bool YF,.ref (zT2 h a b).objs.size,.ref (zT3 h a b).objs.size] }
theorem Zye(a b:YG)(xs ys:Array Xf) :
  Meets (UW.«zip.__new__» ⟨[.type "zip",.ref a,.ref b],[]⟩) (λ_ R s=>IsTup s.heap a xs∧IsTup s.heap b ys∧R (.ok (.ret (.ref (zT4 s.heap a b).objs.size))) { s with heap:=zT5 s.heap a b }) :=
 .of_wp λprog w A R s h=>by
  obtain⟨hp,g,d,tk,os⟩:=s;obtain⟨h1,h2,h⟩:=h;have hsub:=sub_zip;have hL1:IsTup (Xg.heap ⟨hp,g,d,tk,os⟩) a xs:=h1;have hL2:IsTup (Xg.heap ⟨hp.push { cls:=.type "tuple_iterator",data:=.fields #[.ref a,.int 0 0] },g,d,tk,os⟩) b ys:=h2.push _
  wp_walk using iter_tuple hL1,iter_tuple hL2
  exact⟨_,rfl,h⟩
section
variable {P:Qe}{w:Qz}{A:Qs}{E:Xf->Xg->Prop}{s:Xg}
theorem Zu7{a b:YG}{xs ys:Array Xf}{Q:Xf->Xg->Prop}(h1:IsTup s.heap a xs)(h2:IsTup s.heap b ys)
  (h:∀h' n,n=s.heap.objs.size->IsZip h' (n+4) (n+2) (n+3) .none->Vi h' (n+2) (.ref n) (.ref (n+1))->Vi h' (n+3) .none .none->IsTupIter h' n a 0->IsTupIter h' (n+1) b 0 ->
   (∀ c o,s.heap.get? c=YB o->h'.get? c=YB o)->Q (.ref (n+4)) { s with heap:=h' }):Qd (Ql P w) A (call (.type "zip") [.ref a,.ref b]) Q E s:=by
 refine callType_new F.called_zip (by decide) (F.typeCall_zip_2 _ _) (F.newCall_zip_2 _ _) (λobj=>F.args_object_init_3 obj _ _) F.entry_zip_new (Zye a b xs ys) ⟨h1,h2,?_⟩;have e1:(zT1 s.heap a).objs.size=s.heap.objs.size+1:=JM ..;have e2:(zT2 s.heap a b).objs.size=s.heap.objs.size+2:=by rw[JM,e1]
 have e3:(zT3 s.heap a b).objs.size=s.heap.objs.size+3:=by rw[JM,e2]
 have e4:(zT4 s.heap a b).objs.size=s.heap.objs.size+4:=by rw[JM,e3]
 have up:∀{c o},(zT1 s.heap a).get? c=YB o->(zT5 s.heap a b).get? c=YB o:=λx=>Xo _ (Xo _ (Xo _ (Xo _ x)));have p5:(zT5 s.heap a b).get? (zT4 s.heap a b).objs.size=YB _:=Qi _ rfl;have p4:(zT5 s.heap a b).get? (zT3 s.heap a b).objs.size=YB _:=Xo _ (Qi _ rfl);have p3:(zT5 s.heap a b).get? (zT2 s.heap a b).objs.size=YB _:=Xo _ (Xo _ (Qi _ rfl));have p2:(zT5 s.heap a b).get? (zT1 s.heap a).objs.size=YB _:=Xo _ (Xo _ (Xo _ (Qi _ rfl)));have p1:(zT5 s.heap a b).get? s.heap.objs.size=YB _:=up (Qi _ rfl);show _∧_;rw[e2,e3,e4]at p5;rw[e1,e2]at p3;rw[e3]at p4;rw[e1]at p2;rw[e4];exact⟨⟨_,p5,rfl⟩,h _ _ rfl p5 p3 p4 ⟨_,p1,rfl,rfl⟩ ⟨_,p2,rfl,rfl⟩ λc o x=>up (Xo _ x)⟩
end
theorem nn{n a b:Nat}(h:a≠b):n+a≠n+b:=λe=>h (Nat.add_left_cancel e)
theorem n0{n b:Nat}(h:0≠b):n≠n+b:=λe=>h (Nat.add_left_cancel (n:=n) e)
theorem nlt{n a c:Nat}(h:a<n):a≠n+c:=Xy (Qo h (V1 ..))
theorem ZA.new{n a b:Nat}(h1:a<n)(h2:b<n):ZA (n+4) (n+2) (n+3) n (n+1) [n,a] [n+1,b] where
 TIz:=(by first|exact nn (by decide)|exact n0 (by decide)|exact(n0 (by decide)).symm|exact nlt h1|exact nlt h2|exact(nlt h1).symm|exact(nlt h2).symm|exact Xy h1|exact Xy h2|exact X4 h1|exact X4 h2|omega)
 TOz:=(by first|exact nn (by decide)|exact n0 (by decide)|exact(n0 (by decide)).symm|exact nlt h1|exact nlt h2|exact(nlt h1).symm|exact(nlt h2).symm|exact Xy h1|exact Xy h2|exact X4 h1|exact X4 h2|omega)
 a1:=λc hc=>by
  simp only[Xu,UJ,or_false]at hc;rcases hc with rfl|rfl
  ·exact⟨(by first|exact nn (by decide)|exact n0 (by decide)|exact(n0 (by decide)).symm|exact nlt h1|exact nlt h2|exact(nlt h1).symm|exact(nlt h2).symm|exact Xy h1|exact Xy h2|exact X4 h1|exact X4 h2|omega),(by first|exact nn (by decide)|exact n0 (by decide)|exact(n0 (by decide)).symm|exact nlt h1|exact nlt h2|exact(nlt h1).symm|exact(nlt h2).symm|exact Xy h1|exact Xy h2|exact X4 h1|exact X4 h2|omega),(by first|exact nn (by decide)|exact n0 (by decide)|exact(n0 (by decide)).symm|exact nlt h1|exact nlt h2|exact(nlt h1).symm|exact(nlt h2).symm|exact Xy h1|exact Xy h2|exact X4 h1|exact X4 h2|omega)⟩
  ·exact⟨(by first|exact nn (by decide)|exact n0 (by decide)|exact(n0 (by decide)).symm|exact nlt h1|exact nlt h2|exact(nlt h1).symm|exact(nlt h2).symm|exact Xy h1|exact Xy h2|exact X4 h1|exact X4 h2|omega),(by first|exact nn (by decide)|exact n0 (by decide)|exact(n0 (by decide)).symm|exact nlt h1|exact nlt h2|exact(nlt h1).symm|exact(nlt h2).symm|exact Xy h1|exact Xy h2|exact X4 h1|exact X4 h2|omega),(by first|exact nn (by decide)|exact n0 (by decide)|exact(n0 (by decide)).symm|exact nlt h1|exact nlt h2|exact(nlt h1).symm|exact(nlt h2).symm|exact Xy h1|exact Xy h2|exact X4 h1|exact X4 h2|omega)⟩
 a2:=λc hc=>by
  simp only[Xu,UJ,or_false]at hc;rcases hc with rfl|rfl
  ·exact⟨(by first|exact nn (by decide)|exact n0 (by decide)|exact(n0 (by decide)).symm|exact nlt h1|exact nlt h2|exact(nlt h1).symm|exact(nlt h2).symm|exact Xy h1|exact Xy h2|exact X4 h1|exact X4 h2|omega),(by first|exact nn (by decide)|exact n0 (by decide)|exact(n0 (by decide)).symm|exact nlt h1|exact nlt h2|exact(nlt h1).symm|exact(nlt h2).symm|exact Xy h1|exact Xy h2|exact X4 h1|exact X4 h2|omega),(by first|exact nn (by decide)|exact n0 (by decide)|exact(n0 (by decide)).symm|exact nlt h1|exact nlt h2|exact(nlt h1).symm|exact(nlt h2).symm|exact Xy h1|exact Xy h2|exact X4 h1|exact X4 h2|omega)⟩
  ·exact⟨(by first|exact nn (by decide)|exact n0 (by decide)|exact(n0 (by decide)).symm|exact nlt h1|exact nlt h2|exact(nlt h1).symm|exact(nlt h2).symm|exact Xy h1|exact Xy h2|exact X4 h1|exact X4 h2|omega),(by first|exact nn (by decide)|exact n0 (by decide)|exact(n0 (by decide)).symm|exact nlt h1|exact nlt h2|exact(nlt h1).symm|exact(nlt h2).symm|exact Xy h1|exact Xy h2|exact X4 h1|exact X4 h2|omega),(by first|exact nn (by decide)|exact n0 (by decide)|exact(n0 (by decide)).symm|exact nlt h1|exact nlt h2|exact(nlt h1).symm|exact(nlt h2).symm|exact Xy h1|exact Xy h2|exact X4 h1|exact X4 h2|omega)⟩
theorem ZA.new2(n:Nat):(n+2:Nat)≠n+3∧(n+2:Nat)≠n∧(n+2:Nat)≠n+1:=⟨nn (by decide),(n0 (by decide)).symm,nn (by decide)⟩
section
variable {X:Cx}{io:List Nat}{p c:Bool}{a b:YJ}{mr:MAt}
noncomputable def Yat(ds:List Xa):Option (List Xa):=match ds with|[.list as,.list bs]=>YB (Zl7 as bs)|[.tuple as,.tuple bs]=>YB (Zl7 as bs)|_=>YC
noncomputable def Zdx(a:FA):FI:=λδ=>(a δ).bind λp=>(Yat (OT.datas p.1)).bind λds=>YB (ds,p.2)
end
variable {G:Xb}
section
variable {X:Cx}{io:List Nat}{p c:Bool}{a b e:YJ}{mr:MAt}{ra:FA}{i:Nat}
noncomputable def isFn(y:Str)(d:Xa):Bool:=match d with| .dict [(.str x,.bool YD)]=>decide (x=y)|_=>YF
theorem Z1i{y:Str}{d:Xa}(h:isFn y d=YD):d=fnD y:=by
 unfold isFn at h;split at h
 ·rw[YW h];rfl
 ·cases h
theorem Z03(y:Str):isFn y (fnD y)=YD:=YQ rfl
noncomputable def Zet(i:Nat)(y:Str)(F:FD)(a:FA):FE:=λδ=>match δ[i]? with
 | some (YB (.fz d))=>if isFn y d=YD then Zv F a δ else YC
 | _=>YC
theorem Zpj{y:Str}{F:FD}(h:ME X io p c e (Zzp i y (sD F) (o2 ra))):ME X io p c e (o2 (Zet i y F ra)):=h.weak λδ K h=>by
 obtain⟨r,δ',h,k⟩:=h;unfold Zet at h;split at h
 ·rename_i d hd
  by_cases hf:isFn y d=YD
  ·rw[YL hf]at h
   refine⟨by rw[hd,Z1i hf],?_⟩;obtain⟨⟨x,δ1⟩,h1,h⟩:=bs h;refine⟨x,δ1,h1,?_⟩;dsimp only at h;split at h
   ·rename_i q;cases h;exact⟨_,q,k⟩
   ·cases h
  ·rw[YM hf]at h;cases h
 ·cases h
end
noncomputable def Yde:List Int->Int
 | []=>0
 | x::xs=>xs.foldl min x
theorem Zsg(xs:List Int)(x:Int):xs.foldl min x∈x::xs∧∀a∈x::xs,xs.foldl min x≤a:=by
 induction xs generalizing x with
 | nil=>exact⟨.head _,λa h=>by rw[Xp.mp h];exact Ui _⟩
 | cons y ys ih=>
  obtain⟨h1,h2⟩:=ih (min x y);rw[Ua];refine⟨?_,λa h=>?_⟩
  ·rcases Xu.mp h1 with h|h
   ·rw[h]
    rcases Int.le_total x y with z|z
    ·rw[Int.min_eq_left z];exact .head _
    ·rw[Int.min_eq_right z];exact .tail _ (.head _)
   ·exact .tail _ (.tail _ h)
  ·have h0:=h2 _ (.head _)
   rcases Xu.mp h with rfl|h
   ·exact JG h0 (Int.min_le_left ..)
   ·rcases Xu.mp h with rfl|h
    ·exact JG h0 (Int.min_le_right ..)
    ·exact h2 a (.tail _ h)
theorem Ztf{ns:List Int}(h:0<ns.length):Yde ns∈ns∧∀a∈ns,Yde ns≤a:=by
 cases ns with
 | nil=>cases h
 | cons x xs=>exact Zsg xs x
noncomputable def Ygr(K:Xb)(l:YG):It :=
 ⟨λi H=>∃xs x,SqL K H l xs∧xs[i]? =YB x,
   λi H v H'=>∃p x,H p=YC∧v= .ref p∧H'=upd H p (.tup [.int i,x])∧∀xs,SqL K H l xs->xs[i]? =YB x,
   λi H=>∃xs,SqL K H l xs∧xs.length≤i⟩
noncomputable def StE(z it l:YG)(i:Nat)(h:YH):Prop:=(∃old,IsEnum h z it (i:Int) old)∧h.IsListIter it l i
theorem Zsb{P:Qe}{w:Qz}{K:Xb}{es:List YJ}{kk:Nat}{pos:Pos}{z it l:YG}(hne:z≠it):Turn P w K (.Tuple es kk pos) (Ygr K l) [z,it] z (StE z it l) where
 mem:=.head _
 obj:=λi h st b hb=>by
  obtain⟨⟨old,s1⟩,o4,e4,_,d4⟩:=st;rcases Xu.mp hb with rfl|hb
  ·exact⟨_,s1,λv q=>by cases q⟩
  ·rcases Xp.mp hb with rfl
   exact⟨_,e4,λv q=>by rw[d4]at q;cases q⟩
 keep:=λi h h' st k=>by
  obtain⟨⟨old,s1⟩,s4⟩:=st;exact⟨⟨old,k z (.head _) _ s1⟩,s4.at λo e=>k it (.tail _ (.head _)) o e⟩
 item:=by
  intro X hP hw hK hc i pins s Y H E I hf st hg;subst hP hw hK;obtain⟨⟨old,s1⟩,s4⟩:=st;obtain⟨xs,x,hx,ex⟩:=hg;obtain⟨its,rx,px,hzx⟩:=I.list hx;obtain⟨u,hu,ru⟩:=rx.get ex;refine wpAny_pyNext_enum_item s1 s4 px.isList (by simpa using hu) hne λh' g1 g2 g3 g4 g5=>?_;refine⟨_,rfl,wpAny_letOwnedTupleGo_enum (s:={ s with heap:=h',toks:=s.toks+1 }) g1 λh2 z2 sb=>?_⟩;have hTz:s.heap.objs.size≠z:=X4 (XH s1);have up:∀c o,c≠z->h'.get? c=YB o->h2.get? c=YB o:=λc o n e=>(sb.2 c n).trans e;have kp:∀b o,b∉[z,it]->s.heap.get? b=YB o->h2.get? b=YB o:=λb o n e=>by
   have n1:b≠z:=λq=>n (q▸ .head _);exact up b o n1 (g5 b o n1 (λq=>n (q▸ .tail _ (.head _))) e)
  have t5:=up _ _ hTz g3;have g2':h2.IsListIter it l (i+1):=g2.at λo e=>up _ o (JR hne) e;have I2:Inv X pins Y (upd H s.heap.objs.size (.tup [.int i,x])) { s with heap:=h2,toks:=s.toks+1 }:=by
   refine(I.tok (s.toks+1)).turnTup (ch:=[z,it]) (its:=[.int i s.toks,u]) (λb hb=>hf b hb) kp (λb hb=>?_) (X6 _) Zzy (.cons ⟨_,rfl⟩ (.cons ru .nil)) ⟨_,t5,rfl,0,rfl⟩;rcases Xu.mp hb with rfl|hb
   ·exact⟨_,z2⟩
   ·rcases Xp.mp hb with rfl
    obtain⟨o4,e4,_⟩:=g2';exact⟨_,e4⟩
  refine⟨.ref s.heap.objs.size,_,I2,rfl,⟨_,x,I.fresh,rfl,rfl,λys hy=>by rw[I.list_inj hy hx];exact ex⟩,⟨⟨_,z2⟩,g2'⟩,λb hb=>?_⟩;have:b≠s.heap.objs.size:=by
   rcases Xu.mp hb with rfl|hb
   ·exact Xy (XH s1)
   ·rcases Xp.mp hb with rfl
    obtain⟨o4,e4,_⟩:=s4;exact Xy (XH e4)
  rw[Zy this];exact(hf b hb).1
 done:=by
  intro X hP hw hK hc i pins s Y H E I hf st hg;subst hP hw hK;obtain⟨⟨old,s1⟩,s4⟩:=st;obtain⟨xs,hx,he⟩:=hg;obtain⟨its,rx,px,hzx⟩:=I.list hx;have l1:=rx.length;refine wpAny_pyNext_enum_end (I.ok.hd hc) s1 s4 px.isList (by simp;omega) λh' k=>⟨rfl,I.turnAll (ch:=[it]) (λb hb=>hf b (.tail _ hb)) λb o n e=>k b o (λq=>n (q▸ .head _)) e⟩
 self:=λ_ _ _ _ _ st h=>by
  obtain⟨⟨old,s1⟩,_⟩:=st;exact wpAny_pyIter_enum s1 h
noncomputable def Yi0(K:Xb)(ta:TA):TI:=λY H R=>ta Y H λvs H1=>∃l,vs=[.ref l]∧(∃xs,SqL K H1 l xs)∧R (Ygr K l) H1
theorem Z0s{X:Cx}{K:Xb}{a:YJ}{ta:TA}{p pos pt:Pos}{es:List YJ}{kk:Nat}(hK:X.K=K)(hg:Gl X "enumerate")(hm:X.mg "enumerate"=YC)(hv:Qa "enumerate"=YB (.type "enumerate"))(ha:PA X [a] ta)
  (he:Xr [a] X.env=(YF,eval a X.env)::Xr [] X.env:=by rfl) (hpl:(JP pos (Xr [] X.env)).any (·.1)=YF:=by rfl) :
  PI X (.Tuple es kk pt) (.Call (.Name "enumerate" p) [a] [] pos) (Yi0 K ta):=by
 subst hK;intro pins s Y H R I h;refine VD (Zi0 I hg hm hv ?_ (by decide) (by decide));refine BJ (thn (ha pos pins s Y H _ I h) λus s1 q=>?_) he hpl;obtain⟨vs,H1,I1,r1,l,e1,⟨xs,hx⟩,q⟩:=q;subst e1;obtain⟨u,rfl,ru⟩:=vals1 r1;cases(show u=QJ l from ru);obtain⟨its,rx,px,hzx⟩:=I1.list hx;refine call_enumerate_list px.isList λh' g1 g2 g3 g4=>?_;have I2:Inv X pins Y H1 { s1 with heap:=h' }:=I1.kept (t':=s1.toks) g4;refine wpAny_pyIter_enum (s:={ s1 with heap:=h' }) g1 ?_;refine⟨_,[_,_],StE _ _ _,_,H1,rfl,I2,Zsb (X4 (Vv _)),⟨⟨_,g1⟩,g2⟩,λb hb=>?_,q⟩;have hb':s1.heap.objs.size≤b:=by
  rcases Xu.mp hb with rfl|hb
  ·exact Nat.le_succ _
  ·rcases Xp.mp hb with rfl
   exact X6 _
 exact I1.fpOk hb' (I1.hok.fresh hb')
noncomputable def Zj6(as:List Xa):List Xa:=as.zipIdx.map λp=>.tuple [.int p.2,p.1]
theorem Zl0{as:List Xa}{i:Nat}{d:Xa}(h:(Zj6 as)[i]? =YB d):∃x,as[i]? =YB x∧d= .tuple [.int i,x]:=by
 unfold Zj6 at h;rw[Xl,List.getElem?_zipIdx]at h;cases e:as[i]? with
 | none=>rw[e]at h;cases h
 | some x=>
  rw[e]at h;cases h;exact⟨x,rfl,by rw[VR]⟩
theorem Zq7{as:List Xa}{i:Nat}(h:(Zj6 as)[i]? =YC):as.length≤i:=by
 have:=QH.mp h;unfold Zj6 at this;simpa using this
section
variable {X:Cx}{io:List Nat}{p c:Bool}{a:YJ}{mr:MAt}{ra:FA}
noncomputable def iEn(mr:MAt):MIt:=λδ K=>mr δ λrs δ'=>match OT.datas rs with|[.list as]=>K (Zj6 as) δ'|_=>False
theorem Z33{p' pos pt:Pos}{es:List YJ}{kk:Nat}(hg:Gl X "enumerate")(hm:X.mg "enumerate"=YC)(hv:Qa "enumerate"=YB (.type "enumerate"))(ha:MA X io p c [a] mr)
  (he:Xr [a] X.env=(YF,eval a X.env)::Xr [] X.env:=by rfl) (hpl:(JP pos (Xr [] X.env)).any (·.1)=YF:=by rfl):MI X io p c (.Tuple es kk pt) (.Call (.Name "enumerate" p') [a] [] pos) (iEn mr):=by
 obtain⟨_,A,s⟩:=ha;refine⟨_,Z0s rfl hg hm hv A he hpl,λC H Y δ fp ex K' Q R h kk=>s C H Y δ fp ex _ _ R h λH1 vs rs δ1 fp1 new r1 h1=>?_⟩;have q:=r1.das R;generalize OT.datas rs=ds at q h1;split at h1
 case h_2=>exact h1.elim
 rename_i as;cases q with
 | cons q1 q2=>
  cases q2;have R1:=r1.base;obtain⟨l1,xs,rfl,k1⟩:=R1.keptList q1;have e1:=k1 H1 λ_ _ e _=>e;refine⟨l1,rfl,⟨_,e1.1⟩,kk _ H1 _ δ1 fp1 R1 r1.stp (λH' kp i=>?_) h1⟩;obtain⟨s1,d1⟩:=k1 H' kp;refine⟨λd hd=>?_,λhd=>?_⟩
  ·obtain⟨x,hx,rfl⟩:=Zl0 hd
   obtain⟨u,hu,qu⟩:=d1.get hx;refine⟨⟨_,u,s1,hu⟩,λv H'' hyl=>?_⟩;obtain⟨t,u',ht,rfl,rfl,hu'⟩:=hyl;have eu:=hu' _ s1;rw[hu]at eu;cases eu;exact⟨Z7 ht _,.tup Z8 (.cons (.int _) (.cons (qu.same (Z7 ht _)) .nil))⟩
  ·exact⟨_,s1,by rw[d1.length];exact Zq7 hd⟩
noncomputable def Zxt(a:FA):FI:=λδ=>(a δ).bind λp=>match OT.datas p.1 with|[.list as]=>YB (Zj6 as,p.2)|_=>YC
theorem Z4r{tg e:YJ}(h:MI X io p c tg e (iEn (o2 ra))):MI X io p c tg e (o2 (Zxt ra)):=h.weak λδ K h=>by
 obtain⟨r,δ',h,k⟩:=h;obtain⟨⟨x,δ1⟩,h1,h⟩:=bs h;dsimp only at h;split at h
 ·rename_i q
  injection h with h;injection h with e1 e2;subst e1 e2;refine⟨x,_,h1,?_⟩;dsimp only;rw[q];exact k
 ·cases h
end
variable {G:Xb}
theorem Z6b{α:Type}{p:α->Prop}{a b c d:α}(h1:p a)(h2:p b)(h3:p c)(h4:p d):∀x∈[a,b,c,d],p x:=by
 intro x hx;rcases Xu.mp hx with rfl|hx
 ·exact h1
 rcases Xu.mp hx with rfl|hx
 ·exact h2
 rcases Xu.mp hx with rfl|hx
 ·exact h3
 rcases Xp.mp hx with rfl;exact h4
theorem Yd3{α:Type}{p:α->Prop}{a b c d e:α}(h1:p a)(h2:p b)(h3:p c)(h4:p d)(h5:p e):∀x∈[a,b,c,d,e],p x:=λx hx=>(Xu.mp hx).elim (λq=>q▸h1) (Z6b h2 h3 h4 h5 x)
theorem no4{α:Type}{a b c d x:α}(h1:x≠a)(h2:x≠b)(h3:x≠c)(h4:x≠d):x∉[a,b,c,d]:=λhx=>Z6b (p:=λy=>x≠y) h1 h2 h3 h4 x hx rfl
noncomputable def SqB(K:Xb)(t:Bool)(H:Hp)(a:YG)(xs:List V):Prop:=match t with|true=>H a=YB (.tup xs)|false=>SqL K H a xs
noncomputable def IsB(t:Bool)(h:YH)(a:YG)(its:Array Xf):Prop:=match t with|true=>IsTup h a its|false=>h.IsList a its
noncomputable def ItB(t:Bool)(h:YH)(it a:YG)(i:Nat):Prop:=match t with|true=>IsTupIter h it a i|false=>h.IsListIter it a i
theorem ItB.at{t:Bool}{h h':YH}{it a:YG}{i:Nat}(x:ItB t h it a i)(k:∀o,h.get? it=YB o->h'.get? it=YB o):ItB t h' it a i:=by
 cases t with
 | false=>exact Heap.IsListIter.at x k
 | true=>
  obtain⟨o,ho,r⟩:=x;exact⟨o,k o ho,r⟩
theorem ItB.obj{t:Bool}{h:YH}{it a:YG}{i:Nat}(x:ItB t h it a i):∃o,h.get? it=YB o∧∀v,o.data≠ .cell v:=by
 cases t with
 | false=>
  obtain⟨o,ho,_,d⟩:=x;exact⟨o,ho,λv q=>by rw[d]at q;cases q⟩
 | true=>
  obtain⟨o,ho,_,d⟩:=x;exact⟨o,ho,λv q=>by rw[d]at q;cases q⟩
theorem IsB.lt{t:Bool}{h:YH}{a:YG}{its:Array Xf}(x:IsB t h a its):a<h.objs.size:=by
 cases t with
 | false=>
  obtain⟨o,ho,_⟩:=x;exact XH ho
 | true=>
  obtain⟨o,ho,_⟩:=x;exact XH ho
theorem SqB.its{X:Cx}{pins:List (YG×Obj)}{Y:St}{H:Hp}{s:Xg}{t:Bool}{a:YG}{xs:List V}(I:Inv X pins Y H s)(h:SqB X.K t H a xs):∃its:List Xf,Vals xs its∧IsB t s.heap a its.toArray:=by
 cases t with
 | false=>
  obtain⟨its,r,p,_⟩:=I.list h;exact⟨its,r,p.isList⟩
 | true=>
  obtain⟨_,its,r,p⟩:=(show ObjOk X.prog X.w H s.heap a (.tup xs)from I.hok a _ h);exact⟨its,r,p⟩
theorem SqB.inj{X:Cx}{pins:List (YG×Obj)}{Y:St}{H:Hp}{s:Xg}{t:Bool}{a:YG}{xs ys:List V}(I:Inv X pins Y H s)(h:SqB X.K t H a xs)(k:SqB X.K t H a ys):xs=ys:=by
 cases t with
 | false=>exact I.list_inj h k
 | true=>
  have:=(show H a=YB (.tup xs)from h).symm.trans k;cases this;rfl
section
variable {P:Qe}{w:Qz}
theorem Zs5{t:Bool}{it a:YG}{i:Nat}{items:Array Xf}{x:Xf}(hx:items[i]? =YB x):Gives P w it [it,a] (λh=>ItB t h it a i∧IsB t h a items) x (λh=>ItB t h it a (i+1)):=by
 cases t with
 | true=>exact Zsp hx
 | false=>
  exact⟨.head _,λst hQ=>wpAny_nextOf_list_item st.1 st.2 hx hQ,λh h' k st=>⟨Heap.IsListIter.at st.1 λo e=>k it (.head _) o e,by
   obtain⟨o,ho,r⟩:=st.2;exact⟨o,k a (.tail _ (.head _)) o ho,r⟩⟩,λh h' k st=>Heap.IsListIter.at st λo e=>k it (.head _) o e⟩
theorem Z68{t:Bool}{it a:YG}{i:Nat}{items:Array Xf}(hx:items[i]? =YC):Zj0 P w it [it,a] (λh=>ItB t h it a i∧IsB t h a items):=by
 cases t with
 | true=>exact Zyh hx
 | false=>
  exact⟨.head _,λhh st hE=>wpAny_nextOf_list_end hh st.1 st.2 hx hE,λh h' k st=>⟨Heap.IsListIter.at st.1 λo e=>k it (.head _) o e,by
   obtain⟨o,ho,r⟩:=st.2;exact⟨o,k a (.tail _ (.head _)) o ho,r⟩⟩⟩
end
noncomputable def Yfp(K:Xb)(t:Bool)(a b:YG):It :=
 ⟨λi H=>∃xs ys x y,SqB K t H a xs∧SqB K t H b ys∧xs[i]? =YB x∧ys[i]? =YB y,
   λi H v H'=>∃p x y,H p=YC∧v= .ref p∧H'=upd H p (.tup [x,y])∧(∀xs,SqB K t H a xs->xs[i]? =YB x)∧∀ys,SqB K t H b ys->ys[i]? =YB y,
   λi H=>∃xs ys,SqB K t H a xs∧SqB K t H b ys∧(xs.length≤i∨ys.length≤i)⟩
noncomputable def Yff(t:Bool)(z TI TO i1 i2 a b:YG)(i:Nat)(h:YH):Prop:=IsZip h z TI TO .none∧Vi h TI (.ref i1) (.ref i2)∧(∃x y,Vi h TO x y)∧ItB t h i1 a i∧ItB t h i2 b i
theorem Zu5{P:Qe}{w:Qz}{K:Xb}{es:List YJ}{kk:Nat}{pos:Pos}{t:Bool}{z TI TO i1 i2 a b:YG}(D:ZA z TI TO i1 i2 [i1,a] [i2,b])(D2:TI≠TO∧TI≠i1∧TI≠i2):Turn P w K (.Tuple es kk pos) (Yfp K t a b) [z,TI,TO,i1,i2] z (Yff t z TI TO i1 i2 a b) where
 mem:=.head _
 obj:=λi h st=>by
  obtain⟨s1,s2,⟨x,y,s3⟩,s4,s5⟩:=st;exact Yd3 ⟨_,s1,λv q=>by cases q⟩ ⟨_,s2,λv q=>by cases q⟩ ⟨_,s3,λv q=>by cases q⟩ s4.obj s5.obj
 keep:=λi h h' st k=>by
  obtain⟨s1,s2,⟨x,y,s3⟩,s4,s5⟩:=st;have m2:TI∈[z,TI,TO,i1,i2]:=.tail _ (.head _);have m3:TO∈[z,TI,TO,i1,i2]:=.tail _ (.tail _ (.head _));have m4:i1∈[z,TI,TO,i1,i2]:=.tail _ (.tail _ (.tail _ (.head _)));have m5:i2∈[z,TI,TO,i1,i2]:=.tail _ (.tail _ (.tail _ (.tail _ (.head _))));exact⟨k z (.head _) _ s1,k TI m2 _ s2,⟨x,y,k TO m3 _ s3⟩,s4.at (k i1 m4),s5.at (k i2 m5)⟩
 item:=by
  intro X hP hw hK hc i pins s Y H E I hf st hg;subst hP hw hK;obtain⟨s1,s2,⟨x0,y0,s3⟩,s4,s5⟩:=st;obtain⟨xs,ys,x,y,hx,hy,ex,ey⟩:=hg;obtain⟨its,rx,px⟩:=hx.its I;obtain⟨its',ry,py⟩:=hy.its I;obtain⟨u,hu,ru⟩:=rx.get ex;obtain⟨u',hu',ru'⟩:=ry.get ey;rw[←List.getElem?_toArray]at hu hu';refine Zq4 D (Zs5 hu) (Zs5 hu') s1 s2 s3 ⟨s4,px⟩ ⟨s5,py⟩ λh' g1 g2 g3 g4 g5 g6=>?_;refine⟨_,rfl,wpAny_letOwnedTupleGo_zip (s:={ s with heap:=h' }) g1 λh2 z2 sb=>?_⟩;have up:∀c o,c≠z->h'.get? c=YB o->h2.get? c=YB o:=λc o n e=>(sb.2 c n).trans e;have kp:∀c o,c∉[z,TO,i1,i2]->s.heap.get? c=YB o->h2.get? c=YB o:=λc o n e=>up c o (λq=>n (q▸ .head _)) (g6 c o n e);have t5:Vi h2 s.heap.objs.size u u':=up _ _ (X4 (XH s1)) g5;have i1z:=(D.a1 i1 (.head _)).1;have i2z:=(D.a2 i2 (.head _)).1;have n3:=g3.at (up i1 · i1z);have n4:=g4.at (up i2 · i2z);obtain⟨f1,f2,f3,f4,f5⟩:(Zlj X pins H z∧Zlj X pins H TI∧Zlj X pins H TO∧Zlj X pins H i1∧Zlj X pins H i2):=⟨hf _ (.head _),hf _ (.tail _ (.head _)),hf _ (.tail _ (.tail _ (.head _))),hf _ (.tail _ (.tail _ (.tail _ (.head _)))),hf _ (.tail _ (.tail _ (.tail _ (.tail _ (.head _)))))⟩;have I2:Inv X pins Y (upd H s.heap.objs.size (.tup [x,y])) { s with heap:=h2 } :=
   I.turnTup (ch:=[z,TO,i1,i2]) (its:=[u,u']) (Z6b f1 f3 f4 f5) kp (Z6b ⟨_,z2⟩ ⟨_,up _ _ D.TOz g2⟩ (n3.obj.imp λ_ q=>q.1) (n4.obj.imp λ_ q=>q.1)) (X6 _) Zzy (.cons ru (.cons ru' .nil)) ⟨_,t5,rfl,0,rfl⟩
  have lt:∀{c:YG} {o:Obj},s.heap.get? c=YB o->Zlj X pins H c->upd H s.heap.objs.size (.tup [x,y]) c=YC:=λe f=>by rw[Zy (Xy (XH e))];exact f.1
  refine⟨.ref s.heap.objs.size,_,I2,rfl,⟨_,x,y,I.fresh,rfl,rfl,λzs hz=>by rw[hz.inj I hx];exact ex,λzs hz=>by rw[hz.inj I hy];exact ey⟩,⟨z2,kp TI _ (no4 D.TIz D2.1 D2.2.1 D2.2.2) s2,⟨_,_,up _ _ D.TOz g2⟩,n3,n4⟩,?_⟩;obtain⟨o4,e4,_⟩:=s4.obj;obtain⟨o5,e5,_⟩:=s5.obj;exact Yd3 (lt s1 f1) (lt s2 f2) (lt s3 f3) (lt e4 f4) (lt e5 f5)
 done:=by
  intro X hP hw hK hc i pins s Y H E I hf st hg;subst hP hw hK;obtain⟨s1,s2,⟨x0,y0,s3⟩,s4,s5⟩:=st;obtain⟨xs,ys,hx,hy,he⟩:=hg;obtain⟨its,rx,px⟩:=hx.its I;obtain⟨its',ry,py⟩:=hy.its I;have l1:=rx.length;have l2:=ry.length;refine Zsv (I.ok.hd hc) D (S1:=λh=>ItB t h i1 a i∧IsB t h a its.toArray) (T1:=λh=>ItB t h i1 a (i+1)) (S2:=λh=>ItB t h i2 b i∧IsB t h b its'.toArray) ?_ s1 s2 s3 ⟨s4,px⟩ ⟨s5,py⟩ λh' k=>⟨rfl,I.turnAll (ch:=[z,TO,i1,i2]) (Z6b (hf _ (.head _)) (hf _ (.tail _ (.tail _ (.head _)))) (hf _ (.tail _ (.tail _ (.tail _ (.head _))))) (hf _ (.tail _ (.tail _ (.tail _ (.tail _ (.head _))))))) k⟩;cases q:its.toArray[i]? with
  | none=>exact .inl (Z68 q)
  | some v=>
   refine .inr ⟨⟨v,Zs5 q⟩,Z68 ?_⟩;have:=(Array.getElem?_eq_some_iff.mp q).1;rw[XF]at this;rw[Array.getElem?_eq_none_iff,XF];omega
 self:=λ_ _ _ _ _ st h=>wpAny_pyIter_zip st.1 h
theorem Ztc{P:Qe}{w:Qz}{A:Qs}{E:Xf->Xg->Prop}{s:Xg}{t:Bool}{a b:YG}{xs ys:Array Xf}{Q:Xf->Xg->Prop}(h1:IsB t s.heap a xs)(h2:IsB t s.heap b ys)
  (h:∀h' n,n=s.heap.objs.size->IsZip h' (n+4) (n+2) (n+3) .none->Vi h' (n+2) (.ref n) (.ref (n+1))->Vi h' (n+3) .none .none->ItB t h' n a 0->ItB t h' (n+1) b 0 ->
   (∀ c o,s.heap.get? c=YB o->h'.get? c=YB o)->Q (.ref (n+4)) { s with heap:=h' }):Qd (Ql P w) A (call (.type "zip") [.ref a,.ref b]) Q E s:=by
 cases t with
 | true=>exact Zu7 h1 h2 h
 | false=>exact call_zip_2 h1 h2 λh' g1 g2 g3 g4 g5 _ g7=>h h' _ rfl g1 g2 g3 g4 g5 g7
noncomputable def Ydy(K:Xb)(ta:TA):TI:=λY H R=>ta Y H λvs H1=>∃t a b,vs=[.ref a,.ref b]∧(∃xs,SqB K t H1 a xs)∧(∃ys,SqB K t H1 b ys)∧R (Yfp K t a b) H1
theorem Z5a{X:Cx}{K:Xb}{a b:YJ}{ta:TA}{p pos pt:Pos}{es:List YJ}{kk:Nat}(hK:X.K=K)(hg:Gl X "zip")(hm:X.mg "zip"=YC)(hv:Qa "zip"=YB (.type "zip"))(ha:PA X [a,b] ta)
  (he:Xr [a,b] X.env=(YF,eval a X.env)::Xr [b] X.env:=by rfl) (hpl:(JP pos (Xr [b] X.env)).any (·.1)=YF:=by rfl) :
  PI X (.Tuple es kk pt) (.Call (.Name "zip" p) [a,b] [] pos) (Ydy K ta):=by
 subst hK;intro pins s Y H R I h;refine VD (Zi0 I hg hm hv ?_ (by decide) (by decide));refine BJ (thn (ha pos pins s Y H _ I h) λus s1 q=>?_) he hpl;obtain⟨vs,H1,I1,r1,t,l1,l2,e1,⟨xs,hx⟩,⟨ys,hy⟩,q⟩:=q;subst e1;obtain⟨u,u',rfl,ru,ru'⟩:=vals2 r1;cases(show u=QJ l1 from ru);cases(show u'=QJ l2 from ru');obtain⟨its,rx,px⟩:=hx.its I1;obtain⟨its',ry,py⟩:=hy.its I1;refine Ztc px py λh' n en g1 g2 g3 g4 g5 g7=>?_;have I2:Inv X pins Y H1 { s1 with heap:=h' }:=I1.kept (t':=s1.toks) g7;refine wpAny_pyIter_zip (s:={ s1 with heap:=h' }) g1 ?_;refine⟨_,[_,_,_,_,_],Yff _ _ _ _ _ _ _ _,_,H1,rfl,I2,Zu5 (ZA.new (en▸px.lt) (en▸py.lt)) (ZA.new2 n),⟨g1,g2,⟨_,_,g3⟩,g4,g5⟩,?_,q⟩;subst en;have ok:∀k:Nat,Zlj X pins H1 (s1.heap.objs.size+k):=λk=>I1.fpOk (V1 _ _) (I1.hok.fresh (V1 _ _));exact Yd3 (ok 4) (ok 2) (ok 3) (ok 0) (ok 1)
section
variable {X:Cx}{io:List Nat}{p c:Bool}{a b:YJ}{mr:MAt}{ra:FA}
noncomputable def Ybk(t:Bool)(as:List Xa):Xa:=match t with|true=>.tuple as|false=>.list as
theorem Rel.keptSq{C:MC G}{H:Hp}{Y:St}{δ:Zh}{fp:Fp}{ex:YG->Prop}{v:V}{t:Bool}{ds:List Xa}(R:Rel C io H Y δ fp ex)(q:Da G H (λa=>c=YD->Lf C fp ex a) v (Ybk t ds)) :
  ∃a xs,v= .ref a∧∀H':Hp,(∀b o,H b=YB o->(c=YF∨¬Foot fp b)->H' b=YB o)->SqB G t H' a xs∧Das G H' (λa=>c=YD->(Lf C fp ex a∧H a≠YC)) xs ds:=by
 cases t with
 | false=>exact R.keptList q
 | true=>
  generalize hd:Ybk YD ds=d at q;cases q with
  | tup e r=>
   cases hd;rename_i a0 xs0;refine⟨a0,xs0,rfl,λH' kp=>?_⟩;obtain⟨f1,f2⟩:=R.kept kp;exact⟨f2 _ (.tup _) e,r.frame f1 f2⟩
  | _=>cases hd
theorem Zyc{ds es:List Xa}(h:Yat ds=YB es):∃t as bs,ds=[Ybk t as,Ybk t bs]∧es=Zl7 as bs:=by
 unfold Yat at h;split at h
 ·cases h;exact⟨YF,_,_,rfl,rfl⟩
 ·cases h;exact⟨YD,_,_,rfl,rfl⟩
 ·cases h
noncomputable def iZB(mr:MAt):MIt:=λδ K=>mr δ λrs δ'=>∃es,Yat (OT.datas rs)=YB es∧K es δ'
theorem Zgk{p' pos pt:Pos}{es:List YJ}{kk:Nat}(hg:Gl X "zip")(hm:X.mg "zip"=YC)(hv:Qa "zip"=YB (.type "zip"))(ha:MA X io p c [a,b] mr)
  (he:Xr [a,b] X.env=(YF,eval a X.env)::Xr [b] X.env:=by rfl) (hpl:(JP pos (Xr [b] X.env)).any (·.1)=YF:=by rfl):MI X io p c (.Tuple es kk pt) (.Call (.Name "zip" p') [a,b] [] pos) (iZB mr):=by
 obtain⟨_,A,s⟩:=ha;refine⟨_,Z5a rfl hg hm hv A he hpl,λC H Y δ fp ex K' Q R h kk=>s C H Y δ fp ex _ _ R h λH1 vs rs δ1 fp1 new r1 h1=>?_⟩;have q:=r1.das R;obtain⟨es,hz,h1⟩:=h1;obtain⟨t,as,bs,e,rfl⟩:=Zyc hz;rw[e]at q;cases q with
 | cons q1 q2=>
  cases q2 with
  | cons q2 q3=>
   cases q3;have R1:=r1.base;obtain⟨l1,xs,rfl,k1⟩:=R1.keptSq q1;obtain⟨l2,ys,rfl,k2⟩:=R1.keptSq q2;refine⟨t,l1,l2,rfl,⟨_,(k1 H1 λ_ _ e _=>e).1⟩,⟨_,(k2 H1 λ_ _ e _=>e).1⟩,kk _ H1 _ δ1 fp1 R1 r1.stp (λH' kp i=>?_) h1⟩;obtain⟨s1,d1⟩:=k1 H' kp;obtain⟨s2,d2⟩:=k2 H' kp;refine⟨λd hd=>?_,λhd=>⟨_,_,s1,s2,by rw[d1.length,d2.length];exact Ztv hd⟩⟩;obtain⟨x,y,hx,hy,rfl⟩:=Zy1 hd;obtain⟨u,hu,qu⟩:=d1.get hx;obtain⟨w,hw,qw⟩:=d2.get hy;refine⟨⟨_,_,u,w,s1,s2,hu,hw⟩,λv H'' hyl=>?_⟩;obtain⟨t',u',w',ht,rfl,rfl,hu',hw'⟩:=hyl;cases hu.symm.trans (hu' _ s1);cases hw.symm.trans (hw' _ s2);exact⟨Z7 ht _,.tup Z8 (.cons (qu.same (Z7 ht _)) (.cons (qw.same (Z7 ht _)) .nil))⟩
theorem Zf4{tg e:YJ}(g:MI X io p c tg e (iZB (o2 ra))):MI X io p c tg e (o2 (Zdx ra)):=g.weak λδ K h=>by
 obtain⟨r,δ',h,k⟩:=h;obtain⟨⟨x,δ1⟩,h1,h⟩:=bs h;obtain⟨ds,h2,h⟩:=bs h;cases h;exact⟨x,_,h1,_,h2,k⟩
end
end L2
namespace L2
open PySem PySem.Spec PyProof.Rows PySem.W
noncomputable def kEv{α:Type}(lt:Nat->Nat->Bool):KasT α->α
 | .ret a=>a
 | .ask i j k=>kEv lt (k (lt i j))
noncomputable def kGood{α:Type}(n:Nat)(P:α->Prop):KasT α->Prop
 | .ret a=>P a
 | .ask i j k=>i<n∧j<n∧∀b,kGood n P (k b)
theorem kGood.bind{α β:Type}{n:Nat}{P:α->Prop}{R:β->Prop}{f:α->KasT β}(hf:∀a,P a->kGood n R (f a)){t:KasT α}(h:kGood n P t):kGood n R (t.bind f):=by
 induction t with
 | ret a=>exact hf a h
 | ask i j k ih=>exact⟨h.1,h.2.1,λb=>ih b (h.2.2 b)⟩
theorem kGood.ev{α:Type}{n:Nat}{P:α->Prop}{lt:Nat->Nat->Bool}{t:KasT α}(h:kGood n P t):P (kEv lt t):=by
 induction t with
 | ret a=>exact h
 | ask i j k ih=>exact ih _ (h.2.2 _)
theorem kGood.wp{α:Type}{n:Nat}{P:α->Prop}{lt:Nat->Nat->Bool}{cmp:Nat->Nat->(Bool->Xg->Prop)->Xg->Prop}{s:Xg}{Q:α->Xg->Prop}(hc:∀i j C,i<n->j<n->C (lt i j) s->cmp i j C s){t:KasT α}(h:kGood n P t)(q:Q (kEv lt t) s):t.kasWp cmp Q s:=by
 induction t with
 | ret a=>exact q
 | ask i j k ih=>exact hc i j _ h.1 h.2.1 (ih _ (h.2.2 _) q)
noncomputable def kP(n:Nat)(p:Array Nat):Prop:=p.toList.Perm (Xd n)
theorem kP.at{n:Nat}{p:Array Nat}(h:kP n p)(h0:0<n)(i:Nat):p.getD i 0<n:=by
 by_cases c:i<p.size
 ·have e:p.getD i 0=p[i]:=by simp[Array.getD,c]
  rw[e];exact Xx.mp (h.mem_iff.mp (Array.getElem_mem_toList c))
 ·have e:p.getD i 0=0:=by simp[Array.getD,c]
  rw[e];exact h0
theorem kP.rev{n:Nat}{p:Array Nat}(h:kP n p)(i j:Nat):kP n (kas_rev p i j):=(Array.perm_iff_toList_perm.mp (mirror_perm p i j _)).trans h
theorem kP.bub{n:Nat}{p:Array Nat}(h:kP n p)(i j:Nat):kP n (bubble p i j):=(Array.perm_iff_toList_perm.mp (bubble_perm p i j)).trans h
theorem Zpx{n:Nat}{p:Array Nat}(h:kP n p)(h0:0<n)(f m:Nat):kGood n (λ_=>True) (kas_asc p f m):=by
 induction f generalizing m with
 | zero=>exact trivial
 | succ f ih=>
  refine⟨h.at h0 _,h.at h0 _,λb=>?_⟩;cases b
  ·exact ih _
  ·exact trivial
theorem Ztb{n:Nat}(h0:0<n)(f:Nat){p:Array Nat}(h:kP n p)(m q:Nat):kGood n (λr:Array Nat×Nat×Nat=>kP n r.1) (kas_desc f p m q):=by
 induction f generalizing p m q with
 | zero=>exact h
 | succ f ih=>
  refine⟨h.at h0 _,h.at h0 _,λb=>?_⟩;cases b
  ·refine⟨h.at h0 _,h.at h0 _,λb=>?_⟩
   cases b
   ·exact ih h _ _
   ·exact h
  ·show kGood n _ (if q>0 then _ else _)
   split
   ·exact ih (h.rev _ _) _ _
   ·exact ih h _ _
theorem Zma{n:Nat}{p:Array Nat}(h:kP n p)(h0:0<n)(m r:Nat):kGood n (λr:Nat×Array Nat=>kP n r.2) (kas_tail3 m r p):=by
 refine kGood.bind (P:=λ_=>True) (λa _=>?_) (Zpx (h.rev _ _) h0 _ _);exact h.rev _ _
theorem Ze0{n:Nat}{p:Array Nat}(h:kP n p)(h0:0<n)(m r:Nat):kGood n (λr:Nat×Array Nat=>kP n r.2) (kas_descPart m r p) :=
 (Ztb h0 _ h _ _).bind λx hx=>by
  show kGood n _ (if x.2.2>0 then _ else _);split
  ·exact Zma (hx.rev _ _) h0 _ _
  ·exact Zma hx h0 _ _
theorem Zp9{n:Nat}{p:Array Nat}(h:kP n p)(h0:0<n)(r:Nat):kGood n (λr:Nat×Array Nat=>kP n r.2) (kas_count r p) :=
 (Zpx h h0 _ _).bind λm _=>by
  show kGood n _ (if(m==r)=YD then _ else if m>1 then _ else _);split
  ·exact h
  ·split
   ·refine⟨h.at h0 _,h.at h0 _,λb=>?_⟩
    cases b
    ·exact Ze0 (h.rev _ _) h0 _ _
    ·exact h
   ·exact Ze0 h h0 _ _
theorem Zqx{n:Nat}{p:Array Nat}(h:kP n p)(h0:0<n)(k f l r:Nat):kGood n (λ_=>True) (kas_place p k f l r):=by
 induction f generalizing l r with
 | zero=>exact trivial
 | succ f ih=>
  show kGood n _ (if l≥r then _ else _);split
  ·exact trivial
  ·refine⟨h.at h0 _,h.at h0 _,λb=>?_⟩
   cases b
   ·exact ih _ _
   ·exact ih _ _
theorem Zwo{n:Nat}(h0:0<n)(f:Nat){p:Array Nat}(h:kP n p)(k:Nat):kGood n (kP n) (kas_bin f p k):=by
 induction f generalizing p k with
 | zero=>exact h
 | succ f ih=>exact(Zqx h h0 _ _ _ _).bind λl _=>ih (h.bub _ _) _
theorem Zht{n:Nat}(h0:0<n):kGood n (kP n) (kas_sort n) :=
 (Zp9 (p:=Bk (Xd n)) (.refl _) h0 n).bind λr hr=>by
  show kGood n _ (if r.1<n then _ else _);split
  ·exact Zwo h0 _ hr _
  ·exact hr
noncomputable def Zv1(lt:Nat->Nat->Bool)(n:Nat):List Nat:=(kEv lt (kas_sort n)).toList
theorem Zfi{lt:Nat->Nat->Bool}{n:Nat}(h0:0<n):(Zv1 lt n).Perm (Xd n):=(Zht h0).ev (P:=kP n)
end L2
namespace L2
open PySem PySem.Spec PyProof.Rows PySem.W PySem.SeqAt
open AutoSeq1 (wpAny_loadPart')
open MeetsSeq MeetsSeq2 MeetsSeq3 SeqRoads2
noncomputable def ltI:List Int->List Int->Bool
 | [],[]=>YF
 | [],_::_=>YD
 | _::_,[]=>YF
 | x::xs,y::ys=>if x=y then ltI xs ys else decide (x<y)
theorem Zpm{vs:List Xf}{ns:List Int}(h:Vj vs ns)(i:Nat)(hi:i<vs.length):∃x t,vs[i]? =YB (.int x t)∧ns.drop i=x::ns.drop (i+1):=by
 induction h generalizing i with
 | nil=>exact YX hi (Vp i)
 | cons n t h ih=>
  cases i with
  | zero=>exact⟨n,t,rfl,rfl⟩
  | succ i=>exact ih i (Nat.lt_of_succ_lt_succ hi)
theorem Zhe{vs:List Xf}{ns:List Int}(h:Vj vs ns):vs.length=ns.length:=by
 induction h with
 | nil=>rfl
 | cons n t h ih=>exact YT Nat.succ ih
theorem Zna{xs ys:List Int}(h:xs=[]∨ys=[]):ltI xs ys=decide (xs.length<ys.length):=by
 cases xs<;>cases ys<;>first|rfl|(rcases h with h|h<;>cases h)|exact(YQ (Nat.succ_pos _)).symm
theorem Zuf(l b:YG)(items items2:Array Xf)(n n2:Nat)(dd dd2:Option YG)(sl sl2:Array (Option Xf)){xs ys:List Int}(h1:Vj items.toList xs)(h2:Vj items2.toList ys)(k:Nat) :
  ∀i:Nat,items.size-i=k->i≤items.size->i≤items2.size->Meets (UW.«list.__eq__.loop» ⟨[.ref l,.ref b,rawInt i,rawInt 0],[]⟩)
   (λA R s=>s.heap.get? l=YB { cls:=.type "list",dict:=dd,data:=.seq items n,slots:=sl }∧s.heap.get? b=YB { cls:=.type "list",dict:=dd2,data:=.seq items2 n2,slots:=sl2 }∧
    R (.ok (.ret (.bool (ltI (xs.drop i) (ys.drop i))))) s):=by
 have e1:items.size=xs.length:=Zhe h1;have e2:items2.size=ys.length:=Zhe h2;have fin:∀i,i≤items.size->i≤items2.size->(i=items.size∨i=items2.size)->ltI (xs.drop i) (ys.drop i)=decide (items.size<items2.size):=λi u1 u2 c=>by
  rw[Zna (c.imp (λc=>Us (by omega)) λc=>Us (by omega)),Q8,Q8];exact decide_eq_decide.mpr (by omega)
 induction k with
 | zero=>
  intro i hk u1 u2 prog w A R s h;obtain⟨hp,g,d,tk,os⟩:=s;obtain⟨hl,hb,h⟩:=h
  wp_walk using JB hl,JB hb
  have hi1:items[((i:Nat):Int).toNat]? =YC:=by simp;omega
  rw[fin i u1 u2 (.inl (by omega))]at h;rw[hi1]
  wp_walk using JB hl,JB hb
  exact h
 | succ k ih=>
  intro i hk u1 u2 prog w A R s h;obtain⟨hp,g,d,tk,os⟩:=s;obtain⟨hl,hb,h⟩:=h;have hlt:i<items.size:=by omega
  obtain⟨x,t,q1,q2⟩:=Zpm h1 i hlt;have hi1:items[((i:Nat):Int).toNat]? =YB (.int x t):=by rw[Q0,←q1,JH]
  wp_walk using JB hl,JB hb
  by_cases c:i<items2.size
  ·obtain⟨y,u,q3,q4⟩:=Zpm h2 i c
   have hi2:items2[((i:Nat):Int).toNat]? =YB (.int y u):=by rw[Q0,←q3,JH]
   have hc:((i:Int)+1)=((i+1:Nat):Int):=by push_cast;rfl
   rw[q2,q4]at h;unfold ltI at h;rw[hi1,hi2];refine Xi (EqAt.int_int x t y u prog w _ _ ?_)
   by_cases cx:x=y
   ·rw[YL cx]at h
    rw[YZ.mpr cx]
    wp_walk
    rw[hc];exact⟨plainId_quiet plain_eq_loop _,codeAny_builtin entry_eq_loop (by
     rw[Around.under_plainId plain_eq_loop _];exact ih (i+1) (by omega) (by omega) (by omega) prog w A R _ ⟨hl,hb,h⟩)⟩
   ·rw[YM cx]at h
    rw[beq_eq_false_iff_ne.mpr cx]
    wp_walk using JB hl,JB hb
    rw[hi1,hi2];refine Xi (lt_int ?_)
    wp_walk
    exact h
  ·have hi2:items2[((i:Nat):Int).toNat]? =YC:=by simp;omega
   rw[fin i u1 u2 (.inr (by omega))]at h;rw[hi1,hi2]
   wp_walk using JB hl,JB hb
   exact h
theorem Zry(l b:YG)(items items2:Array Xf)(n n2:Nat)(dd dd2:Option YG)(sl sl2:Array (Option Xf)){xs ys:List Int}(h1:Vj items.toList xs)(h2:Vj items2.toList ys) :
  Meets (UW.«list.__lt__» ⟨[.ref l,.ref b],[]⟩)
   (λA R s=>s.heap.get? l=YB { cls:=.type "list",dict:=dd,data:=.seq items n,slots:=sl }∧s.heap.get? b=YB { cls:=.type "list",dict:=dd2,data:=.seq items2 n2,slots:=sl2 }∧
    R (.ok (.ret (.bool (ltI xs ys)))) s):=by
 intro prog w A R s h;obtain⟨hp,g,d,tk,os⟩:=s;obtain⟨hl,hb,h⟩:=h;have f3:=AutoSeq1.sub_list_list
 wp_walk using JB hl,JB hb
 exact⟨plainId_quiet plain_eq_loop _,codeAny_builtin entry_eq_loop (by
  rw[Around.under_plainId plain_eq_loop _];exact Zuf l b items items2 n n2 dd dd2 sl sl2 h1 h2 _ 0 rfl (QZ _) (QZ _) prog w A R _ ⟨hl,hb,h⟩)⟩
section
variable {prog:Qe}{w:Qz}{A:Qs}{E:Xf->Xg->Prop}{s:Xg}
theorem Zjr{l b:YG}{items items2:Array Xf}{xs ys:List Int}{Q:Bool->Xg->Prop}(hu:A.units<cLine)(hl:s.heap.IsList l items)(hb:s.heap.IsList b items2)(h1:Vj items.toList xs)(h2:Vj items2.toList ys)(h:Q (ltI xs ys) s) :
  Qd (Ql prog w) A (oneLt' YD (.ref l) (.ref b)) Q E s:=by
 obtain⟨⟨cls,dd,data,sl⟩,hl,hc,n,hd⟩:=hl;obtain⟨⟨cls2,dd2,data2,sl2⟩,hb,hc2,n2,hd2⟩:=hb;simp only at hc hd hc2 hd2;subst hc hd hc2 hd2;rw[oneLt'_eq];simp only[if_true];refine Xi (wpAny_cRoomFor hu ?_);refine Xi (wpAny_callSpecialIfBound?_slot ⟨_,hl,rfl⟩ F.slot_list_lt (call_meets F.slot_list_lt ⟨_,hl,rfl⟩ F.entry_list_lt (F.args_list_lt_2 _ _) (Zry l b items items2 n n2 dd dd2 sl sl2 h1 h2) ⟨hl,hb,?_⟩));exact VN h
end
theorem Z7t{prog:Qe}{w:Qz}{A:Qs}{E:Xf->Xg->Prop}{s:Xg}{a b:Int}{t u:Tok}{Q:Xf->Xg->Prop}(h:Q (.bool (decide (a<b))) s):Qd (Ql prog w) A (richCompare .Lt (.int a t) (.int b u)) Q E s:=lt_int h
theorem Zqj(l b:YG)(items items2:Array Xf)(n n2:Nat)(dd dd2:Option YG)(sl sl2:Array (Option Xf)){xs ys:List Int}(h1:Vj items.toList xs)(h2:Vj items2.toList ys) :
  Meets (UW.«tuple.__lt__» ⟨[.ref l,.ref b],[]⟩)
   (λA R s=>s.heap.get? l=YB { cls:=.type "tuple",dict:=dd,data:=.seq items n,slots:=sl }∧s.heap.get? b=YB { cls:=.type "tuple",dict:=dd2,data:=.seq items2 n2,slots:=sl2 }∧
    R (.ok (.ret (.bool (ltI xs ys)))) s) :=
 .of_wp λprog w A R s h=>by
  obtain⟨hp,g,d,tk,os⟩:=s;obtain⟨hl,hb,h⟩:=h;have f2:=AutoSeq1.sub_tuple_tuple;have e1:items.toList.length=xs.length:=Zhe h1;have e2:items2.toList.length=ys.length:=Zhe h2
  wp_walk using JB hl,JB hb,wpAny_forIn_list _ (λrest b s'=>b.1=YC∧s'=⟨hp,g,d,tk,os⟩∧∃i,rest=(items.toList.zip items2.toList).drop i∧i≤items.toList.length∧i≤items2.toList.length∧
   R (.ok (.ret (.bool (ltI (xs.drop i) (ys.drop i))))) ⟨hp,g,d,tk,os⟩) _
  case turn=>
   rintro⟨v,u⟩ rest b s' ⟨hb',rfl,i,hz,u1,u2,hR⟩;have hlt:i<(items.toList.zip items2.toList).length:=by
    rcases V0 i (items.toList.zip items2.toList).length with h'|h'
    ·exact h'
    ·rw[List.drop_of_length_le h']at hz;cases hz
   have hm:=hlt;rw[List.length_zip]at hm;obtain⟨x,t,q1,q2⟩:=Zpm h1 i (by omega);obtain⟨y,r,q3,q4⟩:=Zpm h2 i (by omega);rw[V2 hlt]at hz;injection hz with hyx hrest;have hz0:(items.toList.zip items2.toList)[i]? =YB (.int x t,.int y r):=by rw[List.getElem?_zip_eq_some];exact⟨q1,q3⟩
   rw[Xm hlt]at hz0;injection hz0 with hz0;rw[hz0]at hyx;cases hyx;rw[q2,q4]at hR;unfold ltI at hR;refine Xi (EqAt.int_int x t y r prog w _ _ ?_)
   by_cases cx:x=y
   ·rw[YL cx]at hR
    rw[YZ.mpr cx]
    wp_walk
    exact⟨rfl,rfl,i+1,hrest,by omega,by omega,hR⟩
   ·rw[YM cx]at hR
    rw[beq_eq_false_iff_ne.mpr cx]
    wp_walk using Z7t
    exact⟨_,rfl,hR⟩
  case fin=>
   rintro⟨b1,b2⟩ s' ⟨hb',rfl,i,hz,u1,u2,hR⟩;simp only at hb';subst hb';have hge:min items.toList.length items2.toList.length≤i:=by
    rcases V0 i (items.toList.zip items2.toList).length with h'|h'
    ·rw[V2 h']at hz;cases hz
    ·rw[List.length_zip]at h';exact h'
   have hv:ltI (xs.drop i) (ys.drop i)=decide (items.size<items2.size):=by
    rw[Zna ((show i=items.toList.length∨i=items2.toList.length by omega).imp (λc=>Us (by omega)) λc=>Us (by omega)),Q8,Q8];rw[V4]at e1 e2 u1 u2;exact decide_eq_decide.mpr (by omega)
   rw[hv]at hR
   wp_walk
   exact⟨_,rfl,hR⟩
  case h=>
   exact⟨rfl,rfl,0,rfl,QZ _,QZ _,h⟩
section
variable {prog:Qe}{w:Qz}{A:Qs}{E:Xf->Xg->Prop}{s:Xg}
theorem Zve{l b:YG}{items items2:Array Xf}{xs ys:List Int}{Q:Bool->Xg->Prop}(hu:A.units<cLine)(hl:s.heap.IsTuple l items)(hb:s.heap.IsTuple b items2)(h1:Vj items.toList xs)(h2:Vj items2.toList ys)(h:Q (ltI xs ys) s) :
  Qd (Ql prog w) A (oneLt' YF (.ref l) (.ref b)) Q E s:=by
 obtain⟨⟨cls,dd,data,sl⟩,hl,hc,n,hd⟩:=hl;obtain⟨⟨cls2,dd2,data2,sl2⟩,hb,hc2,n2,hd2⟩:=hb;simp only at hc hd hc2 hd2;subst hc hd hc2 hd2;exact kat_one _ _ (richCompare_meets_room (op:=.Lt) ⟨_,hl,rfl⟩ ⟨_,hb,rfl⟩ F.slot_tuple_lt F.entry_tuple_lt (F.args_tuple_lt_2 _ _) (Zqj l b items items2 n n2 dd dd2 sl sl2 h1 h2)
  ⟨hl,hb,show Value.bool (ltI xs ys)≠Xf.notImplemented∧_ from⟨(λx=>nomatch x),h⟩⟩ hu)
end
end L2
namespace L2
open PySem PySem.Spec PyProof.Rows PySem.W
noncomputable def sLay{α:Type}(d:α)(lt:Nat->Nat->Bool)(vs:List α):List α:=if vs.length<2 then vs else(Zv1 lt vs.length).map λi=>vs.getD i d
theorem Zri{α:Type}(d:α)(vs:List α):((Xd vs.length).map λi=>vs.getD i d)=vs:=by
 refine List.ext_getElem? λi=>?_;rw[Xl]
 by_cases c:i<vs.length
 ·rw[Qq c,Xm c]
  show YB (vs.getD i d)=_;rw[Xe,Xm c];rfl
 ·rw[Qp (by rw[Xj];omega),Qp (by omega)];rfl
theorem Zfh{α:Type}(d:α)(lt:Nat->Nat->Bool)(vs:List α):(sLay d lt vs).Perm vs:=by
 unfold sLay;split
 ·exact .refl _
 ·have:=(Zfi (lt:=lt) (n:=vs.length) (by omega)).map λi=>vs.getD i d
  rwa[Zri]at this
theorem Zpu{α β:Type}(f:α->β)(d:α)(lt:Nat->Nat->Bool)(vs:List α):sLay (f d) lt (vs.map f)=(sLay d lt vs).map f:=by
 unfold sLay;rw[Xc];split
 ·rfl
 ·rw[XQ]
  refine Xn λi _=>?_;show(vs.map f).getD i (f d)=f (vs.getD i d);rw[Xe,Xe,Xl];cases vs[i]? <;>rfl
theorem Zti{lt:Nat->Nat->Bool}{xs:List V}{us:List Xf}(h:Vals xs us):Vals (sLay .non lt xs) (sLay .none lt us):=by
 unfold sLay;rw[h.length];split
 ·exact h
 ·generalize Zv1 lt _=l
  induction l with
  | nil=>exact .nil
  | cons i l ih=>
   refine .cons ?_ ih;show RelV (xs.getD i V.non) (us.getD i QT);rw[Xe,Xe];cases e:xs[i]? with
   | some x=>
    obtain⟨u,e',r⟩:=h.get e;rw[e'];exact r
   | none=>
    have:us[i]? =YC:=Qp (by rw[←h.length];exact QH.mp e);rw[this];exact rfl
section
variable {prog:Qe}{w:Qz}{A:Qs}{E:Xf->Xg->Prop}{s:Xg}
theorem Zqo{κ:Ve}{lt:Nat->Nat->Bool}{h0:YH}{a:YG}{vs:List Xf}{n:Nat}{P:PySem.Fin->Xg->Prop}(ho:s.heap.get? a=YB (Q9 "list" vs.toArray n))
  (k0:∀b o,h0.get? b=YB o->s.heap.get? b=YB o) (ha0:h0.get? a=YC) (h64:vs.length<64)
  (hk:2≤vs.length->∀s':Xg,(∀b o,h0.get? b=YB o->s'.heap.get? b=YB o)->∀Q:Ve->Xg->Prop,Q κ s'->Qd (Ql prog w) A (keyKind' vs.toArray) Q E s')
  (hc:2≤vs.length->∀s':Xg,(∀b o,h0.get? b=YB o->s'.heap.get? b=YB o)->∀i j C,i<vs.length->j<vs.length->C (lt i j) s'->kas_ask prog w A κ vs i j C s')
  (h:P (.done (.ret .none)) { s with heap:=sortedHeap s.heap a vs (Bk (sLay QT lt vs)) }):Qd (Ql prog w) A (UW.«list.sort» ⟨[.ref a],[]⟩) P E s:=by
 have ha:a<s.heap.objs.size:=XH ho;obtain⟨e1,ho1⟩:∃e1,(s.heap.update a (QK λ_=>(#[]:Array Xf))).get? a=YB (Q9 "list" #[] e1):=⟨_,get?_update_seq ho λ_=>#[]⟩;have ho6:(((s.heap.update a (QK λ_=>(#[]:Array Xf))).push (Q9 "tuple" vs.toArray 0)).push (Q9 "list" #[] 0)).get? a=YB (Q9 "list" #[] e1):=Xo _ (Xo _ ho1);have k6:∀b o,h0.get? b=YB o->(((s.heap.update a (QK λ_=>(#[]:Array Xf))).push (Q9 "tuple" vs.toArray 0)).push (Q9 "list" #[] 0)).get? b=YB o:=λb o e=>by
  refine Xo _ (Xo _ ?_);rw[U8 _ _ _ _ (λq=>by rw[q,ha0]at e;cases e)];exact k0 b o e
 rw[list_sort_plain];refine Xi (listItems_at ho rfl ?_);refine Xi (listUpdate_at ho rfl ?_ (by rw[XF,X8];omega) (QZ _));refine Xi (seqEpoch_at ho1 rfl ?_);refine Xi (wpAny_newTuple ?_ (by show vs.length≤_;rw[X8];omega));refine Xi (wpAny_newList ?_ (QZ _));refine Uj ?_;show Qd (Ql prog w) A _ P E { s with heap:=((s.heap.update a (QK λ_=>(#[]:Array Xf))).push (Q9 "tuple" vs.toArray 0)).push (Q9 "list" #[] 0) };dsimp only;have hs:vs.toArray.size=vs.length:=XF ..
 by_cases h2:vs.toArray.size<2
 ·have el:sLay QT lt vs=vs:=YL (hs▸h2)
  rw[el]at h;rw[YL h2,YL h2];refine Xi (Qk ?_);rw[StateT.run_pure];refine Xi (Qk ?_);dsimp only;refine Xi (seqEpoch_at ho6 rfl ?_);have ez:((vs.toArray.zip vs.toArray).map (·.2))=vs.toArray:=by
   apply Array.toList_inj.mp;rw[Array.toList_map,Array.toList_zip,List.map_snd_zip (X6 _)]
  show Qd _ _ (Builtin.List.listUpdate _ (λ_=>(vs.toArray.zip vs.toArray).map (·.2))>>=_) _ _ _;rw[ez];refine Xi (listUpdate_at ho6 rfl ?_ (QZ _) (by rw[hs,X8];omega));simp only[bne_self_eq_false,Vh,if_false];exact Qk h
 ·rw[YM h2,YM h2]
  have h2':2≤vs.length:=by omega
  have el:sLay QT lt vs=(Zv1 lt vs.length).map λi=>vs.getD i QT:=YM (by omega);rw[el]at h;refine Xi (hk h2' _ k6 _ ?_);have est:Va κ (vs.toArray.zip vs.toArray) #[] 7 YC=kas_st κ (Um vs) (Bk (Xd vs.length)):=by
   have e:=kas_range (Um vs);rw[pairsOf_size]at e;show Va κ (Um vs) #[] 7 YC=Va κ ((Bk (Xd vs.length)).map (X5 (Um vs))) #[] 7 YC;rw[e]
  have run:=kas_runs (prog:=prog) (w:=w) (A:=A) (κ:=κ) (it:=Um vs) (E:=E) (s:={ s with heap:=((s.heap.update a (QK λ_=>(#[]:Array Xf))).push (Q9 "tuple" vs.toArray 0)).push (Q9 "list" #[] 0) })
   (Q:=λ_ st' s'=>arrOf st'=(kEv lt (kas_sort vs.length)).map (X5 (Um vs))∧failedOf st'=YC∧s'={ s with heap:=((s.heap.update a (QK λ_=>(#[]:Array Xf))).push (Q9 "tuple" vs.toArray 0)).push (Q9 "list" #[] 0) })
   (G:=λp s'=>p=kEv lt (kas_sort vs.length)∧s'={ s with heap:=((s.heap.update a (QK λ_=>(#[]:Array Xf))).push (Q9 "tuple" vs.toArray 0)).push (Q9 "list" #[] 0) })
   h2' h64 (λp' st' s' _ a2 a3 a4=>⟨a4.1▸a2,a3,a4.2⟩) (by
    rw[←kas_ask_eq];exact(Zht (n:=vs.length) (by omega)).wp (hc h2' _ k6) ⟨rfl,rfl⟩)
  rw[←est]at run;refine Xi (BW run ?_ λ_ _ e=>e);intro r s' z;obtain⟨har,hf,rfl⟩:=z;have hout:(arrOf r.2).map (·.2)=Bk ((Zv1 lt vs.length).map λi=>vs.getD i QT):=by
   apply Array.toList_inj.mp;rw[har,Array.map_map,Array.toList_map];exact Xn λi _=>by show(X5 (Um vs) i).2=_;rw[kas_item_eq]
  rw[hout];refine Xi (seqEpoch_at ho6 rfl ?_);refine Xi (listUpdate_at ho6 rfl ?_ (QZ _) (by rw[XF,Xc,(Zfi (by omega)).length_eq,Xj,X8];omega));rw[hf];simp only[bne_self_eq_false,Vh,if_false];exact Qk h
theorem Z0w{κ:Ve}{lt:Nat->Nat->Bool}{l:YG}{vs:List Xf}{Q:Xf->Xg->Prop}(hl:s.heap.IsList l vs.toArray)(h64:vs.length<64)
  (hk:2≤vs.length->∀s':Xg,(∀b o,s.heap.get? b=YB o->s'.heap.get? b=YB o)->∀Q:Ve->Xg->Prop,Q κ s'->Qd (Ql prog w) A.in1.in1 (keyKind' vs.toArray) Q E s')
  (hc:2≤vs.length->∀s':Xg,(∀b o,s.heap.get? b=YB o->s'.heap.get? b=YB o)->∀i j C,i<vs.length->j<vs.length->C (lt i j) s'->kas_ask prog w A.in1.in1 κ vs i j C s')
  (h:Q (.ref (s.heap.objs.size+1)) { s with heap:=sortedAll s.heap vs (Bk (sLay QT lt vs)) }):Qd (Ql prog w) A (call (.builtin "sorted") [.ref l]) Q E s:=by
 refine Calls.call_function_entry kind_sorted plain_sorted entry_sorted (args_sorted1 _) ?_;unfold UW.«sorted»;refine Xi (m:=checkCount "sorted" 1 1 _) (Qk ?_);refine Xi (collect_list hl ?_ (by rw[X8];omega));refine Xi (wpAny_newList ?_ (by rw[X8];omega));have hsz:((s.heap.push (Q9 "list" #[] 0)).update s.heap.objs.size (QK (·++vs.toArray))).objs.size=s.heap.objs.size+1:=by
  rw[Heap.size_update,size_push']
 have hoL:(((s.heap.push (Q9 "list" #[] 0)).update s.heap.objs.size (QK (·++vs.toArray))).push (Q9 "list" vs.toArray 0)).get? (s.heap.objs.size+1)=YB (Q9 "list" vs.toArray 0):=by
  rw[←hsz];exact Qi _ rfl
 have keep:∀b o,s.heap.get? b=YB o->(((s.heap.push (Q9 "list" #[] 0)).update s.heap.objs.size (QK (·++vs.toArray))).push (Q9 "list" vs.toArray 0)).get? b=YB o:=λb o q=>by
  have hlt:b<s.heap.objs.size:=XH q;rw[Heap.get?_push_ne _ _ _ (by rw[hsz];exact Xy (Nat.lt_succ_of_lt hlt)),U8 _ _ _ _ (Xy hlt),Heap.get?_push_ne _ _ _ (Xy hlt)];exact q
 show Qd _ _ _ _ _ { s with heap:=((s.heap.push (Q9 "list" #[] 0)).update s.heap.objs.size (QK (·++vs.toArray))).push (Q9 "list" vs.toArray 0) };rw[hsz];refine Xi (Uj (V7 slot_list_sort ⟨_,hoL,rfl⟩ entry_list_sort (Zqo (h0:=s.heap) hoL keep (Heap.get?_none_of_le (Nat.le_succ _)) h64 hk hc ⟨_,rfl,?_⟩) (args_list_sort _)));exact Qk ⟨_,rfl,h⟩
end
end L2
namespace L2
open PySem PySem.Spec PyProof.Rows PySem.W
variable {G:Xb}
structure Ya3{α:Type}(kd:Xa->Option α)(lt:α->α->Bool):Prop where
 lay:∀d k,kd d=YB k->d.canLay0=YD
 run:∃κ:Ve,(∀(prog:Qe) (w:Qz) (A:Qs) (E:Xf->Xg->Prop) (s:Xg) (vs:List Xf) (ds:List Xa) (as:List YG) (Q:Ve->Xg->Prop),2≤vs.length->ReadsAll s.heap vs ds as->(∀d∈ds,∃k,kd d=YB k)->Q κ s->Qd (Ql prog w) A (keyKind' vs.toArray) Q E s)∧
  ∀(prog:Qe) (w:Qz) (A:Qs) (E:Xf->Xg->Prop) (s:Xg) (u v:Xf) (d e:Xa) (as bs:List YG) (k m:α) (C:Bool->Xg->Prop),A.units+32<cLine->Reads s.heap u d as->Reads s.heap v e bs->kd d=YB k->kd e=YB m->C (lt k m) s->Qd (Ql prog w) A (keyLt' κ u v) C E s
theorem readsAll_ints{h:YH}(ns:List Int){vs:List Xf}{as:List YG}(r:ReadsAll h vs (ns.map Xq) as):Vj vs ns:=by
 induction ns generalizing vs as with
 | nil=>cases r;exact .nil
 | cons n ns ih=>
  cases r with
  | cons r q=>
   cases r;exact .cons _ _ (ih q)
theorem Zaa{h:YH}{ns:List Int}{u:Xf}{as:List YG}(r:Reads h u (.list (ns.map Xq)) as):∃a items,u= .ref a∧h.IsList a items∧Vj items.toList ns:=by
 cases r with
 | list e c d q=>exact⟨_,_,rfl,⟨_,e,c,_,d⟩,readsAll_ints ns q⟩
theorem Zga{h:YH}{ns:List Int}{u:Xf}{as:List YG}(r:Reads h u (.tuple (ns.map Xq)) as):∃a items,u= .ref a∧h.IsTuple a items∧Vj items.toList ns:=by
 cases r with
 | tuple e c d q=>exact⟨_,_,rfl,⟨_,e,c,_,d⟩,readsAll_ints ns q⟩
theorem readsAll_get{h:YH}{vs:List Xf}{ds:List Xa}{as:List YG}(r:ReadsAll h vs ds as):vs.length=ds.length∧∀(i:Nat) d,ds[i]? =YB d->∃v bs,vs[i]? =YB v∧Reads h v d bs:=by
 induction ds generalizing vs as with
 | nil=>cases r;exact⟨rfl,λi d e=>by rw[List.getElem?_nil]at e;cases e⟩
 | cons d ds ih=>
  cases r with
  | cons r q=>
   obtain⟨z1,z2⟩:=ih q;refine⟨YT Nat.succ z1,λi e he=>?_⟩;cases i with
   | zero=>cases he;exact⟨_,_,rfl,r⟩
   | succ i=>exact z2 i e he
theorem lay_ints(ns:List Int):Sh 1 (.list (ns.map Xq)):=Zea λd m=>by
 obtain⟨x,_,rfl⟩:=XD.mp m;exact Zop x
theorem Zda(ns:List Int):Sh 1 (.tuple (ns.map Xq)):=Zr3 λd m=>by
 obtain⟨x,_,rfl⟩:=XD.mp m;exact Zop x
theorem Zjq{M:Model}{h:YH}{a:YG}{items:Array Xf}(e:h.IsList a items):Looks M h (typeOf (.ref a)) (.type "list"):=by
 obtain⟨o,e,c,_⟩:=e;have:Looks M h (typeOf (.ref a)) o.cls:=(Looks.ld e).andThen .now
 rwa[c]at this
noncomputable def kdL:Xa->Option (List Int):=λd=>match d with| .list es=>Zc8 es|_=>YC
theorem Zhg{d:Xa}{k:List Int}(h:kdL d=YB k):d= .list (k.map Xq):=by
 cases d with
 | list es=>exact YT XX (Zba h)
 | _=>cases h
theorem Zso{h:YH}{vs:List Xf}{ds:List Xa}{as:List YG}(r:ReadsAll h vs ds as){v:Xf}(hv:v∈vs):∃d∈ds,∃bs,Reads h v d bs:=by
 obtain⟨i,hi⟩:=BK hv;obtain⟨z1,z2⟩:=readsAll_get r;have c:i<ds.length:=z1▸(Xw.mp hi).1;obtain⟨v',bs,e,q⟩:=z2 i _ (Xm c);rw[hi]at e;cases e;exact⟨_,Vu c,bs,q⟩
theorem Z5v:Ya3 kdL ltI:=by
 refine⟨λd k h=>by rw[Zhg h];exact(lay_ints k).1,oneType',λprog w A E s vs ds as Q h2 r hk q=>kas_kind (T:=.type "list") h2 (λv hv=>?_) rfl rfl q,λprog w A E s u v d e as bs k m C hu r1 r2 h1 h2 h=>?_⟩
 ·obtain⟨d,hd,bs,z⟩:=Zso r hv
  obtain⟨k,hk⟩:=hk d hd;rw[Zhg hk]at z;obtain⟨a,items,rfl,e,_⟩:=Zaa z;exact Zjq e
 ·rw[Zhg h1]at r1
  rw[Zhg h2]at r2;obtain⟨a,i1,rfl,e1,z1⟩:=Zaa r1;obtain⟨b,i2,rfl,e2,z2⟩:=Zaa r2;rw[keyLt'_oneType];exact Zjr (by omega) e1 e2 z1 z2 h
noncomputable def kdT:Xa->Option (List Int×List Int):=λd=>match d with| .tuple [.list es,.tuple fs]=>(Zc8 es).bind λns=>(Zc8 fs).bind λms=>YB (ns,ms)|_=>YC
noncomputable def ltT:List Int×List Int->List Int×List Int->Bool:=λa b=>if a.1=b.1 then(if a.2=b.2 then YF else ltI a.2 b.2)else ltI a.1 b.1
theorem Zg9{d:Xa}{k:List Int×List Int}(h:kdT d=YB k):d= .tuple [.list (k.1.map Xq),.tuple (k.2.map Xq)]:=by
 unfold kdT at h;split at h
 case h_2=>cases h
 obtain⟨ns,h1,h⟩:=bs h;obtain⟨ms,h2,h⟩:=bs h;cases h;rw[Zba h1,Zba h2]
theorem Zn1{h:YH}{k:List Int×List Int}{u:Xf}{as:List YG}(r:Reads h u (.tuple [.list (k.1.map Xq),.tuple (k.2.map Xq)]) as):∃t o n a b,u= .ref t∧h.get? t=YB o∧o.cls= .type "tuple"∧o.data= .seq #[.ref a,.ref b] n∧(∃bs,Reads h (.ref a) (.list (k.1.map Xq)) bs)∧∃bs,Reads h (.ref b) (.tuple (k.2.map Xq)) bs:=by
 cases r with
 | @tuple t o vs n xs as e c d q=>
  obtain⟨l,hl⟩:∃l,l=vs.toList:=⟨_,rfl⟩;rw[←hl]at q;cases q with
  | cons r1 q=>
   cases q with
   | cons r2 q=>
    cases q;obtain⟨a,_,rfl,_⟩:=Zaa r1;obtain⟨b,_,rfl,_⟩:=Zga r2;have:vs=#[.ref a,.ref b]:=Array.toList_inj.mp hl.symm;subst this;exact⟨t,o,n,a,b,rfl,e,c,d,⟨_,r1⟩,_,r2⟩
theorem Zib(a b:List Int):Q3 (.list (a.map Xq)) (.list (b.map Xq))=decide (a=b):=by
 have p:∀l:List Int,Wf (.list (l.map Xq))=YD:=λl=>by rw[Wf];induction l with|nil=>rfl|cons x l ih=>exact ih
 have inj:∀{l m:List Int},XX (l.map Xq)= .list (m.map Xq)->l=m:=λh=>by
  injection h with h;exact(List.map_inj_right λx y z=>by injection z).mp h
 by_cases c:a=b
 ·rw[Zzr (p a) (p b) (by rw[c]),YQ c]
 ·rw[Z5t (p a) (p b) λz=>c (inj z),YS c]
theorem Zuu(a b:List Int):Q3 (.tuple (a.map Xq)) (.tuple (b.map Xq))=decide (a=b):=by
 have e:∀xs ys:List Xa,Q3 (.tuple xs) (.tuple ys)=Q3 (.list xs) (.list ys):=λxs ys=>by
  rw[Q3,Q3]
 rw[e,Zib]
theorem Z5o:Ya3 kdT ltT:=by
 refine⟨λd k h=>?_,tuples' YD,λprog w A E s vs ds as Q h2 r hk q=>?_,λprog w A E s u v d e as bs k m C hu r1 r2 h1 h2 h=>?_⟩
 ·rw[Zg9 h]
  exact(Zr3 (n:=1) λd m=>by
   rcases Xu.mp m with rfl|m
   ·exact lay_ints _
   ·rw[Xp.mp m];exact Zda _).1
 ·have key:∃fs:List Xf,KatTups s.heap vs fs∧fs.length=vs.length∧∀v∈fs,∃a items,v= .ref a∧s.heap.IsList a items:=by
   clear h2 q
   induction ds generalizing vs as with
   | nil=>cases r;exact⟨[],trivial,rfl,λ_ m=>nomatch m⟩
   | cons d ds ih=>
    cases r with
    | cons r q=>
     obtain⟨fs,t,l,z⟩:=ih _ _ q λd m=>hk d (.tail _ m);obtain⟨k,hk⟩:=hk d (.head _);rw[Zg9 hk]at r;obtain⟨t',o,n,a,b,rfl,e,c,hd,⟨_,x1⟩,_⟩:=Zn1 r;obtain⟨a',items,ea,ex,_⟩:=Zaa x1;cases ea;refine⟨.ref a::fs,KatTups.cons e c hd rfl t,YT Nat.succ l,λv hv=>?_⟩;rcases Xu.mp hv with rfl|hv
     ·exact⟨a,items,rfl,ex⟩
     ·exact z v hv
  obtain⟨fs,t,l,z⟩:=key;exact kat_kind (T:=.type "list") t (by omega) (λv hv=>by obtain⟨a,items,rfl,e⟩:=z v hv;exact Zjq e) rfl q
 ·rw[Zg9 h1]at r1
  rw[Zg9 h2]at r2;obtain⟨t1,o1,n1,a1,b1,rfl,g1,c1,d1,⟨_,x1⟩,_,y1⟩:=Zn1 r1;obtain⟨t2,o2,n2,a2,b2,rfl,g2,c2,d2,⟨_,x2⟩,_,y2⟩:=Zn1 r2;refine kat_lt g1 d1 g2 d2 (kat_cons ?_);refine SeqAt.eqAt_reads _ _ A s _ _ _ _ x1 x2 (lay_ints _).1 (lay_ints _).1 (by have:=(lay_ints k.1).2;omega) prog w _ _ ?_;rw[Zib];unfold ltT at h;obtain⟨p1,i1,e1,l1,z1⟩:=Zaa x1;obtain⟨p2,i2,e2,l2,z2⟩:=Zaa x2;cases e1;cases e2
  by_cases c:k.1=m.1
  ·rw[YL c]at h
   rw[YQ c];refine kat_yes (kat_cons ?_);refine SeqAt.eqAt_reads _ _ A s _ _ _ _ y1 y2 (Zda _).1 (Zda _).1 (by have:=(Zda k.2).2;omega) prog w _ _ ?_;rw[Zuu];obtain⟨p1,i1,e1,l1,z1⟩:=Zga y1;obtain⟨p2,i2,e2,l2,z2⟩:=Zga y2;cases e1;cases e2
   by_cases c':k.2=m.2
   ·rw[YL c']at h
    rw[YQ c'];exact kat_yes (kat_nil h)
   ·rw[YM c']at h
    rw[YS c'];exact kat_no (Zve (by omega) l1 l2 z1 z2 h)
  ·rw[YM c]at h
   rw[YS c];exact kat_no (Zjr (by omega) l1 l2 z1 z2 h)
end L2
namespace L2
open PySem PySem.Spec PyProof.Rows PySem.W
variable {G:Xb}
noncomputable def lk{α:Type}(kd:Xa->Option α)(lt:α->α->Bool)(es:List Xa):Nat->Nat->Bool:=λi j=>((kd (es.getD i .none)).bind λa=>(kd (es.getD j .none)).map λb=>lt a b).getD YF
noncomputable def keyed{α:Type}(kd:Xa->Option α)(es:List Xa):Prop:=∀d∈es,∃k,kd d=YB k
theorem Zj3{es:List Xa}(h:∀d∈es,d.canLay0=YD):Bb es=YD:=by
 induction es with
 | nil=>rw[Bb]
 | cons d es ih=>rw[Bb,h d (.head _),ih λd m=>h d (.tail _ m)];rfl
theorem Das.sLay{H:Hp}{L:YG->Prop}{lt:Nat->Nat->Bool}{xs:List V}{ds:List Xa}(h:Das G H L xs ds):Das G H L (L2.sLay .non lt xs) (L2.sLay .none lt ds):=by
 unfold L2.sLay;rw[h.length];split
 ·exact h
 ·generalize Zv1 lt _=l
  induction l with
  | nil=>exact .nil
  | cons i l ih=>
   refine .cons ?_ ih;show Da G H L (xs.getD i .non) (ds.getD i .none);rw[Xe,Xe];cases e:xs[i]? with
   | some x=>
    obtain⟨u,e',r⟩:=h.get' e;rw[e'];exact r
   | none=>
    have:ds[i]? =YC:=Qp (by rw[←h.length];exact QH.mp e);rw[this];exact .non
noncomputable def Zo3{α:Type}(kd:Xa->Option α)(lt:α->α->Bool)(K:Xb):List V->Hp->VK->Prop:=λxs H Q=>∃(a:YG) (vs:List V) (L:YG->Prop) (es:List Xa),xs=[.ref a]∧SqL K H a vs∧Das K H L vs es∧vs.length<64∧keyed kd es∧∀l,H l=YC->Q (.ref l) (upd H l (.lst (sLay .non (lk kd lt es) vs)))
section
variable {X:Cx}{α:Type}{kd:Xa->Option α}{lt:α->α->Bool}
theorem Zjk{K:Xb}(S:Ya3 kd lt)(hK:X.K=K)(hu:X.A.units+64<cLine):Zas X (.builtin "sorted") (Zo3 kd lt K):=by
 subst hK;intro pins s Y H xs us Q I r h;obtain⟨l,vs,L,es,rfl,hs,hd,h64,hk,q⟩:=h;obtain⟨u,rfl,ru⟩:=vals1 r;cases(show u=QJ l from ru);obtain⟨its,rv,pl,hz⟩:=I.list hs;have hl:=rv.length;obtain⟨as,ra⟩:=hd.reads rfl I rv (Zj3 λd m=>by obtain⟨k,e⟩:=hk d m;exact S.lay d k e);obtain⟨κ,S1,S2⟩:=S.run;obtain⟨z1,z2⟩:=readsAll_get ra;refine Z0w (κ:=κ) (lt:=lk kd lt es) pl.isList (by omega) (λh2 s' k Q q=>S1 _ _ _ _ s' _ es as Q h2 (ReadsAll.keeps k ra) hk q) (λh2 s' k i j C hi hj hc=>?_) ?_
 ·rw[z1]at hi hj
  obtain⟨v,b1,e1,r1⟩:=z2 i _ (Xm hi);obtain⟨w,b2,e2,r2⟩:=z2 j _ (Xm hj);obtain⟨k1,q1⟩:=hk _ (Vu hi);obtain⟨k2,q2⟩:=hk _ (Vu hj);have ek:lk kd lt es i j=lt k1 k2:=by
   unfold lk;rw[Xe,Xe,Xm hi,Xm hj];show((kd es[i]).bind λa=>(kd es[j]).map λb=>lt a b).getD YF=_;rw[q1,q2];rfl
  rw[ek]at hc;unfold kas_ask;rw[Xe,Xe,e1,e2];exact S2 _ _ _ _ s' v w _ _ _ _ k1 k2 C (show X.A.units+1+1+32<cLine by omega) (Reads.keeps k r1) (Reads.keeps k r2) q1 q2 hc
 ·obtain⟨e,he⟩:=sortedAll_at s.heap its (Bk (sLay QT (lk kd lt es) its))
  refine⟨.ref (s.heap.objs.size+1),_,I.laid (t':=s.toks) (o:=.lst (sLay .non (lk kd lt es) vs)) (λb ob q=>sortedAll_old q) (by omega) ⟨?_,sLay QT (lk kd lt es) its,e,Zti rv,he⟩,rfl,q _ (I.hok.fresh (by omega))⟩;rw[(Zfh _ _ _).length_eq,X8];omega
noncomputable def Zpz(kd:Xa->Option α)(lt:α->α->Bool):List Xa->(OT->Prop)->Prop:=λds k=>n1 (λd=>∃es:List Xa,d= .list es∧es.length<64∧keyed kd es∧k (.nd ((sLay .none (lk kd lt es) es).map OT.fz))) ds
theorem Zoz:PN G (Zo3 kd lt G) (Zpz kd lt):=λH L xs ds k Q hx h kk=>by
 obtain⟨v,d,rfl,rfl,q,es,e,h64,hk,h⟩:=hx.one h;have fin:∀(vs:List V) (p:YG),Das G H L vs es->H p=YC->Q (.ref p) (upd H p (.lst (sLay .non (lk kd lt es) vs))):=λvs p hv hp=>kk _ _ _ [p] (Z7 hp _) (Own.list hp hv.sLay) (Zeu p) (Zcb hp) h;subst e;generalize ed:XX es=d at q;cases q with
 | lst l e r=>
  cases ed;exact⟨_,_,L,es,rfl,.inl e,r,by rw[r.length];exact h64,hk,λp hp=>fin _ p r hp⟩
 | scr ks=>
  cases ed;exact⟨_,_,L,_,rfl,ks.sq,Das.ints _,by rw[(Das.ints (G:=G) (H:=H) (L:=L) _).length];exact h64,hk,λp hp=>fin _ p (Das.ints _) hp⟩
 | _=>cases ed
noncomputable def Zg1(kd:Xa->Option α)(lt:α->α->Bool):List Xa->Option OT:=λds=>match ds with|[.list es]=>if(decide (es.length<64)&&es.all λd=>(kd d).isSome)=YD then YB (.nd ((sLay .none (lk kd lt es) es).map OT.fz))else YC|_=>YC
theorem Zt9:∀ds r k,Zg1 kd lt ds=YB r->k r->Zpz kd lt ds k:=λds r k h hk=>by
 unfold Zg1 at h;split at h
 case h_2=>cases h
 split at h
 case isFalse=>cases h
 rename_i h2;rw[Xv]at h2;cases h;exact⟨_,rfl,YW h2.1,λd m=>Option.isSome_iff_exists.mp (Vd.mp h2.2 d m),hk⟩
end
end L2
namespace L2
open PySem PySem.Spec PyProof.Rows
variable {G:Xb}
noncomputable def Z4m:List Int->Int
 | []=>0
 | x::xs=>xs.foldl max x
theorem Zta(xs:List Int)(x:Int):xs.foldl max x∈x::xs∧∀a∈x::xs,a≤xs.foldl max x:=by
 induction xs generalizing x with
 | nil=>exact⟨.head _,λa h=>by rw[Xp.mp h];exact Ui _⟩
 | cons y ys ih=>
  obtain⟨h1,h2⟩:=ih (max x y);rw[Ua];refine⟨?_,λa h=>?_⟩
  ·rcases Xu.mp h1 with h|h
   ·rw[h]
    rcases Int.le_total x y with z|z
    ·rw[V3 z];exact .tail _ (.head _)
    ·rw[Ue z];exact .head _
   ·exact .tail _ (.tail _ h)
  ·have h0:=h2 _ (.head _)
   rcases Xu.mp h with rfl|h
   ·exact JG (Int.le_max_left ..) h0
   ·rcases Xu.mp h with rfl|h
    ·exact JG (Int.le_max_right ..) h0
    ·exact h2 a (.tail _ h)
theorem Zsh{ns:List Int}(h:0<ns.length):Z4m ns∈ns∧∀a∈ns,a≤Z4m ns:=by
 cases ns with
 | nil=>cases h
 | cons x xs=>exact Zta xs x
theorem Zql{prog:Qe}{w:Qz}{A:Qs}{E:Xf->Xg->Prop}{s:Xg}{l:YG}{xs:Array (Int×Tok)}{Q:Xf->Xg->Prop}(hh:A.handled=YC)(hl:s.heap.IsTuple l (intItems xs))(hne:0<xs.size)
  (h:∀v h' tk,(intItems xs)[argBest (λi j=>decide (numAt xs i>numAt xs j)) (xs.size-1)]? =YB v->(∀b o,s.heap.get? b=YB o->h'.get? b=YB o)->Q v { s with heap:=h',toks:=tk }) :
  Qd (Ql prog w) A (call (.builtin "max") [.ref l]) Q E s:=by
 have hlt:l<s.heap.objs.size:=by obtain⟨_,e,_⟩:=hl;exact XH e
 have hl':=hl;obtain⟨o,eo,ec⟩:=hl';refine call_max_walk (wpAny_pyIter_tuple hl ?_);refine⟨_,_,_,_,_,_,_,rfl,Walks.tuple (A:=A.in1) hh _ l (Xy hlt) (intItems xs),⟨⟨_,Qi _ rfl,rfl,rfl⟩,⟨o,Xo _ eo,ec⟩⟩,λb hb=>?_,by simpa [intItems]using hne,CmpOf.ints_gt (numAt xs) (λ_ _=>intItems_at),λv h' tk hP hk=>?_⟩
 ·show b<(s.heap.push _).objs.size
  rw[JM];rcases Xu.mp hb with rfl|hb
  ·exact Vv _
  ·rw[Xp.mp hb];exact Nat.lt_succ_of_lt hlt
 ·refine h v h' tk (by simpa [intItems]using hP) λb o e=>hk b o (λhm=>?_) (Xo _ e)
  rw[Xp.mp hm]at e;exact YX (XH e) (Bj _)
noncomputable def Z78(K:Xb):List V->Hp->VK->Prop:=λxs H Q=>∃(a:YG) (ns:List Int),xs=[.ref a]∧(SqL K H a (ns.map V.int)∨SqT K H a (ns.map V.int))∧0<ns.length∧Q (.int (Z4m ns)) H
theorem Zuz{X:Cx}{K:Xb}(hK:X.K=K)(hc:X.calm=YD):Zas X (.builtin "max") (Z78 K):=by
 subst hK;intro pins s Y H xs us Q I r h;obtain⟨a,ns,rfl,hs,hp,q⟩:=h;obtain⟨u,rfl,ru⟩:=vals1 r;cases(show u=QJ a from ru);have fin:∀{ps:List (Int×Tok)},ps.map (·.1)=ns->∀v h' tk,(intItems ps.toArray)[argBest (λi j=>decide (numAt ps.toArray i>numAt ps.toArray j)) (ps.toArray.size-1)]? =YB v->(∀b o,s.heap.get? b=YB o->h'.get? b=YB o)->EP X pins Y Q v { s with heap:=h',toks:=tk }:=fun{ps} e2 v h' tk hv hk=>by
  have hl:ps.length=ns.length:=by rw[←e2,Xc]
  obtain⟨t,rfl⟩:=intItems_at hv;obtain⟨h1,h2⟩:=argBest_gt (numAt ps.toArray) (ps.toArray.size-1);have hn:∀j,j<ps.length->numAt ps.toArray j=ns.getD j 0:=λj hj=>by
   rw[numAt_eq,←e2]
  refine⟨.int (Z4m ns),H,I.kept (t':=tk) hk,⟨t,?_⟩,q⟩;have sz:ps.toArray.size=ns.length:=by rw[XF,hl]
  rw[sz]at h1 h2⊢;obtain⟨m1,m2⟩:=Zsh hp;congr 1;generalize ej:argBest (λi j=>decide (numAt ps.toArray i>numAt ps.toArray j)) (ns.length-1)=j at h1 h2⊢;rw[hn j (by omega)];refine Int.le_antisymm (m2 _ ?_) ?_
  ·rw[Xe,Xm (by omega)]
   exact Vu _
  ·obtain⟨j',hj',e⟩:=BR m1
   have:=h2 j' (by omega);rw[hn j (by omega),hn j' (by omega),Xe (i:=j'),Xm hj',e]at this;exact this
 rcases hs with hs|hs
 ·obtain⟨its,rv,pl,hz⟩:=I.list hs
  obtain⟨ps,rfl,e2⟩:=Zdu rv;have hl:ps.length=ns.length:=by rw[←e2,Xc]
  exact max_intList (xs:=ps.toArray) (I.ok.hd hc) (by simpa [intItems]using pl.isList) (by simpa using hl▸hp) (fin e2)
 ·obtain⟨its,rv,pl,hz⟩:=I.tuple hs
  obtain⟨ps,rfl,e2⟩:=Zdu rv;have hl:ps.length=ns.length:=by rw[←e2,Xc]
  exact Zql (xs:=ps.toArray) (I.ok.hd hc) (by simpa [intItems]using(show s.heap.IsTuple a _ from pl)) (by simpa using hl▸hp) (fin e2)
noncomputable def Z5z:List Xa->(Xa->Prop)->Prop:=λds k=>n1 (λd=>∃ns:List Int,(d= .list (ns.map Xq)∨d= .tuple (ns.map Xq))∧0<ns.length∧k (.int (Z4m ns))) ds
theorem Z21:PNs G (Z78 G) Z5z:=λH L xs ds k Q hx h kk=>by
 obtain⟨v,d,rfl,rfl,q,ns,e,hp,h'⟩:=hx.one h;rcases e with e|e
 ·subst e
  obtain⟨a,rfl,hs⟩:=q.ints_sq;exact⟨a,ns,rfl,.inl hs,hp,kk _ _ (.int _) h'⟩
 ·generalize ed:d=d' at q
  rw[e]at ed;cases q with
  | tup e r=>
   cases ed;exact⟨_,ns,rfl,.inr (.inl (.inl (by rw[r.int_inv]at e;exact e))),hp,kk _ _ (.int _) h'⟩
  | _=>cases ed
noncomputable def Zww:List Xa->Option Xa:=λds=>match ds with|[.list es]=>(Zc8 es).bind λns=>if 0<ns.length then YB (.int (Z4m ns))else YC|[.tuple es]=>(Zc8 es).bind λns=>if 0<ns.length then YB (.int (Z4m ns))else YC|_=>YC
theorem Yap:∀ds r k,Zww ds=YB r->k r->Z5z ds k:=λds r k h hk=>by
 unfold Zww at h;split at h
 case h_3=>cases h
 all_goals
  obtain⟨ns,h1,h⟩:=bs h
  by_cases hp:0<ns.length
  ·rw[YL hp]at h
   cases h
   first
   | exact⟨ns,.inl (YT XX (Zba h1)),hp,hk⟩
   | exact⟨ns,.inr (YT PyData.tuple (Zba h1)),hp,hk⟩
  ·rw[YM hp]at h;cases h
section
variable {X:Cx}{io:List Nat}{p p' c c' q r:Bool}{a b e:YJ}{fa fb:FE}{es:List YJ}{ra:FA}{st:YK}{sts ss ss':List YK}{f g:FS}{ta:FT}
theorem xv(i:Nat){x:Str}{pos:Pos}(hN:X.N[i]? =YB x:=by rfl)(hv:Vis X.env.scope x:=by first|exact QD rfl|exact Qx (QD rfl)|exact Qx (Qx rfl))(hd:(x==("__debug__" : Str))=YF:=by decide)(he:(x==("__classdict__" : Str))=YF:=by decide):ME X io YD YD (.Name x pos) (o2 (Ze i)):=Z9z (mv i hN hv hd he)
theorem xo(i:Nat){x:Str}{pos:Pos}(hN:X.N[i]? =YB x:=by rfl)(hv:Vis X.env.scope x:=by first|exact QD rfl|exact Qx (QD rfl)|exact Qx (Qx rfl))(hd:(x==("__debug__" : Str))=YF:=by decide)(he:(x==("__classdict__" : Str))=YF:=by decide):ME X io YD YF (.Name x pos) (o2 (Zrj i)):=Z8k (mo i hN hv hd he)
theorem xci{i:Int}{j:Nat}{pos:Pos}:ME X io YD YD (.Constant (.int i) j pos) (o2 (fC (.int i))):=Zvw Z51
theorem xix{pos:Pos}(ha:ME X io p c a (o2 fa))(hb:ME X io p' c' b (o2 fb))(hc:p'=YD∨c=YD:=by first|exact QD rfl|exact Qx rfl)(hs:Zk7 b:=by exact λ_ _=>rfl)(h2:(p&&p')=q:=by rfl)(h3:(c&&c')=r:=by rfl):ME X io q r (.Subscript a b pos) (o2 (Yb gIx fa fb)):=h2▸h3▸Zi4 Yiw (Yh9 (Z1c rfl) Ydw ha hb hc (hs:=hs))
theorem xa0:MA X io YD YD [] (o2 Zn):=Z8w Z9e
theorem xa1[NoStar e](ha:ME X io p c e (o2 fa))(h2:(p&&YD)=q:=by rfl)(h3:(c&&YD)=r:=by rfl):MA X io q r [e] (o2 (Zc fa Zn)):=Zf ha xa0 (.inl rfl) h2 h3
theorem xsq(h:MS X io st (oS f))(k:MSs X io sts (oS g)):MSs X io (st::sts) (oS (Z5 f g)):=Z5u (Zxa h k)
theorem xst{pos px:Pos}(i:Nat){x:Str}(hN:X.N.Nodup)(he:ME X io p YD e (o2 fa))(hi:X.N[i]? =YB x:=by rfl)(hx:Loc X.env.scope x:=by first|exact QD rfl|exact Qx rfl)(hio:i∉io:=by decide)(hs:Ux e (YB (.Name x px)) pos.line X.env=pure YF:=by rfl)(hf:X.fn x=YD∨X.env.scope.names.lookup x=YB .local:=by first|exact .inl rfl|exact .inr rfl|assumption):MS X io (.Assign [.Name x px] e pos) (oS (wE fa (W2 i))):=Zs1 (Zsl hN hi hx he hio hs hf)
theorem xrt{pos:Pos}(h:ME X io p YD e (o2 fa)):MS X io (.Return (YB e) pos) (oS (wE fa J7)):=Yak (Z7y h)
theorem xg{pos:Pos}(i:Nat){x:Str}(hN:X.N.Nodup)(hi:X.N[i]? =YB x:=by rfl)(hx:Loc X.env.scope x:=by first|exact QD rfl|exact Qx rfl)(hio:i∉io:=by decide)(hf:X.fn x=YD∨X.env.scope.names.lookup x=YB .local:=by first|exact .inl rfl|exact .inr rfl|assumption):MG X io YD (.Name x pos) (oG (gNm i)):=Z46 (Z4a hN hi hx hio hf)
theorem xif{pos:Pos}(h:MT X io p e (o2 ta))(k:MSs X io ss (oS f))(l:MSs X io ss' (oS g)):MS X io (.If e ss ss' pos) (oS (Zbr ta f g)):=Ycm (Yc5 h k l)
theorem xnl:MSs X io [] (oS fNx):=Z3q Z0z
theorem xtp{pos:Pos}{n:Nat}(h:MA X io p c es (o2 ra)):ME X io p c (.Tuple es n pos) (o2 (Zfm ra)):=Z6s (Yc4 h)
theorem xls{pos:Pos}(h:MA X io p c es (o2 ra)):ME X io p c (.List es pos) (o2 (Zb0 ra)):=Z53 (Yc1 h)
theorem xil{tg:YJ}(h:ME X io p c e (o2 fa)):MI X io p c tg e (o2 (Zcu fa)):=Z3y (Z3e h)
theorem xno{pos:Pos}(h:MT X io p e (o2 ta)):MT X io p (.UnaryOp .Not e pos) (o2 (tNo ta)):=Z5r (Z9s h)
theorem Zjy{pos:Pos}(ha:ME X io p c a (o2 fa))(hb:ME X io p' c' b (o2 fb))(hc:p'=YD∨c=YD:=by first|exact QD rfl|exact Qx rfl)(h2:(p&&p')=q:=by rfl):ME X io q YD (.BinOp a .Add b pos) (o2 (Zi Zeh fa fb)):=h2▸Wz Yc0 (Zrh Z5q Zvo ha hb hc)
theorem Yen{pos:Pos}(ha:ME X io p c a (o2 fa))(hb:ME X io p' c' b (o2 fb))(hc:p'=YD∨c=YD:=by first|exact QD rfl|exact Qx rfl)(h2:(p&&p')=q:=by rfl):ME X io q YD (.BinOp a .Sub b pos) (o2 (Zi gSb fa fb)):=h2▸Wz Ydk (Zrh Z74 Zvo ha hb hc)
theorem Zjf{pos:Pos}(ha:ME X io p c a (o2 fa))(hb:ME X io p' c' b (o2 fb))(hc:p'=YD∨c=YD:=by first|exact QD rfl|exact Qx rfl)(h2:(p&&p')=q:=by rfl):ME X io q YD (.BinOp a .Mult b pos) (o2 (Zi Zcs fa fb)):=h2▸Wz Yef (Zrh Z1j Z9v ha hb hc)
theorem Z95{pos:Pos}(ha:ME X io p c a (o2 fa))(hb:ME X io p' c' b (o2 fb))(hc:p'=YD∨c=YD:=by first|exact QD rfl|exact Qx rfl)(h2:(p&&p')=q:=by rfl):ME X io q YD (.BinOp a .Mod b pos) (o2 (Zi Zju fa fb)):=h2▸Wz Yco (Zrh Z0r Z6f ha hb hc)
theorem Zzi{pos:Pos}(ha:ME X io p c a (o2 fa))(hb:ME X io p' c' b (o2 fb))(hc:p'=YD∨c=YD:=by first|exact QD rfl|exact Qx rfl)(h2:(p&&p')=q:=by rfl):ME X io q YD (.BinOp a .FloorDiv b pos) (o2 (Zi Za9 fa fb)):=h2▸Wz Yaw (Zrh Zyj Z96 ha hb hc)
theorem Zvy{pos:Pos}(ha:ME X io p c a (o2 fa))(hb:ME X io p' c' b (o2 fb))(hc:p'=YD∨c=YD:=by first|exact QD rfl|exact Qx rfl)(h2:(p&&p')=q:=by rfl):ME X io q YD (.BinOp a .Pow b pos) (o2 (Zi Zlg fa fb)):=h2▸Wz Ycs (Zrh Z04 Z83 ha hb hc)
theorem xeq{pos:Pos}(hu:X.A.units+64<cLine)(ha:ME X io p c a (o2 fa))(hb:ME X io p' c' b (o2 fb))(hc:p'=YD∨c=YD:=by first|exact QD rfl|exact Qx rfl)(h2:(p&&p')=q:=by rfl):MT X io q (.Compare a [.Eq] [b] pos) (o2 (tV (Zi gEq fa fb))):=h2▸Zev Zx1 (Ze5 (Zfj hu) Zkm ha hb hc (hm:=J2 _))
theorem xne{pos:Pos}(hu:X.A.units+64<cLine)(ha:ME X io p c a (o2 fa))(hb:ME X io p' c' b (o2 fb))(hc:p'=YD∨c=YD:=by first|exact QD rfl|exact Qx rfl)(h2:(p&&p')=q:=by rfl):MT X io q (.Compare a [.NotEq] [b] pos) (o2 (tV (Zi gNe fa fb))):=h2▸Zev Yiu (Ze5 (Z6i hu) Yd6 ha hb hc (hm:=J2 _))
theorem xlt{pos:Pos}(ha:ME X io p c a (o2 fa))(hb:ME X io p' c' b (o2 fb))(hc:p'=YD∨c=YD:=by first|exact QD rfl|exact Qx rfl)(h2:(p&&p')=q:=by rfl):MT X io q (.Compare a [.Lt] [b] pos) (o2 (tV (Zi gLt fa fb))):=h2▸Zev Yb3 (Ze5 Zu2 Zgy ha hb hc (hm:=J2 _))
theorem xgt{pos:Pos}(ha:ME X io p c a (o2 fa))(hb:ME X io p' c' b (o2 fb))(hc:p'=YD∨c=YD:=by first|exact QD rfl|exact Qx rfl)(h2:(p&&p')=q:=by rfl):MT X io q (.Compare a [.Gt] [b] pos) (o2 (tV (Zi gGt fa fb))):=h2▸Zev Yfz (Ze5 Z9f Zgy ha hb hc (hm:=J2 _))
theorem xle{pos:Pos}(ha:ME X io p c a (o2 fa))(hb:ME X io p' c' b (o2 fb))(hc:p'=YD∨c=YD:=by first|exact QD rfl|exact Qx rfl)(h2:(p&&p')=q:=by rfl):MT X io q (.Compare a [.LtE] [b] pos) (o2 (tV (Zi gLe fa fb))):=h2▸Zev Yie (Ze5 Z6h Zgy ha hb hc (hm:=J2 _))
theorem xge{pos:Pos}(ha:ME X io p c a (o2 fa))(hb:ME X io p' c' b (o2 fb))(hc:p'=YD∨c=YD:=by first|exact QD rfl|exact Qx rfl)(h2:(p&&p')=q:=by rfl):MT X io q (.Compare a [.GtE] [b] pos) (o2 (tV (Zi gGe fa fb))):=h2▸Zev Yiv (Ze5 Ydz Zgy ha hb hc (hm:=J2 _))
theorem xfr{pos:Pos}{tg:YJ}{it:FI}{gg:FG}(hp:PassesOwn (Ql X.prog X.w) X.A X.env X.xe)(hc:X.calm=YD)(hi:MI X io p YD tg e (o2 it))(hg:MG X io YD tg (oG gg))(hb:MSs X io ss (oS f))(hs:∀x,BV e X.env x=pure x:=by intro _;rfl):MS X io (.For tg e ss [] pos) (oS (Zaj it gg f)):=Z59 (Z6k hp hc hi hg hb hs)
theorem xg2{pos:Pos}{n:Nat}{g1 g2:FG}(hc:X.calm=YD)(ha:MG X io YD a (oG g1))(hb:MG X io YD b (oG g2))(h1:List.map (λx=>x.snd) (JQ [a,b] X.env)=UT a X.env::List.map (λx=>x.snd) (JQ [b] X.env):=by rfl)(h2:List.map (λx=>x.snd) (JQ [b] X.env)=UT b X.env::List.map (λx=>x.snd) (JQ [] X.env):=by rfl)(h3:(JQ [a,b] X.env).length=2:=by rfl)(h4:List.findIdx? (λx=>x.fst) (JQ [a,b] X.env)=YC:=by rfl):MG X io YD (.Tuple [a,b] n pos) (oG (gTp 2 (gCn g1 (gCn g2 gNl)))):=Z87 (Z9x (n:=2) hc (Zph (Zos ha (Zph (Zos hb (Z40 Z2j) h2)) h1)) h3 h4)
theorem xso{pos px:Pos}(i:Nat){x:Str}(hN:X.N.Nodup)(he:ME X io p YD e (o2 fa))(hi:X.N[i]? =YB x:=by rfl)(hx:Loc X.env.scope x:=by first|exact QD rfl|exact Qx rfl)(hio:i∉io:=by decide)(hs:Ux e (YB (.Name x px)) pos.line X.env=pure YF:=by rfl)(hf:X.fn x=YD∨X.env.scope.names.lookup x=YB .local:=by first|exact .inl rfl|exact .inr rfl|assumption):MS X io (.Assign [.Name x px] e pos) (oS (wE fa (Zat i))):=Z2z (Z4p hN hi hx he hio hs hf)
theorem xcl{pos pp:Pos}{k:Nat}{f:YG}{fd:XN}{ps:List Str}{x:Str}{F:FD}(G:FnOk X.prog X.w X.K X.mg X.base CX0 k f fd ps (spD X.K (sD F)))(hr:Room k X.A)(hm:X.mg x=YB (.ref f))(hk:Bw X.K (.ref f)=YD)(hb:Binds X.K fd ps [])(ha:MA X io p c (e::es) (o2 ra))(hg:Gl X x:=by rfl)(h1:(x==("__debug__" : Str))=YF:=by decide)(h2:Xr (e::es) X.env=(YF,eval e X.env)::Xr es X.env:=by rfl)(h3:((JP pos (Xr es X.env)).any λx=>x.fst)=YF:=by rfl):ME X io p c (.Call (.Name x pp) (e::es) [] pos) (o2 (Zv F ra)):=Z48 (Z57 G hr hg hm hk hb Zcv ha h1 h2 h3)
theorem xln{pos pp:Pos}(hm:X.mg "len"=YC)(ha:MA X io p c [e] (o2 ra))(hg:Gl X "len" :=by rfl)(h2:Xr [e] X.env=(YF,eval e X.env)::Xr [] X.env:=by rfl):ME X io p YD (.Call (.Name "len" pp) [e] [] pos) (o2 (Zaq Zcc ra)):=Ze4 Yd2 (Zoh Z90 (Ztt rfl) hg hm L2.B.boot_len ha (by decide) (by decide) h2 (by rfl))
end
noncomputable def tbl(P:List Nat)(led:Bool):SetTable:={ mask:=7,place:=P.toArray,dummies:=#[],finger:=0,led,moves:=0,plain:=YD }
noncomputable def hT(k:List Int):Int:=reduceHash (Builtin.Tuple.tupleHashOf (k.map hashInt))
noncomputable def hAt(ks:List (List Int))(i:Nat):Int:=(ks[i]?.map hT).getD 0
noncomputable def Yc2(P:List Nat)(j:Nat):List Nat:=((tbl P YF).put j).1.place.toList
noncomputable def Yfd(P:List Nat)(j:Nat):Nat:=((tbl P YF).put j).2
noncomputable def Yi8(ks:List (List Int))(p:Nat)(k:List Int):List (List Int):=ks.take p++k::ks.drop p
noncomputable def Yhf(P:List Nat)(ks:List (List Int))(k:List Int):Option (List Nat×List (List Int)) :=
 match(tbl P YF).probe (hAt ks) (hT k) ((tbl P YF).probeStart (hT k))with
 | some (.empty j YC)=>if(tbl (Yc2 P j) YF).tooFull=YF∧(Yc2 P j).length=ks.length+1∧ks.length≤6∧Yfd P j≤ks.length then YB (Yc2 P j,Yi8 ks (Yfd P j) k)else YC
 | some (.candidate _ i _)=>if ks[i]? =YB k then YB (P,ks)else YC
 | _=>YC
noncomputable def grow(K:List (List Int)):Nat->List (List Nat×List (List Int))->List (List Nat×List (List Int))
 | 0,S=>S
 | n+1,S=>grow K n (S++(S.flatMap λs=>K.filterMap λk=>Yhf s.1 s.2 k).filter λs=>!S.contains s)
noncomputable def okS(K:List (List Int))(S:List (List Nat×List (List Int))):Bool:=S.all λs=>K.all λk=>match Yhf s.1 s.2 k with
 | some s'=>S.contains s'&&(s'.2.length==if s.2.contains k then s.2.length else s.2.length+1)&&K.all λx=>s'.2.contains x==(s.2.contains x||x==k)
 | none=>YF
noncomputable def K2:List (List Int):=[[0,0],[0,1],[1,0],[1,1]]
noncomputable def S2:List (List Nat×List (List Int)):=(grow K2 4 [([],[])]).eraseDups
set_option maxRecDepth 100000 in
theorem Ych:okS K2 S2=YD:=by decide +kernel
section
variable {prog:Qe}{w:Qz}{A:Qs}{E:Xf->Xg->Prop}{s:Xg}
inductive KeysIn(U:YG->List Int->Prop):List (List Int)->List (Int×Xf)->Prop
 | nil:KeysIn U [] []
 | cons {k:List Int} {a:YG} {ks:List (List Int)} {l:List (Int×Xf)} (h:U a k) (t:KeysIn U ks l):KeysIn U (k::ks) ((hT k,.ref a)::l)
theorem KeysIn.hash{U:YG->List Int->Prop}{ks:List (List Int)}{l:List (Int×Xf)}(h:KeysIn U ks l):l.map (·.1)=ks.map hT:=by
 induction h with
 | nil=>rfl
 | cons _ _ ih=>rw[Qg,Qg,ih]
noncomputable abbrev IK(prog:Qe)(w:Qz)(h:YH)(k:List Int)(a:YG):Prop:=IsTupleKey (intKind prog w) h k a
theorem items_int{ks:List Int}{vs:List Xf}(h:ItemsAre (intKind prog w) ks vs):∀v∈vs,∃i t,v= .int i t:=by
 induction h with
 | nil=>exact λ_ m=>nomatch m
 | cons h _ ih=>
  intro v hv;rcases Xu.mp hv with rfl|hv
  ·obtain⟨t,e⟩:=Value.isInt_shape h
   exact⟨_,t,e⟩
  ·exact ih v hv
theorem KeysIn.at{U:YG->List Int->Prop}{ks:List (List Int)}{es:Array (Int×Xf)}(h:KeysIn U ks es.toList)(i:Nat):(es[i]?.map (·.1)).getD 0=hAt ks i:=by
 unfold hAt;rw[←Xl,←h.hash,Xl,JH]
end
section
variable {prog:Qe}{w:Qz}{A:Qs}{R:Result->Xg->Prop}{I:YG}{fp wr:List YG}{n:Nat}{Pv:Nat->Xf->Prop}{St:Nat->YH->Prop}
end
inductive Ydj(H:Hp):List V->List (List Int)->Prop
 | nil:Ydj H [] []
 | cons {a:YG} {k:List Int} {xs:List V} {ks:List (List Int)} (h:H a=YB (.tup (k.map V.int))) (t:Ydj H xs ks):Ydj H (.ref a::xs) (k::ks)
section
variable {X:Cx}{p c:Bool}{io:List Nat}{a e:YJ}{pos pos' pl pr:Pos}{t:TA}{mr:MAt}{ra:FA}
end
noncomputable abbrev Yim(h:YH)(T:YG)(a b c:Xf):Prop:=h.get? T=YB { cls:=.type "tuple",data:=.seq #[a,b,c] }
structure Z3A(z TI TO i1 i2 i3:YG)(f1 f2 f3:List YG):Prop where
 TIz:TI≠z
 TOz:TO≠z
 a1:∀c∈f1,c≠z∧c≠TO∧c≠i2∧c≠i3
 a2:∀c∈f2,c≠z∧c≠TO∧c≠i1∧c≠i3
 a3:∀c∈f3,c≠z∧c≠TO∧c≠i1∧c≠i2
section
variable {P:Qe}{w:Qz}{A:Qs}{E:Xf->Xg->Prop}{s:Xg}
end
noncomputable abbrev z3A(h:YH)(a:YG):YH:=h.push { cls:=.type "list_iterator",data:=.fields #[.ref a,.int 0 0] }
noncomputable abbrev z3B(h:YH)(a b:YG):YH:=z3A (z3A h a) b
noncomputable abbrev z3C(h:YH)(a b c:YG):YH:=z3A (z3B h a b) c
noncomputable abbrev z3D(h:YH)(a b c:YG):YH:=(z3C h a b c).push { cls:=.type "tuple",data:=.seq #[.ref h.objs.size,.ref (z3A h a).objs.size,.ref (z3B h a b).objs.size] }
noncomputable abbrev z3E(h:YH)(a b c:YG):YH:=(z3D h a b c).push { cls:=.type "tuple",data:=.seq #[.none,.none,.none] }
noncomputable abbrev z3F(h:YH)(a b c:YG):YH:=(z3E h a b c).push { cls:=.type "zip",data:=.fields #[.none,.bool YF,.bool YF,.ref (z3C h a b c).objs.size,.ref (z3D h a b c).objs.size] }
section
variable {P:Qe}{w:Qz}{A:Qs}{E:Xf->Xg->Prop}{s:Xg}
end
section
variable {X:Cx}{io:List Nat}{p c:Bool}{a b e:YJ}{mr:MAt}{ra:FA}
end
noncomputable def Up(xs:List Nat):Prop:=xs.Pairwise (·<·)
structure Tb(b:Bool)(t:SetTable):Prop where
 led:t.led=b
 up:t.plain=YD->Up t.place.toList
noncomputable def OfL{α:Type}(ks ns:List α):Prop:=ks.Nodup∧∀x,x∈ks↔x∈ns
noncomputable abbrev Of(ks ns:List Int):Prop:=OfL ks ns
structure Yjv{τ:Type}(prog:Qe)(w:Qz)(A:Qs)(S:YG)(T:YH->List τ->Prop)(h0:YH)(n:Nat)(Ok:Xf->τ->Prop):Prop where
 stay:∀h h' ks,T h ks->(∀o,h.get? S=YB o->h'.get? S=YB o)->T h' ks
 add:∀(s:Xg) (E:Xf->Xg->Prop) (v:Xf) (k:τ) (ks:List τ) (Q:Bool->Xg->Prop),Ok v k->(∀b o,b<S->h0.get? b=YB o->s.heap.get? b=YB o)->T s.heap ks->ks.length<n->(∀c h' tk ks',VP S s.heap h'->T h' ks'->(k∈ks->ks'=ks)->(k∉ks->ks'.Perm (ks++[k]))->Q c { s with heap:=h',toks:=tk })->Qd (Ql prog w) A (setAdd S v) Q E s
section
variable {prog:Qe}{w:Qz}{A:Qs}{R:Result->Xg->Prop}{I S:YG}{fp wr:List YG}{n:Nat}{Pv:Nat->Xf->Prop}{St:Nat->YH->Prop}{τ:Type}{T:YH->List τ->Prop}{h0:YH}{Ok:Xf->τ->Prop}
end
section
variable {prog:Qe}{w:Qz}{A:Qs}{E:Xf->Xg->Prop}{s:Xg}
end
section
variable {κ:Type}[DecidableEq κ]
noncomputable def Zv0(kvs:List (κ×V))(k:κ):Option V:=(kvs.find? λkv=>decide (kv.1=k)).map (·.2)
noncomputable def putK(kvs:List (κ×V))(k:κ)(v:V):List (κ×V) :=
 if(kvs.any λkv=>decide (kv.1=k))=YD then kvs.map (λkv=>if kv.1=k then(kv.1,v)else kv)else kvs++[(k,v)]
theorem Zxu{p:κ×V}{r:List (κ×V)}{k:κ}(e:p.1=k):Zv0 (p::r) k=YB p.2:=by simp[Zv0,List.find?_cons,e]
theorem Zyy{p:κ×V}{r:List (κ×V)}{k:κ}(e:¬p.1=k):Zv0 (p::r) k=Zv0 r k:=by simp[Zv0,List.find?_cons,e]
theorem RelO.getD{o:Option V}{u:Option Xf}{d:V}{d':Xf}(r:RelO o u)(rd:RelV d d'):RelV (o.getD d) (u.getD d'):=by
 cases o with
 | none=>cases u with
  | none=>exact rd
  | some _=>exact(show False from r).elim
 | some _=>cases u with
  | none=>exact(show False from r).elim
  | some _=>exact r
theorem KV.length{kvs:List (κ×V)}{vs:List (κ×Xf)}(r:KV kvs vs):kvs.length=vs.length:=Paired.length r
end
noncomputable abbrev KT(H:Hp):List (List Key×V)->List (List Key×YG×Xf)->Prop:=Paired λp q=>p.1=q.1∧H q.2.1=YB (.tup (p.1.map kV))∧RelV p.2 q.2.2
section
variable {P:Qe}{w:Qz}{H:Hp}{h:YH}{a:YG}
end
noncomputable def DGet(H:Hp)(a:YG)(y:V)(r:Option V):Prop :=
 (∃ kvs k,Rd H a (.dK kvs)∧y=kV k∧r=Zv0 kvs k)∨∃kvs k b,Rd H a (.dT kvs)∧y= .ref b∧H b=YB (.tup (k.map kV))∧r=Zv0 kvs k
noncomputable def DPut(H:Hp)(a:YG)(y v:V)(H':Hp):Prop :=
 (∃ kvs k,H a=YB (.dK kvs)∧y=kV k∧kvs.length<Xz∧H'=upd H a (.dK (putK kvs k v)))∨
 ∃kvs k b,H a=YB (.dT kvs)∧y= .ref b∧H b=YB (.tup (k.map kV))∧kvs.length<Xz∧H'=upd H a (.dT (putK kvs k v))
theorem DGet.k{H:Hp}{a:YG}{kvs:List (Key×V)}{k:Key}(e:H a=YB (.dK kvs)):DGet H a (kV k) (Zv0 kvs k):=.inl ⟨kvs,k,.inl e,rfl,rfl⟩
theorem DGet.t{H:Hp}{a b:YG}{kvs:List (List Key×V)}{k:List Key}(e:H a=YB (.dT kvs))(eb:H b=YB (.tup (k.map kV))):DGet H a (.ref b) (Zv0 kvs k):=.inr ⟨kvs,k,b,.inl e,rfl,eb,rfl⟩
theorem DPut.k{H:Hp}{a:YG}{kvs:List (Key×V)}{k:Key}{v:V}(e:H a=YB (.dK kvs))(hl:kvs.length<Xz):DPut H a (kV k) v (upd H a (.dK (putK kvs k v))):=.inl ⟨kvs,k,e,rfl,hl,rfl⟩
theorem DPut.t{H:Hp}{a b:YG}{kvs:List (List Key×V)}{k:List Key}{v:V}(e:H a=YB (.dT kvs))(eb:H b=YB (.tup (k.map kV)))(hl:kvs.length<Xz) :
  DPut H a (.ref b) v (upd H a (.dT (putK kvs k v))):=.inr ⟨kvs,k,b,e,rfl,eb,hl,rfl⟩
section
variable {X:Cx}{pins:List (YG×Obj)}{Y:St}{H:Hp}{s:Xg}{a:YG}{y v:V}{u r:Xf}{o:Option V}{A:Qs}{E:Xf->Xg->Prop}
end
section
variable {X:Cx}{pins:List (YG×Obj)}{Y:St}{H:Hp}{s:Xg}{a:YG}{kvs:List (Key×V)}{k:Key}{u:Xf}{A:Qs}{E:Xf->Xg->Prop}
end
section
variable {X:Cx}{o i e value:YJ}{pos pos' tpos:Pos}{td ty tv:TE}
end
section
variable {X:Cx}{pos:Pos}
end
noncomputable abbrev VV:List (V×V)->List (Xf×Xf)->Prop:=Paired λp q=>RelV p.1 q.1∧RelV p.2 q.2
structure M1(X:Cx)(o:YJ)(m:Str)(apos:Pos)(e:YJ)(cpos:Pos):Prop where
 base:attributeBase o m X.env (eval o X.env)=eval o X.env
 few:((JP cpos (Xr [e] X.env)).all (λx=>!x.1)&&(backToKw cpos (keywordEach [] X.env)).all (λx=>x.1.isSome)
  &&decide (([e]:List YJ).length+([]:List Keyword).length+(if([]:List Keyword).isEmpty then 0 else 1)<30))=YD
 line:(apos.endLine==cpos.line)=YD
 trees:JP cpos (Xr [e] X.env)=[(YF,eval e X.env)]
structure M2(X:Cx)(o:YJ)(m:Str)(apos:Pos)(e f:YJ)(cpos:Pos):Prop where
 base:attributeBase o m X.env (eval o X.env)=eval o X.env
 few:((JP cpos (Xr [e,f] X.env)).all (λx=>!x.1)&&(backToKw cpos (keywordEach [] X.env)).all (λx=>x.1.isSome)
  &&decide (([e,f]:List YJ).length+([]:List Keyword).length+(if([]:List Keyword).isEmpty then 0 else 1)<30))=YD
 line:(apos.endLine==cpos.line)=YD
 trees:JP cpos (Xr [e,f] X.env)=[(YF,eval e X.env),(YF,eval f X.env)]
section
variable {X:Cx}{pins:List (YG×Obj)}{Y:St}{H:Hp}{s:Xg}{a:YG}{y d:V}{u r:Xf}{o:Option V}{A:Qs}{E:Xf->Xg->Prop}
end
section
variable {X:Cx}{o e f:YJ}{apos cpos:Pos}{td ty tx:TE}
end
variable {G:Xb}
noncomputable def Yem(k:KY):List KY->List Xa->Option Xa
 | [],_=>YC
 | _::_,[]=>YC
 | j::ks,d::ds=>if j=k then YB d else Yem k ks ds
section
variable {H:Hp}{L:YG->Prop}{κ:Type}[DecidableEq κ]{f:κ->KY}
noncomputable def Yeu(G:Xb)(H:Hp)(L:YG->Prop)(a:Option V)(b:Option Xa):Prop:=(∃v d,a=YB v∧b=YB d∧Da G H L v d)∨(a=YC∧b=YC)
theorem look(hf:∀a b,f a=f b->a=b)(k:κ)(kvs:List (κ×V)):∀ds,Das G H L (kvs.map (·.2)) ds->Yeu G H L (Zv0 kvs k) (Yem (f k) (kvs.map λp=>f p.1) ds):=by
 induction kvs with
 | nil=>exact λds _=>.inr ⟨rfl,rfl⟩
 | cons p kvs ih=>
  intro ds h;cases h with
  | cons h r=>
   rename_i d ds;show Yeu G H L _ (if f p.1=f k then YB d else Yem (f k) (kvs.map λp=>f p.1) ds)
   by_cases e:p.1=k
   ·rw[Zxu e,YL (YT f e)]
    exact .inl ⟨_,_,rfl,rfl,h⟩
   ·rw[Zyy e,YM λz=>e (hf _ _ z)]
    exact ih _ r
end
section
variable {H:Hp}{L:YG->Prop}{y:V}{e:Xa}
end
end L2
namespace L2
open PySem PySem.Spec PyProof.Rows PySem.W PySem.SeqAt
variable {G:Xb}
section
variable {prog:Qe}{w:Qz}{A:Qs}{E:Xf->Xg->Prop}{s:Xg}
end
theorem Paired.at{α β:Type}{R:α->β->Prop}{as:List α}{bs:List β}(h:PySem.Paired R as bs):∀{i:Nat} {y:β},bs[i]? =YB y->∃x,as[i]? =YB x∧R x y:=by
 induction h with
 | nil=>intro i y z;cases z
 | cons h t ih=>
  intro i y z;cases i with
  | zero=>cases z;exact⟨_,rfl,h⟩
  | succ i=>exact ih z
end L2
namespace L2
open PySem PySem.Spec PyProof.Rows
noncomputable def Yfl(o:Option (Option OT))(δ:Zh):Option (OT×Zh):=match o with|some (YB (.fz d))=>YB (.fz d,δ)|_=>YC
theorem Z3x(d:Xa)(δ:Zh):Yfl (YB (YB (.fz d))) δ=YB (.fz d,δ):=rfl
noncomputable def Z7e(o:Option (Option OT))(δ:Zh):Option (OT×Zh):=match o with|some (YB t)=>YB (.fz t.data,δ)|_=>YC
theorem Z3u(t:OT)(δ:Zh):Z7e (YB (YB t)) δ=YB (.fz t.data,δ):=rfl
theorem Z09(i:Nat)(δ:Zh):Ze i δ=Yfl δ[i]? δ:=rfl
theorem Z4i(i:Nat)(δ:Zh):Zrj i δ=Z7e δ[i]? δ:=rfl
theorem Yca(d:Xa)(δ:Zh):fC d δ=YB (.fz d,δ):=rfl
theorem Zot(g:Xa->Xa->Option Xa)(a b:FE)(δ:Zh):Zi g a b δ=(a δ).bind λp=>(b p.2).bind λq=>(g p.1.data q.1.data).bind λd=>YB (.fz d,q.2):=rfl
theorem Zrw(g:Xa->Xa->Option OT)(a b:FE)(δ:Zh):Yb g a b δ=(a δ).bind λp=>(b p.2).bind λq=>(g p.1.data q.1.data).bind λd=>YB (d,q.2):=rfl
theorem Z7f(g:Xa->Option Xa)(a:FE)(δ:Zh):fUn g a δ=(a δ).bind λp=>(g p.1.data).bind λd=>YB (.fz d,p.2):=rfl
noncomputable def onB{α:Type}(d:Xa)(x y:Option α):Option α:=match d with| .bool YD=>x| .bool YF=>y|_=>YC
theorem Yb8{α:Type}(x y:Option α):onB (.bool YD) x y=x:=rfl
theorem Yjb{α:Type}(x y:Option α):onB (.bool YF) x y=y:=rfl
theorem Z35(a b:FE)(δ:Zh):Zy3 a b δ=(a δ).bind λp=>onB p.1.data (b p.2) (YB (.fz (.bool YF),p.2)):=by
 unfold Zy3 onB;cases a δ with
 | none=>rfl
 | some p=>first|rfl|(simp only[Xk];done)|(simp only[Xk];generalize p.1.data=d;cases d<;>first|rfl|(rename_i b;cases b<;>rfl))
theorem Yfv(a b:FE)(δ:Zh):fOr a b δ=(a δ).bind λp=>onB p.1.data (YB (.fz (.bool YD),p.2)) (b p.2):=by
 unfold fOr onB;cases a δ with
 | none=>rfl
 | some p=>first|rfl|(simp only[Xk];done)|(simp only[Xk];generalize p.1.data=d;cases d<;>first|rfl|(rename_i b;cases b<;>rfl))
theorem Yf7(t:FT)(a b:FE)(δ:Zh):fIf t a b δ=(t δ).bind λp=>if p.1=YD then a p.2 else b p.2:=rfl
noncomputable def Yej(t:OT)(δ:Zh):Option (Bool×Zh):=match t with| .fz (.bool b)=>YB (b,δ)|_=>YC
theorem Z8a(b:Bool)(δ:Zh):Yej (.fz (.bool b)) δ=YB (b,δ):=rfl
theorem Ycw(e:FE)(δ:Zh):tV e δ=(e δ).bind λp=>Yej p.1 p.2:=by
 unfold tV Yej;cases e δ with
 | none=>rfl
 | some p=>rfl
theorem Zzz(t:FT)(δ:Zh):tNo t δ=(t δ).bind λp=>YB (!p.1,p.2):=rfl
theorem Yey(t u:FT)(δ:Zh):tAn t u δ=(t δ).bind λp=>if p.1=YD then u p.2 else YB (YF,p.2):=rfl
theorem Z69(t u:FT)(δ:Zh):tO t u δ=(t δ).bind λp=>if p.1=YD then YB (YD,p.2)else u p.2:=rfl
theorem Z6l(e:FE)(δ:Zh):tD e δ=(e δ).bind λp=>(Zwc p.1.data).bind λb=>YB (b,p.2):=rfl
theorem Yec(δ:Zh):Zc7 δ=YB (YD,δ):=rfl
theorem Yck(δ:Zh):Zn δ=YB ([],δ):=rfl
theorem Zj8(e:FE)(a:FA)(δ:Zh):Zc e a δ=(e δ).bind λp=>(a p.2).bind λq=>YB (p.1::q.1,q.2):=rfl
theorem Zu0(a:FA)(δ:Zh):Zfm a δ=(a δ).bind λp=>if p.1.length≤Xz then YB (.fz (.tuple (OT.datas p.1)),p.2)else YC:=rfl
theorem Znk(a:FA)(δ:Zh):Zb0 a δ=(a δ).bind λp=>if p.1.length≤Xz then YB (.nd p.1,p.2)else YC:=rfl
theorem Zx8(a:FA)(δ:Zh):Zqs a δ=(a δ).bind λp=>if p.1.length≤Xz then YB (.tp p.1,p.2)else YC:=rfl
theorem Yb1(e:FE)(δ:Zh):Ycb e δ=(e δ).bind λp=>if Zg4 p.1.data=YD then YB (.fz p.1.data,p.2)else YC:=rfl
theorem Z65(e:FE)(δ:Zh):Z7z e δ=(e δ).bind λp=>if Z24 p.1=YD then YB (p.1,p.2)else YC:=rfl
noncomputable def okO(x:RF)(δ:Zh):Option (OT×Zh):=match x with| .ok r=>YB (r,δ)|_=>YC
theorem Z6e(r:OT)(δ:Zh):okO (.ok r) δ=YB (r,δ):=rfl
theorem Zk2(F:FD)(a:FA)(δ:Zh):Zv F a δ=(a δ).bind λp=>okO (F (OT.datas p.1)) p.2:=by
 unfold Zv okO;cases a δ with
 | none=>rfl
 | some p=>rfl
noncomputable def atO{α:Type}(o:Option (Option OT))(k:OT->Option α):Option α:=match o with|some (YB t)=>k t|_=>YC
theorem Yhr{α:Type}(t:OT)(k:OT->Option α):atO (YB (YB t)) k=k t:=rfl
theorem Ztg(i:Nat)(F:FIO)(a:FA)(δ:Zh):Jg i F a δ=atO δ[i]? λ_=>(a δ).bind λp=>atO p.2[i]? λt=>(F t (OT.datas p.1)).bind λq=>YB (q.1,p.2.set i (YB q.2)):=by
 unfold Jg;generalize δ[i]? =o;rcases o with _|_|t
 ·rfl
 ·rfl
 ·show(a δ).bind _=(a δ).bind _
  cases a δ with
  | none=>rfl
  | some p=>
   show(λo:Option (Option OT)=>(match o with|some (YB t)=>(F t (OT.datas p.1)).bind λq=>YB (q.1,p.2.set i (YB q.2))|_=>YC)) p.2[i]? =atO p.2[i]? _;generalize p.2[i]? =o;rcases o with _|_|t<;>rfl
theorem Z4v(g:List Xa->Option Xa)(a:FA)(δ:Zh):Zaq g a δ=(a δ).bind λp=>(g (OT.datas p.1)).bind λd=>YB (.fz d,p.2):=rfl
theorem Z5p(g:List Xa->Option OT)(a:FA)(δ:Zh):fBl g a δ=(a δ).bind λp=>(g (OT.datas p.1)).bind λd=>YB (d,p.2):=rfl
theorem Yd9(T:String)(e:FE)(δ:Zh):Ybm T e δ=(e δ).bind λp=>if Zlx p.1.data=YD then YC else YB (.fz (.bool (Zv3 T p.1.data)),p.2):=rfl
theorem Yib(δ:Zh):oN δ=YB (YC,δ):=rfl
noncomputable def asInt{α:Type}(d:Xa)(k:Int->Option α):Option α:=match d with| .int i=>k i|_=>YC
theorem Znp{α:Type}(i:Int)(k:Int->Option α):asInt (.int i) k=k i:=rfl
noncomputable def Ztd{α:Type}(d:Xa)(k:List Xa->Option α):Option α:=match d with| .list i=>k i|_=>YC
theorem Zt4{α:Type}(i:List Xa)(k:List Xa->Option α):Ztd (.list i) k=k i:=rfl
noncomputable def Z0u{α:Type}(d:Xa)(k:List Xa->Option α):Option α:=match d with| .tuple i=>k i|_=>YC
theorem Ydc{α:Type}(i:List Xa)(k:List Xa->Option α):Z0u (.tuple i) k=k i:=rfl
theorem Ycp(e:FE)(δ:Zh):oI e δ=(e δ).bind λp=>asInt p.1.data λi=>YB (YB i,p.2):=by
 unfold oI asInt;cases e δ with
 | none=>rfl
 | some p=>rfl
theorem Z9h(e:FE)(lo hi:FO)(δ:Zh):fSl e lo hi δ=(e δ).bind λp=>(lo p.2).bind λq=>(hi q.2).bind λr=>Ztd p.1.data λds=>YB (.nd ((cutD ds q.1 r.1).map OT.fz),r.2):=by
 unfold fSl Ztd;rfl
theorem Z10(e:FE)(δ:Zh):Zcu e δ=(e δ).bind λp=>Ztd p.1.data λds=>YB (ds,p.2):=by
 unfold Zcu Ztd;rfl
theorem Ygt(e:FE)(δ:Zh):iTp e δ=(e δ).bind λp=>Z0u p.1.data λds=>YB (ds,p.2):=by
 unfold iTp Z0u;rfl
noncomputable def as1{α:Type}(ds:List Xa)(k:Int->Option α):Option α:=match ds with|[.int i]=>k i|_=>YC
theorem Z99{α:Type}(i:Int)(k:Int->Option α):as1 [.int i] k=k i:=rfl
noncomputable def as2{α:Type}(ds:List Xa)(k:Int->Int->Option α):Option α:=match ds with|[.int i,.int j]=>k i j|_=>YC
theorem Yb7{α:Type}(i j:Int)(k:Int->Int->Option α):as2 [.int i,.int j] k=k i j:=rfl
theorem Z8e(a:FA)(δ:Zh):iRa a δ=(a δ).bind λp=>as1 (OT.datas p.1) λj=>if rOk j=YD then YB (Zdh 0 j.toNat,p.2)else YC:=by
 unfold iRa as1;rfl
theorem Z8i(a:FA)(δ:Zh):iRb a δ=(a δ).bind λp=>as2 (OT.datas p.1) λi j=>if(rOk i&&rOk j)=YD then YB (Zdh i (j-i).toNat,p.2)else YC:=by
 unfold iRb as2;rfl
theorem Z4s(a:FA)(δ:Zh):Ya5 a δ=(a δ).bind λp=>as1 (OT.datas p.1) λj=>if rOk j=YD∧j.toNat≤Xz then YB (.nd ((Zdh 0 j.toNat).map OT.fz),p.2)else YC:=by
 unfold Ya5 as1;rfl
theorem Zkz(a b:FE)(δ:Zh):Zvz a b δ=(a δ).bind λp=>(b p.2).bind λq=>asInt q.1.data λk=>if rOk k=YD∧k.toNat≤Xz then YB (.nd (XJ k.toNat (.fz p.1.data)),p.2)else YC:=by
 unfold Zvz asInt;rfl
noncomputable def Ycy{α:Type}(ds:List Xa)(k:List Xa->List Xa->Option α):Option α:=match ds with|[.list i,.list j]=>k i j|_=>YC
theorem Yg7{α:Type}(i j:List Xa)(k:List Xa->List Xa->Option α):Ycy [.list i,.list j] k=k i j:=rfl
theorem Ybt(a:FA)(δ:Zh):Z91 a δ=(a δ).bind λp=>Ycy (OT.datas p.1) λas bs=>YB (Zl7 as bs,p.2):=by
 unfold Z91 Ycy;rfl
theorem Yfo(i:Nat)(d:Xa)(δ:Zh):gNm i d δ=YB (δ.set i (YB (.fz d))):=rfl
theorem Ycu(i:Nat)(d:Xa)(δ:Zh):Yh2 i d δ=if Zg4 d=YD then YB (δ.set i (YB (.fz d)))else YC:=rfl
theorem Yfm(δ:Zh):gNl [] δ=YB δ:=rfl
theorem Yg1(g:FG)(gs:FGs)(d:Xa)(r:List Xa)(δ:Zh):gCn g gs (d::r) δ=(g d δ).bind (gs r):=rfl
theorem Ygy(n:Nat)(gs:FGs)(ds:List Xa)(δ:Zh):gTp n gs (.tuple ds) δ=if ds.length=n then gs ds δ else YC:=rfl
theorem Yfg(n:Nat)(gs:FGs)(ds:List Xa)(δ:Zh):gLs n gs (.list ds) δ=if ds.length=n then gs ds δ else YC:=rfl
noncomputable def RS.thn(r:RS)(g:FS):RS:=match r with| .nx δ=>g δ|r=>r
theorem Zuj(δ:Zh)(g:FS):(RS.nx δ).thn g=g δ:=rfl
theorem Zzc(r:OT)(δ:Zh)(g:FS):(RS.rt r δ).thn g= .rt r δ:=rfl
theorem Ygn(δ:Zh)(g:FS):(RS.bk δ).thn g= .bk δ:=rfl
theorem Yfc(δ:Zh)(g:FS):(RS.ct δ).thn g= .ct δ:=rfl
theorem Ye8(c:Str)(δ:Zh)(g:FS):(RS.ex c δ).thn g= .ex c δ:=rfl
theorem Ziv(f g:FS)(δ:Zh):Z5 f g δ=(f δ).thn g:=rfl
theorem Ygv(δ:Zh):fNx δ= .nx δ:=rfl
theorem Yeh(δ:Zh):Yil δ= .bk δ:=rfl
theorem Ycj(δ:Zh):Yhn δ= .ct δ:=rfl
theorem Z9l(c:Str)(δ:Zh):Zh9 c δ= .ex c δ:=rfl
theorem Ybf(δ:Zh):Ydo δ= .rt (.fz .none) δ:=rfl
noncomputable def onO{α:Type}(o:Option (α×Zh))(k:α->Zh->RS):RS:=match o with|some (r,δ')=>k r δ'|none=>.bad
theorem Wk{α:Type}(r:α)(δ:Zh)(k:α->Zh->RS):onO (YB (r,δ)) k=k r δ:=rfl
theorem Zcw(e:FE)(k:OT->Zh->RS)(δ:Zh):wE e k δ=onO (e δ) k:=by
 unfold wE onO;cases e δ<;>rfl
noncomputable def onF(x:RF)(δ:Zh)(k:OT->Zh->RS):RS:=match x with| .ok r=>k r δ| .exn c=>.ex c δ| .bad=>.bad
theorem Yhd(r:OT)(δ:Zh)(k:OT->Zh->RS):onF (.ok r) δ k=k r δ:=rfl
theorem Yha(c:Str)(δ:Zh)(k:OT->Zh->RS):onF (.exn c) δ k= .ex c δ:=rfl
theorem Yhp(F:FD)(a:FA)(k:OT->Zh->RS)(δ:Zh):wX F a k δ=onO (a δ) λrs δ1=>onF (F (OT.datas rs)) δ1 k:=by
 unfold wX onO onF;cases a δ with
 | none=>rfl
 | some p=>rfl
theorem Zrv(t:FT)(u w:FS)(δ:Zh):Zbr t u w δ=onO (t δ) λb δ'=>if b=YD then u δ' else w δ':=by
 unfold Zbr onO;cases t δ<;>rfl
theorem Z3m(it:FI)(g:FG)(u:FS)(δ:Zh):Zaj it g u δ=onO (it δ) λds δ1=>forLoop g u ds δ1:=by
 unfold Zaj onO;cases it δ<;>rfl
theorem Zxs(r:OT)(δ:Zh):Zw3 r δ= .nx δ:=rfl
theorem Z1n(r:OT)(δ:Zh):J7 r δ= .rt r δ:=rfl
theorem Yb2(r:OT)(δ:Zh):Ycq r δ=if Zg4 r.data=YD then .rt (.fz r.data) δ else .bad:=rfl
theorem Z1v(i:Nat)(r:OT)(δ:Zh):W2 i r δ= .nx (δ.set i (YB (.fz r.data))):=rfl
theorem Ybq(i:Nat)(r:OT)(δ:Zh):Ycn i r δ=if Zg4 r.data=YD then .nx (δ.set i (YB (.fz r.data)))else .bad:=rfl
theorem Zws(i:Nat)(r:OT)(δ:Zh):Zat i r δ= .nx (δ.set i (YB r)):=rfl
noncomputable def onD(o:Option Zh):RS:=match o with|some δ=>.nx δ|none=>.bad
theorem Yb4(δ:Zh):onD (YB δ)= .nx δ:=rfl
theorem Z36(g:FG)(r:OT)(δ:Zh):Z8f g r δ=onD (g r.data δ):=rfl
noncomputable def onT(o:Option (Option OT))(k:OT->RS):RS:=match o with|some (YB t)=>k t|_=>.bad
theorem Z81(t:OT)(k:OT->RS):onT (YB (YB t)) k=k t:=rfl
theorem Zyb(i:Nat)(δ:Zh):Zgb i δ=onT δ[i]? λt=>.rt t (δ.set i YC):=rfl
theorem Zqc(i:Nat)(u:FS)(δ:Zh):Zce i u δ=onT δ[i]? λt=>u (δ.set i (YB (.fz t.data))):=rfl
noncomputable def onN(o:Option (Option OT))(k:List OT->RS):RS:=match o with|some (YB (.nd ts))=>k ts|_=>.bad
theorem Zxr(t:List OT)(k:List OT->RS):onN (YB (YB (.nd t))) k=k t:=rfl
theorem Zjm(i:Nat)(e:FE)(δ:Zh):Yw i e δ=onN δ[i]? λ_=>onO (e δ) λr δ1=>onN δ1[i]? λts=>if ts.length<Xz then .nx (δ1.set i (YB (.nd (ts++[.fz r.data]))))else .bad:=by
 unfold Yw;generalize δ[i]? =o;rcases o with _|_|(_|_|_|_)
 ·rfl
 ·rfl
 ·rfl
 ·show wE e _ δ=onO (e δ) _
  rw[Zcw];congr 1
 ·rfl
 ·rfl
theorem Z28(i:Nat)(e:FE)(δ:Zh):Zoq i e δ=onN δ[i]? λ_=>onO (e δ) λr δ1=>onN δ1[i]? λts=>if ts.length<Xz then .nx (δ1.set i (YB (.nd (ts++[r]))))else .bad:=by
 unfold Zoq;generalize δ[i]? =o;rcases o with _|_|(_|_|_|_)
 ·rfl
 ·rfl
 ·rfl
 ·show wE e _ δ=onO (e δ) _
  rw[Zcw];congr 1
 ·rfl
 ·rfl
noncomputable def onI(d:Xa)(k:Int->RS):RS:=match d with| .int i=>k i|_=>.bad
theorem Yi1(i:Int)(k:Int->RS):onI (.int i) k=k i:=rfl
noncomputable def onX(o:Option Nat)(k:Nat->RS):RS:=match o with|some i=>k i|_=>.bad
theorem Yh4(i:Nat)(k:Nat->RS):onX (YB i) k=k i:=rfl
theorem Z3d(i:Nat)(e j:FE)(δ:Zh):Z56 i e j δ=onO (e δ) λr δ1=>onN δ1[i]? λts=>onO (j δ1) λn _=>onI n.data λk=>onX (ixN ts.length k) λj=>.nx (δ1.set i (YB (.nd (ts.set j (.fz r.data))))):=by
 unfold Z56;rw[Zcw];congr 1;funext r δ1;generalize δ1[i]? =o;rcases o with _|_|(_|_|_|_)
 ·rfl
 ·rfl
 ·rfl
 ·show wE j _ δ1=onO (j δ1) _
  rw[Zcw];congr 1;funext n δ2;generalize n.data=d;cases d<;>try rfl
  show(match ixN _ _ with|some j=>_|none=>_)=onX (ixN _ _) _;generalize ixN _ _=x;cases x<;>rfl
 ·rfl
 ·rfl
noncomputable def onU(o:Option OT)(k:List OT->RS):RS:=match o with|some (.nd ts)=>k ts|_=>.bad
theorem Yi3(t:List OT)(k:List OT->RS):onU (YB (.nd t)) k=k t:=rfl
noncomputable def onP(o:Option (Option OT))(k:List OT->RS):RS:=match o with|some (YB (.tp ts))=>k ts|_=>.bad
theorem Yi7(t:List OT)(k:List OT->RS):onP (YB (YB (.tp t))) k=k t:=rfl
theorem Z86(i c:Nat)(e:FE)(δ:Zh):Z0n i c e δ=onP δ[i]? λts=>onU ts[c]? λus=>onO (e δ) λr _=>if us.length<Xz then .nx (δ.set i (YB (.tp (ts.set c (.nd (us++[.fz r.data]))))))else .bad:=by
 unfold Z0n;generalize δ[i]? =o;rcases o with _|_|(_|_|ts|_)
 ·rfl
 ·rfl
 ·rfl
 ·rfl
 ·show(match ts[c]? with|some (.nd us)=>wE e _ δ|_=>_)=onU ts[c]? _
  generalize ts[c]? =o;rcases o with _|(_|_|_|_)
  ·rfl
  ·rfl
  ·show wE e _ δ=onO (e δ) _
   rw[Zcw]
  ·rfl
  ·rfl
 ·rfl
noncomputable def on2(ds:List Xa)(k:Xa->Xa->RS):RS:=match ds with|[d,e]=>k d e|_=>.bad
theorem Yir(d e:Xa)(k:Xa->Xa->RS):on2 [d,e] k=k d e:=rfl
theorem Ycx(i j:Nat)(a:FA)(δ:Zh):Yfx i j a δ=onO (a δ) λrs δ1=>on2 (OT.datas rs) λd e=>.nx ((δ1.set i (YB (.fz d))).set j (YB (.fz e))):=by
 unfold Yfx onO on2;cases a δ<;>rfl
theorem Zhk{np n:Nat}{S:FS}{ds:List Xa}(h:ds.length=np):Zah np n S ds=(S (Zil n ds)).told:=by
 unfold Zah;rw[YL h]
theorem Z1m{np n:Nat}{S:FS}{t:OT}{ds:List Xa}(h:ds.length+1=np):Zxx np n S t ds=(S (Zko n t ds)).toldI:=by
 unfold Zxx;rw[YL h]
theorem Z3c(δ:Zh):(RS.nx δ).told= .ok (.fz .none):=rfl
theorem Z4g(r:OT)(δ:Zh):(RS.rt r δ).told= .ok r:=rfl
theorem Ydt(c:Str)(δ:Zh):(RS.ex c δ).told= .exn c:=rfl
theorem Zl8(i j:Int):Zeh (.int i) (.int j)=YB (.int (i+j)):=rfl
theorem Yh0(i j:Int):gSb (.int i) (.int j)=YB (.int (i-j)):=rfl
theorem Yiq(i j:Int):gLt (.int i) (.int j)=YB (.bool (decide (i<j))):=rfl
theorem Yjp(i j:Int):gLe (.int i) (.int j)=YB (.bool (decide (i≤j))):=rfl
theorem Yd5(i j:Int):gGt (.int i) (.int j)=YB (.bool (decide (j<i))):=rfl
theorem Ydf(i j:Int):gGe (.int i) (.int j)=YB (.bool (decide (j≤i))):=rfl
theorem Jf{i j:Int}(h:Z00 i j=YD):Zcs (.int i) (.int j)=YB (.int (i*j)):=by
 unfold Zcs i2c;dsimp only;rw[YL h]
theorem Zfz{i j:Int}(h:Z7h i j=YD):Za9 (.int i) (.int j)=YB (.int (i.fdiv j)):=by
 unfold Za9 i2c;dsimp only;rw[YL h]
theorem Z6r{i j:Int}(h:j≠0):Zju (.int i) (.int j)=YB (.int (i.fmod j)):=by
 unfold Zju i2c Ygm;dsimp only;rw[YL (YQ h)]
theorem Wr{m n:Nat}{x y:Int}(h:Bt m x)(k:Bt n y)(hmn:m+n≤100000000:=by decide):Z00 x y=YD:=Zhd.mpr (h.mulOk k hmn)
theorem Z6v{x y:Int}(h:x.natAbs<2^64):Z00 x y=YD:=Zhd.mpr (.of_left (intBits_le_64 (by omega) (by omega)))
theorem Z9c{x y:Int}(h:y.natAbs<2^64):Z00 x y=YD:=Zhd.mpr (.of_right (intBits_le_64 (by omega) (by omega)))
theorem Zfp{n:Nat}{i j:Int}(h0:j≠0)(h:Bt n j)(hn:n≤9000:=by decide):Z7h i j=YD:=by
 obtain⟨h1,h2⟩:=DivOk.of (i:=i) h0 h hn;unfold Z7h;rw[YQ h1,YQ h2];rfl
theorem Ydb(i j:Int):gEq (.int i) (.int j)=YB (.bool (decide (i=j))):=by
 show YB (PyData.bool (i==j))=_;rw[show(i==j)=decide (i=j)from rfl]
theorem Ydl(i j:Int):gNe (.int i) (.int j)=YB (.bool (!decide (i=j))):=by
 show YB (PyData.bool (!(i==j)))=_;rw[show(i==j)=decide (i=j)from rfl]
theorem Yig(d:Xa):gIs d .none=YB (.bool (Zgd d)):=rfl
theorem Ybp(d:Xa):Zo9 d .none=YB (.bool (!Zgd d)):=rfl
theorem Zns(ds:List Xa)(i:Int):gIx (.list ds) (.int i)=(atI ds i).bind λx=>YB (.fz x):=rfl
theorem Yho(ds:List Xa)(i:Int):gIx (.tuple ds) (.int i)=(atI ds i).bind λx=>YB (.fz x):=rfl
theorem Zmp(ds:List Xa):Zcc [.list ds]=YB (.int ds.length):=rfl
theorem Yft(ds:List Xa):Zcc [.tuple ds]=YB (.int ds.length):=rfl
theorem Zvs(i:Int):Z5h [.int i]=YB (.int (i.natAbs:Int)):=by
 show YB (Xq (if i<0 then -i else i))=_;congr 2;split<;>omega
theorem Yfb(i j:Int):Yik [.int i,.int j]=YB (.int (if j>i then j else i)):=rfl
theorem Zz0(i j:Int):Z0a [.int i,.int j]=YB (.int (if j<i then j else i)):=rfl
theorem Yf5(i:Int):Zrk [.int i]=YB (.int i):=rfl
theorem Z0c(b:Bool):Zrk [.bool b]=YB (.int (if b then 1 else 0)):=rfl
theorem Z4z(ds:List Xa):Zva [.list ds]=YB (.nd (ds.map OT.fz)):=rfl
theorem Ydd(ds:List Xa):Zva [.tuple ds]=YB (.nd (ds.map OT.fz)):=rfl
theorem Yao{ds es:List Xa}(h:ds.length+es.length≤Xz):Zrs (.list ds) (.list es)=YB (.nd ((ds++es).map OT.fz)):=by
 unfold Zrs;dsimp only;rw[YL h]
theorem Ya2(i:Int):Ybn (.int i)=YB (.int (-i)):=rfl
theorem Ygx(b:Bool):Ycc (.bool b)=YB (.bool (!b)):=rfl
theorem Yf6(b:Bool):Zwc (.bool b)=YB b:=rfl
theorem Ygu(i:Int):Zwc (.int i)=YB (i !=0):=rfl
theorem Yew:Zwc .none=YB YF:=rfl
theorem Yg8(ds:List Xa):Zwc (.list ds)=YB (!ds.isEmpty):=rfl
theorem Zpb{gg:FG}{u:FS}{ds:List Xa}{δ:Zh}(I:Nat->Zh->Prop)(h0:I 0 δ)
  (turn:∀(i:Nat) (d:Xa) (δ:Zh),ds[i]? =YB d->I i δ->∃δ1 δ2,gg d δ=YB δ1∧(u δ1= .nx δ2∨u δ1= .ct δ2)∧I (i+1) δ2):∃δ',forLoop gg u ds δ= .nx δ'∧I ds.length δ':=by
 induction ds generalizing δ I with
 | nil=>exact⟨δ,rfl,h0⟩
 | cons d ds ih=>
  obtain⟨δ1,δ2,e1,e2,h1⟩:=turn 0 d δ rfl h0;obtain⟨δ',e3,h3⟩:=ih (δ:=δ2) (λi δ=>I (i+1) δ) h1 λi d' δ hd hi=>turn (i+1) d' δ (by simpa using hd) hi;refine⟨δ',?_,h3⟩;rw[Zad,e1];dsimp only;rcases e2 with e2|e2<;>rw[e2]<;>exact e3
noncomputable def Goes(r:RS)(Q:Zh->Prop):Prop:=∃δ,(r= .nx δ∨r= .ct δ)∧Q δ
theorem Goes.nx{δ:Zh}{Q:Zh->Prop}(h:Q δ):Goes (.nx δ) Q:=⟨δ,.inl rfl,h⟩
theorem Goes.ct{δ:Zh}{Q:Zh->Prop}(h:Q δ):Goes (.ct δ) Q:=⟨δ,.inr rfl,h⟩
theorem Zvd{α:Type}{me:FE}{cs:Zh}(mk:α->Xa)(f:α->OT):∀(xs:List α) (z:Option OT),(∀x∈xs,me (YB (.fz (mk x))::cs)=YB (f x,YB (.fz (mk x))::cs)) ->
  ∃z',compLoop (gNm 0) Zc7 me (xs.map mk) (z::cs)=YB (xs.map f,z'::cs)
 | [],z,_=>⟨z,rfl⟩
 | x::xs,z,h=>by
  obtain⟨z',e⟩:=Zvd mk f xs (YB (.fz (mk x))) λy hy=>h y (.tail _ hy);refine⟨z',?_⟩;rw[Qg,compLoop];show(YB (YB (OT.fz (mk x))::cs)).bind _=_;rw[Xk];show(YB (YD,YB (OT.fz (mk x))::cs)).bind _=_;rw[Xk,YL rfl,h x (.head _),Xk,e];rfl
theorem Zo7{α:Type}{t:FT}{me:FE}{cs:Zh}(mk:α->Xa)(p:α->Bool)(f:α->OT):∀(xs:List α) (z:Option OT),(∀x∈xs,t (YB (.fz (mk x))::cs)=YB (p x,YB (.fz (mk x))::cs))->(∀x∈xs,p x=YD->me (YB (.fz (mk x))::cs)=YB (f x,YB (.fz (mk x))::cs)) ->
  ∃z',compLoop (gNm 0) t me (xs.map mk) (z::cs)=YB ((xs.filter p).map f,z'::cs)
 | [],z,_,_=>⟨z,rfl⟩
 | x::xs,z,ht,h=>by
  obtain⟨z',e⟩:=Zo7 mk p f xs (YB (.fz (mk x))) (λy hy=>ht y (.tail _ hy)) λy hy=>h y (.tail _ hy);refine⟨z',?_⟩;rw[Qg,compLoop];show(YB (YB (OT.fz (mk x))::cs)).bind _=_;rw[Xk,ht x (.head _),Xk];dsimp only
  by_cases hp:p x=YD
  ·rw[YL hp,h x (.head _) hp,Xk,e,JW hp];rfl
  ·rw[YM hp,e,JX hp]
theorem Zey{α:Type}{caps:List Nat}{it:FI}{me:FE}{cs δ δ1:Zh}(xs:List α)(mk:α->Xa)(f:α->OT)(hi:it δ=YB (xs.map mk,δ1))(hz:xs.length≤Xz)(hb:blk 1 caps δ1=YC::cs)
  (h:∀x∈xs,me (YB (.fz (mk x))::cs)=YB (f x,YB (.fz (mk x))::cs)):Yr 1 caps it (gNm 0) Zc7 me δ=YB (.nd (xs.map f),δ1):=by
 unfold Yr;rw[hi,Xk];dsimp only;rw[YL (by rw[Xc];exact hz),hb];obtain⟨z',e⟩:=Zvd (me:=me) (cs:=cs) mk f xs YC h;rw[e];rfl
theorem Zru{α:Type}{caps:List Nat}{it:FI}{t:FT}{me:FE}{cs δ δ1:Zh}(xs:List α)(mk:α->Xa)(p:α->Bool)(f:α->OT)(hi:it δ=YB (xs.map mk,δ1))(hz:xs.length≤Xz)(hb:blk 1 caps δ1=YC::cs)
  (ht:∀x∈xs,t (YB (.fz (mk x))::cs)=YB (p x,YB (.fz (mk x))::cs)) (h:∀x∈xs,p x=YD->me (YB (.fz (mk x))::cs)=YB (f x,YB (.fz (mk x))::cs)):Yr 1 caps it (gNm 0) t me δ=YB (.nd ((xs.filter p).map f),δ1):=by
 unfold Yr;rw[hi,Xk];dsimp only;rw[YL (by rw[Xc];exact hz),hb];obtain⟨z',e⟩:=Zo7 (t:=t) (me:=me) (cs:=cs) mk p f xs YC ht h;rw[e];rfl
theorem Yij:(2≤Xz)=True:=by simp[X8]
theorem Yjm:(1≤Xz)=True:=by simp[X8]
theorem Yjo:(0≤Xz)=True:=by simp
theorem Yct:(3≤Xz)=True:=by simp[X8]
theorem Zrf{α:Type}(f:α->Xa)(xs:List α):(xs.map λx=>OT.fz (f x)).map OT.data=xs.map f:=by
 rw[XQ];exact Xn λx _=>OT.data_fz _
theorem Z3s{α:Type}{j:Int}{x:α}(h0:0≤j)(h1:j≤1000000):(if rOk j=YD then YB x else YC)=YB x:=YL (Zgr (by omega) h1)
theorem Z2k{α:Type}{i j:Int}{x:α}(h0:0≤i)(h1:i≤1000000)(h2:0≤j)(h3:j≤1000000):(if(rOk i&&rOk j)=YD then YB x else YC)=YB x:=YL (by rw[Zgr (by omega) h1,Zgr (by omega) h3];rfl)
theorem Zz7{r:RS}{k:Nat}(h:k≤1000000):(if k<Xz then r else .bad)=r:=YL (by rw[X8];omega)
noncomputable def EvV(e:FE)(δ:Zh)(d:Xa):Prop:=∃t,e δ=YB (t,δ)∧t.data=d
noncomputable def EvA(a:FA)(δ:Zh)(ds:List Xa):Prop:=∃ts,a δ=YB (ts,δ)∧OT.datas ts=ds
noncomputable def EvT(t:FT)(δ:Zh)(b:Bool):Prop:=t δ=YB (b,δ)
noncomputable def Told(F:FD)(ds:List Xa)(d:Xa):Prop:=∃t,F ds= .ok t∧t.data=d
section
variable {e a b:FE}{as:FA}{δ δ':Zh}{x y d:Xa}{xs ds:List Xa}{i j:Nat}{p q:Bool}{t u:FT}{S S':FS}{r:RS}
theorem EvV.cast{e:FE}{δ:Zh}{x y:Xa}(h:EvV e δ x)(k:x=y):EvV e δ y:=k▸h
theorem Za(h:δ[i]? =YB (YB (.fz d)):=by rfl):EvV (Ze i) δ d:=⟨_,by rw[Z09,h,Z3x],OT.data_fz _⟩
theorem Ztn{t:OT}(h:δ[i]? =YB (YB t))(hd:t.data=d):EvV (Zrj i) δ d:=⟨_,by rw[Z4i,h,Z3u],by rw[OT.data_fz,hd]⟩
theorem Z4:EvV (fC d) δ d:=⟨_,rfl,OT.data_fz _⟩
theorem Zo{g:Xa->Xa->Option Xa}(ha:EvV a δ x)(hb:EvV b δ y)(h:g x y=YB d):EvV (Zi g a b) δ d:=by
 obtain⟨_,e1,d1⟩:=ha;obtain⟨_,e2,d2⟩:=hb;exact⟨_,by rw[Zot,e1,Xk,e2,Xk,d1,d2,h,Xk],OT.data_fz _⟩
theorem Z0l{g:Xa->Xa->Option OT}{o:OT}(ha:EvV a δ x)(hb:EvV b δ y)(h:g x y=YB o)(hd:o.data=d):EvV (Yb g a b) δ d:=by
 obtain⟨_,e1,d1⟩:=ha;obtain⟨_,e2,d2⟩:=hb;exact⟨_,by rw[Zrw,e1,Xk,e2,Xk,d1,d2,h,Xk],hd⟩
theorem Y4(ha:EvV a δ x)(hb:EvV b δ y)(h:gIx x y=YB (.fz d)):EvV (Yb gIx a b) δ d:=Z0l ha hb h (OT.data_fz _)
theorem Zar{i j:Int}(ha:EvV a δ (.int i))(hb:EvV b δ (.int j)):EvV (Zi Zeh a b) δ (.int (i+j)):=Zo ha hb rfl
theorem Ztq{i j:Int}(ha:EvV a δ (.int i))(hb:EvV b δ (.int j)):EvV (Zi gSb a b) δ (.int (i-j)):=Zo ha hb rfl
theorem Ydu{g:Xa->Option Xa}(ha:EvV a δ x)(h:g x=YB d):EvV (fUn g a) δ d:=by
 obtain⟨_,e1,d1⟩:=ha;exact⟨_,by rw[Z7f,e1,Xk,d1,h,Xk],OT.data_fz _⟩
theorem Zkp(ha:EvV a δ (.bool YD))(hb:EvV b δ d):EvV (Zy3 a b) δ d:=by
 obtain⟨_,e1,d1⟩:=ha;obtain⟨_,e2,d2⟩:=hb;exact⟨_,by rw[Z35,e1,Xk,d1,Yb8,e2],d2⟩
theorem Zg:EvA Zn δ []:=⟨_,rfl,Ze2⟩
theorem Zb(h:EvV e δ d)(k:EvA as δ ds):EvA (Zc e as) δ (d::ds):=by
 obtain⟨_,e1,d1⟩:=h;obtain⟨_,e2,d2⟩:=k;exact⟨_,by rw[Zj8,e1,Xk,e2,Xk],by rw[Zds,d1,d2]⟩
theorem Zq{F:FD}(h:EvA as δ ds)(k:Told F ds d):EvV (Zv F as) δ d:=by
 obtain⟨_,e1,d1⟩:=h;obtain⟨_,e2,d2⟩:=k;exact⟨_,by rw[Zk2,e1,Xk,d1,e2,Z6e],d2⟩
theorem W9{g:List Xa->Option Xa}(h:EvA as δ ds)(k:g ds=YB d):EvV (Zaq g as) δ d:=by
 obtain⟨_,e1,d1⟩:=h;exact⟨_,by rw[Z4v,e1,Xk,d1,k,Xk],OT.data_fz _⟩
theorem Z2n{g:List Xa->Option OT}{o:OT}(h:EvA as δ ds)(k:g ds=YB o)(hd:o.data=d):EvV (fBl g as) δ d:=by
 obtain⟨_,e1,d1⟩:=h;exact⟨_,by rw[Z5p,e1,Xk,d1,k,Xk],hd⟩
theorem Zes:∀ts:List OT,(OT.datas ts).length=ts.length
 | []=>by rw[Ze2];rfl
 | t::ts=>by rw[Zds,JN,JN,Zes ts]
theorem datas_map:∀ts:List OT,OT.datas ts=ts.map OT.data
 | []=>Ze2
 | t::ts=>by rw[Zds,Qg,datas_map ts]
theorem Zap(h:EvA as δ ds)(hl:ds.length≤1000):EvV (Zfm as) δ (.tuple ds):=by
 obtain⟨ts,e1,d1⟩:=h;have:=Zes ts;rw[d1]at this;exact⟨_,by rw[Zu0,e1,Xk,YL (by rw[X8];show ts.length≤_;omega)],by rw[OT.data_fz];exact YT _ d1⟩
theorem Zbt(h:EvA as δ ds)(hl:ds.length≤1000):EvV (Zb0 as) δ (.list ds):=by
 obtain⟨ts,e1,d1⟩:=h;have:=Zes ts;rw[d1]at this;exact⟨_,by rw[Znk,e1,Xk,YL (by rw[X8];show ts.length≤_;omega)],by rw[OT.data_nd,←datas_map,d1]⟩
theorem Zmt{o:OT}{b:Bool}(h:o.data= .bool b):o= .fz (.bool b):=by
 cases o with
 | fz d=>rw[OT.data_fz]at h;rw[h]
 | nd ts=>rw[OT.data_nd]at h;cases h
 | tp ts=>rw[OT.data_tp]at h;cases h
 | dc _ _ _=>rw[OT.data_dc]at h;cases h
theorem Ze1(h:EvV e δ (.bool p)):EvT (tV e) δ p:=by
 obtain⟨_,e1,d1⟩:=h;unfold EvT;rw[Ycw,e1,Xk,Zmt d1,Z8a]
theorem Yi5(h:EvV e δ d)(k:Zwc d=YB p):EvT (tD e) δ p:=by
 obtain⟨_,e1,d1⟩:=h;unfold EvT;rw[Z6l,e1,Xk,d1,k,Xk]
theorem Zle(h:EvV e δ (.bool p)):EvT (tD e) δ p:=Yi5 h rfl
theorem Zmk(h:EvT t δ p):EvT (tNo t) δ (!p):=by
 unfold EvT at h⊢;rw[Zzz,h,Xk]
theorem Yeb(h:EvT t δ YF)(k:EvT u δ p):EvT (tO t u) δ p:=by
 unfold EvT at h k⊢;rw[Z69,h,Xk,YM XC,k]
theorem Je(h:S δ= .nx δ')(k:S' δ'=r):Z5 S S' δ=r:=by rw[Ziv,h,Zuj,k]
theorem Zm1{o:OT}(h:S δ= .rt o δ'):Z5 S S' δ= .rt o δ':=by rw[Ziv,h,Zzc]
theorem Z3(h:EvV e δ d):wE e (W2 i) δ= .nx (δ.set i (YB (.fz d))):=by
 obtain⟨_,e1,d1⟩:=h;rw[Zcw,e1,Wk,Z1v,d1]
theorem Zzk(h:EvV e δ d):∃o,wE e J7 δ= .rt o δ∧o.data=d:=by
 obtain⟨_,e1,d1⟩:=h;exact⟨_,by rw[Zcw,e1,Wk,Z1n],d1⟩
theorem Zbk(h:EvT t δ YD)(k:S δ=r):Zbr t S S' δ=r:=by
 unfold EvT at h;rw[Zrv,h,Wk,YL rfl,k]
theorem Jb(h:EvT t δ YF)(k:S' δ=r):Zbr t S S' δ=r:=by
 unfold EvT at h;rw[Zrv,h,Wk,YM (by decide),k]
noncomputable def Zlk(S:FS)(δ:Zh)(d:Xa):Prop:=∃o δ',S δ= .rt o δ'∧o.data=d
theorem Z9(h:S δ= .nx δ')(k:Zlk S' δ' d):Zlk (Z5 S S') δ d:=by
 obtain⟨o,δ2,e,hd⟩:=k;exact⟨o,δ2,Je h e,hd⟩
theorem Zpl(k:Zlk S δ d):Zlk (Z5 S S') δ d:=by
 obtain⟨o,δ2,e,hd⟩:=k;exact⟨o,δ2,Zm1 e,hd⟩
theorem Wt(h:EvV e δ d):Zlk (wE e J7) δ d:=by
 obtain⟨o,e1,hd⟩:=Zzk h;exact⟨o,δ,e1,hd⟩
theorem Z25(h:EvT t δ YD)(k:Zlk S δ d):Zlk (Zbr t S S') δ d:=by
 obtain⟨o,δ2,e,hd⟩:=k;exact⟨o,δ2,Zbk h e,hd⟩
theorem Z0{np n:Nat}(hl:xs.length=np)(k:Zlk S (Zil n xs) d):Told (Zah np n S) xs d:=by
 obtain⟨o,δ2,e,hd⟩:=k;exact⟨o,by rw[Zhk hl,e,Z4g],hd⟩
noncomputable def EvO(o:FO)(δ:Zh)(l:Option Int):Prop:=o δ=YB (l,δ)
theorem Ygf:EvO oN δ YC:=rfl
theorem Yhi{i:Int}(h:EvV e δ (.int i)):EvO (oI e) δ (YB i):=by
 obtain⟨_,e1,d1⟩:=h;unfold EvO;rw[Ycp,e1,Xk,d1,Znp]
theorem Ycv{lo hi:FO}{l h:Option Int}(he:EvV e δ (.list ds))(hl:EvO lo δ l)(hh:EvO hi δ h):EvV (fSl e lo hi) δ (.list (cutD ds l h)):=by
 obtain⟨_,e1,d1⟩:=he;unfold EvO at hl hh;exact⟨_,by rw[Z9h,e1,Xk,hl,Xk,hh,Xk,d1,Zt4],by rw[OT.data_nd,OT.map_fz]⟩
theorem Zjj{es:List Xa}(ha:EvV a δ (.list ds))(hb:EvV b δ (.list es))(h:ds.length+es.length≤1000000):EvV (Yb Zrs a b) δ (.list (ds++es)) :=
 Z0l ha hb (Yao (by rw[X8];omega)) (by rw[OT.data_nd,OT.map_fz])
noncomputable def EvI(it:FI)(δ:Zh)(ds:List Xa):Prop:=it δ=YB (ds,δ)
theorem Wj(h:EvV e δ (.list ds)):EvI (Zcu e) δ ds:=by
 obtain⟨_,e1,d1⟩:=h;unfold EvI;rw[Z10,e1,Xk,d1,Zt4]
theorem Zm2{n:Nat}(h:EvA as δ [.int n])(hn:n≤1000000):EvI (iRa as) δ (Zdh 0 n):=by
 obtain⟨_,e1,d1⟩:=h;unfold EvI;rw[Z8e,e1,Xk,d1,Z99,Z3s (by omega) (by omega),Q0]
theorem Zgx{it:FI}{g:FG}(h:EvI it δ ds)(k:forLoop g S ds δ=r):Zaj it g S δ=r:=by
 unfold EvI at h;rw[Z3m,h,Wk,k]
theorem Jl{α:Type}{caps:List Nat}{it:FI}{me:FE}{cs:Zh}(xs:List α)(mk f:α->Xa)(hi:EvI it δ (xs.map mk))(hz:xs.length≤1000000)(hb:blk 1 caps δ=YC::cs)(h:∀x∈xs,EvV me (YB (.fz (mk x))::cs) (f x)):EvV (Yr 1 caps it (gNm 0) Zc7 me) δ (.list (xs.map f)):=by
 have g:∀x,∃o:OT,x∈xs->me (YB (.fz (mk x))::cs)=YB (o,YB (.fz (mk x))::cs)∧o.data=f x:=λx=>by
  by_cases c:x∈xs
  ·obtain⟨o,h1,h2⟩:=h x c
   exact⟨o,λ_=>⟨h1,h2⟩⟩
  ·exact⟨.fz .none,λz=>YX z c⟩
 obtain⟨o,ho⟩:=Classical.axiomOfChoice g;unfold EvI at hi;refine⟨_,Zey (cs:=cs) xs mk o hi (by rw[X8];omega) hb (λx hx=>(ho x hx).1),?_⟩;rw[OT.data_nd,XQ];exact YT _ (Xn λx hx=>(ho x hx).2)
theorem Zdj{ts:List OT}(h:EvV e δ d)(hi:δ[i]? =YB (YB (.nd ts)))(hl:ts.length≤1000000):Yw i e δ= .nx (δ.set i (YB (.nd (ts++[.fz d])))):=by
 obtain⟨_,e1,d1⟩:=h;rw[Zjm,hi,Zxr,e1,Wk,hi,Zxr,Zz7 hl,d1]
theorem Zkc{o:OT}(h:e δ=YB (o,δ)):wE e (Zat i) δ= .nx (δ.set i (YB o)):=by rw[Zcw,h,Wk,Zws]
theorem Z31{o:OT}(h:δ[i]? =YB (YB o))(hd:o.data=d):Zlk (Zgb i) δ d:=⟨o,_,by rw[Zyb,h,Z81],hd⟩
theorem Zho{o:OT}(h:δ[i]? =YB (YB o))(k:S (δ.set i (YB (.fz o.data)))=r):Zce i S δ=r:=by rw[Zqc,h,Z81,k]
theorem Z20(h:EvV e δ d):wE e Zw3 δ= .nx δ:=by
 obtain⟨_,e1,d1⟩:=h;rw[Zcw,e1,Wk,Zxs]
theorem Zvc{np n:Nat}(hl:xs.length=np)(k:S (Zil n xs)= .nx δ'):Told (Zah np n S) xs .none:=⟨_,by rw[Zhk hl,k,Z3c],OT.data_fz _⟩
theorem Told.ok{F:FD}{b:Bool}(h:Told F ds (.bool b)):F ds= .ok (.fz (.bool b)):=by
 obtain⟨o,e1,d1⟩:=h;rw[e1,Zmt d1]
theorem Zpk{o:OT}{i:Int}(h:o.data= .int i):o= .fz (.int i):=by
 cases o with
 | fz d=>rw[OT.data_fz]at h;rw[h]
 | nd ts=>rw[OT.data_nd]at h;cases h
 | tp ts=>rw[OT.data_tp]at h;cases h
 | dc _ _ _=>rw[OT.data_dc]at h;cases h
theorem Told.int{F:FD}{i:Int}(h:Told F ds (.int i)):F ds= .ok (.fz (.int i)):=by
 obtain⟨o,e1,d1⟩:=h;rw[e1,Zpk d1]
theorem Zs2{o:OT}(h:o.data= .none):o= .fz .none:=by
 cases o with
 | fz d=>rw[OT.data_fz]at h;rw[h]
 | nd ts=>rw[OT.data_nd]at h;cases h
 | tp ts=>rw[OT.data_tp]at h;cases h
 | dc _ _ _=>rw[OT.data_dc]at h;cases h
theorem Told.of{F:FD}{o:OT}(h:F ds= .ok o)(hd:o.data=d):Told F ds d:=⟨o,h,hd⟩
end
section
variable {e a b:FE}{as:FA}{δ δ':Zh}{x y d:Xa}{xs ds:List Xa}{i j:Int}{k:Nat}{p q:Bool}{t u:FT}{S S':FS}{r:RS}{Q:Xa->Prop}
theorem Zmm(ha:EvV a δ (.int i))(hb:EvV b δ (.int j))(h:j≠0):EvV (Zi Zju a b) δ (.int (i.fmod j)):=Zo ha hb (Z6r h)
theorem Z62{i j:Int}(h:(decide (0<j)&&decide (j<18446744073709551616))=YD):Za9 (.int i) (.int j)=YB (.int (i.fdiv j)):=by
 rw[Xv,decide_eq_true_eq,decide_eq_true_eq]at h;exact Zfz (Zfp (n:=64) (by omega) (Bt.of_lt (by omega) (by omega)))
theorem Z37(ha:EvV a δ (.int i))(hb:EvV b δ (.int j))(h:(decide (0<j)&&decide (j<18446744073709551616))=YD:=by decide):EvV (Zi Za9 a b) δ (.int (i.fdiv j)):=Zo ha hb (Z62 h)
theorem Zr6(ha:EvV a δ (.int i))(hb:EvV b δ (.int j))(h:i.natAbs<2^64:=by decide):EvV (Zi Zcs a b) δ (.int (i*j)):=Zo ha hb (Jf (Z6v h))
theorem Zu3(ha:EvV a δ (.int i))(hb:EvV b δ (.int j))(h:decide (i<j)=p):EvV (Zi gLt a b) δ (.bool p):=h▸Zo ha hb rfl
theorem Zum(ha:EvV a δ (.int i))(hb:EvV b δ (.int j))(h:decide (i≤j)=p):EvV (Zi gLe a b) δ (.bool p):=h▸Zo ha hb rfl
theorem Zme(ha:EvV a δ (.int i))(hb:EvV b δ (.int j))(h:decide (j<i)=p):EvV (Zi gGt a b) δ (.bool p):=h▸Zo ha hb (Yd5 _ _)
theorem Z7g(ha:EvV a δ (.int i))(hb:EvV b δ (.int j))(h:decide (j≤i)=p):EvV (Zi gGe a b) δ (.bool p):=h▸Zo ha hb (Ydf _ _)
theorem Zuh(ha:EvV a δ (.int i))(hb:EvV b δ (.int j))(h:decide (i=j)=p):EvV (Zi gEq a b) δ (.bool p):=h▸Zo ha hb (Ydb _ _)
theorem Zoc(ha:EvV a δ (.int i))(hb:EvV b δ (.int j))(h:(!decide (i=j))=p):EvV (Zi gNe a b) δ (.bool p):=h▸Zo ha hb (Ydl _ _)
theorem Z64(ha:EvV a δ (.int i)):EvV (fUn Ybn a) δ (.int (-i)):=Ydu ha (Ya2 _)
theorem Zll{ds:List Xa}(h:EvV e δ (.list ds)):EvV (Zaq Zcc (Zc e Zn)) δ (.int ds.length):=W9 (Zb h Zg) (Zmp ds)
theorem Z0p(ha:EvV a δ (.list ds))(hb:EvV b δ (.int i))(h:atI ds i=YB d):EvV (Yb gIx a b) δ d:=Y4 ha hb (by rw[Zns,h];rfl)
noncomputable def Zq3(S:FS)(δ:Zh)(Q:Xa->Prop):Prop:=∃d,Zlk S δ d∧Q d
theorem Zd3(h:S δ= .nx δ')(k:Zq3 S' δ' Q):Zq3 (Z5 S S') δ Q:=k.imp λ_ k=>⟨Z9 h k.1,k.2⟩
theorem Zx7(k:Zq3 S δ Q):Zq3 (Z5 S S') δ Q:=k.imp λ_ k=>⟨Zpl k.1,k.2⟩
theorem Zm0(h:EvV e δ d)(k:Q d):Zq3 (wE e J7) δ Q:=⟨d,Wt h,k⟩
theorem Z47(h:EvT t δ YD)(k:Zq3 S δ Q):Zq3 (Zbr t S S') δ Q:=k.imp λ_ k=>⟨Z25 h k.1,k.2⟩
theorem Zw5{np n:Nat}(hl:xs.length=np)(h:Zq3 S (Zil n xs) Q):∃d,Told (Zah np n S) xs d∧Q d:=h.imp λ_ k=>⟨Z0 hl k.1,k.2⟩
theorem Zy7{it:FI}{g:FG}(I:Nat->Zh->Prop)(hi:EvI it δ ds)(h0:I 0 δ)(turn:∀(i:Nat) (d:Xa) (δ:Zh),ds[i]? =YB d->I i δ->∃δ1 δ2,g d δ=YB δ1∧(S δ1= .nx δ2∨S δ1= .ct δ2)∧I (i+1) δ2)(k:∀δ',I ds.length δ'->Zq3 S' δ' Q):Zq3 (Z5 (Zaj it g S) S') δ Q:=by
 obtain⟨δ',e,h⟩:=Zpb I h0 turn;exact Zd3 (Zgx hi e) (k δ' h)
theorem Zgo{it:FI}{g:FG}(I:Nat->Zh->Prop)(hi:EvI it δ ds)(h0:I 0 δ)(turn:∀(i:Nat) (d:Xa) (δ:Zh),ds[i]? =YB d->I i δ->∃δ1 δ2,g d δ=YB δ1∧(S δ1= .nx δ2∨S δ1= .ct δ2)∧I (i+1) δ2)(k:∀δ',I ds.length δ'->Zlk S' δ' d):Zlk (Z5 (Zaj it g S) S') δ d:=by
 obtain⟨δ',e,h⟩:=Zpb I h0 turn;exact Z9 (Zgx hi e) (k δ' h)
theorem Zeg{it:FI}{g:FG}(I:Nat->Zh->Prop)(hi:EvI it δ ds)(h0:I 0 δ)(turn:∀(i:Nat) (d:Xa) (δ:Zh),ds[i]? =YB d->I i δ->∃δ1 δ2,g d δ=YB δ1∧(S δ1= .nx δ2∨S δ1= .ct δ2)∧I (i+1) δ2):∃δ',Zaj it g S δ= .nx δ'∧I ds.length δ':=by
 obtain⟨δ',e,h⟩:=Zpb I h0 turn;exact⟨δ',Zgx hi e,h⟩
theorem Zx5{m n:Nat}(h:EvA as δ [.int m,.int n])(hm:m≤1000000)(hn:n≤1000000):EvI (iRb as) δ (Zdh m (n-m)):=by
 obtain⟨_,e1,d1⟩:=h;unfold EvI;rw[Z8i,e1,Xk,d1,Yb7,Z2k (by omega) (by omega) (by omega) (by omega),show((n:Int)-(m:Int)).toNat=n-m by omega]
theorem Zdz:wE (Zb0 Zn) (Zat k) δ= .nx (δ.set k (YB (.nd []))):=Zkc (by rw[Znk];rfl)
theorem Zof{i:Int}(h:0<j):0≤i.fmod j:=by rw[Zhi h];exact Int.emod_nonneg _ (by omega)
theorem Zon{i:Int}(h:0<j):i.fmod j<j:=by rw[Zhi h];exact Int.emod_lt_of_pos _ h
theorem Z3a{o:OT}{ts ts0:List OT}(h:e δ=YB (o,δ'))(h0:δ[k]? =YB (YB (.nd ts0)))(h1:δ'[k]? =YB (YB (.nd ts)))(hl:ts.length≤1000000):Yw k e δ= .nx (δ'.set k (YB (.nd (ts++[.fz o.data])))):=by
 rw[Zjm,h0,Zxr,h,Wk,h1,Zxr,Zz7 hl]
theorem Z2x{es:List Xa}(h:EvA as δ ds)(hz:Yat ds=YB es):EvI (Zdx as) δ es:=by
 obtain⟨_,e1,d1⟩:=h;unfold EvI Zdx;rw[e1,Xk,d1,hz,Xk]
theorem Z7a{n:Nat}(hn:n≤1000000){v:Option OT}:(Zvz (fC d) (Ze 1)) [v,YB (.fz (.int n))]=YB (.nd (XJ n (.fz d)),[v,YB (.fz (.int n))]):=by
 obtain⟨_,e1,d1⟩:=Za (δ:=[v,YB (.fz (.int n))]) (i:=1) (d:=.int n);rw[Zkz,Yca,Xk,e1,Xk,d1,Znp,YL ⟨Zgr (by omega) (by omega),by rw[X8];omega⟩,Q0,OT.data_fz]
theorem Zo1{it:FI}{g gg:FG}{δ1:Zh}(I:Nat->Zh->Prop){J:Zh->Prop}(hg:gg d δ=YB δ1)(hi:EvI it δ1 ds)(h0:I 0 δ1)(turn:∀(i:Nat) (d:Xa) (δ:Zh),ds[i]? =YB d->I i δ->∃δ1 δ2,g d δ=YB δ1∧(S δ1= .nx δ2∨S δ1= .ct δ2)∧I (i+1) δ2)(hJ:∀δ',I ds.length δ'->J δ'):∃δ1 δ2,gg d δ=YB δ1∧(Zaj it g S δ1= .nx δ2∨Zaj it g S δ1= .ct δ2)∧J δ2:=by
 obtain⟨δ',e,h⟩:=Zpb I h0 turn;exact⟨δ1,δ',hg,.inl (Zgx hi e),hJ δ' h⟩
theorem Zf9{a b:FE}{bs es:List Xa}{as:List Xa}(ha:EvV a δ (.list as))(hb:EvV b δ (.list bs))(hz:Zl7 as bs=es):EvI (Zdx (Zc a (Zc b Zn))) δ es:=Z2x (Zb ha (Zb hb Zg)) (YT YB hz)
theorem Z0q(ha:EvV a δ (.list ds)):EvI (Zxt (Zc a Zn)) δ (Zj6 ds):=by
 obtain⟨_,e1,d1⟩:=Zb ha Zg;unfold EvI Zxt;rw[e1,Xk];dsimp only;rw[d1]
theorem Zxg{y:Str}{F:FD}(h:δ[k]? =YB (YB (.fz (fnD y))))(ha:EvA as δ ds)(hF:Told F ds d):EvV (Zet k y F as) δ d:=by
 obtain⟨o,e1,d1⟩:=Zq ha hF;refine⟨o,?_,d1⟩;unfold Zet;rw[h];dsimp only;rw[YL (Z03 y),e1]
theorem Zkx{α:Type}{caps:List Nat}{it:FI}{me:FE}{t:FT}{cs:Zh}(xs:List α)(mk:α->Xa)(pr:α->Bool)(hi:EvI it δ (xs.map mk))(hz:xs.length≤1000000)(hb:blk 1 caps δ=YC::cs)(ht:∀x∈xs,EvT t (YB (.fz (mk x))::cs) (pr x))(h:∀x∈xs,pr x=YD->me (YB (.fz (mk x))::cs)=YB (.fz (mk x),YB (.fz (mk x))::cs)):EvV (Yr 1 caps it (gNm 0) t me) δ (.list ((xs.filter pr).map mk)):=by
 unfold EvI at hi;refine⟨_,Zru (cs:=cs) xs mk pr (λx=>.fz (mk x)) hi (by rw[X8];omega) hb (λx hx=>ht x hx) h,?_⟩;rw[OT.data_nd,XQ];exact YT _ (Xn λx _=>OT.data_fz _)
theorem Told.none{F:FD}(h:Told F ds .none):F ds= .ok (.fz .none):=by
 obtain⟨o,e1,d1⟩:=h;rw[e1,Zs2 d1]
end
end L2
namespace My
open PySem L2 PySem.Spec
noncomputable def J0:FS :=
 (Z5 (wE (Zaq Z5h (Zc (Ze 0) Zn)) (W2 0))
  (Z5 (wE (Zaq Z5h (Zc (Ze 1) Zn)) (W2 1))
  (Z5 (Zjp (tV (Zi gNe (Ze 1) (fC (.int 0)))) (Z5 (wE (Zi Zju (Ze 0) (Ze 1)) (W2 2))
  (Z5 (wE (Ze 1) (W2 0))
  (wE (Ze 2) (W2 1)))))
  (wE (Ze 0) J7))))
noncomputable def Yd:FD:=Zah 2 3 J0
theorem Zkq{f1 f2:Int->Int->Option OT->Zh}{t:FT}{u:FS}(ht:∀x y z,t (f1 x y z)=YB (!decide (y=0),f1 x y z))(hu:∀x y z,y≠0->∃z',u (f1 x y z)= .nx (f1 y (x.fmod y) z')) :
  ∀(n:Nat) (x y:Int) (z:Option OT),0≤x->0≤y->y.toNat<n->∃z',whileLoop t u n (f1 x y z)= .nx (f1 (Bo x y:Int) 0 z')
 | 0,_,_,_,_,_,h=>YX h (Vp _)
 | n+1,x,y,z,hx,hy,h=>by
  unfold whileLoop;rw[ht];dsimp only
  by_cases c:y=0
  ·subst c
   refine⟨z,?_⟩;simp only[decide_true,Bool.not_true,Vh,if_false];rw[Int.gcd_zero_right];congr 2;omega
  ·simp only[c,decide_false,Bool.not_false,if_true]
   obtain⟨z1,e1⟩:=hu x y z c;rw[e1];dsimp only;have hm:x.fmod y=x%y:=Zhi (by omega);have h1:0≤x%y:=Int.emod_nonneg x c;have h2:x%y<y:=Int.emod_lt_of_pos x (by omega);obtain⟨z2,e2⟩:=Zkq (f1:=f1) (f2:=f2) ht hu n y (x.fmod y) z1 hy (by omega) (by omega);exact⟨z2,by rw[e2,Zyg hx (by omega)]⟩
theorem Za5(a b:Int):Yd [.int a,.int b]= .ok (.fz (.int (Bo a b:Int))):=by
 obtain⟨z',e⟩:=Zkq (f1:=λx y z=>[YB (.fz (.int x)),YB (.fz (.int y)),z]) (f2:=λx y z=>[]) (t:=tV (Zi gNe (Ze 1) (fC (.int 0)))) (u:=Z5 (wE (Zi Zju (Ze 0) (Ze 1)) (W2 2)) (Z5 (wE (Ze 1) (W2 0)) (wE (Ze 2) (W2 1)))) (λx y z=>Ze1 (Zoc Za Z4 rfl)) (λx y z hy=>⟨_,Je (Z3 (Zmm Za Za hy)) (Je (Z3 Za) (Z3 Za))⟩) ((b.natAbs:Int).toNat+1) (a.natAbs:Int) (b.natAbs:Int) YC (by omega) (by omega) (by omega);rw[Vz,Int.natAbs_natCast,Int.natAbs_natCast]at e;exact Told.int<|Z0 rfl<|Z9 (Z3 (W9 (Zb Za Zg) (Zvs a)))<|Z9 (Z3 (W9 (Zb Za Zg) (Zvs b)))<|Z9 (Zm3 _ e (by intro z;cases z)) (Wt Za)
noncomputable def Zdd:FS :=
 (Z5 (wE (Zv Yd (Zc (Ze 0) (Zc (Ze 1) Zn))) (W2 2))
  (Z5 (Zbr (tV (Zi gLt (Ze 1) (fC (.int 0))))
  (wE (fUn Ybn (Ze 2)) (W2 2))
  fNx)
  (wE (Zfm (Zc (Zi Za9 (Ze 0) (Ze 2)) (Zc (Zi Za9 (Ze 1) (Ze 2)) Zn))) J7)))
noncomputable def W4:FD:=Zah 2 3 Zdd
theorem Z73{n:Nat}{t b:Int}(hb:b≠0)(hB:Bt n b)(hn:n≤9000)(s:Int)(e:s=shr t b):Za9 (.int t) (.int s)=YB (.int (Xh t b).num)∧Za9 (.int b) (.int s)=YB (.int ((Xh t b).den:Int)):=by
 subst e;rw[Zfz (Zfp (Zzl hb) (Zz4 hb hB) hn),Zfz (Zfp (Zzl hb) (Zz4 hb hB) hn),Z2v hb,Z14 hb];exact⟨rfl,rfl⟩
theorem Zch{n:Nat}{t b:Int}(hb:b≠0)(hB:Bt n b)(hn:n≤9000:=by decide):Told W4 [.int t,.int b] (frD (Xh t b)):=by
 have fin:∀{δ:Zh} {s:Int},s=shr t b->δ[0]? =YB (YB (.fz (.int t)))->δ[1]? =YB (YB (.fz (.int b)))->δ[2]? =YB (YB (.fz (.int s)))->Zlk (wE (Zfm (Zc (Zi Za9 (Ze 0) (Ze 2)) (Zc (Zi Za9 (Ze 1) (Ze 2)) Zn))) J7) δ (frD (Xh t b)):=λe h0 h1 h2=>by
  obtain⟨e1,e2⟩:=Z73 hb hB hn _ e;exact Wt (Zap (Zb (Zo (Za h0) (Za h2) e1) (Zb (Zo (Za h1) (Za h2) e2) Zg)) (show 2≤1000 by decide))
 have g:Told Yd [.int t,.int b] _:=.of (Za5 t b) (OT.data_fz _)
 by_cases c:b<0
 ·exact Z0 rfl<|Z9 (Z3 (Zq (Zb Za (Zb Za Zg)) g))<|Z9 (Zbk (Ze1 (Zu3 Za Z4 (YQ c))) (Z3 (Z64 Za))) (fin (by unfold shr;rw[YL c]) rfl rfl rfl)
 ·exact Z0 rfl<|Z9 (Z3 (Zq (Zb Za (Zb Za Zg)) g))<|Z9 (Jb (Ze1 (Zu3 Za Z4 (YS c))) rfl) (fin (by unfold shr;rw[YM c]) rfl rfl rfl)
noncomputable def Zdm:FS :=
 (wE (Zy3 (Ybm "int" (Ze 0)) (fUn Ycc (Ybm "bool" (Ze 0)))) J7)
noncomputable def W5:FD:=Zah 1 1 Zdm
theorem Znb(i:Int):W5 [.int i]= .ok (.fz (.bool YD)):=rfl
noncomputable def Zcz:FS :=
 (Z5 (Zbr (tO (tNo (tD (Zv W5 (Zc (Ze 0) Zn)))) (tO (tNo (tD (Zv W5 (Zc (Ze 1) Zn)))) (tV (Zi gEq (Ze 1) (fC (.int 0))))))
  (Zh9 "NoNumber")
  fNx)
  (wE (Zv W4 (Zc (Ze 0) (Zc (Ze 1) Zn))) J7))
noncomputable def Yz:FD:=Zah 2 2 Zcz
theorem Zi2{n:Nat}{t b:Int}(hb:b≠0)(hB:Bt n b)(hn:n≤9000:=by decide):Told Yz [.int t,.int b] (frD (Xh t b)):=by
 have w:∀{i:Int},Told W5 [.int i] (.bool YD):=fun{i}=>.of (Znb i) (OT.data_fz _);exact Z0 rfl<|Z9 (Jb (Yeb (Zmk (p:=YD) (Zle (Zq (Zb Za Zg) w))) (Yeb (Zmk (p:=YD) (Zle (Zq (Zb Za Zg) w))) (Ze1 (Zuh Za Z4 (YS hb))))) rfl) (Wt (Zq (Zb Za (Zb Za Zg)) (Zch hb hB hn)))
noncomputable def Zal:FS :=
 (Z5 (wE (fC (.int 1)) (W2 1))
  (Z5 (Zaj (Zcu (Ze 0)) (gNm 2)
  (wE (Zi Zcs (Zi Za9 (Ze 1) (Zv Yd (Zc (Ze 1) (Zc (Yb gIx (Ze 2) (fC (.int 1))) Zn)))) (Yb gIx (Ze 2) (fC (.int 1)))) (W2 1)))
  (wE (Ze 1) J7)))
noncomputable def Yt:FD:=Zah 1 3 Zal
noncomputable def prD(p:Int×Int):Xa:=.tuple [.int p.1,.int p.2]
theorem Zw2{a b B:Int}(ha:0<a)(hb:0<b)(h1:a∣B)(h2:b∣B)(hB:0<B):0<a.fdiv (Bo a b)*b∧a∣a.fdiv (Bo a b)*b∧b∣a.fdiv (Bo a b)*b∧a.fdiv (Bo a b)*b∣B:=by
 have hg:0<(Bo a b:Int):=Zfe (by omega);have d1:(Bo a b:Int)∣a:=Int.gcd_dvd_left ..;have d2:(Bo a b:Int)∣b:=Int.gcd_dvd_right ..;rw[Jo hg];have e:a/(Bo a b:Int)*b=(Int.lcm a b:Int):=by
  have q:=Int.gcd_mul_lcm a b;have h3:(Bo a b:Int)*(Int.lcm a b:Int)=a*b:=by
   rw[←Int.natCast_mul,q,Int.natCast_mul,Int.natAbs_of_nonneg (by omega),Int.natAbs_of_nonneg (by omega)]
  obtain⟨k,hk⟩:=d1;have e1:a/(Bo a b:Int)=k:=Int.ediv_eq_of_eq_mul_right (by omega) hk;rw[e1];apply Int.eq_of_mul_eq_mul_left (a:=(Bo a b:Int)) (by omega);rw[h3,←Int.mul_assoc,←hk]
 rw[e];refine⟨?_,Int.dvd_lcm_left ..,Int.dvd_lcm_right ..,Int.coe_lcm_dvd h1 h2⟩;have:Int.lcm a b≠0:=by
  rw[Ne,Int.lcm_eq_zero_iff];omega
 omega
theorem Zgv{n:Nat}{a B:Int}(hB:0<B)(h:a∣B)(b:Bt n B):Bt n a:=by
 refine Bt.of_le b ?_;have:=Int.natAbs_dvd_natAbs.mpr h;exact Nat.le_of_dvd (by omega) this
theorem Zct{n:Nat}{B:Int}(hB:0<B)(bB:Bt n B)(hn:n≤9000:=by decide)(ps:List (Int×Int))(h:∀p∈ps,0<p.2∧p.2∣B) :
  ∃m,Told Yt [.list (ps.map prD)] (.int m)∧0<m∧(∀p∈ps,p.2∣m)∧m∣B:=by
 have key:∃d,Told Yt [.list (ps.map prD)] d∧∃m,d= .int m∧0<m∧(∀p∈ps,p.2∣m)∧m∣B:=by
  refine Zw5 rfl<|Zd3 (Z3 Z4)<|Zy7 (ds:=ps.map prD) (λi δ=>∃m z,δ=[YB (.fz (.list (ps.map prD))),YB (.fz (.int m)),z]∧0<m∧(∀j p,j<i->ps[j]? =YB p->p.2∣m)∧m∣B) (Wj Za) ⟨1,YC,rfl,by decide,λj p hj=>YX hj (Vp j),Int.one_dvd _⟩ (λi d δ hd hi=>?_) λδ' hi=>?_
  ·obtain⟨m,z,hδ,h1,h2,h3⟩:=hi
   subst hδ;rw[Xl]at hd;cases e:ps[i]? with
   | none=>rw[e]at hd;cases hd
   | some p=>
    rw[e]at hd;cases hd;obtain⟨q1,q2⟩:=h p (Qn e);obtain⟨s1,s2,s3,s4⟩:=Zw2 h1 q1 h3 q2 hB;have g0:0<(Bo m p.2:Int):=Zfe (by omega);have bg:Bt n (Bo m p.2:Int):=Zgv hB (Int.dvd_trans (Int.gcd_dvd_right ..) q2) bB;have bm:Bt n (m.fdiv (Bo m p.2)):=by
     rw[Jo g0];exact Bt.of_le (Zgv hB h3 bB) (V5 _ _)
    have at1:∀{δ:Zh},δ[2]? =YB (YB (.fz (prD p)))->EvV (Yb gIx (Ze 2) (fC (.int 1))) δ (.int p.2):=λh=>Y4 (Za h) Z4 rfl;refine⟨_,_,rfl,.inl (Z3 (Zo (Zo Za (Zq (Zb Za (Zb (at1 rfl) Zg)) (.of (Za5 m p.2) (OT.data_fz _))) (Zfz (Zfp (by omega) bg hn))) (at1 rfl) (Jf (Wr bm (Zgv hB q2 bB) (by omega))))),_,_,rfl,s1,λj p' hj hp=>?_,s4⟩
    by_cases z:j=i
    ·subst z
     rw[e]at hp;cases hp;exact s3
    ·exact Int.dvd_trans (h2 j p' (by omega) hp) s2
  ·obtain⟨m,z,rfl,h1,h2,h3⟩:=hi
   refine Zm0 Za ⟨m,rfl,h1,λp hp=>?_,h3⟩;obtain⟨j,hj⟩:=BK hp;exact h2 j p (by have:=(Xw.mp hj).1;rwa[Xc]) hj
 obtain⟨d,h,m,rfl,hm⟩:=key;exact⟨m,h,hm⟩
noncomputable def Zax:FS :=
 (Z5 (wE (fC (.int 1)) (W2 1))
  (Z5 (Zaj (Zcu (Ze 0)) (gNm 2)
  (wE (Zv Yt (Zc (Yb Zrs (Zb0 (Zc (Zfm (Zc (fC (.int 1)) (Zc (Ze 1) Zn))) Zn)) (Ze 2)) Zn)) (W2 1)))
  (wE (Ze 1) J7)))
noncomputable def Yy:FD:=Zah 1 3 Zax
theorem Z11(r:List Rat):r.map frD=(r.map λq=>(q.num,(q.den:Int))).map prD:=by rw[XQ];rfl
noncomputable def Z7p(T:List (List Rat))(B:Int):Prop:=∀r∈T,∀q∈r,(q.den:Int)∣B
theorem Zim{n:Nat}{B:Int}(hB:0<B)(bB:Bt n B)(hn:n≤9000:=by decide)(T:List (List Rat))(hz:∀r∈T,r.length≤1000)(h:Z7p T B) :
  ∃m,Told Yy [tbD T] (.int m)∧0<m∧Z7p T m∧m∣B:=by
 have key:∃d,Told Yy [.list (T.map Zp4)] d∧∃m,d= .int m∧0<m∧Z7p T m∧m∣B:=by
  refine Zw5 rfl<|Zd3 (Z3 Z4)<|Zy7 (ds:=T.map Zp4) (λi δ=>∃m z,δ=[YB (.fz (.list (T.map Zp4))),YB (.fz (.int m)),z]∧0<m∧(∀j r,j<i->T[j]? =YB r->∀q∈r,(q.den:Int)∣m)∧m∣B) (Wj Za) ⟨1,YC,rfl,by decide,λj p hj=>YX hj (Vp j),Int.one_dvd _⟩ (λi d δ hd hi=>?_) λδ' hi=>?_
  ·obtain⟨m,z,hδ,h1,h2,h3⟩:=hi
   subst hδ;rw[Xl]at hd;cases e:T[i]? with
   | none=>rw[e]at hd;cases hd
   | some r=>
    rw[e]at hd;cases hd;have hr:=Qn e;obtain⟨m',e1,p1,p2,p3⟩:=Zct hB bB hn ((1,m)::r.map λq=>(q.num,(q.den:Int))) λp hp=>by
     rcases Xu.mp hp with rfl|hp
     ·exact⟨h1,h3⟩
     ·obtain⟨q,hq,rfl⟩:=XD.mp hp
      exact⟨Zab q,h r hr q hq⟩
    rw[Qg,←Z11]at e1;have hl:=hz r hr;refine⟨_,_,rfl,.inl (Z3 (Zq (Zb (Zjj (ds:=[prD (1,m)]) (es:=r.map frD) (Zbt (Zb (Zap (Zb Z4 (Zb Za Zg)) (show 2≤1000 by decide)) Zg) (show 1≤1000 by decide)) Za (by rw[Xc,List.length_singleton];omega)) Zg) e1)),m',_,rfl,p1,λj r' hj hr' q hq=>?_,p3⟩
    by_cases z:j=i
    ·subst z
     rw[e]at hr';cases hr';exact p2 (q.num,(q.den:Int)) (.tail _ (XD.mpr ⟨q,hq,rfl⟩))
    ·exact Int.dvd_trans (h2 j r' (by omega) hr' q hq) (p2 (1,m) (.head _))
  ·obtain⟨m,z,rfl,h1,h2,h3⟩:=hi
   refine Zm0 Za ⟨m,rfl,h1,λr hr q hq=>?_,h3⟩;obtain⟨j,hj⟩:=BK hr;exact h2 j r (by have:=(Xw.mp hj).1;rwa[Xc]) hj q hq
 obtain⟨d,h,m,rfl,hm⟩:=key;exact⟨m,h,hm⟩
noncomputable def scI(m:Int)(q:Rat):Int:=q.num*(m/(q.den:Int))
theorem Zzw{m:Int}{q:Rat}(h:(q.den:Int)∣m):(scI m q:Rat)=q*(m:Rat):=by
 obtain⟨k,rfl⟩:=h;unfold scI;rw[Int.mul_ediv_cancel_left _ (Zi1 q)];rw[Rat.intCast_mul,Rat.intCast_mul,Yh5,Rat.mul_assoc]
noncomputable def Zcl:FS :=
 (wE (Yr 1 [0] (Zcu (Ze 1)) (gNm 0) Zc7 (Zi Zcs (Yb gIx (Ze 0) (fC (.int 0))) (Zi Za9 (Ze 1) (Yb gIx (Ze 0) (fC (.int 1)))))) J7)
noncomputable def Jh:FD:=Zah 2 2 Zcl
theorem Zgt{n:Nat}{m:Int}(hm:0<m)(bm:Bt n m)(r:List Rat)(hz:r.length≤1000)(h:∀q∈r,(q.den:Int)∣m∧Bt n q.num)(hn:n≤9000:=by decide) :
  Told Jh [.int m,Zp4 r] (.list (r.map λq=>.int (scI m q))) :=
 Z0 rfl<|Wt<|Jl (cs:=[YB (.fz (.int m))]) r frD (λq=>.int (scI m q)) (Wj Za) (by omega) rfl λq hq=>by
  obtain⟨h1,h2⟩:=h q hq;refine(Zo (Y4 (d:=.int q.num) Za Z4 rfl) (Zo Za (Y4 (d:=.int (q.den:Int)) Za Z4 rfl) (Zfz (Zfp (Zi1 q) (Zgv hm h1 bm) hn))) (Jf ?_)).cast ?_
  ·rw[Jo (Zab q)]
   exact Wr h2 (Bt.of_le bm (V5 _ _)) (by omega)
  ·rw[Jo (Zab q)];rfl
noncomputable def Zb2:FS :=
 (wE (Yr 1 [0] (Zcu (Ze 1)) (gNm 0) Zc7 (Zv Jh (Zc (Ze 1) (Zc (Ze 0) Zn)))) J7)
noncomputable def W7:FD:=Zah 2 2 Zb2
theorem Zkh{n:Nat}{m:Int}(hm:0<m)(bm:Bt n m)(T:List (List Rat))(hT:T.length≤1000)(hz:∀r∈T,r.length≤1000)(h:Z7p T m)(hb:∀r∈T,∀q∈r,Bt n q.num)(hn:n≤9000:=by decide) :
  Told W7 [.int m,tbD T] (.list (T.map λr=>.list (r.map λq=>.int (scI m q)))) :=
 Z0 rfl<|Wt<|Jl (cs:=[YB (.fz (.int m))]) T Zp4 (λr=>.list (r.map λq=>.int (scI m q))) (Wj Za) (by omega) rfl λr hr=>Zq (Zb Za (Zb Za Zg)) (Zgt hm bm r (hz r hr) (λq hq=>⟨h r hr q hq,hb r hr q hq⟩) hn)
noncomputable def Zdg:FS :=
 (Z5 (wE (Zb0 Zn) (Zat 1))
  (Z5 (Zaj (iRa (Zc (Ze 0) Zn)) (gNm 2)
  (Zaj (iRb (Zc (Zi Zeh (Ze 2) (fC (.int 1))) (Zc (Ze 0) Zn))) (gNm 3)
  (Yw 1 (Zfm (Zc (Ze 2) (Zc (Ze 3) Zn))))))
  (Zgb 1)))
noncomputable def Wc:FD:=Zah 1 4 Zdg
noncomputable def Wi(n:Nat):List (Nat×Nat):=(Xd n).flatMap λi=>(Xd (n-(i+1))).map λj=>(i,i+1+j)
noncomputable def ptD(p:Nat×Nat):Xa:=.tuple [.int p.1,.int p.2]
theorem Zft{n:Nat}{p:Nat×Nat}(h:p∈Wi n):p.1<p.2∧p.2<n:=by
 unfold Wi at h;obtain⟨i,hi,hp⟩:=List.mem_flatMap.mp h;obtain⟨j,hj,rfl⟩:=XD.mp hp;have:=Xx.mp hi;have:=Xx.mp hj;dsimp only;omega
theorem Zjn{n i j:Nat}(h:i<j)(hj:j<n):(i,j)∈Wi n:=by
 unfold Wi;exact List.mem_flatMap.mpr ⟨i,Xx.mpr (by omega),XD.mpr ⟨j-(i+1),Xx.mpr (by omega),by congr 1;omega⟩⟩
noncomputable def Zj4(n i:Nat):List (Nat×Nat):=(Xd i).flatMap λi=>(Xd (n-(i+1))).map λj=>(i,i+1+j)
theorem Zic(n:Nat):∀i,(Zj4 n i).length≤i*n
 | 0=>by simp[Zj4]
 | i+1=>by
  have:=Zic n i;unfold Zj4 at this⊢;rw[V8,List.flatMap_append,Qw];simp only[List.flatMap_cons,List.flatMap_nil,QW,Xc,Xj];have e:(i+1)*n=i*n+n:=by rw[Nat.succ_mul]
  omega
theorem Zqa(n i:Nat):Zj4 n (i+1)=Zj4 n i++(Xd (n-(i+1))).map λj=>(i,i+1+j):=by
 unfold Zj4;rw[V8,List.flatMap_append];simp
theorem Zik(n:Nat)(hn:n≤1000):Told Wc [.int n] (.list ((Wi n).map ptD)):=by
 refine Z0 rfl<|Z9 Zdz<|Zgo (ds:=Zdh 0 n) (λi δ=>∃z1 z2,δ=[YB (.fz (.int n)),YB (.nd (((Zj4 n i).map ptD).map OT.fz)),z1,z2]) (Zm2 (Zb Za Zg) (by omega)) ⟨_,_,rfl⟩ (λi d δ hd h=>?_) λδ' h=>?_
 ·obtain⟨z1,z2,rfl⟩:=h
  obtain⟨hi,rfl⟩:=Zfd hd;rw[BZ];have ln:=Zic n i;have l2:i*n≤999*1000:=Nat.mul_le_mul (by omega) hn;refine Zo1 (ds:=Zdh ((i+1:Nat):Int) (n-(i+1))) (λj δ=>∃z,δ=[YB (.fz (.int n)),YB (.nd (((Zj4 n i++(Xd j).map λj=>(i,i+1+j)).map ptD).map OT.fz)),YB (.fz (.int i)),z]) rfl (Zx5 (m:=i+1) (Zb (EvV.cast (Zar Za Z4) rfl) (Zb Za Zg)) (by omega) (by omega)) ⟨z2,by rw[List.range_zero,List.map_nil,QW];rfl⟩ (λj d δ hd h=>?_) λδ' h=>?_
  ·obtain⟨z,rfl⟩:=h
   obtain⟨hj,rfl⟩:=Zfd hd;refine⟨_,_,rfl,.inl (Zdj (Zap (Zb Za (Zb Za Zg)) (show 2≤1000 by decide)) rfl (by rw[Xc,Xc,Qw,Xc,Xj];omega)),YB (.fz (.int (((i+1:Nat):Int)+j))),?_⟩;rw[V8];simp only[XM,Bm];rfl
  ·obtain⟨z,rfl⟩:=h
   rw[Zcf,←Zqa];exact⟨_,_,rfl⟩
 ·obtain⟨z1,z2,rfl⟩:=h
  rw[Zcf];exact Z31 rfl (by rw[OT.data_nd,OT.map_fz];rfl)
end My
namespace L2
open PySem PySem.Spec PyProof.Rows
variable {G:Xb}
noncomputable def Sg(z:Str)(t:Tok)(it:YG)(i:Nat)(h:YH):Prop:=h.IsStrIter it "str_ascii_iterator" z t i∨h.IsStrIter it "str_iterator" z t i
section
variable {P:Qe}{w:Qz}{A:Qs}{E:Xf->Xg->Prop}{s:Xg}
structure Ap(z TI TO i1 i2:YG):Prop where
 a1:TI≠z
 a2:TO≠z
 a3:i1≠z
 a4:i2≠z
 a5:i1≠TO
 a6:i2≠TO
 a7:i1≠i2
 a8:TI≠TO
 a9:TI≠i1
 a10:TI≠i2
noncomputable abbrev yT1(h:YH)(x:Str)(t:Tok):YH:=h.push { cls:=.type (strIterType x),data:=.fields #[.str x t,.int 0 0] }
noncomputable abbrev yT2(h:YH)(x y:Str)(t u:Tok):YH:=yT1 (yT1 h x t) y u
noncomputable abbrev yT3(h:YH)(x y:Str)(t u:Tok):YH:=(yT2 h x y t u).push { cls:=.type "tuple",data:=.seq #[.ref h.objs.size,.ref (yT1 h x t).objs.size] }
noncomputable abbrev yT4(h:YH)(x y:Str)(t u:Tok):YH:=(yT3 h x y t u).push { cls:=.type "tuple",data:=.seq #[.none,.none] }
noncomputable abbrev yT5(h:YH)(x y:Str)(t u:Tok):YH:=(yT4 h x y t u).push { cls:=.type "zip",data:=.fields #[.none,.bool YF,.bool YF,.ref (yT2 h x y t u).objs.size,.ref (yT3 h x y t u).objs.size] }
theorem Sg.at{h:YH}{x:Str}{t:Tok}{it:YG}(e:h.get? it=YB { cls:=.type (strIterType x),data:=.fields #[.str x t,.int 0 0] }):Sg x t it 0 h:=by
 unfold strIterType at e;split at e
 ·exact .inl ⟨_,e,rfl,rfl⟩
 ·exact .inr ⟨_,e,rfl,rfl⟩
end
section
variable {X:Cx}{io:List Nat}{p c:Bool}{a b:YJ}{mr:MAt}{ra:FA}
end
end L2
namespace L2
open PySem PySem.Spec PyProof.Rows PySem.W
theorem Zfk{α β:Type}{lt:Nat->Nat->Bool}{f:α->KasT β}(t:KasT α):kEv lt (t.bind f)=kEv lt (f (kEv lt t)):=by
 induction t with
 | ret a=>rfl
 | ask i j k ih=>exact ih _
structure Tot(lt:Nat->Nat->Bool)(n:Nat):Prop where
 tr:∀i j k,i<n->j<n->k<n->lt i j=YD->lt j k=YD->lt i k=YD
 tot:∀i j,i<n->j<n->i≠j->lt i j=YF->lt j i=YD
 asy:∀i j,i<n->j<n->lt i j=YD->lt j i=YF
section
variable {lt:Nat->Nat->Bool}{n:Nat}
noncomputable abbrev gD(p:Array Nat)(i:Nat):Nat:=p.getD i 0
theorem kP.size{p:Array Nat}(h:kP n p):p.size=n:=by rw[←V4,List.Perm.length_eq h,Xj]
theorem Zoe{p:Array Nat}{i:Nat}(h:i<p.size):p[i]? =YB (gD p i):=by rw[Array.getElem?_eq_getElem h];simp[gD,Array.getD,h]
theorem Zw7{p q:Array Nat}{i j:Nat}(h:p[i]? =q[j]?):gD p i=gD q j:=by
 show p.getD i 0=q.getD j 0;rw[Array.getD_eq_getD_getElem?,Array.getD_eq_getD_getElem?,h]
theorem kP.blw{p:Array Nat}(h:kP n p){i:Nat}(hi:i<n):gD p i<n:=h.at (Nat.lt_of_le_of_lt (QZ _) hi) i
theorem kP.ne{p:Array Nat}(h:kP n p){i j:Nat}(hi:i<j)(hj:j<n):gD p i≠gD p j:=λe=>by
 have nd:p.toList.Nodup:=(List.Perm.nodup_iff h).mpr List.nodup_range;have sz:=h.size;have a:=Zoe (p:=p) (i:=i) (by omega);have b:=Zoe (p:=p) (i:=j) (by omega);rw[←JH]at a b;obtain⟨a1,a2⟩:=Xw.mp a;obtain⟨b1,b2⟩:=Xw.mp b;exact List.pairwise_iff_getElem.mp nd i j a1 b1 hi (by rw[a2,b2,e])
noncomputable def Ri(lt:Nat->Nat->Bool)(p:Array Nat)(m:Nat):Prop:=∀i j,i<j->j<m->lt (gD p i) (gD p j)=YD
noncomputable def Fa(lt:Nat->Nat->Bool)(p:Array Nat)(m:Nat):Prop:=∀i j,i<j->j<m->lt (gD p j) (gD p i)=YD
variable (T:Tot lt n)
include T
theorem Zzf{p:Array Nat}(h:kP n p)(f:Nat):∀m,1≤m->m+f≤n->Ri lt p m->Ri lt p (kEv lt (kas_asc p f m))∧m≤kEv lt (kas_asc p f m)∧kEv lt (kas_asc p f m)≤m+f∧(kEv lt (kas_asc p f m)<m+f->lt (gD p (kEv lt (kas_asc p f m))) (gD p (kEv lt (kas_asc p f m)-1))=YD):=by
 induction f with
 | zero=>exact λm _ _ r=>⟨r,X6 _,X6 _,λz=>YX z (Bj _)⟩
 | succ f ih=>
  intro m h1 hn r;show _∧_;rw[kas_asc,kEv];cases c:lt (p.getD m 0) (p.getD (m-1) 0)with
  | true=>
   rw[YL rfl,kEv];exact⟨r,X6 _,V1 _ _,λ_=>c⟩
  | false=>
   rw[YM XC];have up:lt (gD p (m-1)) (gD p m)=YD:=T.tot _ _ (h.blw (by omega)) (h.blw (by omega)) (h.ne (by omega) (by omega)).symm c;have r2:Ri lt p (m+1):=λi j hij hj=>by
    rcases V0 j m with q|q
    ·exact r i j hij q
    ·have:j=m:=by omega
     subst this;rcases V0 i (j-1)with q2|q2
     ·exact T.tr _ _ _ (h.blw (by omega)) (h.blw (by omega)) (h.blw (by omega)) (r i (j-1) q2 (by omega)) up
     ·have:i=j-1:=by omega
      subst this;exact up
   obtain⟨a,b,c,d⟩:=ih (m+1) (by omega) (by omega) r2;exact⟨a,by omega,by omega,λz=>d (by omega)⟩
theorem Z2b{p:Array Nat}(h:kP n p)(f:Nat):∀m,1≤m->m+f≤n->Fa lt p m->∃m',kEv lt (kas_desc f p m 0)=(p,m',0)∧Fa lt p m'∧m≤m'∧m'≤m+f:=by
 induction f with
 | zero=>exact λm _ _ r=>⟨m,rfl,r,X6 _,X6 _⟩
 | succ f ih=>
  intro m h1 hn r;rw[kas_desc,kEv];cases c:lt (p.getD m 0) (p.getD (m-1) 0)with
  | true=>
   rw[YL rfl,YM (Bj _)];have r2:Fa lt p (m+1):=λi j hij hj=>by
    rcases V0 j m with q|q
    ·exact r i j hij q
    ·have:j=m:=by omega
     subst this;rcases V0 i (j-1)with q2|q2
     ·exact T.tr _ _ _ (h.blw (by omega)) (h.blw (by omega)) (h.blw (by omega)) c (r i (j-1) q2 (by omega))
     ·have:i=j-1:=by omega
      subst this;exact c
   obtain⟨m',e,a,b,d⟩:=ih (m+1) (by omega) (by omega) r2;exact⟨m',e,a,by omega,by omega⟩
  | false=>
   rw[YM XC,kEv];have up:lt (p.getD (m-1) 0) (p.getD m 0)=YD:=T.tot _ _ (h.blw (by omega)) (h.blw (by omega)) (h.ne (by omega) (by omega)).symm c;rw[up,YL rfl,kEv];exact⟨m,rfl,r,X6 _,V1 _ _⟩
theorem Zw8{p:Array Nat}(h:kP n p)(h0:0<n):∃m p',kEv lt (kas_count n p)=(m,p')∧kP n p'∧Ri lt p' m∧1≤m∧m≤n:=by
 rw[kas_count,Zfk];obtain⟨a,b,c,d⟩:=Zzf T h (n-1) 1 (X6 _) (by omega) λi j _ _=>by omega
 generalize kEv lt (kas_asc p (n-1) 1)=m at a b c d
 by_cases e:m=n
 ·rw[YL (by rw[e];exact beq_self_eq_true _),kEv]
  exact⟨m,p,rfl,h,a,b,by omega⟩
 rw[YM (λz=>e (YZ.mp z))]
 by_cases m1:m>1
 ·rw[YL m1,kEv,a 0 (m-1) (by omega) (by omega),YL rfl,kEv]
  exact⟨m,p,rfl,h,a,b,by omega⟩
 rw[YM m1];have em:m=1:=by omega
 subst em;have lt1:=d (by omega);rw[kas_descPart,Zfk];obtain⟨m',e2,f2,b2,d2⟩:=Z2b T h (n-(1+1)) (1+1) (by omega) (by omega) λi j hij hj=>by
  have:i=0:=by omega
  have:j=1:=by omega
  subst i j;exact lt1
 rw[e2,YM (Bj _),kas_tail3,Zfk,kEv];have kr:kP n (kas_rev p 0 m'):=h.rev _ _;have rr:Ri lt (kas_rev p 0 m') m':=λi j hij hj=>by
  have ge:∀k,k<m'->gD (kas_rev p 0 m') k=gD p (m'-1-k):=λk hk=>Zw7 (by
   have:=getElem?_mirror_all (xs:=p) (i:=0) (j:=m') (by rw[h.size];omega) k;rw[YL ⟨QZ _,hk⟩,VR]at this;exact this)
  rw[ge i (by omega),ge j hj];exact f2 _ _ (by omega) (by omega)
 obtain⟨a,b,c,_⟩:=Zzf T kr (n-m') m' (by omega) (by omega) rr;have n2:2≤n:=by omega
 have:m'≤n:=by omega
 refine⟨_,_,rfl,kr,a,?_,?_⟩
 ·exact Qt (by omega) b
 ·exact Qt c (by omega)
theorem Zym{p:Array Nat}(h:kP n p){k:Nat}(hk:k<n)(f:Nat):∀l r,l≤r->r≤k->r-l≤f->(∀i,i<l->lt (gD p i) (gD p k)=YD)->(∀i,r≤i->i<k->lt (gD p k) (gD p i)=YD)->Ri lt p k ->
  kEv lt (kas_place p k f l r)≤k∧(∀i,i<kEv lt (kas_place p k f l r)->lt (gD p i) (gD p k)=YD)∧∀i,kEv lt (kas_place p k f l r)≤i->i<k->lt (gD p k) (gD p i)=YD:=by
 induction f with
 | zero=>
  intro l r lr rk z a b R;have:l=r:=by omega
  subst this;exact⟨rk,a,b⟩
 | succ f ih=>
  intro l r lr rk z a b R;rw[kas_place]
  by_cases c:l≥r
  ·rw[YL c,kEv]
   exact⟨by omega,a,λi x y=>b i (by omega) y⟩
  rw[YM c,kEv];have hm:(l+r)/2<k:=by omega
  cases q:lt (p.getD k 0) (p.getD ((l+r)/2) 0)with
  | true=>
   rw[YL rfl];refine ih _ _ (by omega) (by omega) (by omega) a (λi x y=>?_) R
   by_cases e:i=(l+r)/2
   ·subst e;exact q
   ·exact T.tr _ _ _ (h.blw hk) (h.blw (by omega)) (h.blw (by omega)) q (R _ _ (by omega) y)
  | false=>
   rw[YM XC];have up:lt (gD p ((l+r)/2)) (gD p k)=YD:=T.tot _ _ (h.blw hk) (h.blw (by omega)) (h.ne hm hk).symm q;refine ih _ _ (by omega) (by omega) (by omega) (λi x=>?_) b R
   by_cases e:i=(l+r)/2
   ·subst e;exact up
   ·exact T.tr _ _ _ (h.blw (by omega)) (h.blw (by omega)) (h.blw hk) (R _ _ (by omega) hm) up
theorem Z94(f:Nat):∀{p:Array Nat} (h:kP n p) (k:Nat),k+f≤n->Ri lt p k->Ri lt (kEv lt (kas_bin f p k)) (k+f):=by
 induction f with
 | zero=>exact λh k _ r=>r
 | succ f ih=>
  intro p h k hn r;rw[kas_bin,Zfk];obtain⟨a,b,c⟩:=Zym T h (k:=k) (by omega) k 0 k (QZ _) (X6 _) (by omega) (λi z=>YX z (Vp _)) (λi x y=>YX y (by omega)) r;generalize kEv lt (kas_place p k k 0 k)=l at a b c;have ge:∀j,gD (bubble p k (k-l)) j=if j=l then gD p k else if l<j∧j≤k then gD p (j-1)else gD p j:=λj=>by
   have e:=getElem?_bubble (xs:=p) (src:=k) (by rw[h.size];omega) (k-l) (by omega) j;have e0:k-(k-l)=l:=by omega
   rw[e0]at e
   by_cases c1:j=l
   ·rw[YL c1]at e⊢
    exact Zw7 e
   ·rw[YM c1]at e⊢
    by_cases c2:l<j∧j≤k
    ·rw[YL c2]at e⊢
     exact Zw7 e
    ·rw[YM c2]at e⊢
     exact Zw7 e
  have:=ih (h.bub k (k-l)) (k+1) (by omega) λi j hij hj=>?_
  ·rw[show k+1+f=k+(f+1) by omega]at this
   exact this
  rw[ge,ge];rcases Nat.lt_trichotomy j l with q|q|q
  ·rw[YM (by omega),YM (by omega),YM (by omega),YM (by omega)]
   exact r i j hij (by omega)
  ·rw[YM (by omega),YM (by omega),YL q]
   exact b i (by omega)
  ·rw[YM (show¬j=l by omega),YL (show l<j∧j≤k by omega)]
   rcases Nat.lt_trichotomy i l with q2|q2|q2
   ·rw[YM (by omega),YM (by omega)]
    exact r i (j-1) (by omega) (by omega)
   ·rw[YL q2]
    exact c (j-1) (by omega) (by omega)
   ·rw[YM (by omega),YL (by omega)]
    exact r (i-1) (j-1) (by omega) (by omega)
theorem Z4l(h0:0<n):Ri lt (kEv lt (kas_sort n)) n:=by
 rw[kas_sort,Zfk];obtain⟨m,p,e,kp,r,l1,l2⟩:=Zw8 T (p:=Bk (Xd n)) (List.Perm.refl _) h0;rw[e]
 by_cases c:m<n
 ·rw[YL c]
  have em:max m 1=m:=by omega
  rw[em];have:=Z94 T (n-m) kp m (by omega) r;rw[show m+(n-m)=n by omega]at this;exact this
 ·rw[YM c,kEv]
  have:m=n:=by omega
  rw[this]at r;exact r
theorem Z02(h0:0<n):(Zv1 lt n).Pairwise λi j=>lt i j=YD:=by
 have h:kP n (kEv lt (kas_sort n)):=(Zht h0).ev (P:=kP n);have r:=Z4l T h0;refine List.pairwise_iff_getElem.mpr λi j hi hj hij=>?_;have sz:=h.size;rw[←V4]at sz;have l2:(Zv1 lt n).length=n:=sz;have ge:∀k (hk:k<(Zv1 lt n).length),(Zv1 lt n)[k]=gD (kEv lt (kas_sort n)) k:=λk hk=>by
  have:=Zoe (p:=kEv lt (kas_sort n)) (i:=k) (by rw[h.size];omega);rw[←JH]at this;exact(Xw.mp this).2
 rw[ge,ge];exact r i j hij (by omega)
end
theorem Zro{α β:Type}{d:α}{lt:Nat->Nat->Bool}{vs:List α}{R:α->α->Prop}(T:Tot lt vs.length)(hR:∀i j,i<vs.length->j<vs.length->lt i j=YD->R (vs.getD i d) (vs.getD j d)):(sLay d lt vs).Pairwise R:=by
 unfold sLay;split
 ·rename_i c
  match vs,c with
  | [],_=>exact .nil
  | [a],_=>exact JL _ _
 ·rename_i c
  have pm:=Zfi (lt:=lt) (n:=vs.length) (by omega);have up:=Z02 T (by omega);have h:=List.Pairwise.imp_of_mem (fun{i j} hi hj e=>hR i j (Xx.mp (pm.mem_iff.mp hi)) (Xx.mp (pm.mem_iff.mp hj)) e) up;exact VF.mpr h
end L2
namespace L2
open PySem PySem.Spec PyProof.Rows PySem.W
structure TmS where
 p:Array Nat
 q:Array (Nat×Nat×Nat)
 g:Nat
noncomputable def TM(α:Type):Type:=TmS->KasT (Option (α×TmS))
noncomputable def TM.nxt{α β:Type}(f:α->TM β):Option (α×TmS)->KasT (Option (β×TmS))
 | none=>.ret YC
 | some r=>f r.1 r.2
noncomputable instance:Monad TM where
 pure a:=λt=>.ret (YB (a,t))
 bind m f:=λt=>(m t).bind (TM.nxt f)
noncomputable def Zub{α:Type}:TM α:=λ_=>.ret YC
noncomputable def Z5m(i j:Nat):TM (Option Bool):=λt=>.ask i j λb=>.ret (YB (YB b,t))
noncomputable def Yfk(l:List Nat):Nat->Option Nat:=List.rec (motive:=λ_=>Nat->Option Nat) (λ_=>YC) (λx _ ih i=>Nat.rec (motive:=λ_=>Option Nat) (YB x) (λj _=>ih j) i) l
theorem Zrx:∀(l:List Nat) (i:Nat),Yfk l i=l[i]?
 | [],_=>rfl
 | _::_,0=>rfl
 | x::l,i+1=>(Zrx l i).trans (List.getElem?_cons_succ ..).symm
noncomputable def Zgu(a:Array Nat)(i:Nat):TM Nat:=match Yfk a.toList i with|some x=>pure x|none=>Zub
noncomputable def fcN{β:Type}(n:Nat)(k:Nat->β):β:=Nat.rec (motive:=λ_=>β) (k 0) (λm _=>k (m+1)) n
theorem Zmo{β:Type}(n:Nat)(k:Nat->β):fcN n k=k n:=by cases n<;>rfl
noncomputable def fcL{β:Type}(l:List Nat):(List Nat->β)->β:=List.rec (motive:=λ_=>(List Nat->β)->β) (λk=>k []) (λx _ ih k=>fcN x λy=>ih λm=>k (y::m)) l
theorem Z0e{β:Type}(l:List Nat)(k:List Nat->β):fcL l k=k l:=by
 induction l generalizing k with
 | nil=>rfl
 | cons x l ih=>
  show fcN x (λy=>fcL l λm=>k (y::m))=_;rw[Zmo];exact ih _
noncomputable def fcQ{β:Type}(l:List (Nat×Nat×Nat)):(List (Nat×Nat×Nat)->β)->β:=List.rec (motive:=λ_=>(List (Nat×Nat×Nat)->β)->β) (λk=>k []) (λx _ ih k=>fcN x.1 λa=>fcN x.2.1 λb=>fcN x.2.2 λc=>ih λm=>k ((a,b,c)::m)) l
theorem Z8v{β:Type}(l:List (Nat×Nat×Nat))(k:List (Nat×Nat×Nat)->β):fcQ l k=k l:=by
 induction l generalizing k with
 | nil=>rfl
 | cons x l ih=>
  show fcN x.1 (λa=>fcN x.2.1 λb=>fcN x.2.2 λc=>fcQ l λm=>k ((a,b,c)::m))=_;rw[Zmo,Zmo,Zmo];exact ih _
noncomputable def fcT{β:Type}(t:TmS)(k:TmS->β):β:=fcL t.p.toList λp=>fcQ t.q.toList λq=>fcN t.g λg=>k ⟨⟨p⟩,⟨q⟩,g⟩
theorem Zpo{β:Type}(t:TmS)(k:TmS->β):fcT t k=k t:=by
 unfold fcT;rw[Z0e,Z8v,Zmo]
noncomputable def Zbv:TM TmS:=λt=>.ret (YB (t,t))
noncomputable def Zgm(f:TmS->TmS):TM PUnit:=λt=>fcT (f t) λt=>.ret (YB (⟨⟩,t))
noncomputable def Zed{β:Type}:List Nat->β->(Nat->β->TM (ForInStep β))->TM β
 | [],b,_=>pure b
 | x::l,b,f=>do
  match←f x b with
  | .done b=>pure b
  | .yield b=>Zed l b f
noncomputable def stM{α β:Type}(f:α->β):ForInStep α->ForInStep β
 | .done a=>.done (f a)
 | .yield a=>.yield (f a)
section
variable {prog:Qe}{w:Qz}{A:Qs}{E:Xf->Xg->Prop}{κ:Ve}{it:Array Ud}
noncomputable def toS(κ:Ve)(it:Array Ud)(t:TmS):BX:=Va κ (t.p.map (X5 it)) t.q t.g YC
noncomputable def Sim(prog:Qe)(w:Qz)(A:Qs)(E:Xf->Xg->Prop)(κ:Ve)(it:Array Ud){α β:Type}(φ:β->α)(m:StateT BX Sem α)(t:TM β):Prop:=∀(u:TmS) (s:Xg) (Q:α->BX->Xg->Prop),
 (t u).kasWp (kas_cmp prog w A κ it) (λo s'=>∃r,o=YB r∧Q (φ r.1) (toS κ it r.2) s') s->kasC (Ql prog w) A E m Q (toS κ it u) s
variable {α β α' β':Type}
theorem Zd{φ:β->α}{a:α}{b:β}(h:φ b=a):Sim prog w A E κ it φ (pure a) (pure b):=λu s Q h1=>by
 obtain⟨r,e,h2⟩:=h1;cases e;rw[h]at h2;exact kasC_pure h2
theorem Zj{φ:β->α}{ψ:β'->α'}{m:StateT BX Sem α}{t:TM β}{f:α->StateT BX Sem α'}{g:β->TM β'}(h:Sim prog w A E κ it φ m t)(k:∀b,Sim prog w A E κ it ψ (f (φ b)) (g b)):Sim prog w A E κ it ψ (m>>=f) (t>>=g):=λu s Q h1=>by
 have h2:((t u).bind (TM.nxt g)).kasWp (kas_cmp prog w A κ it) (λo s'=>∃r,o=YB r∧Q (ψ r.1) (toS κ it r.2) s') s:=h1;rw[KasT.kasWp_bind]at h2;refine kasC_bind (h u s _ (kas_wp_mono h2 λo s' h3=>?_));cases o with
 | none=>
  obtain⟨r,e,_⟩:=h3;cases e
 | some r=>exact⟨r,rfl,k r.1 r.2 s' Q h3⟩
theorem Zcg:Sim prog w A E κ it (toS κ it) (get:StateT BX Sem BX) Zbv:=λu s Q h1=>by
 obtain⟨r,e,h2⟩:=h1;cases e;exact kasC_get h2
theorem Zd5{f:BX->BX}{g:TmS->TmS}(h:∀t,f (toS κ it t)=toS κ it (g t)):Sim prog w A E κ it _root_.id (modify f:StateT BX Sem PUnit) (Zgm g):=λu s Q h1=>by
 unfold Zgm at h1;rw[Zpo]at h1;obtain⟨r,e,h2⟩:=h1;cases e;refine kasC_modify ?_;rw[h];exact h2
theorem Zhm{φ:β->α}{m:StateT BX Sem α}:Sim prog w A E κ it φ m Zub:=λu s Q h1=>by
 obtain⟨r,e,_⟩:=h1;cases e
theorem W3{a:Array Nat}{i:Nat}:Sim prog w A E κ it (X5 it) (elem' (a.map (X5 it)) i) (Zgu a i):=by
 rw[elem'_eq];unfold Zgu;rw[Array.getElem?_map,Zrx,JH];cases a[i]? with
 | none=>exact Zhm
 | some x=>exact Zd rfl
theorem Zml{i j:Nat}:Sim prog w A E κ it _root_.id (lt' (X5 it i) (X5 it j)) (Z5m i j):=λu s Q h1=>by
 have h2:kas_cmp prog w A κ it i j (λb s'=>∃r,YB (YB b,u)=YB r∧Q (_root_.id r.1) (toS κ it r.2) s') s:=h1;rw[lt'_eq];refine kasC_bind (kasC_get ?_);refine kasC_bind (kasC_lift (wpAny_attempt (BW h2 (λc s' hc=>?_) λ_ _ hF=>hF.elim)));obtain⟨r,e,h3⟩:=hc;cases e;exact kasC_pure h3
theorem Zwd{φ:β->α}{f:Nat->α->StateT BX Sem (ForInStep α)}{g:Nat->β->TM (ForInStep β)}(h:∀x b,Sim prog w A E κ it (stM φ) (f x (φ b)) (g x b))(l:List Nat)(b:β):Sim prog w A E κ it φ (forIn l (φ b) f) (Zed l b g):=by
 induction l generalizing b with
 | nil=>rw[Uo];exact Zd rfl
 | cons x l ih=>
  rw[U5];refine Zj (h x b) λr=>?_;cases r with
  | done b=>exact Zd rfl
  | yield b=>exact ih b
theorem Zud{φ:β->α}{f:Nat->α->StateT BX Sem (ForInStep α)}{g:Nat->β->TM (ForInStep β)}{x y:Nat}{a:α}{b:β}(e:φ b=a)(h:∀x b,Sim prog w A E κ it (stM φ) (f x (φ b)) (g x b)):Sim prog w A E κ it φ (forIn [x:y] a f) (Zed (List.range' x (y-x)) b g):=λu s Q h1=>by
 refine kasC_range ?_;rw[←e];exact Zwd h _ b u s Q h1
theorem Zr{φ:β->α}{c:Prop}[Decidable c]{m n:StateT BX Sem α}{t v:TM β}(h1:Sim prog w A E κ it φ m t)(h2:Sim prog w A E κ it φ n v):Sim prog w A E κ it φ (if c then m else n) (if c then t else v):=by
 split
 ·exact h1
 ·exact h2
end
end L2
namespace L2
open PySem PySem.Spec PyProof.Rows PySem.W
structure Rg where
 a:Nat
 b:Nat
noncomputable instance:ForIn TM Rg Nat where
 forIn r b f:=Zed (List.range' r.a (r.b-r.a)) b f
noncomputable def Ygk:Bool->Ud->Array Ud->Nat->Nat->Nat->StateT BX Sem (Option Nat):=sortPriv%PySem.Builtin.gallop
noncomputable def Zr9(le:Bool)(key:Nat)(arr:Array Nat)(base i:Nat):TM (Option Bool):=do
 let x←Zgu arr (base+i)
 if le then Z5m x key else return(←Z5m key x).map (!·)
noncomputable def Zki(le:Bool)(key:Nat)(arr:Array Nat)(base n hint:Nat):TM (Option Nat):=do
 let mut last:=0
 let mut ofs:=1
 let mut lo:=0
 let mut hi:=0
 let YB right←Zr9 le key arr base hint|return YC
 if right then
  let most:=n-hint
  for _ in Rg.mk 0 n do
   if ofs≥most then break
   let YB more←Zr9 le key arr base (hint+ofs)|return YC
   if !more then break
   last:=ofs
   ofs:=2*ofs+1
  lo:=hint+last+1
  hi:=hint+min ofs most
 else
  let most:=hint+1
  for _ in Rg.mk 0 n do
   if ofs≥most then break
   let YB more←Zr9 le key arr base (hint-ofs)|return YC
   if more then break
   last:=ofs
   ofs:=2*ofs+1
  lo:=hint+1-min ofs most
  hi:=hint-last
 for _ in Rg.mk 0 n do
  if lo≥hi then break
  let m:=lo+(hi-lo)/2
  let YB more←Zr9 le key arr base m|return YC
  if more then lo:=m+1 else hi:=m
 return YB hi
section
variable {prog:Qe}{w:Qz}{A:Qs}{E:Xf->Xg->Prop}{κ:Ve}{it:Array Ud}{α β:Type}
theorem Zcq{φ:β->α}{f:Nat->α->StateT BX Sem (ForInStep α)}{g:Nat->β->TM (ForInStep β)}{x y:Nat}{a:α}{b:β}(e:φ b=a)(h:∀x b,Sim prog w A E κ it (stM φ) (f x (φ b)) (g x b)):Sim prog w A E κ it φ (forIn [x:y] a f) (forIn (Rg.mk x y) b g):=Zud e h
theorem Zii{le:Bool}{key:Nat}{arr:Array Nat}{base n hint:Nat}:Sim prog w A E κ it _root_.id (Ygk le (X5 it key) (arr.map (X5 it)) base n hint) (Zki le key arr base n hint):=by
 have bey:∀i,Sim prog w A E κ it _root_.id (do
   let x←elem' (arr.map (X5 it)) (base+i)
   if le then lt' x (X5 it key)else return(←lt' (X5 it key) x).map (!·)) (Zr9 le key arr base i):=λi=>Zj W3 λx=>Zr Zml (Zj Zml λo=>Zd rfl)
 unfold Zki;refine Zj (bey hint) λo=>?_;cases o with
 | none=>exact Zd rfl
 | some right=>
  refine Zr ?_ ?_
  ·refine Zj (Zcq (φ:=_root_.id) rfl λx b=>?_) λr=>?_
   ·exact Zr (Zd rfl) (Zj (bey _) λo=>by
     cases o with
     | none=>exact Zd rfl
     | some m=>exact Zr (Zd rfl) (Zd rfl))
   ·obtain⟨r1,last,ofs⟩:=r
    cases r1 with
    | some v=>exact Zd rfl
    | none=>
     refine Zj (Zcq (φ:=_root_.id) rfl λx b=>?_) λr=>?_
     ·exact Zr (Zd rfl) (Zj (bey _) λo=>by
       cases o with
       | none=>exact Zd rfl
       | some m=>exact Zr (Zd rfl) (Zd rfl))
     ·obtain⟨r1,lo,hi⟩:=r
      cases r1 with
      | some v=>exact Zd rfl
      | none=>exact Zd rfl
  ·refine Zj (Zcq (φ:=_root_.id) rfl λx b=>?_) λr=>?_
   ·exact Zr (Zd rfl) (Zj (bey _) λo=>by
     cases o with
     | none=>exact Zd rfl
     | some m=>exact Zr (Zd rfl) (Zd rfl))
   ·obtain⟨r1,last,ofs⟩:=r
    cases r1 with
    | some v=>exact Zd rfl
    | none=>
     refine Zj (Zcq (φ:=_root_.id) rfl λx b=>?_) λr=>?_
     ·exact Zr (Zd rfl) (Zj (bey _) λo=>by
       cases o with
       | none=>exact Zd rfl
       | some m=>exact Zr (Zd rfl) (Zd rfl))
     ·obtain⟨r1,lo,hi⟩:=r
      cases r1 with
      | some v=>exact Zd rfl
      | none=>exact Zd rfl
end
end L2
namespace L2
open PySem PySem.Spec PyProof.Rows PySem.W
noncomputable def Yg2:Array Ud->Array Ud->StateT BX Sem (Array Ud):=sortPriv%PySem.Builtin.mergeLo
noncomputable def Yc3:Nat->StateT BX Sem PUnit:=sortPriv%PySem.Builtin.setMinGallop
noncomputable def Zm4(g:Nat):TM PUnit:=Zgm λt=>{ t with g:=g }
noncomputable def Yb6(a b:Array Nat):TM (Array Nat):=do
 let total:=a.size+b.size;let fin (out:Array Nat) (i j:Nat):=out++a.extract i a.size++b.extract j b.size;let lst (out:Array Nat) (i j:Nat):=out++b.extract j b.size++a.extract i a.size
 let mut out:Array Nat:=#[←Zgu b 0]
 let mut i:=0
 let mut j:=1
 if j==b.size then return fin out i j
 if i+1==a.size then return lst out i j
 let mut mg:=(←Zbv).g
 for _ in Rg.mk 0 total do
  let mut na:=0
  let mut nb:=0
  for _ in Rg.mk 0 total do
   let YB c←Z5m (←Zgu b j) (←Zgu a i)|return fin out i j
   if c then
    out:=out.push (←Zgu b j);j:=j+1;nb:=nb+1;na:=0
    if j==b.size then return fin out i j
    if nb≥mg then break
   else
    out:=out.push (←Zgu a i);i:=i+1;na:=na+1;nb:=0
    if i+1==a.size then return lst out i j
    if na≥mg then break
  mg:=mg+1
  for _ in Rg.mk 0 total do
   if mg>1 then mg:=mg-1
   Zm4 mg
   let YB k←Zki YF (←Zgu b j) a i (a.size-i) 0|return fin out i j
   na:=k
   if k>0 then
    out:=out++a.extract i (i+k);i:=i+k
    if i+1==a.size then return lst out i j
    if i==a.size then return fin out i j
   out:=out.push (←Zgu b j);j:=j+1
   if j==b.size then return fin out i j
   let YB k←Zki YD (←Zgu a i) b j (b.size-j) 0|return fin out i j
   nb:=k
   if k>0 then
    out:=out++b.extract j (j+k);j:=j+k
    if j==b.size then return fin out i j
   out:=out.push (←Zgu a i);i:=i+1
   if i+1==a.size then return lst out i j
   if na<7&&nb<7 then break
  mg:=mg+1
  Zm4 mg
 Zub
section
variable {prog:Qe}{w:Qz}{A:Qs}{E:Xf->Xg->Prop}{κ:Ve}{it:Array Ud}{α β γ:Type}
theorem Zdp{φ:β->α}{x:String}{f:PUnit->StateT BX Sem α}{t:TM β}(h:Sim prog w A E κ it φ (f ⟨⟩) t):Sim prog w A E κ it φ ((liftM (rule x):StateT BX Sem PUnit)>>=f) t:=λu s Q h1=>kasC_bind (kasC_lift (wpAny_rule (h u s Q h1)))
theorem Js{φ:β->α}{c d:Prop}[Decidable c][Decidable d]{m n:StateT BX Sem α}{t v:TM β}(e:c↔d)(h1:Sim prog w A E κ it φ m t)(h2:Sim prog w A E κ it φ n v):Sim prog w A E κ it φ (if c then m else n) (if d then t else v):=by
 by_cases q:d
 ·rw[YL q,YL (e.mpr q)];exact h1
 ·rw[YM q,YM λz=>q (e.mp z)];exact h2
theorem Zgc{φ:β->α}{f:Nat->α->StateT BX Sem (ForInStep α)}{g:Nat->β->TM (ForInStep β)}{x y y':Nat}{a:α}{b:β}(ey:y'=y)(e:φ b=a)(h:∀x b,Sim prog w A E κ it (stM φ) (f x (φ b)) (g x b)):Sim prog w A E κ it φ (forIn [x:y'] a f) (forIn (Rg.mk x y) b g):=ey▸Zud e h
theorem Zor{le:Bool}{key:Nat}{arr:Array Nat}{base n n' hint:Nat}(e:n'=n):Sim prog w A E κ it _root_.id (Ygk le (X5 it key) (arr.map (X5 it)) base n' hint) (Zki le key arr base n hint):=e▸Zii
noncomputable def mpS(f:Nat->Ud)(b:Option (Array Nat)×Array Nat×γ):Option (Array Ud)×Array Ud×γ:=(b.1.map (Array.map f),b.2.1.map f,b.2.2)
theorem Zhh{g:Nat}:Sim prog w A E κ it _root_.id (Yc3 g) (Zm4 g):=Zd5 λt=>rfl
theorem Yx{φ:β->α}{m:StateT BX Sem (Option γ)}{t:TM (Option γ)}{f:Option γ->StateT BX Sem α}{g:Option γ->TM β}(h:Sim prog w A E κ it _root_.id m t)(k0:Sim prog w A E κ it φ (f YC) (g YC))(k:∀c,Sim prog w A E κ it φ (f (YB c)) (g (YB c))):Sim prog w A E κ it φ (m>>=f) (t>>=g):=Zj h λo=>by
 cases o with
 | none=>exact k0
 | some c=>exact k c
theorem Z9m{a b:Array Nat}:Sim prog w A E κ it (Array.map (X5 it)) (Yg2 (a.map (X5 it)) (b.map (X5 it))) (Yb6 a b):=by
 have sz:∀(a:Array Nat) (k:Nat),(k==(a.map (X5 it)).size)=YD↔(k==a.size)=YD:=λa k=>by rw[Qh]
 have tot:(a.map (X5 it)).size+(b.map (X5 it)).size=a.size+b.size:=by rw[Qh,Qh]
 have m1:∀x,Array.map (X5 it) #[x]=#[X5 it x]:=λx=>by simp
 unfold Yb6;refine Zdp (Zj W3 λx0=>?_);refine Js (sz _ _) (Zd (by simp only[X7,XR,Qh,m1])) (Js (sz _ _) (Zd (by simp only[X7,XR,Qh,m1])) (Zj Zcg λt0=>?_));refine Zj (Zgc (φ:=mpS (X5 it)) tot (by simp only[mpS,m1];rfl) λx b=>?_) λr=>?_
 ·refine Zj (Zgc (φ:=mpS (X5 it)) tot rfl λx b=>?_) λr=>?_
  ·refine Zj W3 λx=>Zj W3 λy=>Yx Zml ?_ λc=>?_
   ·exact Zd (by simp only[stM,mpS,X7,XR,Qh,Qc])
   ·refine Zr (Zj W3 λz=>Js (sz _ _) (Zd ?_) (Zr (Zd ?_) (Zd ?_))) (Zj W3 λz=>Js (sz _ _) (Zd ?_) (Zr (Zd ?_) (Zd ?_)))<;>simp only[stM,mpS,QB,X7,XR,Qh,Qc,Qu]
  ·obtain⟨r1,r2⟩:=r
   cases r1 with
   | some v=>exact Zd rfl
   | none=>
    refine Zdp (Zj (Zgc (φ:=mpS (X5 it)) tot rfl λx b=>?_) λr=>?_)
    ·refine Zr ?_ ?_<;>(
      refine Zj Zhh λ_=>Zj W3 λy=>Yx (Zor (by rw[Qh];rfl)) (Zd (by simp only[stM,mpS,QB,X7,XR,Qh,Qc,Qu])) λk=>?_;refine Zr (Js (sz _ _) (Zd (by simp only[stM,mpS,QB,X7,XR,Qh,Qc,Qu])) (Js (sz _ _) (Zd (by simp only[stM,mpS,QB,X7,XR,Qh,Qc,Qu])) ?_)) ?_<;>(
       refine Zj W3 λz=>Js (sz _ _) (Zd (by simp only[stM,mpS,QB,X7,XR,Qh,Qc,Qu])) (Zj W3 λy2=>Yx (Zor (by rw[Qh];rfl)) (Zd (by simp only[stM,mpS,QB,X7,XR,Qh,Qc,Qu])) λk2=>?_);refine Zr (Js (sz _ _) (Zd (by simp only[stM,mpS,QB,X7,XR,Qh,Qc,Qu])) ?_) ?_<;>(
        refine Zj W3 λz2=>Js (sz _ _) (Zd (by simp only[stM,mpS,QB,X7,XR,Qh,Qc,Qu])) (Zr (Zd (by simp only[stM,mpS,QB,X7,XR,Qh,Qc,Qu])) (Zd (by simp only[stM,mpS,QB,X7,XR,Qh,Qc,Qu]))))))
    ·obtain⟨r1,r2⟩:=r
     cases r1 with
     | some v=>exact Zd rfl
     | none=>exact Zj Zhh λ_=>Zd rfl
 ·obtain⟨r1,r2⟩:=r
  cases r1 with
  | some v=>exact Zd rfl
  | none=>exact Zhm
end
end L2
namespace L2
open PySem PySem.Spec PyProof.Rows PySem.W
noncomputable def Yga:Array Ud->Array Ud->StateT BX Sem (Array Ud):=sortPriv%PySem.Builtin.mergeHi
noncomputable def Ybg(a b:Array Nat):TM (Array Nat):=do
 let total:=a.size+b.size;let fin (out:Array Nat) (i j:Nat):=a.extract 0 i++b.extract 0 j++out.reverse;let fst (out:Array Nat) (i j:Nat):=b.extract 0 j++a.extract 0 i++out.reverse
 let mut i:=a.size-1
 let mut j:=b.size
 let mut out:Array Nat:=#[←Zgu a i]
 if i==0 then return fin out i j
 if j==1 then return fst out i j
 let mut mg:=(←Zbv).g
 for _ in Rg.mk 0 total do
  let mut na:=0
  let mut nb:=0
  for _ in Rg.mk 0 total do
   let YB c←Z5m (←Zgu b (j-1)) (←Zgu a (i-1))|return fin out i j
   if c then
    i:=i-1;out:=out.push (←Zgu a i);na:=na+1;nb:=0
    if i==0 then return fin out i j
    if na≥mg then break
   else
    j:=j-1;out:=out.push (←Zgu b j);nb:=nb+1;na:=0
    if j==1 then return fst out i j
    if nb≥mg then break
  mg:=mg+1
  for _ in Rg.mk 0 total do
   if mg>1 then mg:=mg-1
   Zm4 mg
   let YB x←Zki YF (←Zgu b (j-1)) a 0 i (i-1)|return fin out i j
   let k:=i-x
   na:=k
   if k>0 then
    out:=out++(a.extract x i).reverse;i:=x
    if i==0 then return fin out i j
   j:=j-1;out:=out.push (←Zgu b j)
   if j==1 then return fst out i j
   let YB x←Zki YD (←Zgu a (i-1)) b 0 j (j-1)|return fin out i j
   let k:=j-x
   nb:=k
   if k>0 then
    out:=out++(b.extract x j).reverse;j:=x
    if j==1 then return fst out i j
    if j==0 then return fin out i j
   i:=i-1;out:=out.push (←Zgu a i)
   if i==0 then return fin out i j
   if na<7&&nb<7 then break
  mg:=mg+1
  Zm4 mg
 Zub
section
variable {prog:Qe}{w:Qz}{A:Qs}{E:Xf->Xg->Prop}{κ:Ve}{it:Array Ud}{α β γ:Type}
noncomputable def mpH(f:Nat->Ud)(b:Option (Array Nat)×Nat×Nat×Array Nat×γ):Option (Array Ud)×Nat×Nat×Array Ud×γ:=(b.1.map (Array.map f),b.2.1,b.2.2.1,b.2.2.2.1.map f,b.2.2.2.2)
theorem Z38{a:Array Nat}{i j:Nat}(e:j=i):Sim prog w A E κ it (X5 it) (elem' (a.map (X5 it)) j) (Zgu a i):=e▸W3
theorem Ybb{a b:Array Nat}:Sim prog w A E κ it (Array.map (X5 it)) (Yga (a.map (X5 it)) (b.map (X5 it))) (Ybg a b):=by
 have tot:(a.map (X5 it)).size+(b.map (X5 it)).size=a.size+b.size:=by rw[Qh,Qh]
 have m1:∀x,Array.map (X5 it) #[x]=#[X5 it x]:=λx=>by simp
 unfold Ybg;refine Zdp (Zj (Z38 (by rw[Qh])) λx0=>?_);refine Js (by rw[Qh]) (Zd (by simp only[X7,XR,QX,Qh,m1])) (Js (by rw[Qh]) (Zd (by simp only[X7,XR,QX,Qh,m1])) (Zj Zcg λt0=>?_));refine Zj (Zgc (φ:=mpH (X5 it)) tot (by simp only[mpH,m1,Qh];rfl) λx b=>?_) λr=>?_
 ·refine Zj (Zgc (φ:=mpH (X5 it)) tot rfl λx b=>?_) λr=>?_
  ·refine Zj W3 λx=>Zj W3 λy=>Yx Zml ?_ λc=>?_
   ·exact Zd (by simp only[stM,mpH,X7,XR,QX,Qc])
   ·refine Zr (Zj W3 λz=>Zr (Zd ?_) (Zr (Zd ?_) (Zd ?_))) (Zj W3 λz=>Zr (Zd ?_) (Zr (Zd ?_) (Zd ?_)))<;>simp only[stM,mpH,QB,X7,XR,QX,Qc,Qu]
  ·obtain⟨r1,r2⟩:=r
   cases r1 with
   | some v=>exact Zd rfl
   | none=>
    refine Zdp (Zj (Zgc (φ:=mpH (X5 it)) tot rfl λx b=>?_) λr=>?_)
    ·refine Zr ?_ ?_<;>(
      refine Zj Zhh λ_=>Zj W3 λy=>Yx Zii (Zd (by simp only[stM,mpH,QB,X7,XR,QX,Qc,Qu])) λk=>?_;refine Zr (Zr (Zd (by simp only[stM,mpH,QB,X7,XR,QX,Qc,Qu])) ?_) ?_<;>(
       refine Zj W3 λz=>Zr (Zd (by simp only[stM,mpH,QB,X7,XR,QX,Qc,Qu])) (Zj W3 λy2=>Yx Zii (Zd (by simp only[stM,mpH,QB,X7,XR,QX,Qc,Qu])) λk2=>?_);refine Zr (Zr (Zd (by simp only[stM,mpH,QB,X7,XR,QX,Qc,Qu])) (Zr (Zd (by simp only[stM,mpH,QB,X7,XR,QX,Qc,Qu])) ?_)) ?_<;>(
        refine Zj W3 λz2=>Zr (Zd (by simp only[stM,mpH,QB,X7,XR,QX,Qc,Qu])) (Zr (Zd (by simp only[stM,mpH,QB,X7,XR,QX,Qc,Qu])) (Zd (by simp only[stM,mpH,QB,X7,XR,QX,Qc,Qu]))))))
    ·obtain⟨r1,r2⟩:=r
     cases r1 with
     | some v=>exact Zd rfl
     | none=>exact Zj Zhh λ_=>Zd rfl
 ·obtain⟨r1,r2⟩:=r
  cases r1 with
  | some v=>exact Zd rfl
  | none=>exact Zhm
end
end L2
namespace L2
open PySem PySem.Spec PyProof.Rows PySem.W
noncomputable def Zol(i j:Nat):TM (Option Bool):=do
 let t←Zbv
 let x←Zgu t.p i
 let y←Zgu t.p j
 Z5m x y
noncomputable def Zsj(i j:Nat):TM PUnit:=Zgm λt=>{ t with p:=kas_rev t.p i j }
noncomputable def mvL(l:List Nat)(i d:Nat):List Nat:=l.take (i-d)++((l.drop i).take 1++((l.drop (i-d)).take d++l.drop (i+1)))
theorem Z22{l:List Nat}{i d:Nat}(hi:i<l.length)(hd:d≤i)(k:Nat):(mvL l i d)[k]? =if k=i-d then l[i]? else if i-d<k∧k≤i then l[k-1]? else l[k]?:=by
 unfold mvL;have l1:(l.take (i-d)).length=i-d:=by rw[Bv];omega
 have l2:((l.drop i).take 1).length=1:=by rw[Bv,Q8];omega
 have l3:((l.drop (i-d)).take d).length=d:=by rw[Bv,Q8];omega
 rw[VM,VM,VM,l1,l2,l3]
 by_cases a:k<i-d
 ·rw[YL a,YM (by omega),YM (by omega),List.getElem?_take,YL a]
 rw[YM a]
 by_cases b:k=i-d
 ·rw[YL (by omega),YL b,List.getElem?_take,YL (by omega),List.getElem?_drop,show i+(k-(i-d))=i by omega]
 rw[YM (by omega),YM b]
 by_cases c:k≤i
 ·rw[YL (by omega),YL (by omega),List.getElem?_take,YL (by omega),List.getElem?_drop,show i-d+(k-(i-d)-1)=k-1 by omega]
 ·rw[YM (by omega),YM (by omega),List.getElem?_drop,show i+1+(k-(i-d)-1-d)=k by omega]
noncomputable def Ybi(p:Array Nat)(i j:Nat):Array Nat:=if(Ut i p.toList.length&&Nat.ble j i)=YD then⟨mvL p.toList i (i-j)⟩else bubble p i (i-j)
theorem Z2a(p:Array Nat)(i j:Nat):Ybi p i j=bubble p i (i-j):=by
 unfold Ybi
 by_cases c:(Ut i p.toList.length&&Nat.ble j i)=YD
 ·rw[YL c]
  rw[Xv]at c;have h1:i<p.size:=QS c.1;have h2:j≤i:=QS c.2;apply Array.ext_getElem?;intro k;rw[getElem?_bubble h1 (i-j) (by omega)];have:=Z22 (l:=p.toList) h1 (show i-j≤i by omega) k;simp only[JH]at this;rw[←this,←JH]
 ·rw[YM c]
noncomputable def Z6p(i j:Nat):TM PUnit:=Zgm λt=>{ t with p:=Ybi t.p i j }
noncomputable def Zsn(lo m:Nat):TM (Option Nat):=do
 let mut n:=1
 for _ in Rg.mk 1 m do
  let YB c←Zol (lo+n) (lo+n-1)|return YC
  if c then break
  n:=n+1
 if n==m then return YB n
 if n>1 then
  let YB c←Zol lo (lo+n-1)|return YC
  if c then return YB n
  Zsj lo (lo+n)
 n:=n+1
 let mut e:=0
 for _ in Rg.mk n m do
  let YB c←Zol (lo+n) (lo+n-1)|return YC
  if c then
   if e>0 then Zsj (lo+n-(e+1)) (lo+n)
   e:=0
  else
   let YB d←Zol (lo+n-1) (lo+n)|return YC
   if d then break
   e:=e+1
  n:=n+1
 if e>0 then Zsj (lo+n-(e+1)) (lo+n)
 Zsj lo (lo+n)
 for _ in Rg.mk n m do
  let YB c←Zol (lo+n) (lo+n-1)|return YC
  if c then break
  n:=n+1
 return YB n
noncomputable def Zr5(lo n ok:Nat):TM Bool:=do
 for k in Rg.mk (max ok 1) n do
  let mut l:=0
  let mut r:=k
  for _ in Rg.mk 0 k do
   if l≥r then break
   let m:=(l+r)/2
   let YB c←Zol (lo+k) (lo+m)|return YF
   if c then r:=m else l:=m+1
  Z6p (lo+k) (lo+l)
 return YD
section
variable {prog:Qe}{w:Qz}{A:Qs}{E:Xf->Xg->Prop}{κ:Ve}{it:Array Ud}{α β γ:Type}
theorem Zf7{i j:Nat}:Sim prog w A E κ it _root_.id (ltAt' i j) (Zol i j):=Zj Zcg λt=>Zj W3 λx=>Zj W3 λy=>Zml
theorem Zk6{i j:Nat}:Sim prog w A E κ it _root_.id (reverseSlice' i j) (Zsj i j):=by
 rw[reverseSlice'_eq];exact Zd5 λt=>by
  show Va κ (mirror (t.p.map (X5 it)) i j ((j-i)/2)) t.q t.g YC=Va κ ((mirror t.p i j ((j-i)/2)).map (X5 it)) t.q t.g YC;rw[show mirror (t.p.map (X5 it)) i j ((j-i)/2)=(mirror t.p i j ((j-i)/2)).map (X5 it)from kas_swaps_map (X5 it) (λk=>i+k) (λk=>j-1-k) _ t.p]
theorem Z3h{i j:Nat}:Sim prog w A E κ it _root_.id (moveDown' i j) (Z6p i j):=by
 rw[moveDown'_eq];exact Zd5 λt=>by
  show Va κ (bubble (t.p.map (X5 it)) i (i-j)) t.q t.g YC=Va κ ((Ybi t.p i j).map (X5 it)) t.q t.g YC;rw[Z2a];rw[show bubble (t.p.map (X5 it)) i (i-j)=(bubble t.p i (i-j)).map (X5 it)from kas_swaps_map (X5 it) (λk=>i-k) (λk=>i-k-1) _ t.p]
theorem Z2p{lo m:Nat}:Sim prog w A E κ it _root_.id (countRun' lo m) (Zsn lo m):=by
 unfold Zsn;refine Zj (Zcq (φ:=_root_.id) rfl λx b=>Yx Zf7 (Zd rfl) λc=>Zr (Zd rfl) (Zd rfl)) λr=>?_;obtain⟨r1,n⟩:=r;cases r1 with
 | some v=>exact Zd rfl
 | none=>
  refine Zr (Zd rfl) (Zr (Yx Zf7 (Zd rfl) λc=>Zr (Zd rfl) (Zj Zk6 λ_=>?_)) ?_)<;>(
   refine Zdp (Zj (Zcq (φ:=_root_.id) rfl λx b=>Yx Zf7 (Zd rfl) λc=>Zr (Zr (Zj Zk6 λ_=>Zd rfl) (Zd rfl)) (Yx Zf7 (Zd rfl) λd=>Zr (Zd rfl) (Zd rfl))) λr=>?_);obtain⟨r1,n,e⟩:=r;cases r1 with
   | some v=>exact Zd rfl
   | none=>
    refine Zr (Zj Zk6 λ_=>?_) ?_<;>(
     refine Zj Zk6 λ_=>Zj (Zcq (φ:=_root_.id) rfl λx b=>Yx Zf7 (Zd rfl) λc=>Zr (Zd rfl) (Zd rfl)) λr=>?_;obtain⟨r1,n⟩:=r;cases r1 with
     | some v=>exact Zd rfl
     | none=>exact Zd rfl))
theorem Z27{lo n ok:Nat}:Sim prog w A E κ it _root_.id (binarySort' lo n ok) (Zr5 lo n ok):=by
 unfold Zr5;refine Zj (Zcq (φ:=_root_.id) rfl λk b=>?_) λr=>?_
 ·refine Zj (Zcq (φ:=_root_.id) rfl λx b=>Zr (Zd rfl) (Yx Zf7 (Zd rfl) λc=>Zr (Zd rfl) (Zd rfl))) λr=>?_
  obtain⟨r1,l,m⟩:=r;cases r1 with
  | some v=>exact Zd rfl
  | none=>exact Zj Z3h λ_=>Zd rfl
 ·obtain⟨r1,r2⟩:=r
  cases r1 with
  | some v=>exact Zd rfl
  | none=>exact Zd rfl
end
end L2
namespace L2
open PySem PySem.Spec PyProof.Rows PySem.W
noncomputable def layA{γ:Type}(k:Nat)(m a:Array γ):Array γ:=m.toList.zipIdx.foldl (λa q=>a.setIfInBounds (k+q.2) q.1) a
noncomputable def Z5g(i:Nat):TM Bool:=do
 let t←Zbv
 let(YB (c,n,u),YB (d,m,_)):=(t.q[i]?,t.q[i+1]?)|Zub
 Zgm λ_=>{ t with q:=(t.q.setIfInBounds i (c,n+m,u)).eraseIdxIfInBounds (i+1) }
 let YB k←Zki YF (←Zgu t.p d) t.p c n 0|return YF
 let(c,n):=(c+k,n-k)
 if n==0 then return YD
 let YB m←Zki YD (←Zgu t.p (c+n-1)) t.p d m (m-1)|return YF
 if m==0 then return YD
 let x:=t.p.extract c d;let y:=t.p.extract d (d+m)
 let z←if n≤m then Yb6 x y else Ybg x y
 Zgm λt=>{ t with p:=layA c z t.p }
 let _←Zbv
 return YD
section
variable {prog:Qe}{w:Qz}{A:Qs}{E:Xf->Xg->Prop}{κ:Ve}{it:Array Ud}{α β γ:Type}
theorem Z1e{a:BX}{t:TmS}(h:toS κ it t=a):Sim prog w A E κ it _root_.id (set a:StateT BX Sem PUnit) (Zgm λ_=>t):=λu s Q h1=>by
 unfold Zgm at h1;rw[Zpo]at h1;obtain⟨r,e,h2⟩:=h1;cases e;unfold kasC;rw[StateT.run_set,←h];exact Qk h2
theorem Z2f{α β:Type}(f:α->β)(xs:Array α)(i:Nat)(v:α):(xs.map f).setIfInBounds i (f v)=(xs.setIfInBounds i v).map f:=by
 apply Array.ext_getElem?;intro k;rw[Array.getElem?_map,Array.getElem?_setIfInBounds,Array.getElem?_setIfInBounds,Qh];split
 ·split<;>rfl
 ·rw[Array.getElem?_map]
theorem Zyq{α β:Type}(f:α->β)(k:Nat)(m a:Array α):layA k (m.map f) (a.map f)=(layA k m a).map f:=by
 unfold layA;rw[Array.toList_map,List.zipIdx_map,List.foldl_map];generalize m.toList.zipIdx=l
 induction l generalizing a with
 | nil=>rfl
 | cons q l ih=>
  rw[Ua,Ua];show List.foldl _ ((a.map f).setIfInBounds (k+q.2) (f q.1)) l=_;rw[Z2f];exact ih _
theorem Z26{a b:Array Nat}{c d:Array Ud}(e:c=a.map (X5 it))(e':d=b.map (X5 it)):Sim prog w A E κ it (Array.map (X5 it)) (Yg2 c d) (Yb6 a b):=e▸e'▸Z9m
theorem Z06{a b:Array Nat}{c d:Array Ud}(e:c=a.map (X5 it))(e':d=b.map (X5 it)):Sim prog w A E κ it (Array.map (X5 it)) (Yga c d) (Ybg a b):=e▸e'▸Ybb
theorem Zy6{i:Nat}:Sim prog w A E κ it _root_.id (mergeAt' i) (Z5g i):=by
 unfold Z5g;refine Zj Zcg λt=>?_;have e1:(Uy (toS κ it t))[i]? =t.q[i]?:=rfl;have e2:(Uy (toS κ it t))[i+1]? =t.q[i+1]?:=rfl;generalize(Uy (toS κ it t))[i]? =o1 at e1⊢;generalize(Uy (toS κ it t))[i+1]? =o2 at e2⊢;subst e1 e2;cases t.q[i]? with
 | none=>exact Zhm
 | some x=>
  cases t.q[i+1]? with
  | none=>exact Zhm
  | some y=>
   obtain⟨c,n,u⟩:=x;obtain⟨d,m,v⟩:=y;refine Zj (Z1e rfl) λ_=>Zj W3 λx=>Yx Zii (Zd rfl) λk=>Zr (Zd rfl) (Zj W3 λy=>Yx Zii (Zd rfl) λm=>Zr (Zd rfl) ?_);have ex:∀i j,(t.p.map (X5 it)).extract i j=(t.p.extract i j).map (X5 it):=λi j=>by rw[XR]
   refine Zr (Zj (Z26 (ex _ _) (ex _ _)) λz=>?_) (Zj (Z06 (ex _ _) (ex _ _)) λz=>?_)<;>(
    refine Zj (Zd5 λt=>?_) λ_=>Zj Zcg λt=>Zd rfl;show Va κ (layA (c+k) (z.map (X5 it)) (t.p.map (X5 it))) t.q t.g YC=Va κ ((layA (c+k) z t.p).map (X5 it)) t.q t.g YC;rw[Zyq])
noncomputable def Zip:TM PUnit:=do
 let sz:=(←Zbv).p.size
 let mr:=minRun' sz sz 0
 let mut lo:=0
 for _ in Rg.mk 0 sz do
  if lo≥sz then break
  let YB f←Zsn lo (sz-lo)|return
  let mut n:=f
  if n<mr then
   let fo:=min (sz-lo) mr
   if !(←Zr5 lo fo n)then return
   n:=fo
  if let YB (c,m,_):=(←Zbv).q.back? then
   let u:=power' sz (2*c+m) (2*c+m+m+n) sz
   for _ in Rg.mk 0 sz do
    let z:=(←Zbv).q
    let YB (_,_,v):=(if z.size>1 then z[z.size-2]? else YC)|break
    if v≤u then break
    if !(←Z5g (z.size-2))then return
   Zgm λt=>{ t with q:=t.q.modify (t.q.size-1) λ(c,m,_)=>(c,m,u) }
  Zgm λt=>{ t with q:=t.q.push (lo,n,0) }
  lo:=lo+n
 for _ in Rg.mk 0 sz do
  let z:=(←Zbv).q
  if z.size≤1 then break
  let k:=z.size-2;let bf:=if k>0 then z[k-1]?.map (·.2.1)else YC
  let k:=if bf.any (·<(z[k+1]?.elim 0 (·.2.1)))then k-1 else k
  if !(←Z5g k)then return
theorem Zw6:Sim prog w A E κ it _root_.id sortRuns' Zip:=by
 rw[sortRuns'_eq];unfold Zip;refine Zj Zcg λt=>?_;have sz:(arrOf (toS κ it t)).size=t.p.size:=Qh ..;generalize(arrOf (toS κ it t)).size=n1 at sz⊢;subst sz;refine Zj (Zcq (φ:=_root_.id) rfl λx b=>?_) λr=>?_
 ·refine Zr (Zd rfl) (Yx Z2p (Zd rfl) λf=>?_)
  refine Zr (Zdp (Zj Z27 λc=>Zr (Zd rfl) ?_)) ?_<;>(
   refine Zj Zcg λt2=>?_;have e1:(Uy (toS κ it t2)).back? =t2.q.back?:=rfl;generalize(Uy (toS κ it t2)).back? =o1 at e1⊢;subst e1;cases t2.q.back? with
   | none=>exact Zj (Zd5 λt=>rfl) λ_=>Zd rfl
   | some y=>
    obtain⟨c,m,v⟩:=y;refine Zj (Zcq (φ:=_root_.id) rfl λx b=>?_) λr=>?_
    ·refine Zj Zcg λt3=>?_
     have e1:Uy (toS κ it t3)=t3.q:=rfl;generalize Uy (toS κ it t3)=z at e1⊢;subst e1;show Sim prog w A E κ it _ (match(if t3.q.size>1 then t3.q[t3.q.size-2]? else YC)with|some (_,_,_)=>_|_=>_) (match(if t3.q.size>1 then t3.q[t3.q.size-2]? else YC)with|some (_,_,_)=>_|_=>_);generalize(if t3.q.size>1 then t3.q[t3.q.size-2]? else YC)=o;cases o with
     | none=>exact Zd rfl
     | some y=>
      obtain⟨_,_,v⟩:=y;exact Zr (Zd rfl) (Zj Zy6 λc=>Zr (Zd rfl) (Zd rfl))
    ·obtain⟨r1,r2⟩:=r
     cases r1 with
     | some v=>exact Zd rfl
     | none=>exact Zj (Zd5 λt=>rfl) λ_=>Zj (Zd5 λt=>rfl) λ_=>Zd rfl)
 ·obtain⟨r1,lo⟩:=r
  cases r1 with
  | some v=>exact Zd rfl
  | none=>
   refine Zj (Zcq (φ:=_root_.id) rfl λx b=>?_) λr=>?_
   ·refine Zj Zcg λt3=>?_
    have e1:Uy (toS κ it t3)=t3.q:=rfl;generalize Uy (toS κ it t3)=z at e1⊢;subst e1;exact Zr (Zd rfl) (Zj Zy6 λc=>Zr (Zd rfl) (Zd rfl))
   ·obtain⟨r1,r2⟩:=r
    cases r1 with
    | some v=>exact Zd rfl
    | none=>exact Zd rfl
end
end L2
namespace L2
open PySem PySem.Spec PyProof.Rows PySem.W
noncomputable def Zkn{α:Type}(lt:Nat->Nat->Bool)(n:Nat):KasT α->Option α
 | .ret a=>YB a
 | .ask i j k=>if(Ut i n&&Ut j n)=YD then Zkn lt n (k (lt i j))else YC
theorem Z4x{α:Type}{lt:Nat->Nat->Bool}{n:Nat}{cmp:Nat->Nat->(Bool->Xg->Prop)->Xg->Prop}{s:Xg}{Q:α->Xg->Prop}(hc:∀i j C,i<n->j<n->C (lt i j) s->cmp i j C s){t:KasT α}{a:α}(h:Zkn lt n t=YB a)(q:Q a s):t.kasWp cmp Q s:=by
 induction t with
 | ret b=>cases h;exact q
 | ask i j k ih=>
  rw[Zkn]at h;split at h
  ·rename_i c
   rw[Xv]at c;exact hc i j _ (QS c.1) (QS c.2) (ih _ h)
  ·cases h
theorem Zqg{α:Type}{lt lt':Nat->Nat->Bool}{n:Nat}(h:∀i<n,∀j<n,lt i j=lt' i j)(t:KasT α):Zkn lt n t=Zkn lt' n t:=by
 induction t with
 | ret b=>rfl
 | ask i j k ih=>
  rw[Zkn,Zkn];split
  ·rename_i c
   rw[Xv]at c;rw[h i (QS c.1) j (QS c.2)];exact ih _
  ·rfl
noncomputable def Zdv(lt:Nat->Nat->Bool)(n:Nat):Option (List Nat):=(Zkn lt n (Zip ⟨(Xd n).toArray,#[],7⟩)).bind λo=>o.map λr=>r.2.p.toList
theorem Zn5{lt lt':Nat->Nat->Bool}{n:Nat}(h:∀i<n,∀j<n,lt i j=lt' i j):Zdv lt n=Zdv lt' n:=by
 unfold Zdv;rw[Zqg h]
noncomputable def tLay{α:Type}(d:α)(l:List Nat)(vs:List α):List α:=l.map λi=>vs.getD i d
section
variable {prog:Qe}{w:Qz}{A:Qs}{E:Xf->Xg->Prop}{s:Xg}
theorem Zqi{κ:Ve}{lt:Nat->Nat->Bool}{h0:YH}{a:YG}{vs:List Xf}{n:Nat}{P:PySem.Fin->Xg->Prop}{l:List Nat}(ho:s.heap.get? a=YB (Q9 "list" vs.toArray n))
  (k0:∀b o,h0.get? b=YB o->s.heap.get? b=YB o) (ha0:h0.get? a=YC) (h2:2≤vs.length) (hz:vs.length≤10000) (hl:Zdv lt vs.length=YB l) (hp:l.length=vs.length)
  (hk:∀s':Xg,(∀b o,h0.get? b=YB o->s'.heap.get? b=YB o)->∀Q:Ve->Xg->Prop,Q κ s'->Qd (Ql prog w) A (keyKind' vs.toArray) Q E s')
  (hc:∀s':Xg,(∀b o,h0.get? b=YB o->s'.heap.get? b=YB o)->∀i j C,i<vs.length->j<vs.length->C (lt i j) s'->kas_ask prog w A κ vs i j C s')
  (h:P (.done (.ret .none)) { s with heap:=sortedHeap s.heap a vs (Bk (tLay QT l vs)) }):Qd (Ql prog w) A (UW.«list.sort» ⟨[.ref a],[]⟩) P E s:=by
 have ha:a<s.heap.objs.size:=XH ho;obtain⟨e1,ho1⟩:∃e1,(s.heap.update a (QK λ_=>(#[]:Array Xf))).get? a=YB (Q9 "list" #[] e1):=⟨_,get?_update_seq ho λ_=>#[]⟩;have ho6:(((s.heap.update a (QK λ_=>(#[]:Array Xf))).push (Q9 "tuple" vs.toArray 0)).push (Q9 "list" #[] 0)).get? a=YB (Q9 "list" #[] e1):=Xo _ (Xo _ ho1);have k6:∀b o,h0.get? b=YB o->(((s.heap.update a (QK λ_=>(#[]:Array Xf))).push (Q9 "tuple" vs.toArray 0)).push (Q9 "list" #[] 0)).get? b=YB o:=λb o e=>by
  refine Xo _ (Xo _ ?_);rw[U8 _ _ _ _ (λq=>by rw[q,ha0]at e;cases e)];exact k0 b o e
 rw[list_sort_plain];refine Xi (listItems_at ho rfl ?_);refine Xi (listUpdate_at ho rfl ?_ (by rw[XF,X8];omega) (QZ _));refine Xi (seqEpoch_at ho1 rfl ?_);refine Xi (wpAny_newTuple ?_ (by show vs.length≤_;rw[X8];omega));refine Xi (wpAny_newList ?_ (QZ _));refine Uj ?_;show Qd (Ql prog w) A _ P E { s with heap:=((s.heap.update a (QK λ_=>(#[]:Array Xf))).push (Q9 "tuple" vs.toArray 0)).push (Q9 "list" #[] 0) };dsimp only;have hs:vs.toArray.size=vs.length:=XF ..;have n2:¬vs.toArray.size<2:=by omega
 rw[YM n2,YM n2];refine Xi (hk _ k6 _ ?_);have est:Va κ (vs.toArray.zip vs.toArray) #[] 7 YC=toS κ (Um vs) ⟨(Xd vs.length).toArray,#[],7⟩:=by
  have e:=kas_range (Um vs);rw[pairsOf_size]at e;show Va κ (Um vs) #[] 7 YC=Va κ ((Bk (Xd vs.length)).map (X5 (Um vs))) #[] 7 YC;rw[e]
 obtain⟨o,eo,hl⟩:=Option.bind_eq_some_iff.mp hl;obtain⟨r0,er,hq⟩:=Bc.mp hl;subst er;have run:=Zw6 (prog:=prog) (w:=w) (A:=A) (E:=E) (κ:=κ) (it:=Um vs) ⟨(Xd vs.length).toArray,#[],7⟩ { s with heap:=((s.heap.update a (QK λ_=>(#[]:Array Xf))).push (Q9 "tuple" vs.toArray 0)).push (Q9 "list" #[] 0) }
  (λ_ st' s'=>arrOf st'=r0.2.p.map (X5 (Um vs))∧failedOf st'=YC∧s'={ s with heap:=((s.heap.update a (QK λ_=>(#[]:Array Xf))).push (Q9 "tuple" vs.toArray 0)).push (Q9 "list" #[] 0) })
  (Z4x (λi j C hi hj hC=>by
   have:=hc _ k6 i j C hi hj hC;rw[kas_ask_eq]at this;exact this) eo ⟨r0,rfl,rfl,rfl,rfl⟩)
 rw[←est]at run;refine Xi (BW run ?_ λ_ _ e=>e);intro r s' z;obtain⟨har,hf,rfl⟩:=z;have hout:(arrOf r.2).map (·.2)=Bk (tLay QT l vs):=by
  apply Array.toList_inj.mp;rw[har,Array.map_map,Array.toList_map,←hq];exact Xn λi _=>by show(X5 (Um vs) i).2=_;rw[kas_item_eq]
 rw[hout];refine Xi (seqEpoch_at ho6 rfl ?_);refine Xi (listUpdate_at ho6 rfl ?_ (QZ _) (by rw[XF,tLay,Xc,hp,X8];omega));rw[hf];simp only[bne_self_eq_false,Vh,if_false];exact Qk h
theorem Z34{κ:Ve}{lt:Nat->Nat->Bool}{l:YG}{vs:List Xf}{p:List Nat}{Q:Xf->Xg->Prop}(hl:s.heap.IsList l vs.toArray)(h2:2≤vs.length)(hz:vs.length≤10000)(ho:Zdv lt vs.length=YB p)(hp:p.length=vs.length)
  (hk:∀s':Xg,(∀b o,s.heap.get? b=YB o->s'.heap.get? b=YB o)->∀Q:Ve->Xg->Prop,Q κ s'->Qd (Ql prog w) A.in1.in1 (keyKind' vs.toArray) Q E s')
  (hc:∀s':Xg,(∀b o,s.heap.get? b=YB o->s'.heap.get? b=YB o)->∀i j C,i<vs.length->j<vs.length->C (lt i j) s'->kas_ask prog w A.in1.in1 κ vs i j C s')
  (h:Q (.ref (s.heap.objs.size+1)) { s with heap:=sortedAll s.heap vs (Bk (tLay QT p vs)) }):Qd (Ql prog w) A (call (.builtin "sorted") [.ref l]) Q E s:=by
 refine Calls.call_function_entry kind_sorted plain_sorted entry_sorted (args_sorted1 _) ?_;unfold UW.«sorted»;refine Xi (m:=checkCount "sorted" 1 1 _) (Qk ?_);refine Xi (collect_list hl ?_ (by rw[X8];omega));refine Xi (wpAny_newList ?_ (by rw[X8];omega));have hsz:((s.heap.push (Q9 "list" #[] 0)).update s.heap.objs.size (QK (·++vs.toArray))).objs.size=s.heap.objs.size+1:=by
  rw[Heap.size_update,size_push']
 have hoL:(((s.heap.push (Q9 "list" #[] 0)).update s.heap.objs.size (QK (·++vs.toArray))).push (Q9 "list" vs.toArray 0)).get? (s.heap.objs.size+1)=YB (Q9 "list" vs.toArray 0):=by
  rw[←hsz];exact Qi _ rfl
 have keep:∀b o,s.heap.get? b=YB o->(((s.heap.push (Q9 "list" #[] 0)).update s.heap.objs.size (QK (·++vs.toArray))).push (Q9 "list" vs.toArray 0)).get? b=YB o:=λb o q=>by
  have hlt:b<s.heap.objs.size:=XH q;rw[Heap.get?_push_ne _ _ _ (by rw[hsz];exact Xy (Nat.lt_succ_of_lt hlt)),U8 _ _ _ _ (Xy hlt),Heap.get?_push_ne _ _ _ (Xy hlt)];exact q
 show Qd _ _ _ _ _ { s with heap:=((s.heap.push (Q9 "list" #[] 0)).update s.heap.objs.size (QK (·++vs.toArray))).push (Q9 "list" vs.toArray 0) };rw[hsz];refine Xi (Uj (V7 slot_list_sort ⟨_,hoL,rfl⟩ entry_list_sort (Zqi (h0:=s.heap) hoL keep (Heap.get?_none_of_le (Nat.le_succ _)) h2 hz ho hp hk hc ⟨_,rfl,?_⟩) (args_list_sort _)));exact Qk ⟨_,rfl,h⟩
end
variable {G:Xb}
theorem Zui{p:List Nat}{xs:List V}{us:List Xf}(h:Vals xs us):Vals (tLay .non p xs) (tLay .none p us):=by
 unfold tLay
 induction p with
 | nil=>exact .nil
 | cons i l ih=>
  refine .cons ?_ ih;show RelV (xs.getD i V.non) (us.getD i QT);rw[Xe,Xe];cases e:xs[i]? with
  | some x=>
   obtain⟨u,e',r⟩:=h.get e;rw[e'];exact r
  | none=>
   have:us[i]? =YC:=Qp (by rw[←h.length];exact QH.mp e);rw[this];exact rfl
theorem Das.tLay{H:Hp}{L:YG->Prop}{p:List Nat}{xs:List V}{ds:List Xa}(h:Das G H L xs ds):Das G H L (L2.tLay .non p xs) (L2.tLay .none p ds):=by
 unfold L2.tLay
 induction p with
 | nil=>exact .nil
 | cons i l ih=>
  refine .cons ?_ ih;show Da G H L (xs.getD i .non) (ds.getD i .none);rw[Xe,Xe];cases e:xs[i]? with
  | some x=>
   obtain⟨u,e',r⟩:=h.get' e;rw[e'];exact r
  | none=>
   have:ds[i]? =YC:=Qp (by rw[←h.length];exact QH.mp e);rw[this];exact .non
noncomputable def Zo5{α:Type}(kd:Xa->Option α)(lt:α->α->Bool)(K:Xb):List V->Hp->VK->Prop:=λxs H Q=>∃(a:YG) (vs:List V) (L:YG->Prop) (es:List Xa) (p:List Nat),xs=[.ref a]∧SqL K H a vs∧Das K H L vs es∧2≤vs.length∧vs.length≤10000∧Zdv (lk kd lt es) vs.length=YB p∧p.length=vs.length∧keyed kd es∧∀l,H l=YC->Q (.ref l) (upd H l (.lst (tLay .non p vs)))
section
variable {X:Cx}{α:Type}{kd:Xa->Option α}{lt:α->α->Bool}
theorem Zqb{K:Xb}(S:Ya3 kd lt)(hK:X.K=K)(hu:X.A.units+64<cLine):Zas X (.builtin "sorted") (Zo5 kd lt K):=by
 subst hK;intro pins s Y H xs us Q I r h;obtain⟨l,vs,L,es,p,rfl,hs,hd,h2,hz0,ho,hp,hk,q⟩:=h;obtain⟨u,rfl,ru⟩:=vals1 r;cases(show u=QJ l from ru);obtain⟨its,rv,pl,hz⟩:=I.list hs;have hl:=rv.length;obtain⟨as,ra⟩:=hd.reads rfl I rv (Zj3 λd m=>by obtain⟨k,e⟩:=hk d m;exact S.lay d k e);obtain⟨κ,S1,S2⟩:=S.run;obtain⟨z1,z2⟩:=readsAll_get ra;rw[hl]at h2 hz0 ho hp;refine Z34 (κ:=κ) (lt:=lk kd lt es) pl.isList h2 hz0 ho hp (λs' k Q q=>S1 _ _ _ _ s' _ es as Q h2 (ReadsAll.keeps k ra) hk q) (λs' k i j C hi hj hc=>?_) ?_
 ·rw[z1]at hi hj
  obtain⟨v,b1,e1,r1⟩:=z2 i _ (Xm hi);obtain⟨w,b2,e2,r2⟩:=z2 j _ (Xm hj);obtain⟨k1,q1⟩:=hk _ (Vu hi);obtain⟨k2,q2⟩:=hk _ (Vu hj);have ek:lk kd lt es i j=lt k1 k2:=by
   unfold lk;rw[Xe,Xe,Xm hi,Xm hj];show((kd es[i]).bind λa=>(kd es[j]).map λb=>lt a b).getD YF=_;rw[q1,q2];rfl
  rw[ek]at hc;unfold kas_ask;rw[Xe,Xe,e1,e2];exact S2 _ _ _ _ s' v w _ _ _ _ k1 k2 C (show X.A.units+1+1+32<cLine by omega) (Reads.keeps k r1) (Reads.keeps k r2) q1 q2 hc
 ·obtain⟨e,he⟩:=sortedAll_at s.heap its (Bk (tLay QT p its))
  refine⟨.ref (s.heap.objs.size+1),_,I.laid (t':=s.toks) (o:=.lst (tLay .non p vs)) (λb ob q=>sortedAll_old q) (by omega) ⟨?_,tLay QT p its,e,Zui rv,he⟩,rfl,q _ (I.hok.fresh (by omega))⟩;rw[tLay,Xc,hp,X8];omega
theorem Zqn{K:Xb}(S:Ya3 kd lt)(hK:X.K=K)(hu:X.A.units+64<cLine):Zas X (.builtin "sorted") (λxs H Q=>Zo3 kd lt K xs H Q∨Zo5 kd lt K xs H Q):=by
 intro pins s Y H xs us Q I r h;rcases h with h|h
 ·exact Zjk S hK hu pins s Y H xs us Q I r h
 ·exact Zqb S hK hu pins s Y H xs us Q I r h
noncomputable def Zsa(kd:Xa->Option α)(lt:α->α->Bool):List Xa->(OT->Prop)->Prop:=λds k=>n1 (λd=>∃(es:List Xa) (p:List Nat),d= .list es∧2≤es.length∧es.length≤10000∧Zdv (lk kd lt es) es.length=YB p∧p.length=es.length∧keyed kd es∧k (.nd ((tLay .none p es).map OT.fz))) ds
theorem Zwk:PN G (Zo5 kd lt G) (Zsa kd lt):=λH L xs ds k Q hx h kk=>by
 obtain⟨v,d,rfl,rfl,q,es,p,e,h2,hz,ho,hp,hk,h⟩:=hx.one h;have fin:∀(vs:List V) (r:YG),Das G H L vs es->H r=YC->Q (.ref r) (upd H r (.lst (tLay .non p vs))):=λvs r hv hr=>kk _ _ _ [r] (Z7 hr _) (Own.list hr hv.tLay) (Zeu r) (Zcb hr) h;subst e;generalize ed:XX es=d at q;cases q with
 | lst l e r=>
  cases ed;exact⟨_,_,L,es,p,rfl,.inl e,r,by rw[r.length];exact h2,by rw[r.length];exact hz,by rw[r.length];exact ho,by rw[r.length];exact hp,hk,λp hp=>fin _ p r hp⟩
 | scr ks=>
  cases ed;exact⟨_,_,L,_,p,rfl,ks.sq,Das.ints _,by rw[(Das.ints (G:=G) (H:=H) (L:=L) _).length];exact h2,by rw[(Das.ints (G:=G) (H:=H) (L:=L) _).length];exact hz,by rw[(Das.ints (G:=G) (H:=H) (L:=L) _).length];exact ho,by rw[(Das.ints (G:=G) (H:=H) (L:=L) _).length];exact hp,hk,λp hp=>fin _ p (Das.ints _) hp⟩
 | _=>cases ed
theorem Zwn:PN G (λxs H Q=>Zo3 kd lt G xs H Q∨Zo5 kd lt G xs H Q) (λds k=>Zpz kd lt ds k∨Zsa kd lt ds k):=λH L xs ds k Q hx h kk=>by
 rcases h with h|h
 ·exact .inl (Zoz H L xs ds k Q hx h kk)
 ·exact .inr (Zwk H L xs ds k Q hx h kk)
noncomputable def Zzb(kd:Xa->Option α)(lt:α->α->Bool):List Xa->Option OT:=λds=>match ds with
 | [.list es]=>(Zdv (lk kd lt es) es.length).bind λp=>if(decide (2≤es.length)&&decide (es.length≤10000)&&decide (p.length=es.length)&&es.all λd=>(kd d).isSome)=YD then YB (.nd ((tLay .none p es).map OT.fz))else YC
 | _=>YC
noncomputable def Zgn(kd:Xa->Option α)(lt:α->α->Bool):List Xa->Option OT:=λds=>match Zg1 kd lt ds with|some o=>YB o|none=>Zzb kd lt ds
theorem Z1q:∀ds r k,Zgn kd lt ds=YB r->k r->Zpz kd lt ds k∨Zsa kd lt ds k:=λds r k h hk=>by
 unfold Zgn at h;split at h
 ·rename_i e
  cases h;exact .inl (Zt9 ds _ k e hk)
 ·refine .inr ?_
  unfold Zzb at h;split at h
  case h_2=>cases h
  obtain⟨p,hp,h⟩:=Option.bind_eq_some_iff.mp h;split at h
  case isFalse=>cases h
  rename_i c;rw[Xv,Xv,Xv]at c;cases h;exact⟨_,p,rfl,YW c.1.1.1,YW c.1.1.2,hp,YW c.1.2,λd m=>Option.isSome_iff_exists.mp (Vd.mp c.2 d m),hk⟩
end
end L2
namespace L2
open PySem PySem.Spec PyProof.Rows PySem.W
noncomputable def Ev(lt:Nat->Nat->Bool)(n:Nat){α:Type}(m:TM α)(t:TmS)(a:α)(t':TmS):Prop:=Zkn lt n (m t)=YB (YB (a,t'))
section
variable {lt:Nat->Nat->Bool}{n:Nat}{α β:Type}
theorem Zu4(t:KasT α)(f:α->KasT β):Zkn lt n (t.bind f)=(Zkn lt n t).bind λa=>Zkn lt n (f a):=by
 induction t with
 | ret a=>rfl
 | ask i j k ih=>
  show(if(Ut i n&&Ut j n)=YD then Zkn lt n ((k (lt i j)).bind f)else YC)=(if(Ut i n&&Ut j n)=YD then Zkn lt n (k (lt i j))else YC).bind _;split
  ·exact ih _
  ·rfl
theorem Ev.bind{m:TM α}{f:α->TM β}{t t1 t2:TmS}{a:α}{b:β}(h:Ev lt n m t a t1)(k:Ev lt n (f a) t1 b t2):Ev lt n (m>>=f) t b t2:=by
 show Zkn lt n ((m t).bind (TM.nxt f))=_;rw[Zu4,show Zkn lt n (m t)=YB (YB (a,t1))from h];exact k
theorem Ev.get{t:TmS}:Ev lt n Zbv t t t:=rfl
theorem Ev.pure{t:TmS}{a:α}:Ev lt n (pure a:TM α) t a t:=rfl
theorem Ev.step{B:β->TM (ForInStep β)}{x:Nat}{l:List Nat}{b b1 r:β}{t t1 t2:TmS}(h:Ev lt n (B b) t (.yield b1) t1)(k:Ev lt n (Zed l b1 λ_=>B) t1 r t2):Ev lt n (Zed (x::l) b λ_=>B) t r t2:=Ev.bind h k
theorem Ev.fin{B:β->TM (ForInStep β)}{x:Nat}{l:List Nat}{b b1:β}{t t1:TmS}(h:Ev lt n (B b) t (.done b1) t1):Ev lt n (Zed (x::l) b λ_=>B) t b1 t1:=Ev.bind h rfl
end
noncomputable def Z5e(sz mr:Nat)(s:Option PUnit.{1}×Nat):TM (ForInStep (Option PUnit.{1}×Nat)) :=
 let lo:=s.snd
 if lo≥sz then pure (.done (YC,lo))else do
  match←Zsn lo (sz-lo)with
  | some f=>
   let jp:PUnit.{1}->Nat->TM (ForInStep (Option PUnit.{1}×Nat)):=λ_ n=>do
    let t←Zbv
    let jp2:Unit->TM (ForInStep (Option PUnit.{1}×Nat)):=λ_=>do
     Zgm λt=>{ t with q:=t.q.push (lo,n,0) }
     pure (.yield (YC,lo+n))
    match t.q.back? with
    | some (c,m,_)=>
     let u:=power' sz (2*c+m) (2*c+m+m+n) sz
     let s2←forIn (Rg.mk 0 sz) ((YC,()):Option PUnit.{1}×Unit) λ_ _=>do
      let t←Zbv
      let z:=t.q
      match if z.size>1 then z[z.size-2]? else YC with
      | some (_,_,v)=>
       if v≤u then pure (.done (YC,()))else do
        let c←Z5g (z.size-2)
        if(!c)=YD then pure (.done (YB (),()))else pure (.yield (YC,()))
      | _=>pure (.done (YC,()))
     match s2.fst with
     | some r=>pure (.done (YB r,lo))
     | none=>do
      let r←Zgm λt=>{ t with q:=t.q.modify (t.q.size-1) λ(c,m,_)=>(c,m,u) }
      jp2 r
    | _=>jp2 ()
   if f<mr then
    let fo:=min (sz-lo) mr
    do
     let c←Zr5 lo fo f
     if(!c)=YD then pure (.done (YB (),lo))else jp () fo
   else jp () f
  | _=>pure (.done (YB (),lo))
noncomputable def Z5f(_:Option PUnit.{1}×Unit):TM (ForInStep (Option PUnit.{1}×Unit)):=do
 let t←Zbv
 let z:=t.q
 if z.size≤1 then pure (.done (YC,()))else
  let k:=z.size-2;let bf:=if k>0 then z[k-1]?.map (·.2.1)else YC
  let k:=if bf.any (·<(z[k+1]?.elim 0 (·.2.1)))then k-1 else k
  do
   let c←Z5g k
   if(!c)=YD then pure (.done (YB (),()))else pure (.yield (YC,()))
noncomputable def Zua(sz mr:Nat):TM PUnit.{1}:=do
 let s←Zed (List.range' 0 sz) ((YC,0):Option PUnit.{1}×Nat) λ_=>Z5e sz mr
 match s.fst with
 | some r=>pure r
 | none=>do
  let s←Zed (List.range' 0 sz) ((YC,()):Option PUnit.{1}×Unit) λ_=>Z5f
  match s.fst with
  | some r=>pure r
  | none=>pure ()
theorem Z55{α β:Type}{m m':TM α}{f f':α->TM β}(h:m=m')(k:∀a,f a=f' a):(m>>=f)=(m'>>=f'):=by rw[h,funext k]
theorem Zse:Zip=(Zbv>>= λt=>Zua t.p.size (minRun' t.p.size t.p.size 0)):=by
 unfold Zip Zua;refine YT (Zbv>>=·) (funext λt=>?_);dsimp only;show bind _ _=bind _ _;refine congr (YT bind ?_) (funext λs=>?_)
 ·refine YT (Zed _ _) (funext λx=>funext λs=>?_)
  unfold Z5e;dsimp only;split
  ·rfl
  ·refine YT (Zsn _ _>>=·) (funext λo=>?_)
   cases o with
   | none=>rfl
   | some f=>
    dsimp only;split
    ·refine YT (Zr5 _ _ _>>=·) (funext λc=>?_)
     split
     ·rfl
     ·refine YT (Zbv>>=·) (funext λt=>?_)
      generalize t.q.back? =o
      (try dsimp only)
      cases o with
      | none=>rfl
      | some y=>
       obtain⟨c,m,v⟩:=y;dsimp only;refine Z55 ?_ λs=>?_
       ·refine YT (Zed _ _) (funext λx=>funext λs=>YT (Zbv>>=·) (funext λt=>?_))
        (try dsimp only)
        all_goals generalize(if t.q.size>1 then t.q[t.q.size-2]? else YC)=o
        all_goals rcases o with _|⟨c,m,v⟩<;>rfl
       ·obtain⟨r,l⟩:=s
        cases r<;>rfl
    ·refine YT (Zbv>>=·) (funext λt=>?_)
     generalize t.q.back? =o
     (try dsimp only)
     cases o with
     | none=>rfl
     | some y=>
      obtain⟨c,m,v⟩:=y;dsimp only;refine Z55 ?_ λs=>?_
      ·refine YT (Zed _ _) (funext λx=>funext λs=>YT (Zbv>>=·) (funext λt=>?_))
       (try dsimp only)
       all_goals generalize(if t.q.size>1 then t.q[t.q.size-2]? else YC)=o
       all_goals rcases o with _|⟨c,m,v⟩<;>rfl
      ·obtain⟨r,l⟩:=s
       cases r<;>rfl
 ·obtain⟨r,l⟩:=s
  cases r with
  | some r=>rfl
  | none=>
   dsimp only;refine congr (YT bind ?_) (funext λs=>?_)
   ·refine YT (Zed _ _) (funext λx=>funext λs=>?_)
    unfold Z5f;rfl
   ·obtain⟨r,l⟩:=s
    cases r<;>rfl
noncomputable def dc:Nat->Nat->List Nat
 | 0,_=>[]
 | n+1,P=>P%1024::dc n (P/1024)
theorem Z0j:∀(n P:Nat),(dc n P).length=n
 | 0,_=>rfl
 | n+1,P=>YT (·+1) (Z0j n _)
noncomputable def tmK(n P:Nat)(q:List (Nat×Nat×Nat))(g:Nat):TmS:=⟨⟨dc n P⟩,⟨q⟩,g⟩
noncomputable def eqL:List Nat->List Nat->Bool
 | [],[]=>YD
 | x::xs,y::ys=>Nat.beq x y&&eqL xs ys
 | _,_=>YF
theorem Zou:∀{a b:List Nat},eqL a b=YD->a=b
 | [],[],_=>rfl
 | x::xs,y::ys,h=>by
  rw[eqL,Xv]at h;rw[JK h.1,Zou h.2]
 | [],_::_,h=>by cases h
 | _::_,[],h=>by cases h
noncomputable def eqQ:List (Nat×Nat×Nat)->List (Nat×Nat×Nat)->Bool
 | [],[]=>YD
 | x::xs,y::ys=>(Nat.beq x.1 y.1&&(Nat.beq x.2.1 y.2.1&&Nat.beq x.2.2 y.2.2))&&eqQ xs ys
 | _,_=>YF
theorem Zzm:∀{a b:List (Nat×Nat×Nat)},eqQ a b=YD->a=b
 | [],[],_=>rfl
 | (x,y,z)::xs,(x',y',z')::ys,h=>by
  rw[eqQ,Xv,Xv,Xv]at h;have h1:=JK h.1.1;have h2:=JK h.1.2.1;have h3:=JK h.1.2.2;dsimp only at h1 h2 h3;rw[Zzm h.2,h1,h2,h3]
 | [],_::_,h=>by cases h
 | _::_,[],h=>by cases h
noncomputable def eqT(t:TmS)(n P:Nat)(q:List (Nat×Nat×Nat))(g:Nat):Bool:=eqL t.p.toList (dc n P)&&(eqQ t.q.toList q&&Nat.beq t.g g)
theorem Z0d{t:TmS}{n P:Nat}{q:List (Nat×Nat×Nat)}{g:Nat}(h:eqT t n P q g=YD):t=tmK n P q g:=by
 unfold eqT at h;rw[Xv,Xv]at h;obtain⟨⟨p⟩,⟨r⟩,k⟩:=t;unfold tmK;have h1:=Zou h.1;have h2:=Zzm h.2.1;have h3:=JK h.2.2;dsimp only at h1 h2 h3;rw[h1,h2,h3]
noncomputable def ck1(lt:Nat->Nat->Bool)(n mr lo P:Nat)(q:List (Nat×Nat×Nat))(g lo' P':Nat)(q':List (Nat×Nat×Nat))(g':Nat):Bool :=
 match Zkn lt n (fcT (tmK n P q g) λt=>Z5e n mr (YC,lo) t)with
 | some (YB (.yield (YC,l),t))=>Nat.beq l lo'&&eqT t n P' q' g'
 | _=>YF
noncomputable def ck2(lt:Nat->Nat->Bool)(n P:Nat)(q:List (Nat×Nat×Nat))(g P':Nat)(q':List (Nat×Nat×Nat))(g':Nat):Bool :=
 match Zkn lt n (fcT (tmK n P q g) λt=>Z5f (YC,()) t)with
 | some (YB (.yield (YC,_),t))=>eqT t n P' q' g'
 | _=>YF
section
variable {lt:Nat->Nat->Bool}{n mr lo P g lo' P' g':Nat}{q q':List (Nat×Nat×Nat)}
theorem Zcr(h:ck1 lt n mr lo P q g lo' P' q' g'=YD):Ev lt n (Z5e n mr (YC,lo)) (tmK n P q g) (.yield (YC,lo')) (tmK n P' q' g'):=by
 unfold ck1 at h;rw[Zpo]at h;split at h
 ·rename_i l t e
  rw[Xv]at h;rw[←Z0d h.2,←JK h.1];exact e
 ·cases h
theorem Zln(h:ck2 lt n P q g P' q' g'=YD):Ev lt n (Z5f (YC,())) (tmK n P q g) (.yield (YC,())) (tmK n P' q' g'):=by
 unfold ck2 at h;rw[Zpo]at h;split at h
 ·rename_i l t e
  rw[←Z0d h];exact e
 ·cases h
theorem Yfw(h:Nat.ble n lo=YD):Ev lt n (Z5e n mr (YC,lo)) (tmK n P q g) (.done (YC,lo)) (tmK n P q g):=by
 unfold Z5e;dsimp only;rw[YL (QS h)];exact .pure
theorem Ygd{x:Nat×Nat×Nat}:Ev lt n (Z5f (YC,())) (tmK n P [x] g) (.done (YC,())) (tmK n P [x] g):=rfl
theorem Zy4{z:List (Nat×Nat×Nat)}{x:Nat}(hm:minRun' n n 0=mr)(hs:dc n P=Xd n)(h1:Ev lt n (Zed (List.range' 0 n) (YC,0) λ_=>Z5e n mr) (tmK n P [] 7) (YC,x) (tmK n P' q' g'))
  (h2:Ev lt n (Zed (List.range' 0 n) ((YC,()):Option PUnit.{1}×Unit) λ_=>Z5f) (tmK n P' q' g') (YC,()) (tmK n lo' z g)):Zdv lt n=YB (dc n lo'):=by
 have e:Ev lt n Zip (tmK n P [] 7) ⟨⟩ (tmK n lo' z g):=by
  rw[Zse];refine Ev.bind Ev.get ?_;have:(tmK n P [] 7).p.size=n:=Z0j n P;rw[this,hm];exact Ev.bind h1 (Ev.bind h2 .pure)
 unfold Zdv;rw[show(⟨(Xd n).toArray,#[],7⟩:TmS)=tmK n P [] 7 by unfold tmK;rw[hs],show Zkn lt n (Zip (tmK n P [] 7))=YB (YB (⟨⟩,tmK n lo' z g))from e];rfl
end
noncomputable def Yge(p:List Nat):Nat:=p.foldl (λm i=>m|||1<<<i) 0
theorem Z6y{p:List Nat}{m j:Nat}:(p.foldl (λm i=>m|||1<<<i) m).testBit j=YD->m.testBit j=YD∨j∈p:=by
 induction p generalizing m with
 | nil=>exact .inl
 | cons i p ih=>
  intro h;rcases ih h with h|h
  ·rw[Nat.testBit_or,Bool.or_eq_true]at h
   rcases h with h|h
   ·exact .inl h
   ·rw[Nat.one_shiftLeft,Nat.testBit_two_pow,decide_eq_true_eq]at h
    exact .inr (h▸ .head _)
  ·exact .inr (.tail _ h)
theorem Zyo{l:List Nat}:∀{p:List Nat},l.Nodup->l ⊆ p->p.length≤l.length->l.Perm p:=by
 induction l with
 | nil=>
  intro p _ _ h;rw[List.length_eq_zero_iff.mp (Nat.le_zero.mp h)]
 | cons a l ih=>
  intro p nd sub h;have n:=Qy.mp nd;have ma:=sub (.head _);refine .trans (.cons a (ih (p:=p.erase a) n.2 (λx m=>?_) ?_)) (List.perm_cons_erase ma).symm
  ·exact(List.mem_erase_of_ne (show x≠a from λz=>n.1 (z▸m))).mpr (sub (.tail _ m))
  ·rw[List.length_erase_of_mem ma]
   rw[JN]at h;omega
noncomputable def Z2u(n:Nat)(p:List Nat):Bool:=Nat.beq (Yge p) (2^n-1)&&Nat.beq p.length n
theorem Zka{n:Nat}{p:List Nat}(h:Z2u n p=YD):p.Perm (Xd n):=by
 unfold Z2u at h;rw[Xv]at h;refine(Zyo List.nodup_range (λj m=>?_) (by rw[Xj,JK h.2];exact X6 _)).symm;have e:=JK h.1;rcases Z6y (p:=p) (m:=0) (j:=j) (by
  show(Yge p).testBit j=YD;rw[e,Nat.testBit_two_pow_sub_one,decide_eq_true_eq];exact Xx.mp m)with z|z
 ·rw[Nat.zero_testBit]at z;cases z
 ·exact z
end L2
namespace My
open PySem L2 PySem.Spec
noncomputable def Zdf:FS :=
 (Z5 (wE (Zi Zeh (Zi Zeh (Zi Zcs (Zi Zju (Ze 0) (Zi Zlg (fC (.int 10)) (fC (.int 40)))) (fC (.int 48271))) (Zi Zcs (Zi Zcs (Zi Zlg (fC (.int 3)) (fC (.int 60))) (Zi Zeh (Ze 1) (fC (.int 1)))) (Zi Zeh (Ze 1) (fC (.int 1))))) (Ze 1)) (W2 2))
  (Z5 (wE (Zi Zeh (Zi Zcs (Ze 2) (Ze 2)) (Zi Zcs (fC (.int 69621)) (Ze 2))) (W2 2))
  (wE (Zi Za9 (Zi Zju (Zi Zcs (Ze 2) (Ze 2)) (Zi Zeh (Zi Zlg (fC (.int 10)) (fC (.int 61))) (fC (.int 7)))) (fC (.int 8))) J7)))
noncomputable def Ym:FD:=Zah 2 3 Zdf
noncomputable def Jv:FS :=
 (Z5 (Zbr (tV (Zi gGe (Ze 0) (Zi Zlg (fC (.int 10)) (fC (.int 18)))))
  (wE (Zb0 (Zc (Zi gSb (Ze 0) (Zi Zlg (fC (.int 10)) (fC (.int 18)))) Zn)) J7)
  fNx)
  (wE (Zb0 (Zc (Zi Zeh (Zi Zcs (Zi Zeh (Zi Zcs (Zv Ym (Zc (Ze 0) (Zc (fC (.int 1)) Zn))) (Zi Zlg (fC (.int 10)) (fC (.int 60)))) (Zv Ym (Zc (Ze 0) (Zc (fC (.int 2)) Zn)))) (Zi Zlg (fC (.int 10)) (fC (.int 60)))) (Zv Ym (Zc (Ze 0) (Zc (fC (.int 3)) Zn)))) Zn)) J7))
noncomputable def J4:FD:=Zah 1 1 Jv
noncomputable def Za2:FS :=
 (Z5 (wE (Zaq Z5h (Zc (Ze 0) Zn)) (W2 2))
  (Z5 (wE (Ze 1) (W2 3))
  (Z5 (Zjp (tV (Zi gNe (Ze 3) (fC (.int 0)))) (Z5 (wE (Zi Zju (Ze 2) (Ze 3)) (W2 4))
  (Z5 (wE (Ze 3) (W2 2))
  (wE (Ze 4) (W2 3)))))
  (wE (Zfm (Zc (Zi Za9 (Ze 0) (Ze 2)) (Zc (Zi Za9 (Ze 1) (Ze 2)) Zn))) J7))))
noncomputable def Yj:FD:=Zah 2 5 Za2
noncomputable def Zg0:FS :=
 (wE (Zv W4 (Zc (Zi gSb (Zi Zcs (Yb gIx (Ze 0) (fC (.int 0))) (Yb gIx (Ze 1) (fC (.int 1)))) (Zi Zcs (Yb gIx (Ze 1) (fC (.int 0))) (Yb gIx (Ze 0) (fC (.int 1))))) (Zc (Zi Zcs (Yb gIx (Ze 0) (fC (.int 1))) (Yb gIx (Ze 1) (fC (.int 1)))) Zn))) J7)
noncomputable def Zbh:FD:=Zah 2 2 Zg0
noncomputable def Zc6:FS :=
 (wE (Zi gLt (Zi Zcs (Yb gIx (Ze 0) (fC (.int 0))) (Yb gIx (Ze 1) (fC (.int 1)))) (Zi Zcs (Yb gIx (Ze 1) (fC (.int 0))) (Yb gIx (Ze 0) (fC (.int 1))))) J7)
noncomputable def Za1:FD:=Zah 2 2 Zc6
noncomputable def Zhu:FS :=
 (wE (Zv W4 (Zc (Zi Zeh (Zi Zcs (Yb gIx (Ze 0) (fC (.int 0))) (Yb gIx (Ze 1) (fC (.int 1)))) (Zi Zcs (Yb gIx (Ze 1) (fC (.int 0))) (Yb gIx (Ze 0) (fC (.int 1))))) (Zc (Zi Zcs (Yb gIx (Ze 0) (fC (.int 1))) (Yb gIx (Ze 1) (fC (.int 1)))) Zn))) J7)
noncomputable def Wa:FD:=Zah 2 2 Zhu
noncomputable def Zbf:FS :=
 (wE (Zv Za1 (Zc (Zv Wa (Zc (Yb gIx (Yb gIx (Ze 0) (Ze 1)) (Ze 2)) (Zc (Yb gIx (Yb gIx (Ze 0) (Ze 2)) (Ze 3)) Zn))) (Zc (Yb gIx (Yb gIx (Ze 0) (Ze 1)) (Ze 3)) Zn))) J7)
noncomputable def Ju:FD:=Zah 4 4 Zbf
noncomputable def Zbi:FS :=
 (Z5 (wE (Zaq Zcc (Zc (Ze 0) Zn)) (W2 1))
  (Z5 (Zaj (iRa (Zc (Ze 1) Zn)) (gNm 2)
  (Zaj (iRa (Zc (Ze 1) Zn)) (gNm 3)
  (Zaj (iRa (Zc (Ze 1) Zn)) (gNm 4)
  (Zbr (tD (Zv Ju (Zc (Ze 0) (Zc (Ze 2) (Zc (Ze 3) (Zc (Ze 4) Zn))))))
  (wE (Zfm (Zc (Ze 2) (Zc (Ze 3) (Zc (Ze 4) Zn)))) J7)
  fNx))))
  (wE (fC .none) J7)))
noncomputable def J3:FD:=Zah 1 5 Zbi
noncomputable def Zbz:FS :=
 (Zbr (tV (Zi Zo9 (Zv J3 (Zc (Ze 0) Zn)) (fC .none)))
  (Zh9 "NoTable")
  fNx)
noncomputable def J9:FD:=Zah 1 1 Zbz
noncomputable def Zbw:FS :=
 (wE (Zi gSb (Zaq Zww (Zc (Ze 0) Zn)) (Yb gIx (Ze 0) (fC (.int 0)))) J7)
noncomputable def Yk:FD:=Zah 1 1 Zbw
noncomputable def Zdi:FS :=
 (Z5 (wE (Zb0 (Zc (Zb0 Zn) Zn)) (W2 1))
  (Z5 (Zaj (iRb (Zc (fC (.int 1)) (Zc (Ze 0) Zn))) (gNm 2)
  (wE (Yb Zrs (Ze 1) (Yr 1 [2] (Zcu (Ze 1)) (gNm 0) Zc7 (Yb Zrs (Ze 0) (Zb0 (Zc (Ze 1) Zn))))) (W2 1)))
  (wE (Yr 1 [] (Zcu (fBl (Zgn kdL ltI) (Zc (Ze 1) Zn))) (gNm 0) (tV (Zi gGt (Zaq Zcc (Zc (Ze 0) Zn)) (fC (.int 0)))) (Ze 0)) J7)))
noncomputable def We:FD:=Zah 1 3 Zdi
noncomputable def Zbu:FS :=
 (Z5 (wE (Zb0 Zn) (Zat 1))
  (Z5 (Zaj (Zxt (Zc (Ze 0) Zn)) (gTp 2 (gCn (gNm 2) (gCn (gNm 3) gNl)))
  (Zaj (Zcu (fSl (Ze 0) (oI (Ze 2)) oN)) (gNm 4)
  (Yw 1 (Zfm (Zc (Ze 3) (Zc (Ze 4) Zn))))))
  (Zgb 1)))
noncomputable def W8:FD:=Zah 1 5 Zbu
noncomputable def Zb1:FS :=
 (wE (Zfm (Zc (Zi Zeh (Yb gIx (Yb gIx (Ze 0) (Ze 1)) (Ze 2)) (Yb gIx (Yb gIx (Ze 0) (Ze 3)) (Ze 4))) (Zc (Zi Zeh (Yb gIx (Yb gIx (Ze 0) (Ze 1)) (Ze 3)) (Yb gIx (Yb gIx (Ze 0) (Ze 2)) (Ze 4))) (Zc (Zi Zeh (Yb gIx (Yb gIx (Ze 0) (Ze 1)) (Ze 4)) (Yb gIx (Yb gIx (Ze 0) (Ze 2)) (Ze 3))) Zn)))) J7)
noncomputable def Yg:FD:=Zah 5 5 Zb1
noncomputable def J6:FS :=
 (Z5 (wE (Yr 1 [1] (iRa (Zc (Zaq Zcc (Zc (Ze 0) Zn)) Zn)) (gNm 0) (tV (Zi (Z2g YD) (Ze 0) (Ze 1))) (Ze 0)) (W2 3))
  (Z5 (wE (Zv W8 (Zc (Ze 3) Zn)) (W2 4))
  (Z5 (wE (Zet 2 "split_rule" Yk (Zc (Zv Yg (Zc (Ze 0) (Zc (Yb gIx (Ze 1) (fC (.int 0))) (Zc (Yb gIx (Ze 1) (fC (.int 0))) (Zc (fC (.int 0)) (Zc (fC (.int 0)) Zn)))))) Zn)) (W2 5))
  (Z5 (Zaj (Zcu (Zv W8 (Zc (Ze 1) Zn))) (gTp 2 (gCn (gNm 6) (gCn (gNm 7) gNl)))
  (Z5 (Zaj (Zcu (Ze 4)) (gTp 2 (gCn (gNm 8) (gCn (gNm 9) gNl)))
  (wE (Zaq Z0a (Zc (Ze 5) (Zc (Zet 2 "split_rule" Yk (Zc (Zv Yg (Zc (Ze 0) (Zc (Ze 6) (Zc (Ze 7) (Zc (Ze 8) (Zc (Ze 9) Zn)))))) Zn)) Zn))) (W2 5)))
  (Zbr (tV (Zi gLe (Ze 5) (fC (.int 0))))
  (wE (fC (.int 0)) J7)
  fNx)))
  (wE (Ze 5) J7)))))
noncomputable def Ye:FD:=Zah 3 10 J6
noncomputable def Zbg:FS :=
 (Z5 (wE (Zv Yy (Zc (Ze 0) Zn)) (W2 2))
  (Z5 (wE (Zv W7 (Zc (Ze 2) (Zc (Ze 0) Zn))) (W2 3))
  (Z5 (wE (Zb0 Zn) (Zat 4))
  (Z5 (Zaj (Zcu (Zv We (Zc (Zaq Zcc (Zc (Ze 0) Zn)) Zn))) (gNm 5)
  (Z5 (wE (Zv Ye (Zc (Ze 3) (Zc (Ze 5) (Zc (Ze 1) Zn)))) (W2 6))
  (Zbr (tV (Zi gGt (Ze 6) (fC (.int 0))))
  (Yw 4 (Zfm (Zc (Ze 5) (Zc (Zv Yz (Zc (Ze 6) (Zc (Zi Zcs (fC (.int 2)) (Ze 2)) Zn))) Zn))))
  fNx)))
  (Zgb 4)))))
noncomputable def Jw:FD:=Zah 2 7 Zbg
noncomputable def Zco:FS :=
 (Z5 (wE (Zv J9 (Zc (Ze 0) Zn)) Zw3)
  (wE (Zv Jw (Zc (Ze 0) (Zc (fC (fnD "split_rule")) Zn))) J7))
noncomputable def Z6:FD:=Zah 1 1 Zco
noncomputable def Zdb:FS :=
 (wE (Yr 1 [1] (iRa (Zc (Ze 0) Zn)) (gNm 0) Zc7 (fIf (tV (Zi (Z2g YF) (Ze 0) (Ze 1))) (fC (.int 1)) (fC (.int 0)))) J7)
noncomputable def Zau:FD:=Zah 2 2 Zdb
noncomputable def Zcn:FS :=
 (wE (Yr 1 [0] (Zcu (Ze 1)) (gNm 0) Zc7 (Zv Zau (Zc (Ze 1) (Zc (Yb gIx (Ze 0) (fC (.int 0))) Zn)))) J7)
noncomputable def Zak:FD:=Zah 2 2 Zcn
noncomputable def Y7:FS :=
 (Z5 (wE (Yr 1 [0] (iRa (Zc (Ze 0) Zn)) (gNm 0) Zc7 (Zvz (Zfm (Zc (fC (.int 0)) (Zc (fC (.int 1)) Zn))) (Ze 1))) (Zat 2))
  (Z5 (Zaj (Zdx (Zc (Zv Wc (Zc (Ze 0) Zn)) (Zc (Ze 1) Zn))) (gTp 2 (gCn (gNm 3) (gCn (gNm 4) gNl)))
  (Z5 (Zg3 2 (Ze 4) (Yb gIx (Ze 3) (fC (.int 0))) (Yb gIx (Ze 3) (fC (.int 1))))
  (Zg3 2 (Ze 4) (Yb gIx (Ze 3) (fC (.int 1))) (Yb gIx (Ze 3) (fC (.int 0))))))
  (Zgb 2)))
noncomputable def Y5:FD:=Zah 2 5 Y7
noncomputable def Jx:FS :=
 (Z5 (wE (Yr 1 [] (Zcu (Ze 1)) (gNm 0) Zc7 (Yb gIx (Ze 0) (fC (.int 1)))) (W2 2))
  (Z5 (wE (Zv Yt (Zc (Ze 2) Zn)) (W2 3))
  (Z5 (wE (Zv Jh (Zc (Ze 3) (Zc (Ze 2) Zn))) (W2 4))
  (Z5 (wE (Zv Zak (Zc (Ze 0) (Zc (Ze 1) Zn))) (W2 5))
  (Z5 (wE (Zb0 Zn) (Zat 6))
  (Z5 (Zaj (Zcu (Zv Wc (Zc (Ze 0) Zn))) (gTp 2 (gCn (gNm 7) (gCn (gNm 8) gNl)))
  (Z5 (wE (Yr 2 [7,8] (Zdx (Zc (Ze 5) (Zc (Ze 4) Zn))) (gTp 2 (gCn (gNm 0) (gCn (gNm 1) gNl))) (tV (Zi gNe (Yb gIx (Ze 0) (Ze 2)) (Yb gIx (Ze 0) (Ze 3)))) (Ze 1)) (W2 9))
  (Yw 6 (Zv Yz (Zc (Zaq Z9r (Zc (Ze 9) Zn)) (Zc (Ze 3) Zn))))))
  (Zce 6 (wE (Zv Y5 (Zc (Ze 0) (Zc (Ze 6) Zn))) J7))))))))
noncomputable def Z2:FD:=Zah 2 10 Jx
noncomputable def Zbx:FS :=
 (Z5 (wE (Zv Z2 (Zc (Zaq Zcc (Zc (Ze 0) Zn)) (Zc (Zv Z6 (Zc (Ze 0) Zn)) Zn))) (W2 1))
  (Z5 (wE (Zb0 Zn) (Zat 2))
  (Z5 (Zaj (Zdx (Zc (Ze 0) (Zc (Ze 1) Zn))) (gTp 2 (gCn (gNm 3) (gCn (gNm 4) gNl)))
  (Yw 2 (Yr 2 [] (Zdx (Zc (Ze 3) (Zc (Ze 4) Zn))) (gTp 2 (gCn (gNm 0) (gCn (gNm 1) gNl))) Zc7 (Zv Zbh (Zc (Ze 0) (Zc (Ze 1) Zn))))))
  (Zgb 2))))
noncomputable def Yh:FD:=Zah 1 5 Zbx
noncomputable def Zbb:FS :=
 (wE (Zy3 (Zi gEq (Zv Z6 (Zc (Ze 0) Zn)) (Zb0 Zn)) (Zi gEq (Zv Yh (Zc (Ze 0) Zn)) (Ze 0))) J7)
noncomputable def Yp:FD:=Zah 1 1 Zbb
noncomputable def Zbc:FS :=
 (Z5 (wE (Yr 1 [0,1] (iRa (Zc (Ze 0) Zn)) (gNm 0) Zc7 (Yr 1 [2,0] (iRa (Zc (Ze 1) Zn)) (gNm 0) Zc7 (Yb gIx (Zb0 (Zc (Ze 1) (Zc (Zfm (Zc (fC (.int 0)) (Zc (fC (.int 1)) Zn))) Zn))) (Zaq Zrk (Zc (Zi gEq (Ze 2) (Ze 0)) Zn))))) (W2 2))
  (Z5 (wE (Zv Yj (Zc (Yb gIx (Ze 1) (fC (.int 0))) (Zc (Zi Zcs (fC (.int 2)) (Yb gIx (Ze 1) (fC (.int 1)))) Zn))) (W2 3))
  (Z5 (wE (Yr 1 [3] (iRb (Zc (fC (.int 1)) (Zc (Ze 0) Zn))) (gNm 0) Zc7 (Zqs (Zc (Zb0 (Zc (Ze 0) Zn)) (Zc (Ze 1) Zn)))) (Zat 4))
  (Z5 (Zbr (tV (Zi gGt (Ze 0) (fC (.int 2))))
  (Yw 4 (Zfm (Zc (Yby (Zc (fC (.int 1)) (Zc (Ze 0) Zn))) (Zc (Ze 3) Zn))))
  fNx)
  (Z5 (Zbr (tV (Zi gEq (Ze 0) (fC (.int 2))))
  (wE (Zb0 (Zc (Zqs (Zc (Zb0 (Zc (fC (.int 1)) Zn)) (Zc (Ze 1) Zn))) Zn)) (Zat 4))
  fNx)
  (wE (Zy3 (Zi gEq (Zv Z6 (Zc (Ze 2) Zn)) (fBl (Zg1 kdT ltT) (Zc (Zrj 4) Zn))) (Zi gEq (Zv Yh (Zc (Ze 2) Zn)) (Yr 1 [0] (iRa (Zc (Ze 0) Zn)) (gNm 0) Zc7 (Zvz (Zfm (Zc (fC (.int 0)) (Zc (fC (.int 1)) Zn))) (Ze 1))))) J7))))))
noncomputable def Jr:FD:=Zah 2 5 Zbc
noncomputable def Zcp:FS :=
 (wE (Yr 1 [1] (Zcu (Ze 0)) (gNm 0) Zc7 (Yr 1 [1] (Zcu (Ze 0)) (gNm 0) Zc7 (Zv Yj (Zc (Ze 0) (Zc (Ze 1) Zn))))) J7)
noncomputable def Zag:FD:=Zah 2 2 Zcp
noncomputable def Zde:FS :=
 (Z5 (wE (Zi Zju (Yb gIx (Zrj 0) (fC (.int 0))) (Ze 1)) (W2 2))
  (Z5 (Z56 0 (Zi Za9 (Yb gIx (Zrj 0) (fC (.int 0))) (Ze 1)) (fC (.int 0)))
  (wE (Ze 2) J7)))
noncomputable def Zu:FIO:=Zxx 2 3 Zde
noncomputable def Zdc:FS :=
 (wE (Zmu (λi j=>decide (i≤j)) (λi j=>decide (i<j)) (fC (.int 0)) (Ze 1) (Zaq Zcc (Zc (Ze 0) Zn))) J7)
noncomputable def Wd:FD:=Zah 2 2 Zdc
noncomputable def Zdy:FS :=
 (Z5 (Zaj (Zcu (Ze 1)) (gNm 2)
  (Zbr (tNo (tD (Zv Wd (Zc (Ze 0) (Zc (Ze 2) Zn)))))
  (wE (fC (.bool YF)) J7)
  fNx))
  (wE (Zy3 (Zi gGt (Zaq Zcc (Zc (Ze 1) Zn)) (fC (.int 0))) (Zi gEq (Zkw (Zc (Ze 1) Zn)) (Zaq Zcc (Zc (Ze 1) Zn)))) J7))
noncomputable def Zbm:FD:=Zah 2 3 Zdy
noncomputable def Zd1:FS :=
 (Z5 (Zbr (tNo (tD (Zv Zbm (Zc (Ze 0) (Zc (Ze 1) Zn)))))
  (Zh9 "NoPoint")
  fNx)
  (Z5 (wE (Zb0 Zn) (Zat 2))
  (Z5 (Zaj (Zcu (Ze 1)) (gNm 3)
  (Yw 2 (Yr 1 [0,3] (Zcu (Ze 1)) (gNm 0) Zc7 (Yb gIx (Yb gIx (Ze 1) (Ze 2)) (Ze 0)))))
  (Zgb 2))))
noncomputable def Zac:FD:=Zah 2 4 Zd1
noncomputable def Zck:FS :=
 (Z5 (wE (Yb gIx (Zb0 (Zc (Zfm (Zc (fC (.int 2)) (Zc (fC (.int 3)) Zn))) (Zc (Zfm (Zc (fC (.int 2)) (Zc (fC (.int 4)) Zn))) (Zc (Zfm (Zc (fC (.int 2)) (Zc (fC (.int 5)) Zn))) (Zc (Zfm (Zc (fC (.int 3)) (Zc (fC (.int 3)) Zn))) Zn))))) (Jg 0 Zu (Zc (fC (.int 4)) Zn))) (Z8f (gTp 2 (gCn (gNm 1) (gCn (gNm 2) gNl)))))
  (Z5 (wE (Zi Zeh (Ze 1) (Ze 2)) (W2 3))
  (Z5 (wE (Zi Zeh (fC (.int 1)) (Jg 0 Zu (Zc (Yb gIx (Zb0 (Zc (fC (.int 3)) (Zc (Zi Zlg (fC (.int 10)) (fC (.int 20))) Zn))) (Jg 0 Zu (Zc (fC (.int 2)) Zn))) Zn))) (W2 4))
  (Z5 (wE (Yr 1 [3] (iRa (Zc (Ze 3) Zn)) (gNm 0) Zc7 (Yr 1 [] (iRa (Zc (Ze 1) Zn)) (gNm 0) Zc7 (fC (.int 0)))) (Zat 5))
  (Z5 (Zaj (iRa (Zc (Ze 3) Zn)) (gNm 6)
  (Zaj (iRa (Zc (Ze 3) Zn)) (gNm 7)
  (Zbr (tV (Zi gNe (Ze 6) (Ze 7)))
  (Zg3 5 (Zi Zcs (Ze 4) (Yb gIx (Zb0 (Zc (fC (.int 1)) (Zc (fC (.int 2)) Zn))) (Zaq Zrk (Zc (Zi gEq (Zi gLt (Ze 6) (Ze 1)) (Zi gLt (Ze 7) (Ze 1))) Zn)))) (Ze 6) (Ze 7))
  fNx)))
  (Z5 (wE (Ya5 (Zc (Ze 3) Zn)) (Zat 8))
  (Z5 (wE (Zb0 Zn) (Zat 9))
  (Z5 (Zaj (iRa (Zc (Ze 3) Zn)) (gNm 10)
  (Yw 9 (Z9t 8 (Jg 0 Zu (Zc (Zaq Zcc (Zc (Zrj 8) Zn)) Zn)))))
  (Zce 5 (Zce 9 (wE (Zv Zac (Zc (Zv Zag (Zc (Ze 5) (Zc (Zi Zeh (fC (.int 1)) (Jg 0 Zu (Zc (fC (.int 9)) Zn))) Zn))) (Zc (Ze 9) Zn))) J7)))))))))))
noncomputable def Jj:FIO:=Zxx 1 11 Zck
noncomputable def Zgw:FS :=
 (Z5 (Zbr (tV (Zi gNe (Zaq Zcc (Zc (Ze 0) Zn)) (Zaq Zcc (Zc (Ze 1) Zn))))
  (Zh9 "NoTable")
  fNx)
  (Z5 (wE (Zb0 Zn) (Zat 2))
  (Z5 (Zaj (Zdx (Zc (Ze 0) (Zc (Ze 1) Zn))) (gTp 2 (gCn (gNm 3) (gCn (gNm 4) gNl)))
  (Yw 2 (Yr 2 [] (Zdx (Zc (Ze 3) (Zc (Ze 4) Zn))) (gTp 2 (gCn (gNm 0) (gCn (gNm 1) gNl))) Zc7 (Zv Wa (Zc (Ze 0) (Zc (Ze 1) Zn))))))
  (Zgb 2))))
noncomputable def Jp:FD:=Zah 2 5 Zgw
noncomputable def Zao:FS :=
 (Z5 (wE (Zaq Zcc (Zc (Ze 1) Zn)) (W2 2))
  (Z5 (wE (Zb0 Zn) (Zat 3))
  (Z5 (Zaj (iRb (Zc (fC (.int 1)) (Zc (Ze 2) Zn))) (gNm 4)
  (Z5 (wE (Jg 0 Zu (Zc (fC (.int 5)) Zn)) (W2 5))
  (Zbr (tV (Zi gGt (Ze 5) (fC (.int 0))))
  (Yw 3 (Zqs (Zc (Zb0 (Zc (Ze 4) Zn)) (Zc (Zfm (Zc (Ze 5) (Zc (fC (.int 1)) Zn))) Zn))))
  fNx)))
  (Z5 (Zce 3 (wE (Zv Jp (Zc (Ze 1) (Zc (Zv Z2 (Zc (Ze 2) (Zc (Ze 3) Zn))) Zn))) (W2 6)))
  (Z5 (wE (Zv Z6 (Zc (Ze 6) Zn)) (W2 7))
  (Z5 (Zaj (Zcu (Ze 3)) (gTp 2 (gCn (gNm 8) (gCn (gNm 9) gNl)))
  (Z5 (wE (Yr 2 [8] (Zcu (Ze 7)) (gTp 2 (gCn (gNm 0) (gCn (gNm 1) gNl))) (tV (Zi gEq (Ze 0) (Ze 2))) (Ze 1)) (W2 10))
  (Zbr (tV (Zi gNe (Ze 10) (Zb0 (Zc (Ze 9) Zn))))
  (wE (fC (.bool YF)) J7)
  fNx)))
  (wE (Zi gEq (Zv Jp (Zc (Zv Yh (Zc (Ze 6) Zn)) (Zc (Zv Z2 (Zc (Ze 2) (Zc (Ze 7) Zn))) Zn))) (Ze 6)) J7)))))))
noncomputable def Ja:FIO:=Zxx 2 11 Zao
noncomputable def Zan:FS :=
 (Z5 (Zbr (tO (tNo (tD (Zv Wd (Zc (Ze 0) (Zc (Ze 1) Zn))))) (tNo (tD (Zv Wd (Zc (Ze 2) (Zc (Ze 3) Zn))))))
  (Zh9 "NoPoint")
  fNx)
  (Z5 (wE (Yr 1 [3] (iRa (Zc (Zaq Zcc (Zc (Ze 2) Zn)) Zn)) (gNm 0) (tV (Zi gNe (Ze 0) (Ze 1))) (Ze 0)) (W2 4))
  (Z5 (wE (Zb0 Zn) (Zat 5))
  (Z5 (Zaj (Zcu (Ze 0)) (gNm 6)
  (Z5 (wE (Yr 1 [6,1,2,3] (Zcu (Ze 4)) (gNm 0) Zc7 (Zv Wa (Zc (Yb gIx (Ze 1) (Ze 2)) (Zc (Yb gIx (Yb gIx (Ze 3) (Ze 4)) (Ze 0)) Zn)))) (W2 7))
  (Yw 5 (Yb Zrs (fBl Zva (Zc (Ze 6) Zn)) (Ze 7)))))
  (Z5 (Zaj (Zcu (Ze 4)) (gNm 8)
  (Z5 (wE (Yr 1 [2,8,3] (Zcu (Yb gIx (Ze 0) (Ze 1))) (gNm 0) Zc7 (Zv Wa (Zc (Yb gIx (Yb gIx (Ze 1) (Ze 2)) (Ze 3)) (Zc (Ze 0) Zn)))) (W2 7))
  (Yw 5 (Yb Zrs (Ze 7) (Yr 1 [2,8] (Zcu (Ze 4)) (gNm 0) Zc7 (Yb gIx (Yb gIx (Ze 1) (Ze 2)) (Ze 0)))))))
  (Zgb 5))))))
noncomputable def Yv:FD:=Zah 4 9 Zan
noncomputable def Zgf:FS :=
 (Z5 (Zaj (Zcu (Yb Zrs (Zb0 (Zc (Zi Zlg (fC (.int 10)) (fC (.int 18))) Zn)) (fSl (Ze 0) oN (oI (fC (.int 2)))))) (gNm 1)
  (Z5 (wE (Zv J4 (Zc (Ze 1) Zn)) (Zat 2))
  (Z5 (wE (Jg 2 Jj Zn) (W2 3))
  (Z5 (wE (Jg 2 Jj Zn) (W2 4))
  (Z5 (Zbr (tO (tNo (tD (Zv Yp (Zc (Ze 3) Zn)))) (tNo (tD (Jg 2 Ja (Zc (Ze 3) Zn)))))
  (wE (fC (.bool YF)) J7)
  fNx)
  (Z5 (Zbr (tV (Zi gLt (Zi Zeh (Zaq Zcc (Zc (Ze 3) Zn)) (Zaq Zcc (Zc (Ze 4) Zn))) (fC (.int 11))))
  (Z5 (wE (Zv Yv (Zc (Ze 3) (Zc (Jg 2 Zu (Zc (Zaq Zcc (Zc (Ze 3) Zn)) Zn)) (Zc (Ze 4) (Zc (Jg 2 Zu (Zc (Zaq Zcc (Zc (Ze 4) Zn)) Zn)) Zn))))) (W2 5))
  (Zbr (tNo (tD (Zv Yp (Zc (Ze 5) Zn))))
  (wE (fC (.bool YF)) J7)
  fNx))
  fNx)
  (Z5 (wE (Zv Yj (Zc (Zi Zeh (fC (.int 1)) (Jg 2 Zu (Zc (Yb gIx (Zb0 (Zc (fC (.int 4)) (Zc (Zi Zlg (fC (.int 10)) (fC (.int 20))) Zn))) (Jg 2 Zu (Zc (fC (.int 2)) Zn))) Zn))) (Zc (Zi Zeh (fC (.int 1)) (Jg 2 Zu (Zc (fC (.int 7)) Zn))) Zn))) (W2 6))
  (Zbr (tNo (tD (Zv Jr (Zc (Zi Zeh (fC (.int 2)) (Jg 2 Zu (Zc (fC (.int 6)) Zn))) (Zc (Ze 6) Zn)))))
  (wE (fC (.bool YF)) J7)
  fNx))))))))
  (wE (fC (.bool YD)) J7))
noncomputable def Zgj:FD:=Zah 1 7 Zgf
end My
namespace My
open PySem L2 PySem.Spec
noncomputable def Zeq:FS :=
 (Z5 (Zbr (tV (Zi gLt (Ze 1) (Zaq Zcc (Zc (Ze 0) Zn))))
  (wE (Yb gIx (Ze 0) (Ze 1)) J7)
  fNx)
  (wE (fC (.int 0)) J7))
noncomputable def Zoo:FD:=Zah 2 2 Zeq
noncomputable def Zif:FS :=
 (Z5 (Zbr (tV (Zi gEq (Zi Zju (Zi Za9 (Ze 0) (fC (.int 7))) (fC (.int 8))) (fC (.int 3))))
  (wE (Zi Zeh (Zi Zeh (Ze 2) (fC (.int 1))) (Zi Zju (Zi Za9 (Ze 0) (fC (.int 56))) (Zi gSb (Ze 3) (Ze 2)))) J7)
  fNx)
  (wE (Zi Zeh (Ze 1) (Zi Zju (Ze 0) (Zi gSb (Zi Zeh (Ze 2) (fC (.int 1))) (Ze 1)))) J7))
noncomputable def Zr0:FD:=Zah 4 4 Zif
noncomputable def Ziy:FS :=
 (Z5 (wE (Zi Zju (Zi Zcs (Zi Zeh (Zi Zeh (Zi Zju (Ze 0) (fC (.int 2147483629))) (Zi Zcs (fC (.int 9973)) (Ze 1))) (fC (.int 5))) (fC (.int 48271))) (fC (.int 2147483647))) (W2 2))
  (Z5 (wE (Zi Zju (Zi Zcs (Ze 2) (Ze 2)) (fC (.int 2147483587))) (W2 2))
  (wE (Zi Za9 (Zi Zju (Zi Zcs (Zi Zeh (Ze 2) (Zi Zcs (fC (.int 7919)) (Ze 1))) (fC (.int 16807))) (fC (.int 2147483563))) (fC (.int 8))) J7)))
noncomputable def Zih:FD:=Zah 2 3 Ziy
noncomputable def Ze3:FS :=
 (Z5 (wE (Zb0 Zn) (Zat 2))
  (Z5 (wE (Ze 0) (W2 3))
  (Z5 (Zaj (iRa (Zc (Ze 1) Zn)) (gNm 4)
  (Z5 (wE (Zv Zih (Zc (Ze 0) (Zc (Ze 4) Zn))) (W2 5))
  (Z5 (Zbr (tV (Zi gGe (Ze 0) (Zi Zlg (fC (.int 10)) (fC (.int 18)))))
  (wE (Zi Zju (Ze 3) (fC (.int 720720))) (W2 5))
  fNx)
  (Z5 (wE (Zi Za9 (Ze 3) (fC (.int 720720))) (W2 3))
  (Yw 2 (Ze 5))))))
  (Zgb 2))))
noncomputable def Zo6:FD:=Zah 2 6 Ze3
noncomputable def Zw(p:List Int):Xa:=.list (p.map Xq)
theorem Zxi{p:List Int}{i:Int}(h0:0≤i)(h1:i<p.length):atI (p.map Xq) i=YB (.int (p.getD i.toNat 0)):=by
 rw[Zmr h0,Xl,Xm (by omega)];simp[Xe,Xm (show i.toNat<p.length by omega)]
theorem Zm8{a b:FE}{δ:Zh}{p:List Int}{i:Int}(ha:EvV a δ (Zw p))(hb:EvV b δ (.int i))(h0:0≤i)(h1:i<p.length):EvV (Yb gIx a b) δ (.int (p.getD i.toNat 0)):=Z0p ha hb (Zxi h0 h1)
theorem Ybj:Zlg (.int 10) (.int 18)=YB (.int 1000000000000000000):=rfl
end My
namespace L2
open PySem PySem.Spec
noncomputable def EvP(e:FE)(δ:Zh)(Q:Xa->Zh->Prop):Prop:=∃t δ',e δ=YB (t,δ')∧Q t.data δ'
noncomputable def EpA(a:FA)(δ:Zh)(Q:List Xa->Zh->Prop):Prop:=∃ts δ',a δ=YB (ts,δ')∧Q (OT.datas ts) δ'
noncomputable def EpT(t:FT)(δ:Zh)(Q:Bool->Zh->Prop):Prop:=∃b δ',t δ=YB (b,δ')∧Q b δ'
noncomputable def EpS(S:FS)(δ:Zh)(N:Zh->Prop)(R:Xa->Zh->Prop):Prop:=(∃δ',S δ= .nx δ'∧N δ')∨∃o δ',S δ= .rt o δ'∧R o.data δ'
noncomputable def ToldI(F:FIO)(t:OT)(ds:List Xa)(Q:Xa->OT->Prop):Prop:=∃r t',F t ds=YB (r,t')∧Q r.data t'
section
variable {e a b:FE}{as:FA}{δ:Zh}{Q:Xa->Zh->Prop}{QA:List Xa->Zh->Prop}{T:Bool->Zh->Prop}{t u:FT}{S S':FS}{N:Zh->Prop}{R:Xa->Zh->Prop}{i:Nat}{d:Xa}
theorem Y0(h:EvV e δ d)(q:Q d δ):EvP e δ Q:=by
 obtain⟨t,e1,e2⟩:=h;exact⟨t,δ,e1,e2▸q⟩
theorem Zi3{g:Xa->Xa->Option Xa}(h:EvP a δ λx δ1=>EvP b δ1 λy δ2=>∃d,g x y=YB d∧Q d δ2):EvP (Zi g a b) δ Q:=by
 obtain⟨t,δ1,e1,t2,δ2,e2,d,e3,q⟩:=h;exact⟨.fz d,δ2,by rw[Zot,e1];show(b δ1).bind _=_;rw[e2];show(g _ _).bind _=_;rw[e3];rfl,by rw[OT.data_fz];exact q⟩
theorem Zt8{g:Xa->Xa->Option OT}(h:EvP a δ λx δ1=>EvP b δ1 λy δ2=>∃o,g x y=YB o∧Q o.data δ2):EvP (Yb g a b) δ Q:=by
 obtain⟨t,δ1,e1,t2,δ2,e2,d,e3,q⟩:=h;exact⟨d,δ2,by rw[Zrw,e1];show(b δ1).bind _=_;rw[e2];show(g _ _).bind _=_;rw[e3];rfl,q⟩
theorem Zbq(q:QA [] δ):EpA Zn δ QA:=⟨[],δ,rfl,by rw[Ze2];exact q⟩
theorem Wm(h:EvP e δ λd δ1=>EpA as δ1 λds δ2=>QA (d::ds) δ2):EpA (Zc e as) δ QA:=by
 obtain⟨t,δ1,e1,ts,δ2,e2,q⟩:=h;exact⟨t::ts,δ2,by rw[Zj8,e1];show(as δ1).bind _=_;rw[e2];rfl,by rw[Zds];exact q⟩
theorem Zx0{ds:List Xa}(h:EvA as δ ds)(q:QA ds δ):EpA as δ QA:=by
 obtain⟨ts,e1,e2⟩:=h;exact⟨ts,δ,e1,e2▸q⟩
theorem Zhr{F:FD}(h:EpA as δ λds δ1=>∃d,Told F ds d∧Q d δ1):EvP (Zv F as) δ Q:=by
 obtain⟨ts,δ1,e1,d,⟨t,e2,e3⟩,q⟩:=h;exact⟨t,δ1,by rw[Zk2,e1];show okO (F _) _=_;rw[e2];rfl,e3▸q⟩
theorem Zdt{F:FIO}{t0:OT}(h0:δ[i]? =YB (YB t0))(h:EpA as δ λds δ1=>∃t,δ1[i]? =YB (YB t)∧ToldI F t ds λd t'=>Q d (δ1.set i (YB t'))):EvP (Jg i F as) δ Q:=by
 obtain⟨ts,δ1,e1,t,e2,r,t',e3,q⟩:=h;refine⟨r,δ1.set i (YB t'),?_,q⟩;rw[Ztg,h0];show(as δ).bind _=_;rw[e1];show atO δ1[i]? _=_;rw[e2];show(F t _).bind _=_;rw[e3];rfl
theorem Zhf{p:Bool}(h:EvT t δ p)(q:T p δ):EpT t δ T:=⟨p,δ,h,q⟩
theorem Zfb{δ':Zh}(h:S δ= .nx δ')(q:N δ'):EpS S δ N R:=.inl ⟨δ',h,q⟩
theorem Yl(h:EpS S δ (λδ'=>EpS S' δ' N R) R):EpS (Z5 S S') δ N R:=by
 rcases h with⟨δ',e,h⟩|⟨o,δ',e,h⟩
 ·rcases h with⟨δ2,e2,q⟩|⟨o,δ2,e2,q⟩
  ·exact .inl ⟨δ2,by rw[Ziv,e,Zuj,e2],q⟩
  ·exact .inr ⟨o,δ2,by rw[Ziv,e,Zuj,e2],q⟩
 ·exact .inr ⟨o,δ',by rw[Ziv,e,Zzc],h⟩
theorem Zbj(h:EvP e δ λd δ'=>N (δ'.set i (YB (.fz d)))):EpS (wE e (W2 i)) δ N R:=by
 obtain⟨t,δ',e1,q⟩:=h;exact .inl ⟨_,by rw[Zcw,e1];rfl,q⟩
theorem Zlc(h:EvP e δ R):EpS (wE e J7) δ N R:=by
 obtain⟨t,δ',e1,q⟩:=h;exact .inr ⟨t,δ',by rw[Zcw,e1];rfl,q⟩
theorem Zo0(h:EpT t δ λp δ'=>(p=YD->EpS S δ' N R)∧(p=YF->EpS S' δ' N R)):EpS (Zbr t S S') δ N R:=by
 obtain⟨p,δ',e1,q1,q2⟩:=h;have e:Zbr t S S' δ=if p=YD then S δ' else S' δ':=by unfold Zbr;rw[e1]
 cases p with
 | true=>
  have g:=q1 rfl;unfold EpS at g⊢;rw[e];exact g
 | false=>
  have g:=q2 rfl;unfold EpS at g⊢;rw[e];exact g
theorem Zpe(q:N δ):EpS fNx δ N R:=.inl ⟨δ,rfl,q⟩
theorem EpS.mono{N':Zh->Prop}{R':Xa->Zh->Prop}(h:EpS S δ N R)(k:∀δ',N δ'->N' δ')(k2:∀d δ',R d δ'->R' d δ'):EpS S δ N' R' :=
 h.imp (λ⟨δ',e,q⟩=>⟨δ',e,k _ q⟩) λ⟨o,δ',e,q⟩=>⟨o,δ',e,k2 _ _ q⟩
theorem Zy2{g:FG}(I:Nat->Zh->Prop)(ds:List Xa)(m:Nat)(h0:I m δ)(turn:∀(k:Nat) (d:Xa) (δ:Zh),ds[k]? =YB d->I (m+k) δ->∃δ1,g d δ=YB δ1∧EpS S δ1 (I (m+k+1)) R)(fin:∀δ',I (m+ds.length) δ'->N δ') :
  (∃ δ',forLoop g S ds δ= .nx δ'∧N δ')∨∃o δ',forLoop g S ds δ= .rt o δ'∧R o.data δ':=by
 induction ds generalizing m δ with
 | nil=>exact .inl ⟨δ,rfl,fin δ h0⟩
 | cons d ds ih=>
  obtain⟨δ1,e1,h⟩:=turn 0 d δ rfl h0;rcases h with⟨δ2,e2,q⟩|⟨o,δ2,e2,q⟩
  ·have e:forLoop g S (d::ds) δ=forLoop g S ds δ2:=by rw[forLoop,e1];show(match S δ1 with| .nx δ2=>_| .ct δ2=>_| .bk δ2=>_|r=>_)=_;rw[e2]
   rw[e];refine ih (m+1) q (λk d' δ' hk hI=>?_) λδ' hI=>fin δ' (by rw[JN];rw[show m+1+ds.length=m+(ds.length+1) by omega]at hI;exact hI);have:=turn (k+1) d' δ' hk (by rw[show m+(k+1)=m+1+k by omega];exact hI)
   rwa[show m+(k+1)+1=m+1+k+1 by omega]at this
  ·refine .inr ⟨o,δ2,?_,q⟩
   rw[forLoop,e1];show(match S δ1 with| .nx δ2=>_| .ct δ2=>_| .bk δ2=>_|r=>_)=_;rw[e2]
theorem Zk8{it:FI}{g:FG}{ds:List Xa}{δ0:Zh}(I:Nat->Zh->Prop)(hi:it δ=YB (ds,δ0))(h0:I 0 δ0)(turn:∀(k:Nat) (d:Xa) (δ:Zh),ds[k]? =YB d->I k δ->∃δ1,g d δ=YB δ1∧EpS S δ1 (I (k+1)) R)(fin:∀δ',I ds.length δ'->N δ'):EpS (Zaj it g S) δ N R:=by
 have e:Zaj it g S δ=forLoop g S ds δ0:=by unfold Zaj;rw[hi]
 have h:=Zy2 (R:=R) (N:=N) (S:=S) (g:=g) (δ:=δ0) I ds 0 h0 (λk d δ hk hI=>by rw[VR]at hI⊢;exact turn k d δ hk hI) (λδ' hI=>by rw[VR]at hI;exact fin δ' hI);unfold EpS;rw[e];exact h
theorem ToldI.mono{F:FIO}{t0:OT}{ds:List Xa}{Q Q':Xa->OT->Prop}(h:ToldI F t0 ds Q)(k:∀d t,Q d t->Q' d t):ToldI F t0 ds Q':=by
 obtain⟨r,t',e,q⟩:=h;exact⟨r,t',e,k _ _ q⟩
theorem Z44{ts0:List OT}(h0:δ[i]? =YB (YB (.nd ts0)))(h:EvP e δ λd δ'=>∃ts,δ'[i]? =YB (YB (.nd ts))∧ts.length≤1000000∧N (δ'.set i (YB (.nd (ts++[.fz d]))))):EpS (Yw i e) δ N R:=by
 obtain⟨o,δ',e1,ts,e2,hl,q⟩:=h;exact .inl ⟨_,Z3a e1 h0 e2 hl,q⟩
theorem Z93{g:FG}(I:Nat->List Xa->Zh->Prop)(ds:List Xa)(m:Nat)(acc:List Xa)(h0:I m acc δ)(turn:∀(k:Nat) (d:Xa) (acc:List Xa) (δ:Zh),ds[k]? =YB d->I (m+k) acc δ->∃δ1,g d δ=YB δ1∧EpT t δ1 λp δ2=>(p=YD->EvP e δ2 λd δ3=>I (m+k+1) (acc++[d]) δ3)∧(p=YF->I (m+k+1) acc δ2)) :
  ∃ts δ',compLoop g t e ds δ=YB (ts,δ')∧I (m+ds.length) (acc++ts.map OT.data) δ':=by
 induction ds generalizing m acc δ with
 | nil=>exact⟨[],δ,rfl,by rw[List.map_nil,QW];exact h0⟩
 | cons d ds ih=>
  obtain⟨δ1,e1,p,δ2,e2,q1,q2⟩:=turn 0 d acc δ rfl h0;have next:∀(k:Nat) (d:Xa) (acc:List Xa) (δ:Zh),ds[k]? =YB d->I (m+1+k) acc δ->∃δ1,g d δ=YB δ1∧EpT t δ1 λp δ2=>(p=YD->EvP e δ2 λd δ3=>I (m+1+k+1) (acc++[d]) δ3)∧(p=YF->I (m+1+k+1) acc δ2):=λk d acc δ hk hI=>by
   have:=turn (k+1) d acc δ hk (by rw[show m+(k+1)=m+1+k by omega];exact hI)
   rwa[show m+(k+1)+1=m+1+k+1 by omega]at this
  have el:m+1+ds.length=m+(ds.length+1):=by omega
  cases p with
  | true=>
   obtain⟨o,δ3,e3,hI⟩:=q1 rfl;obtain⟨ts,δ',e4,hf⟩:=ih (m+1) (acc++[o.data]) hI next
   refine⟨o::ts,δ',?_,?_⟩
   ·rw[compLoop,e1];show(t δ1).bind _=_;rw[e2];show(e δ2).bind _=_;rw[e3];show(compLoop g t e ds δ3).bind _=_;rw[e4];rfl
   ·rw[JN,←el,Qg];rw[Bm]at hf;exact hf
  | false=>
   obtain⟨ts,δ',e4,hf⟩:=ih (m+1) acc (q2 rfl) next
   refine⟨ts,δ',?_,by rw[JN,←el];exact hf⟩;rw[compLoop,e1];show(t δ1).bind _=_;rw[e2];exact e4
theorem Zk5{o:OT}{δ':Zh}(h:e δ=YB (o,δ'))(q:N (δ'.set i (YB o))):EpS (wE e (Zat i)) δ N R:=.inl ⟨_,by rw[Zcw,h];rfl,q⟩
theorem Zkf{np n:Nat}{t0:OT}{ds:List Xa}{Q:Xa->OT->Prop}(hl:ds.length+1=np)(h:EpS S (Zko n t0 ds) (λδ'=>∃t',δ'[0]? =YB (YB t')∧Q .none t') λd δ'=>∃t',δ'[0]? =YB (YB t')∧Q d t'):ToldI (Zxx np n S) t0 ds Q:=by
 unfold ToldI;rw[Z1m hl];rcases h with⟨δ',e,t',e2,q⟩|⟨o,δ',e,t',e2,q⟩
 ·exact⟨.fz .none,t',by rw[e];show(match δ'[0]? with|some (YB t)=>YB (OT.fz .none,t)|_=>YC)=_;rw[e2],by rw[OT.data_fz];exact q⟩
 ·exact⟨o,t',by rw[e];show(match δ'[0]? with|some (YB t)=>YB (o,t)|_=>YC)=_;rw[e2],q⟩
end
end L2
namespace My
open PySem L2 PySem.Spec
theorem Ycl{α:Type}{g:FG}{t:FT}{me:FE}{cs:Zh}(x1 x2:α->Xa)(p:α->Bool)(f:α->OT):∀(xs:List α) (z0 z1:Option OT),(∀x∈xs,∀z0 z1,g (.tuple [x1 x,x2 x]) (z0::z1::cs)=YB (YB (.fz (x1 x))::YB (.fz (x2 x))::cs))->(∀x∈xs,t (YB (.fz (x1 x))::YB (.fz (x2 x))::cs)=YB (p x,YB (.fz (x1 x))::YB (.fz (x2 x))::cs))->(∀x∈xs,p x=YD->me (YB (.fz (x1 x))::YB (.fz (x2 x))::cs)=YB (f x,YB (.fz (x1 x))::YB (.fz (x2 x))::cs)) ->
  ∃z0' z1',compLoop g t me (xs.map λx=>.tuple [x1 x,x2 x]) (z0::z1::cs)=YB ((xs.filter p).map f,z0'::z1'::cs):=by
 intro xs
 induction xs with
 | nil=>exact λz0 z1 _ _ _=>⟨z0,z1,rfl⟩
 | cons x xs ih=>
  intro z0 z1 hg ht hm;obtain⟨y0,y1,e⟩:=ih (YB (.fz (x1 x))) (YB (.fz (x2 x))) (λy hy=>hg y (.tail _ hy)) (λy hy=>ht y (.tail _ hy)) λy hy=>hm y (.tail _ hy);refine⟨y0,y1,?_⟩;rw[Qg,compLoop,hg x (.head _),Xk,ht x (.head _),Xk];dsimp only;cases hp:p x with
  | true=>rw[YL rfl,hm x (.head _) hp,Xk,JW hp,Qg];dsimp only;rw[e];rfl
  | false=>rw[YM XC,JX (by rw[hp];exact XC)];exact e
theorem Yad{α:Type}{caps:List Nat}{it:FI}{g:FG}{t:FT}{me:FE}{cs δ:Zh}(xs:List α)(x1 x2:α->Xa)(p:α->Bool)(f:α->OT)(hi:EvI it δ (xs.map λx=>.tuple [x1 x,x2 x]))(hz:xs.length≤1000000)(hb:blk 2 caps δ=YC::YC::cs)
  (hg:∀x∈xs,∀z0 z1,g (.tuple [x1 x,x2 x]) (z0::z1::cs)=YB (YB (.fz (x1 x))::YB (.fz (x2 x))::cs)) (ht:∀x∈xs,t (YB (.fz (x1 x))::YB (.fz (x2 x))::cs)=YB (p x,YB (.fz (x1 x))::YB (.fz (x2 x))::cs)) (hm:∀x∈xs,p x=YD->me (YB (.fz (x1 x))::YB (.fz (x2 x))::cs)=YB (f x,YB (.fz (x1 x))::YB (.fz (x2 x))::cs)) :
  Yr 2 caps it g t me δ=YB (.nd ((xs.filter p).map f),δ):=by
 obtain⟨z0,z1,e⟩:=Ycl x1 x2 p f xs YC YC hg ht hm;unfold EvI at hi;unfold Yr;rw[hi,Xk];dsimp only;rw[YL (by rw[X8,Xc];omega),hb,e];rfl
noncomputable def dk(x:Int):OT:=.nd [.fz (.int x)]
theorem Z2h(x:Int):(dk x).data= .list [.int x]:=by unfold dk;rw[OT.data_nd];rfl
theorem btc{n:Nat}{m:Int}(h1:decide (-(2^n)<m)=YD)(h2:decide (m<2^n)=YD):Bt n m:=Bt.of_lt (YW h1) (YW h2)
theorem Z6q{δ:Zh}{i n:Nat}{e j:FE}{ts:List OT}{d:Xa}{k:Int}(h:EvV e δ d)(hi:δ[i]? =YB (YB (.nd ts)))(hj:EvV j δ (.int k))(hx:ixN ts.length k=YB n):Z56 i e j δ= .nx (δ.set i (YB (.nd (ts.set n (.fz d))))):=by
 obtain⟨t,e1,e2⟩:=h;obtain⟨u,e3,e4⟩:=hj;rw[Z3d,e1,Wk,hi];show onO (j δ) _=_;rw[e3,Wk,e4];show onX (ixN ts.length k) _=_;rw[hx,e2];rfl
theorem Zoi(x:Int){m:Int}(h0:0<m)(hb:Bt 400 m):ToldI Zu (dk x) [.int m] λd t'=>∃r x',d= .int r∧0≤r∧r<m∧t'=dk x':=by
 have i0:∀{δ:Zh},δ[0]? =YB (YB (dk x))->EvV (Yb gIx (Zrj 0) (fC (.int 0))) δ (.int x):=λh=>Z0p (Ztn h (Z2h x)) Z4 rfl;exact Zkf rfl (Yl (Zfb (Z3 (Zmm (i0 rfl) Za (by omega))) (Yl (Zfb (Z6q (n:=0) (Zo (i0 rfl) Za (Zfz (Zfp (by omega) hb))) rfl Z4 rfl) (Zlc (Y0 Za ⟨_,rfl,_,_,rfl,Zof h0,Zon h0,rfl⟩))))))
theorem Zbl{δ:Zh}{i:Nat}{x:Int}{as:FA}{many:Int}{Q:Xa->Zh->Prop}(hi:δ[i]? =YB (YB (dk x)))(ha:EvA as δ [.int many])(h0:0<many)(hb:Bt 400 many)(q:∀r x',0≤r->r<many->Q (.int r) (δ.set i (YB (dk x')))):EvP (Jg i Zu as) δ Q :=
 Zdt hi (Zx0 ha ⟨dk x,hi,(Zoi x h0 hb).mono λd t' z=>by
  obtain⟨r,x',rfl,r0,r1,rfl⟩:=z;exact q r x' r0 r1⟩)
theorem Za0{n:Nat}{t b:Int}(hb:0<b)(hB:Bt n b)(hn:n≤9000:=by decide):Told Yj [.int t,.int b] (frD (Xh t b)):=by
 obtain⟨z',e⟩:=Zkq (f1:=λx y z=>[YB (.fz (.int t)),YB (.fz (.int b)),YB (.fz (.int x)),YB (.fz (.int y)),z]) (f2:=λx y z=>[]) (t:=tV (Zi gNe (Ze 3) (fC (.int 0)))) (u:=Z5 (wE (Zi Zju (Ze 2) (Ze 3)) (W2 4)) (Z5 (wE (Ze 3) (W2 2)) (wE (Ze 4) (W2 3)))) (λx y z=>Ze1 (Zoc Za Z4 rfl)) (λx y z hy=>⟨_,Je (Z3 (Zmm Za Za hy)) (Je (Z3 Za) (Z3 Za))⟩) (b.toNat+1) (t.natAbs:Int) b YC (by omega) (by omega) (by omega);have eg:(Bo (t.natAbs:Int) b:Int)=shr t b:=by
  unfold shr;rw[YM (by omega),Vz,Vz,Int.natAbs_natCast]
 obtain⟨e1,e2⟩:=Z73 (t:=t) (b:=b) (by omega) hB hn _ eg;exact Z0 rfl<|Z9 (Z3 (W9 (Zb Za Zg) (Zvs t)))<|Z9 (Z3 Za)<|Z9 (Zm3 _ e (by intro z;cases z)) (Wt (Zap (Zb (Zo Za Za e1) (Zb (Zo Za Za e2) Zg)) (show 2≤1000 by decide)))
theorem Znj{m n:Nat}{x:Int}(h0:0≤x)(h1:x≤2^m)(h:m<n):Bt n x:=by
 have:(2:Int)^m<2^n:=by
  have:=Nat.pow_lt_pow_right (a:=2) (by decide) h
  exact_mod_cast this
 exact Bt.of_lt (Int.lt_of_lt_of_le (Int.neg_neg_of_pos (Int.pow_pos (by decide))) h0) (Int.lt_of_le_of_lt h1 this)
theorem Yjt:Zlg (.int 10) (.int 40)=YB (.int 10000000000000000000000000000000000000000):=rfl
theorem Yf2:Zlg (.int 10) (.int 60)=YB (.int 1000000000000000000000000000000000000000000000000000000000000):=rfl
theorem Yht:Zlg (.int 10) (.int 61)=YB (.int 10000000000000000000000000000000000000000000000000000000000000):=rfl
theorem Yee:Zlg (.int 3) (.int 60)=YB (.int 42391158275216203514294433201):=rfl
theorem Zkk(c:Int){k:Int}(h0:0≤k)(h1:k≤3):∃v,Told Ym [.int c,.int k] (.int v)∧Bt 210 v:=by
 have bk:Bt 3 (k+1):=Bt.of_lt (by omega) (by omega);have bk0:Bt 3 k:=Bt.of_lt (by omega) (by omega);have bc:Bt 134 (c.fmod 10000000000000000000000000000000000000000):=Bt.of_lt (Int.lt_of_lt_of_le (by decide +kernel) (Zof (by decide))) (Int.lt_trans (Zon (by decide)) (by decide +kernel));have b3:Bt 96 42391158275216203514294433201:=btc (by decide +kernel) (by decide +kernel);have b4:Bt 16 48271:=btc (by decide +kernel) (by decide +kernel);have b5:Bt 17 69621:=btc (by decide +kernel) (by decide +kernel);have bn:=((bc.mul b4).add ((b3.mul bk).mul bk)).add bk0;have key:∃d,Told Ym [.int c,.int k] d∧∃v,d= .int v∧Bt 210 v:=by
  refine Zw5 rfl (Zd3 (Z3 (Zar (Zar (Zo (Zmm Za (Zo Z4 Z4 Yjt) (by decide)) Z4 (Jf (Wr bc b4))) (Zo (Zo (Zo Z4 Z4 Yee) (Zar Za Z4) (Jf (Wr b3 bk))) (Zar Za Z4) (Jf (Wr (b3.mul bk) bk)))) Za)) ?_);generalize c.fmod 10000000000000000000000000000000000000000*48271+42391158275216203514294433201*(k+1)*(k+1)+k=N at bn⊢;refine Zd3 (Z3 (Zar (Zo Za Za (Jf (Wr bn bn))) (Zo Z4 Za (Jf (Wr b5 bn))))) ?_;have bN:=(bn.mul bn).add (b5.mul bn);generalize N*N+69621*N=M at bN⊢;refine Zm0 (Z37 (Zmm (Zo Za Za (Jf (Wr bN bN))) (Zar (Zo Z4 Z4 Yht) Z4) (by decide)) Z4) ⟨_,rfl,?_⟩;have q0:=Zof (i:=M*M) (j:=10000000000000000000000000000000000000000000000000000000000000+7) (by decide);have q1:=Zon (i:=M*M) (j:=10000000000000000000000000000000000000000000000000000000000000+7) (by decide);rw[Jo (by decide)];exact Bt.of_le (x:=(M*M).fmod (10000000000000000000000000000000000000000000000000000000000000+7)) (Bt.of_lt (Int.lt_of_lt_of_le (by decide +kernel) q0) (Int.lt_trans q1 (by decide +kernel))) (V5 _ _)
 obtain⟨d,h,v,rfl,b⟩:=key;exact⟨v,h,b⟩
theorem Ygq{as:FA}{δ:Zh}{ts:List OT}(h:as δ=YB (ts,δ))(hl:ts.length≤1000):Zb0 as δ=YB (.nd ts,δ):=by
 rw[Znk,h];exact YL (e:=YC) (show ts.length≤Xz by rw[X8];omega)
theorem Z8m{e:FE}{as:FA}{δ:Zh}{o:OT}{ts:List OT}(h:e δ=YB (o,δ))(k:as δ=YB (ts,δ)):Zc e as δ=YB (o::ts,δ):=by
 rw[Zj8,h];show(as δ).bind _=_;rw[k];rfl
theorem Zzh{e:FE}{δ:Zh}{i:Int}(h:EvV e δ (.int i)):e δ=YB (.fz (.int i),δ):=by
 obtain⟨t,e1,e2⟩:=h;rw[e1,Zpk e2]
theorem Zrt{e:FE}{δ:Zh}{o:OT}(h:e δ=YB (o,δ)):wE e J7 δ= .rt o δ:=by rw[Zcw,h];rfl
theorem Z3b(c:Int):∃x,J4 [.int c]= .ok (dk x):=by
 have key:∃x δ',Jv [YB (.fz (.int c))]= .rt (dk x) δ':=by
  by_cases h:1000000000000000000≤c
  ·exact⟨c-1000000000000000000,_,Zm1 (Zbk (Ze1 (Z7g Za (Zo Z4 Z4 Ybj) (YQ h))) (Zrt (Ygq (Z8m (Zzh (Ztq Za (Zo Z4 Z4 Ybj))) rfl) (QS rfl))))⟩
  ·obtain⟨v1,e1,b1⟩:=Zkk c (k:=1) (by decide) (by decide)
   obtain⟨v2,e2,b2⟩:=Zkk c (k:=2) (by decide) (by decide);obtain⟨v3,e3,b3⟩:=Zkk c (k:=3) (by decide) (by decide);have bp:Bt 200 1000000000000000000000000000000000000000000000000000000000000:=btc (by decide +kernel) (by decide +kernel);have st:∀{k v:Int},Told Ym [.int c,.int k] (.int v)->EvV (Zv Ym (Zc (Ze 0) (Zc (fC (.int k)) Zn))) [YB (.fz (.int c))] (.int v):=λe=>Zq (Zb Za (Zb Z4 Zg)) e;exact⟨_,_,Je (Jb (Ze1 (Z7g Za (Zo Z4 Z4 Ybj) (YS h))) rfl) (Zrt (Ygq (Z8m (Zzh (Zar (Zo (Zar (Zo (st e1) (Zo Z4 Z4 Yf2) (Jf (Wr b1 bp))) (st e2)) (Zo Z4 Z4 Yf2) (Jf (Wr ((b1.mul bp).add b2) bp))) (st e3))) rfl) (QS rfl)))⟩
 obtain⟨x,δ',e⟩:=key;refine⟨x,?_⟩;unfold J4;rw[Zhk (np:=1) (by rfl)];show(Jv [YB (.fz (.int c))]).told=_;rw[e];rfl
noncomputable def W0(n:Nat)(f:Nat->Nat->Xa):OT:=.nd ((Xd n).map λi=>.nd ((Xd n).map λj=>.fz (f i j)))
noncomputable def Z1(n:Nat)(f:Nat->Nat->Xa):Xa:=.list ((Xd n).map λi=>.list ((Xd n).map λj=>f i j))
theorem Zfr(n:Nat)(f:Nat->Nat->Xa):(W0 n f).data=Z1 n f:=by
 unfold W0 Z1;rw[OT.data_nd,XQ];refine YT XX (Xn λi _=>?_);show(OT.nd _).data=_;rw[OT.data_nd,XQ];exact YT XX (Xn λj _=>OT.data_fz _)
theorem Zpc{n:Nat}{f g:Nat->Nat->Xa}(h:∀i j,i<n->j<n->f i j=g i j):W0 n f=W0 n g:=by
 unfold W0;refine YT OT.nd (Xn λi hi=>YT OT.nd (Xn λj hj=>YT OT.fz (h i j (Xx.mp hi) (Xx.mp hj))))
noncomputable def upG(f:Nat->Nat->Xa)(a b:Nat)(d:Xa):Nat->Nat->Xa:=λi j=>if i=a∧j=b then d else f i j
theorem Zmj{α:Type}{n a:Nat}(f:Nat->α)(x:α):((Xd n).map f).set a x=(Xd n).map λi=>if i=a then x else f i:=by
 refine List.ext_getElem? λi=>?_;rw[List.getElem?_set,Xc,Xj,Xl,Xl]
 by_cases h:a=i
 ·subst h
  by_cases c:a<n
  ·rw[YL rfl,YL c,Qq c];simp
  ·rw[YL rfl,YM c,Qp (by simp;omega)];rfl
 ·rw[YM h]
  by_cases c:i<n
  ·rw[Qq c];simp[JR h]
  ·rw[Qp (by simp;omega)];rfl
theorem Zhs{i n:Nat}{e j j2:FE}{δ:Zh}{d:Xa}{f:Nat->Nat->Xa}{a b:Nat}(he:EvV e δ d)(hi:δ[i]? =YB (YB (W0 n f)))(hj:EvV j δ (.int a))(ha:a<n)(hk:EvV j2 δ (.int b))(hb:b<n) :
  Zg3 i e j j2 δ= .nx (δ.set i (YB (W0 n (upG f a b d)))):=by
 obtain⟨_,e2,d2⟩:=he;obtain⟨_,e3,d3⟩:=hj;obtain⟨_,e4,d4⟩:=hk;unfold Zg3 W0 at*
 rw[Zcw,e2,Wk,hi];dsimp only;rw[Zcw,e3,Wk,d3];dsimp only;rw[Zsy (by rw[Xc,Xj];exact ha)];dsimp only;rw[Xl,Qq ha,Qc];dsimp only;rw[Zcw,e4,Wk,d4];dsimp only;rw[Zsy (by rw[Xc,Xj];exact hb)];dsimp only;rw[d2,Zmj,Zmj];refine YT RS.nx (YT (δ.set i) (YT YB (YT OT.nd (Xn λk _=>?_))))
 by_cases c:k=a
 ·subst c
  rw[YL rfl];refine YT OT.nd (Xn λl _=>?_);unfold upG
  by_cases c2:l=b
  ·rw[YL c2,YL ⟨rfl,c2⟩]
  ·rw[YM c2,YM λz=>c2 z.2]
 ·rw[YM c]
  refine YT OT.nd (Xn λl _=>?_);unfold upG;rw[YM λz=>c z.1]
noncomputable def inG(R:Nat->Nat->Int):Nat->Nat->Xa:=λi j=>.int (R i j)
noncomputable def upR(R:Nat->Nat->Int)(a b:Nat)(v:Int):Nat->Nat->Int:=λi j=>if i=a∧j=b then v else R i j
theorem Z89(R:Nat->Nat->Int)(a b:Nat)(v:Int):upG (inG R) a b (.int v)=inG (upR R a b v):=by
 funext i j;unfold upG inG upR
 by_cases c:i=a∧j=b
 ·rw[YL c,YL c]
 ·rw[YM c,YM c]
theorem Z3g{i n:Nat}{e j j2:FE}{δ:Zh}{v:Int}{R:Nat->Nat->Int}{a b:Nat}(he:EvV e δ (.int v))(hi:δ[i]? =YB (YB (W0 n (inG R))))(hj:EvV j δ (.int a))(ha:a<n)(hk:EvV j2 δ (.int b))(hb:b<n) :
  Zg3 i e j j2 δ= .nx (δ.set i (YB (W0 n (inG (upR R a b v))))):=by
 rw[←Z89];exact Zhs he hi hj ha hk hb
structure Nn(R:Nat->Nat->Int):Prop where
 z:∀i,R i i=0
 nn:∀i j,0≤R i j
theorem Zz0(a b:Int):Z0a [.int a,.int b]=YB (.int (min a b)):=by
 show YB (Xq (if b<a then b else a))=_;refine YT (λz=>YB (Xq z)) ?_;split<;>omega
noncomputable def bb(bits:Int)(i:Nat):Int:=UW.bitAnd (bits/2^i) 1
theorem Z8p{F:FD}{as:FA}{δ:Zh}{ds:List Xa}{o:OT}(h:EvA as δ ds)(k:F ds= .ok o):Zv F as δ=YB (o,δ):=by
 obtain⟨ts,e1,e2⟩:=h;rw[Zk2,e1];show okO (F (OT.datas ts)) δ=_;rw[e2,k];rfl
theorem Zyu{α:Type}{δ:Zh}{it:FI}{g:FG}{me:FE}(xs:List α)(mk f:α->Xa)(hi:EvI it δ (xs.map mk))(hz:xs.length≤1000000)(h:∀x∈xs,∀z0 z1,∃w0 w1,g (mk x) [z0,z1]=YB [w0,w1]∧EvV me [w0,w1] (f x)):EvV (Yr 2 [] it g Zc7 me) δ (.list (xs.map f)):=by
 obtain⟨ts,δ',e1,z0,z1,rfl,e2⟩:=Z93 (t:=Zc7) (e:=me) (g:=g) (δ:=[YC,YC])
  (λk acc δ=>∃z0 z1,δ=[z0,z1]∧acc=(xs.take k).map f) (xs.map mk) 0 [] ⟨YC,YC,rfl,rfl⟩ (λk d acc δ hd q=>by
   obtain⟨z0,z1,rfl,rfl⟩:=q;rw[VR]at*
   rw[Xl]at hd;cases e:xs[k]? with
   | none=>rw[e]at hd;cases hd
   | some p=>
    rw[e]at hd;cases hd;have et:xs.take (k+1)=xs.take k++[p]:=by rw[Vg,e];rfl
    obtain⟨w0,w1,e1,e2⟩:=h p (Qn e) z0 z1;refine⟨_,e1,Zhf rfl ⟨λ_=>Y0 e2 ⟨_,_,rfl,?_⟩,λz=>nomatch z⟩⟩;rw[et,XM];rfl)
 rw[VR,Xc,Vc,List.nil_append]at e2;refine⟨.nd ts,?_,by rw[OT.data_nd,e2]⟩;unfold EvI at hi;unfold Yr;rw[hi];show(if(xs.map mk).length≤Xz then _ else YC)=_;rw[YL (by rw[Xc,X8];omega)];show(compLoop _ _ _ _ [YC,YC]).bind _=_;rw[e1];rfl
theorem Zp3{α:Type}(xs:List α)(f g:α->Xa):Zl7 (xs.map f) (xs.map g)=xs.map λx=>.tuple [f x,g x]:=by
 unfold Zl7;rw[List.zip_map',XQ];rfl
theorem Yg5:Zlg (.int 10) (.int 20)=YB (.int 100000000000000000000):=rfl
noncomputable def Z8r(n:Nat)(f:Nat->Int):Xa:=.list ((Xd n).map λj=>.int (f j))
noncomputable def Zem(n:Nat)(r:Nat->Nat->Int):Xa:=.list ((Xd n).map λi=>Z8r n (r i))
theorem Zpw{α:Type}{n i:Nat}(f:Nat->α)(h:i<n):atI ((Xd n).map f) (i:Int)=YB (f i):=by
 rw[Zlo,Xl,Qq h];rfl
theorem Z2o{n j:Nat}{f:Nat->Int}(h:j<n):gIx (Z8r n f) (.int (j:Int))=YB (.fz (.int (f j))):=by
 unfold Z8r;rw[Zns,Zpw _ h];rfl
theorem Zxh{n i:Nat}{r:Nat->Nat->Int}(h:i<n):gIx (Zem n r) (.int (i:Int))=YB (.fz (Z8r n (r i))):=by
 unfold Zem;rw[Zns,Zpw _ h];rfl
theorem Zsr(n:Nat)(r:Nat->Nat->Int):Zcc [Zem n r]=YB (.int n):=by
 unfold Zem;rw[Zmp,Xc,Xj]
structure Sm(R:Nat->Nat->Int)(B:Int):Prop where
 lo:∀i j,0≤R i j
 hi:∀i j,R i j≤B
noncomputable def Zhy{α:Type}(I:Zh->Prop)(u:FS)(δ1:Zh)(r:Option Xa):Prop:=match r with
 | none=>∃δ2,u δ1= .nx δ2∧I δ2
 | some v=>∃o δ2,u δ1= .rt o δ2∧o.data=v
theorem Zw4{α:Type}{I:Zh->Prop}{g:FG}{u:FS}(mk:α->Xa)(f:α->Option Xa):∀(xs:List α) (δ:Zh),I δ->(∀x∈xs,∀δ,I δ->∃δ1,g (mk x) δ=YB δ1∧Zhy (α:=α) I u δ1 (f x))->Zhy (α:=α) I (forLoop g u (xs.map mk)) δ (xs.findSome? f):=by
 intro xs
 induction xs with
 | nil=>exact λδ h _=>⟨δ,rfl,h⟩
 | cons x xs ih=>
  intro δ h t;obtain⟨δ1,e1,r⟩:=t x (.head _) δ h;rw[List.findSome?_cons];cases q:f x with
  | none=>
   rw[q]at r;obtain⟨δ2,e2,h2⟩:=r;have e:forLoop g u ((x::xs).map mk) δ=forLoop g u (xs.map mk) δ2:=by
    rw[Qg,forLoop,e1];dsimp only;rw[e2]
   unfold Zhy;rw[e];exact ih δ2 h2 λy hy=>t y (.tail _ hy)
  | some v=>
   rw[q]at r;obtain⟨o,δ2,e2,d⟩:=r;refine⟨o,δ2,?_,d⟩;rw[Qg,forLoop,e1];dsimp only;rw[e2]
theorem Znt{α β:Type}{I J:Zh->Prop}{it:FI}{g:FG}{u:FS}{δ:Zh}(mk:α->Xa)(f:α->Option Xa)(xs:List α)(hi:EvI it δ (xs.map mk))(h0:J δ)(hJ:∀δ,J δ->I δ)(t:∀x∈xs,∀δ,J δ->∃δ1,g (mk x) δ=YB δ1∧Zhy (α:=α) J u δ1 (f x)):Zhy (α:=β) I (Zaj it g u) δ (xs.findSome? f):=by
 have h:=Zw4 (I:=J) (g:=g) (u:=u) mk f xs δ h0 t;cases q:xs.findSome? f with
 | none=>
  rw[q]at h;obtain⟨δ2,e,h2⟩:=h;exact⟨δ2,Zgx hi e,hJ δ2 h2⟩
 | some v=>
  rw[q]at h;obtain⟨o,δ2,e,d⟩:=h;exact⟨o,δ2,Zgx hi e,d⟩
theorem Zsc{α:Type}{I:Zh->Prop}{t:FT}{S S':FS}{δ:Zh}{r:Option Xa}(h:EvT t δ YD)(k:Zhy (α:=α) I S δ r):Zhy (α:=α) I (Zbr t S S') δ r:=by
 cases r with
 | none=>
  obtain⟨δ2,e,h2⟩:=k;exact⟨δ2,Zbk h e,h2⟩
 | some v=>
  obtain⟨o,δ2,e,d⟩:=k;exact⟨o,δ2,Zbk h e,d⟩
theorem Zsq{α:Type}{I:Zh->Prop}{t:FT}{S:FS}{δ:Zh}(h:EvT t δ YF)(k:I δ):Zhy (α:=α) I (Zbr t S fNx) δ YC:=⟨δ,Jb h rfl,k⟩
theorem Zxf{α:Type}{I:Zh->Prop}{e:FE}{δ:Zh}{v:Xa}(h:EvV e δ v):Zhy (α:=α) I (wE e J7) δ (YB v):=by
 obtain⟨o,h1,h2⟩:=Zzk h;exact⟨o,δ,h1,h2⟩
theorem Zvt{α:Type}{I:Zh->Prop}{S S':FS}{δ:Zh}{r:Option Xa}{v0:Xa}(h:Zhy (α:=α) I S δ r)(k:∀δ,I δ->Zlk S' δ v0):Zlk (Z5 S S') δ (r.getD v0):=by
 cases r with
 | none=>
  obtain⟨δ2,e,h2⟩:=h;exact Z9 e (k δ2 h2)
 | some v=>
  obtain⟨o,δ2,e,d⟩:=h;exact Zpl ⟨o,δ2,e,d⟩
noncomputable def frG(T:Nat->Nat->Rat):Nat->Nat->Xa:=λi j=>frD (T i j)
theorem Zs7{q r:Rat}(bq:Bt 400 q.num)(dq:Bt 400 (q.den:Int))(br:Bt 400 r.num)(dr:Bt 400 (r.den:Int)):Told Wa [frD q,frD r] (frD (q+r)):=by
 rw[←Zj5];exact Z0 rfl<|Wt<|Zq (Zb (Zar (Zo (Y4 (d:=.int q.num) Za Z4 rfl) (Y4 (d:=.int (r.den:Int)) Za Z4 rfl) (Jf (Wr bq dr))) (Zo (Y4 (d:=.int r.num) Za Z4 rfl) (Y4 (d:=.int (q.den:Int)) Za Z4 rfl) (Jf (Wr br dq)))) (Zb (Zo (Y4 (d:=.int (q.den:Int)) Za Z4 rfl) (Y4 (d:=.int (r.den:Int)) Za Z4 rfl) (Jf (Wr dq dr))) Zg)) (Zch (Int.ne_of_gt (Int.mul_pos (Zab q) (Zab r))) (dq.mul dr))
theorem Zxe{q r:Rat}{m n:Nat}(bq:Bt m q.num)(dq:Bt m (q.den:Int))(br:Bt n r.num)(dr:Bt n (r.den:Int))(hmn:m+n≤100000000:=by decide):Told Za1 [frD q,frD r] (.bool (decide (q<r))) :=
 Z0 rfl<|Wt<|Zu3 (Zo (Y4 (d:=.int q.num) Za Z4 rfl) (Y4 (d:=.int (r.den:Int)) Za Z4 rfl) (Jf (Wr bq dr hmn))) (Zo (Y4 (d:=.int r.num) Za Z4 rfl) (Y4 (d:=.int (q.den:Int)) Za Z4 rfl) (Jf (Wr br dq (by omega)))) (decide_eq_decide.mpr (Zsz q r))
structure Tq(T:Nat->Nat->Rat):Prop where
 num:∀i j,Bt 400 (T i j).num
 den:∀i j,Bt 400 ((T i j).den:Int)
theorem Zwe{n a b i0 i9 i10:Nat}{f:Nat->Nat->Xa}{δ:Zh}(ha:a<n)(hb:b<n)(h6:δ[i0]? =YB (YB (.fz (Z1 n f))))(h9:δ[i9]? =YB (YB (.fz (.int a))))(h10:δ[i10]? =YB (YB (.fz (.int b)))):EvV (Yb gIx (Yb gIx (Ze i0) (Ze i9)) (Ze i10)) δ (f a b):=by
 refine Y4 (Y4 (Za h6) (Za h9) (d:=.list ((Xd n).map λj=>f a j)) ?_) (Za h10) ?_
 ·unfold Z1
  rw[Zns,Zlo,Xl,Qq ha];rfl
 ·rw[Zns,Zlo,Xl,Qq hb];rfl
theorem Zw1{n:Nat}{T:Nat->Nat->Rat}(h:Tq T){i j k:Nat}(hi:i<n)(hj:j<n)(hk:k<n):Told Ju [Z1 n (frG T),.int i,.int j,.int k] (.bool (decide (T i j+T j k<T i k))):=by
 have e:T i j+T j k=Xh ((T i j).num*((T j k).den:Int)+(T j k).num*((T i j).den:Int)) (((T i j).den:Int)*((T j k).den:Int)):=(Zj5 _ _).symm;have dp:((T i j).den:Int)*((T j k).den:Int)≠0:=Int.ne_of_gt (Int.mul_pos (Zab _) (Zab _));have bn:Bt 2000 (T i j+T j k).num:=by
  rw[e];exact Zfl dp ((((h.num i j).mul (h.den j k)).add ((h.num j k).mul (h.den i j))).mono (by decide))
 have bd:Bt 2000 ((T i j+T j k).den:Int):=by
  rw[e];exact Znc dp (((h.den i j).mul (h.den j k)).mono (by decide))
 exact Z0 rfl<|Wt<|Zq (Zb (Zq (Zb (Zwe (i0:=0) (i9:=1) (i10:=2) hi hj rfl rfl rfl) (Zb (Zwe (i0:=0) (i9:=2) (i10:=3) hj hk rfl rfl rfl) Zg)) (Zs7 (h.num i j) (h.den i j) (h.num j k) (h.den j k))) (Zb (Zwe (i0:=0) (i9:=1) (i10:=3) hi hk rfl rfl rfl) Zg)) (Zxe bn bd (h.num i k) (h.den i k))
noncomputable def mkI(i:Nat):Xa:=.int (i:Int)
theorem Zwa{n:Nat}{as:FA}{δ:Zh}(h:EvA as δ [.int n])(hn:n≤10):EvI (iRa as) δ ((Xd n).map mkI):=by
 have e:Zdh 0 n=(Xd n).map mkI:=by
  unfold Zdh;exact Xn λi _=>YT Xq (BZ _)
 exact e▸Zm2 h (by omega)
noncomputable def sc3(n:Nat)(c:Nat->Nat->Nat->Bool)(v:Nat->Nat->Nat->Xa):Option Xa:=(Xd n).findSome? λi=>(Xd n).findSome? λj=>(Xd n).findSome? λk=>if c i j k=YD then YB (v i j k)else YC
theorem Zyn{n:Nat}{c:Nat->Nat->Nat->Bool}{v:Nat->Nat->Nat->Xa}:(∀i j k,i<n->j<n->k<n->c i j k=YF)∧sc3 n c v=YC∨(∃i j k,i<n∧j<n∧k<n∧c i j k=YD)∧∃i j k,sc3 n c v=YB (v i j k):=by
 cases q:sc3 n c v with
 | none=>
  refine .inl ⟨λi j k hi hj hk=>?_,rfl⟩;unfold sc3 at q;have:=List.findSome?_eq_none_iff.mp q i (Xx.mpr hi);have:=List.findSome?_eq_none_iff.mp this j (Xx.mpr hj);have:=List.findSome?_eq_none_iff.mp this k (Xx.mpr hk);cases e:c i j k with
  | false=>rfl
  | true=>rw[YL e]at this;cases this
 | some d=>
  unfold sc3 at q;obtain⟨i,hi,q⟩:=Ur q;obtain⟨j,hj,q⟩:=Ur q;obtain⟨k,hk,q⟩:=Ur q
  by_cases e:c i j k=YD
  ·rw[YL e]at q
   cases q;exact .inr ⟨⟨i,j,k,Xx.mp hi,Xx.mp hj,Xx.mp hk,e⟩,i,j,k,rfl⟩
  ·rw[YM e]at q;cases q
theorem Yaz{n:Nat}(hn:n≤10){t:FT}{S S':FS}{d0 v0:Xa}(c:Nat->Nat->Nat->Bool)(v:Nat->Nat->Nat->Xa)(ht:∀i j k,i<n->j<n->k<n->EvT t [YB (.fz d0),YB (.fz (.int n)),YB (.fz (mkI i)),YB (.fz (mkI j)),YB (.fz (mkI k))] (c i j k))(hS:∀i j k,Zhy (α:=Nat) (λ_=>False) S [YB (.fz d0),YB (.fz (.int n)),YB (.fz (mkI i)),YB (.fz (mkI j)),YB (.fz (mkI k))] (YB (v i j k)))
  (hS':∀z2 z3 z4,Zlk S' [YB (.fz d0),YB (.fz (.int n)),z2,z3,z4] v0):Zlk (Z5 (Zaj (iRa (Zc (Ze 1) Zn)) (gNm 2) (Zaj (iRa (Zc (Ze 1) Zn)) (gNm 3) (Zaj (iRa (Zc (Ze 1) Zn)) (gNm 4) (Zbr t S fNx)))) S') [YB (.fz d0),YB (.fz (.int n)),YC,YC,YC] ((sc3 n c v).getD v0):=by
 refine Zvt (α:=Nat) (I:=λδ=>∃z2 z3 z4,δ=[YB (.fz d0),YB (.fz (.int n)),z2,z3,z4]) ?_ λδ q=>?_
 ·refine Znt (α:=Nat) (J:=λδ=>∃z2 z3 z4,δ=[YB (.fz d0),YB (.fz (.int n)),z2,z3,z4]) mkI _ (Xd n) (Zwa (Zb Za Zg) hn) ⟨YC,YC,YC,rfl⟩ (λ_ h=>h) λi hi δ q=>?_
  obtain⟨z2,z3,z4,rfl⟩:=q;refine⟨_,rfl,Znt (α:=Nat) (J:=λδ=>∃z3 z4,δ=[YB (.fz d0),YB (.fz (.int n)),YB (.fz (mkI i)),z3,z4]) mkI _ (Xd n) (Zwa (Zb Za Zg) hn) ⟨z3,z4,rfl⟩ (λδ h=>by obtain⟨z3,z4,e⟩:=h;exact⟨_,z3,z4,e⟩) λj hj δ q=>?_⟩;obtain⟨z3,z4,rfl⟩:=q;refine⟨_,rfl,Znt (α:=Nat) (J:=λδ=>∃z4,δ=[YB (.fz d0),YB (.fz (.int n)),YB (.fz (mkI i)),YB (.fz (mkI j)),z4]) mkI _ (Xd n) (Zwa (Zb Za Zg) hn) ⟨z4,rfl⟩ (λδ h=>by obtain⟨z4,e⟩:=h;exact⟨_,z4,e⟩) λk hk δ q=>?_⟩;obtain⟨z4,rfl⟩:=q;refine⟨_,rfl,?_⟩;have:=ht i j k (Xx.mp hi) (Xx.mp hj) (Xx.mp hk);cases e:c i j k with
  | true=>
   rw[e]at this;rw[YL rfl];exact Zsc this (hS i j k)
  | false=>
   rw[e]at this;rw[YM XC];exact Zsq this ⟨_,rfl⟩
 ·obtain⟨z2,z3,z4,rfl⟩:=q
  exact hS' z2 z3 z4
theorem Z9u{n:Nat}{f:Nat->Nat->Xa}{δ:Zh}(h:δ[0]? =YB (YB (.fz (Z1 n f)))):EvV (Zaq Zcc (Zc (Ze 0) Zn)) δ (.int n):=by
 have:=Zll (δ:=δ) (e:=Ze 0) (ds:=(Xd n).map λi=>.list ((Xd n).map λj=>f i j)) (Za h)
 rwa[Xc,Xj]at this
noncomputable def shR(T:Nat->Nat->Rat)(i j k:Nat):Bool:=decide (T i j+T j k<T i k)
noncomputable def tpI(i j k:Nat):Xa:=.tuple [.int i,.int j,.int k]
theorem Zjc{n:Nat}(hn:n≤10){T:Nat->Nat->Rat}(h:Tq T):Told J3 [Z1 n (frG T)] ((sc3 n (shR T) tpI).getD .none) :=
 Z0 rfl<|Z9 (Z3 (Z9u rfl))<|Yaz hn (shR T) tpI (λi j k hi hj hk=>Zle (Zq (Zb Za (Zb Za (Zb Za (Zb Za Zg)))) (Zw1 h hi hj hk))) (λi j k=>Zxf (Zap (Zb Za (Zb Za (Zb Za Zg))) (show 3≤1000 by decide))) λ_ _ _=>Wt Z4
theorem Zlv{n:Nat}(hn:n≤10){T:Nat->Nat->Rat}(h:Tq T)(q:sc3 n (shR T) tpI=YC):Told J9 [Z1 n (frG T)] .none:=by
 have e:=Zjc hn h;rw[q]at e;exact Zvc rfl (Jb (Ze1 (Zo (Zq (Zb Za Zg) e) Z4 rfl)) rfl)
noncomputable def shI(R:Nat->Nat->Int)(i j k:Nat):Bool:=decide (R i j+R j k<R i k)
theorem Zjv{n x y i j:Nat}{S:Nat->Nat->Int}{δ:Zh}(hx:x<n)(hy:y<n)(h0:δ[0]? =YB (YB (.fz (Zem n S))))(h1:δ[i]? =YB (YB (.fz (.int x))))(h2:δ[j]? =YB (YB (.fz (.int y)))):EvV (Yb gIx (Yb gIx (Ze 0) (Ze i)) (Ze j)) δ (.int (S x y)):=Y4 (Y4 (Za h0) (Za h1) (Zxh hx)) (Za h2) (Z2o hy)
theorem Z0v{it:FI}{g:FG}{S S':FS}{δ:Zh}{ds:List Xa}{Q:Xa->Prop}(I:Nat->Zh->Prop)(hi:EvI it δ ds)(h0:I 0 δ)(turn:∀(i:Nat) (d:Xa) (δ:Zh),ds[i]? =YB d->I i δ->(∃δ1 δ2,g d δ=YB δ1∧S δ1= .nx δ2∧I (i+1) δ2)∨∃δ1,g d δ=YB δ1∧Zq3 S δ1 Q)(fin:∀δ',I ds.length δ'->Zq3 S' δ' Q):Zq3 (Z5 (Zaj it g S) S') δ Q:=by
 have key:(∃δ',forLoop g S ds δ= .nx δ'∧I ds.length δ')∨∃o δ',forLoop g S ds δ= .rt o δ'∧Q o.data:=by
  clear fin hi
  induction ds generalizing δ I with
  | nil=>exact .inl ⟨δ,rfl,h0⟩
  | cons d ds ih=>
   rcases turn 0 d δ rfl h0 with⟨δ1,δ2,e1,e2,h1⟩|⟨δ1,e1,d',⟨o,δ2,e2,hd⟩,hq⟩
   ·rcases ih (δ:=δ2) (λi δ=>I (i+1) δ) h1 λi d' δ hd hi=>turn (i+1) d' δ (by simpa using hd) hi with⟨δ',e3,h3⟩|⟨o,δ',e3,h3⟩
    ·refine .inl ⟨δ',?_,h3⟩
     rw[Zad,e1];dsimp only;rw[e2];exact e3
    ·refine .inr ⟨o,δ',?_,h3⟩
     rw[Zad,e1];dsimp only;rw[e2];exact e3
   ·refine .inr ⟨o,δ2,?_,by rw[hd];exact hq⟩
    rw[Zad,e1];dsimp only;rw[e2]
 rcases key with⟨δ',e,h⟩|⟨o,δ',e,h⟩
 ·exact Zd3 (Zgx hi e) (fin δ' h)
 ·exact Zx7 ⟨_,⟨o,δ',Zgx hi e,rfl⟩,h⟩
noncomputable def Zv9(p:List Int)(lo hi:Option Int):List Int:=(p.drop (HT.sIx p.length 0 lo)).take (HT.sIx p.length p.length hi-HT.sIx p.length 0 lo)
theorem Zxv(p:List Int)(lo hi:Option Int):cutD (p.map Xq) lo hi=(Zv9 p lo hi).map Xq:=by
 unfold cutD Zv9;rw[Xc,List.map_take,List.map_drop]
theorem Zsx{p:List Int}{k:Nat}(h:k≤p.length):Zv9 p (YB (k:Int)) YC=p.drop k:=by
 unfold Zv9;rw[HT.sIx_none,HT.sIx_nat,Nat.min_eq_left h,List.take_of_length_le (by rw[Q8];omega)]
theorem Z6o{e:FE}{δ:Zh}{r p:List Int}{lo hi:FO}{l h:Option Int}(he:EvV e δ (Zw r))(hl:EvO lo δ l)(hh:EvO hi δ h)(hp:Zv9 r l h=p):EvV (fSl e lo hi) δ (Zw p):=hp▸(Ycv (ds:=r.map Xq) he hl hh).cast (by rw[Zxv];rfl)
theorem getD_mem{p:List Int}{i:Nat}(h:i<p.length):p.getD i 0∈p:=by
 rw[Xe,Xm h];exact Vu h
noncomputable def rl(S:Nat->Nat->Int)(i j k l:Nat):Int:=max (max (S i j+S k l) (S i k+S j l)) (S i l+S j k)-(S i j+S k l)
theorem Zkl{n i j k l:Nat}{S:Nat->Nat->Int}(hi:i<n)(hj:j<n)(hk:k<n)(hl:l<n):Told Yg [Zem n S,.int i,.int j,.int k,.int l] (.tuple [.int (S i j+S k l),.int (S i k+S j l),.int (S i l+S j k)]) :=
 Z0 rfl<|Wt<|Zap (Zb (Zar (Zjv hi hj rfl rfl rfl) (Zjv hk hl rfl rfl rfl)) (Zb (Zar (Zjv hi hk rfl rfl rfl) (Zjv hj hl rfl rfl rfl)) (Zb (Zar (Zjv hi hl rfl rfl rfl) (Zjv hj hk rfl rfl rfl)) Zg))) (show 3≤1000 by decide)
theorem Zj9(a b c:Int):Told Yk [.tuple [.int a,.int b,.int c]] (.int (max (max a b) c-a)) :=
 Z0 rfl<|Wt<|Ztq (W9 (Zb Za Zg) (show Zww [.tuple [.int a,.int b,.int c]]=YB (.int (max (max a b) c))from rfl)) (Y4 (d:=.int a) Za Z4 rfl)
theorem Yag{a b:FE}{δ:Zh}{i j:Int}(ha:EvV a δ (.int i))(hb:EvV b δ (.int j)):EvV (Zaq Z0a (Zc a (Zc b Zn))) δ (.int (min i j)):=W9 (Zb ha (Zb hb Zg)) (My.Zz0 i j)
noncomputable def Zm7(p:List Int)(i:Nat):List (Int×Int):=(Xd i).flatMap λk=>(p.drop k).map λy=>(p.getD k 0,y)
noncomputable def dbl(p:List Int):List (Int×Int):=Zm7 p p.length
theorem Zjt(p:List Int)(i:Nat):Zm7 p (i+1)=Zm7 p i++(p.drop i).map λy=>(p.getD i 0,y):=by
 unfold Zm7;rw[V8,List.flatMap_append,List.flatMap_cons,List.flatMap_nil,QW]
theorem Zvv(p:List Int)(i:Nat):(Zm7 p i).length≤i*p.length:=by
 induction i with
 | zero=>exact QZ _
 | succ i ih=>
  rw[Zjt,Qw,Xc,Q8,Nat.succ_mul];omega
theorem Zhz{p:List Int}{x:Int×Int}:x∈dbl p↔∃k j,k≤j∧j<p.length∧x=(p.getD k 0,p.getD j 0):=by
 unfold dbl Zm7;rw[List.mem_flatMap];constructor
 ·rintro⟨k,hk,h⟩
  obtain⟨y,hy,rfl⟩:=XD.mp h;obtain⟨j,hj,rfl⟩:=BR hy;rw[Q8]at hj;refine⟨k,k+j,by omega,by omega,?_⟩;rw[List.getElem_drop,Xe (i:=k+j),Xm (by omega)];rfl
 ·rintro⟨k,j,h1,h2,rfl⟩
  refine⟨k,Xx.mpr (by omega),XD.mpr ⟨_,?_,rfl⟩⟩;have:p.getD j 0=(p.drop k).getD (j-k) 0:=by
   rw[Xe,Xe,List.getElem?_drop,show k+(j-k)=j by omega]
  rw[this];exact getD_mem (by rw[Q8];omega)
theorem Ze9{p:List Int}{x:Int×Int}(h:x∈dbl p):x.1∈p∧x.2∈p:=by
 obtain⟨k,j,h1,h2,rfl⟩:=Zhz.mp h;exact⟨getD_mem (by omega),getD_mem h2⟩
theorem Zt2{p:List Int}{i:Nat}{d:Xa}(h:(p.map Xq)[i]? =YB d):i<p.length∧d= .int (p.getD i 0):=by
 rw[Xl]at h;cases e:p[i]? with
 | none=>rw[e]at h;cases h
 | some x=>
  rw[e]at h;cases h;exact⟨(Xw.mp e).1,by rw[Xe,e];rfl⟩
theorem Zez(p:List Int)(hl:p.length≤100):Told W8 [Zw p] (.list ((dbl p).map prD)):=by
 refine Z0 rfl<|Z9 Zdz<|Zgo (ds:=Zj6 (p.map Xq)) (λi δ=>∃z1 z2 z3,δ=[YB (.fz (Zw p)),YB (.nd (((Zm7 p i).map prD).map OT.fz)),z1,z2,z3]) (Z0q Za) ⟨_,_,_,rfl⟩ (λi d δ hd q=>?_) λδ' q=>?_
 ·obtain⟨z1,z2,z3,rfl⟩:=q
  obtain⟨x,hx,rfl⟩:=Zl0 hd;obtain⟨hi,rfl⟩:=Zt2 hx;have ln:=Zvv p i;have l2:i*p.length≤100*100:=Nat.mul_le_mul (by omega) hl;refine Zo1 (ds:=(p.drop i).map Xq) (λj δ=>∃z,δ=[YB (.fz (Zw p)),YB (.nd (((Zm7 p i++((p.drop i).take j).map λy=>(p.getD i 0,y)).map prD).map OT.fz)),YB (.fz (.int i)),YB (.fz (.int (p.getD i 0))),z]) rfl (Wj (Z6o Za (Yhi Za) Ygf (Zsx (by omega)))) ⟨z3,by rw[List.take_zero,List.map_nil,QW];rfl⟩ (λj d δ hd q=>?_) λδ' q=>?_
  ·obtain⟨z,rfl⟩:=q
   obtain⟨hj,rfl⟩:=Zt2 hd;refine⟨_,_,rfl,.inl (Zdj (Zap (Zb Za (Zb Za Zg)) (show 2≤1000 by decide)) rfl (by rw[Xc,Xc,Qw,Xc,Bv,Q8];omega)),YB (.fz (.int ((p.drop i).getD j 0))),?_⟩;have e:(p.drop i).take (j+1)=(p.drop i).take j++[(p.drop i).getD j 0]:=by
    rw[Vg,Xe,Xm hj];rfl
   rw[e];simp only[XM,Bm];rfl
  ·obtain⟨z,rfl⟩:=q
   rw[Xc,Vc,←Zjt];exact⟨_,_,_,rfl⟩
 ·obtain⟨z1,z2,z3,rfl⟩:=q
  refine Z31 rfl ?_;rw[OT.data_nd,OT.map_fz];unfold Zj6;rw[Xc,List.length_zipIdx,Xc];rfl
noncomputable def away(n:Nat)(p:List Int):List Int:=((Xd n).filter λi:Nat=>!decide ((i:Int)∈p)).map λi:Nat=>(i:Int)
theorem Yo{n:Nat}{p:List Int}{x:Int}:x∈away n p↔0≤x∧x<n∧x∉p:=by
 unfold away;rw[XD];constructor
 ·rintro⟨i,hi,rfl⟩
  obtain⟨h1,h2⟩:=QF.mp hi;have:=Xx.mp h1;exact⟨by omega,by omega,by simpa using h2⟩
 ·rintro⟨h1,h2,h3⟩
  refine⟨x.toNat,QF.mpr ⟨Xx.mpr (by omega),?_⟩,by omega⟩;rw[show((x.toNat:Nat):Int)=x by omega,YS h3];rfl
theorem Zy0(n:Nat)(p:List Int):(away n p).length≤n:=by
 unfold away;rw[Xc];exact Qt (JV _ _) (Nat.le_of_eq Xj)
theorem Zl1(neg:Bool)(x:Int)(p:List Int):Z2g neg (.int x) (Zw p)=YB (.bool (if neg then !decide (x∈p)else decide (x∈p))):=by
 have e:memS (.int x) (p.map Xq)=decide (x∈p):=by
  unfold memS;rw[List.any_map];rw[Bool.eq_iff_iff,List.any_eq_true,decide_eq_true_eq];constructor
  ·rintro⟨y,hy,h⟩
   have:(y==x)=YD:=h;rw[←eq_of_beq this];exact hy
  ·intro h
   exact⟨x,h,(show(x==x)=YD from beq_self_eq_true x)⟩
 have s:(p.map Xq).all scD=YD:=by
  rw[Vd];intro d hd;obtain⟨y,_,rfl⟩:=XD.mp hd;rfl
 show(if(scD (.int x)&&(p.map Xq).all scD)=YD then YB (PyData.bool (if neg then !memS (.int x) (p.map Xq)else memS (.int x) (p.map Xq)))else YC)=_;rw[s,e];rfl
theorem Z2m{n:Nat}{p:List Int}{caps:List Nat}{it:FI}{δ:Zh}(hi:EvI it δ (Zdh 0 n))(hn:n≤1000)(hb:blk 1 caps δ=[YC,YB (.fz (Zw p))]):EvV (Yr 1 caps it (gNm 0) (tV (Zi (Z2g YD) (Ze 0) (Ze 1))) (Ze 0)) δ (Zw (away n p)):=by
 refine(Zkx (cs:=[YB (.fz (Zw p))]) (Xd n) (λi:Nat=>Xq (0+(i:Int))) (λi=>!decide ((i:Int)∈p)) hi (by rw[Xj];omega) hb (λx _=>Ze1 (Zo Za Za ?_)) λx _ _=>rfl).cast ?_
 ·rw[Zl1,BZ];rfl
 ·unfold away Zw
  rw[XQ];refine YT XX (Xn λi _=>?_);show Xq (0+(i:Int))=Xq i;rw[BZ]
noncomputable def rlI(S:Nat->Nat->Int)(p q:Int×Int):Int:=rl S p.1.toNat p.2.toNat q.1.toNat q.2.toNat
noncomputable def Lst(S:Nat->Nat->Int)(A B:List Int)(m:Int):Prop:=(∃p∈dbl A,∃q∈dbl B,m=rlI S p q)∧∀p∈dbl A,∀q∈dbl B,m≤rlI S p q
theorem Lst.exists(S:Nat->Nat->Int){A B:List Int}{p q:Int×Int}(hp:p∈dbl A)(hq:q∈dbl B):∃m,Lst S A B m:=by
 obtain⟨vs,hv⟩:∃vs,vs=(dbl A).flatMap λp=>(dbl B).map λq=>rlI S p q:=⟨_,rfl⟩;have mem:∀x,x∈vs↔∃p∈dbl A,∃q∈dbl B,x=rlI S p q:=λx=>by
  rw[hv,List.mem_flatMap];constructor
  ·rintro⟨p,hp,h⟩
   obtain⟨q,hq,rfl⟩:=XD.mp h;exact⟨p,hp,q,hq,rfl⟩
  ·rintro⟨p,hp,q,hq,rfl⟩
   exact⟨p,hp,XD.mpr ⟨q,hq,rfl⟩⟩
 have hm:=(mem _).mpr ⟨p,hp,q,hq,rfl⟩;obtain⟨h1,h2⟩:=Ztf (ns:=vs) (List.length_pos_of_mem hm);exact⟨Yde vs,(mem _).mp h1,λp hp q hq=>h2 _ ((mem _).mpr ⟨p,hp,q,hq,rfl⟩)⟩
theorem Zt5{n:Nat}{S:Nat->Nat->Int}{δ:Zh}{ea eb ec ee:FE}{a b c e:Int}(h0:δ[0]? =YB (YB (.fz (Zem n S))))(h2:δ[2]? =YB (YB (.fz (fnD "split_rule"))))(ha:EvV ea δ (.int a))(hb:EvV eb δ (.int b))(hc:EvV ec δ (.int c))(he:EvV ee δ (.int e))(ba:0≤a∧a<n)(bb:0≤b∧b<n)(bc:0≤c∧c<n)(be:0≤e∧e<n) :
  EvV (Zet 2 "split_rule" Yk (Zc (Zv Yg (Zc (Ze 0) (Zc ea (Zc eb (Zc ec (Zc ee Zn)))))) Zn)) δ (.int (rlI S (a,b) (c,e))):=by
 have t:=Zkl (S:=S) (n:=n) (i:=a.toNat) (j:=b.toNat) (k:=c.toNat) (l:=e.toNat) (by omega) (by omega) (by omega) (by omega);rw[Bp ba.1,Bp bb.1,Bp bc.1,Bp be.1]at t;exact Zxg h2 (Zb (Zq (Zb (Za h0) (Zb ha (Zb hb (Zb hc (Zb he Zg))))) t) Zg) (Zj9 _ _ _)
noncomputable def Z7w(n:Nat)(S:Nat->Nat->Int)(A B:List Int)(least:Int)(z6 z7 z8 z9:Option OT):Zh:=[YB (.fz (Zem n S)),YB (.fz (Zw A)),YB (.fz (fnD "split_rule")),YB (.fz (Zw B)),YB (.fz (.list ((dbl B).map prD))),YB (.fz (.int least)),z6,z7,z8,z9]
theorem Zp0{n:Nat}{S:Nat->Nat->Int}{A:List Int}(hn:n≤100)(hl:A.length≤100)(hA:∀x∈A,1≤x∧x<n)(ne:A≠[]):∃m,Lst S A (away n A) m∧Told Ye [Zem n S,Zw A,fnD "split_rule"] (.int (max 0 m)):=by
 have hp:0<A.length:=List.length_pos_iff.mpr ne;have n0:0<n:=by have:=hA _ (getD_mem hp);omega
 obtain⟨B,hB⟩:∃B,B=away n A:=⟨_,rfl⟩;have b0:(0:Int)∈B:=by rw[hB];exact Yo.mpr ⟨by decide,by omega,λz=>YX (hA 0 z).1 (by decide)⟩
 have inB:∀x∈B,0≤x∧x<n:=λx hx=>by rw[hB]at hx;obtain⟨h1,h2,_⟩:=Yo.mp hx;exact⟨h1,h2⟩
 have inA:∀x∈A,0≤x∧x<n:=λx hx=>⟨JG (by decide) (hA x hx).1,(hA x hx).2⟩;have a00:(A.getD 0 0,A.getD 0 0)∈dbl A:=Zhz.mpr ⟨0,0,X6 _,hp,rfl⟩;have b00:((0:Int),(0:Int))∈dbl B:=by
  obtain⟨j,hj,e⟩:=BR b0;exact Zhz.mpr ⟨j,j,X6 _,hj,by rw[Xe,Xm hj,e];rfl⟩
 obtain⟨m,hm⟩:=Lst.exists S a00 b00;rw[←hB];refine⟨m,hm,?_⟩;have lB:B.length≤100:=by rw[hB];exact Qt (Zy0 n A) hn
 have inner:∀(p:Int×Int) (least:Int) (z8 z9:Option OT),p∈dbl A->(∃p∈dbl A,∃q∈dbl B,least=rlI S p q)->∃δ',Zaj (Zcu (Ze 4)) (gTp 2 (gCn (gNm 8) (gCn (gNm 9) gNl)))
   (wE (Zaq Z0a (Zc (Ze 5) (Zc (Zet 2 "split_rule" Yk (Zc (Zv Yg (Zc (Ze 0) (Zc (Ze 6) (Zc (Ze 7) (Zc (Ze 8) (Zc (Ze 9) Zn)))))) Zn)) Zn))) (W2 5))
   (Z7w n S A B least (YB (.fz (.int p.1))) (YB (.fz (.int p.2))) z8 z9)= .nx δ'∧
   ∃least' z8 z9,δ'=(Z7w n S A B least' (YB (.fz (.int p.1))) (YB (.fz (.int p.2))) z8 z9)∧(∃p∈dbl A,∃q∈dbl B,least'=rlI S p q)∧least'≤least∧∀q∈dbl B,least'≤rlI S p q:=λp least z8 z9 hp hin=>by
  obtain⟨p1,p2⟩:=Ze9 hp;obtain⟨δ',e,least',z8,z9,rfl,h1,h2,h3⟩:=Zeg (S:=wE (Zaq Z0a (Zc (Ze 5) (Zc (Zet 2 "split_rule" Yk (Zc (Zv Yg (Zc (Ze 0) (Zc (Ze 6) (Zc (Ze 7) (Zc (Ze 8) (Zc (Ze 9) Zn)))))) Zn)) Zn))) (W2 5)) (g:=gTp 2 (gCn (gNm 8) (gCn (gNm 9) gNl))) (it:=Zcu (Ze 4)) (ds:=(dbl B).map prD) (δ:=(Z7w n S A B least (YB (.fz (.int p.1))) (YB (.fz (.int p.2))) z8 z9))
   (λi δ=>∃least' z8 z9,δ=(Z7w n S A B least' (YB (.fz (.int p.1))) (YB (.fz (.int p.2))) z8 z9)∧(∃p∈dbl A,∃q∈dbl B,least'=rlI S p q)∧least'≤least∧∀j q,j<i->(dbl B)[j]? =YB q->least'≤rlI S p q) (Wj Za) ⟨least,z8,z9,rfl,hin,Ui _,λj q hj=>YX hj (Vp j)⟩ λi d δ hd q=>by
   obtain⟨least',z8,z9,rfl,h1,h2,h3⟩:=q;rw[Xl]at hd;cases e:(dbl B)[i]? with
   | none=>rw[e]at hd;cases hd
   | some q=>
    rw[e]at hd;cases hd;have hq:=Qn e;obtain⟨q1,q2⟩:=Ze9 hq;refine⟨_,_,rfl,.inl (Z3 (Yag Za (Zt5 rfl rfl Za Za Za Za (inA _ p1) (inA _ p2) (inB _ q1) (inB _ q2)))),min least' (rlI S p q),YB (.fz (.int q.1)),YB (.fz (.int q.2)),rfl,?_,JG (Int.min_le_left ..) h2,λj q' hj hq'=>?_⟩
    ·rcases Int.le_total least' (rlI S p q)with z|z
     ·rw[Int.min_eq_left z];exact h1
     ·rw[Int.min_eq_right z];exact⟨p,hp,q,hq,rfl⟩
    ·by_cases cj:j=i
     ·subst cj;rw[e]at hq';cases hq';exact Int.min_le_right ..
     ·exact JG (Int.min_le_left ..) (h3 j q' (Nat.lt_of_le_of_ne (Nat.le_of_lt_succ hj) cj) hq')
  refine⟨_,e,least',z8,z9,rfl,h1,h2,λq hq=>?_⟩;obtain⟨j,hj⟩:=BK hq;exact h3 j q (by rw[Xc];exact(Xw.mp hj).1) hj
 have key:∃d,Told Ye [Zem n S,Zw A,fnD "split_rule"] d∧d= .int (max 0 m):=by
  refine Zw5 rfl<|Zd3 (Z3 (hB▸Z2m (Zm2 (Zb (W9 (Zb Za Zg) (Zsr n S)) Zg) (Qt hn (by decide))) (Qt hn (by decide)) rfl))<|Zd3 (Z3 (Zq (Zb Za Zg) (Zez B lB)))<|
   Zd3 (Z3 (Zt5 rfl rfl (Zm8 Za Z4 (by decide) (by omega)) (Zm8 Za Z4 (by decide) (by omega)) Z4 Z4 (inA _ (getD_mem hp)) (inA _ (getD_mem hp)) ⟨by decide,by omega⟩ ⟨by decide,by omega⟩))<|
   Z0v (ds:=(dbl A).map prD) (λi δ=>∃least z6 z7 z8 z9,δ=(Z7w n S A B least z6 z7 z8 z9)∧(∃p∈dbl A,∃q∈dbl B,least=rlI S p q)∧(∀j p,j<i->(dbl A)[j]? =YB p->∀q∈dbl B,least≤rlI S p q)∧(0<i->0<least))
    (Wj (Zq (Zb Za Zg) (Zez A hl))) ⟨_,YC,YC,YC,YC,rfl,⟨_,a00,_,b00,rfl⟩,λj p hj=>YX hj (Vp j),λz=>YX z (Bj 0)⟩ (λi d δ hd q=>?_) λδ' q=>?_
  ·obtain⟨least,z6,z7,z8,z9,rfl,h1,h2,h3⟩:=q
   rw[Xl]at hd;cases e:(dbl A)[i]? with
   | none=>rw[e]at hd;cases hd
   | some p=>
    rw[e]at hd;cases hd;have hp':=Qn e;obtain⟨δ',e1,least',z8,z9,rfl,g1,g2,g3⟩:=inner p least z8 z9 hp' h1
    by_cases c:least'≤0
    ·refine .inr ⟨_,rfl,Zd3 e1 (Z47 (Ze1 (Zum Za Z4 (YQ c))) (Zm0 Z4 ?_))⟩
     obtain⟨p',hp2,q',hq2,e2⟩:=g1;have:=hm.2 p' hp2 q' hq2;rw[←e2]at this;rw[Ue (JG this c)]
    ·refine .inl ⟨_,_,rfl,Je e1 (Jb (Ze1 (Zum Za Z4 (YS c))) rfl),least',_,_,_,_,rfl,g1,λj p' hj hp2 q hq=>?_,λ_=>Int.lt_of_not_ge c⟩
     by_cases cj:j=i
     ·subst cj;rw[e]at hp2;cases hp2;exact g3 q hq
     ·exact JG g2 (h2 j p' (Nat.lt_of_le_of_ne (Nat.le_of_lt_succ hj) cj) hp2 q hq)
  ·obtain⟨least,z6,z7,z8,z9,rfl,h1,h2,h3⟩:=q
   rw[Xc]at h2 h3;refine Zm0 Za ?_;have l0:=h3 (List.length_pos_of_mem a00);have e:least=m:=by
    refine Int.le_antisymm ?_ ?_
    ·obtain⟨⟨p,hp',q,hq,e⟩,_⟩:=hm
     rw[e];obtain⟨j,hj⟩:=BK hp';exact h2 j p (Xw.mp hj).1 hj q hq
    ·obtain⟨p,hp',q,hq,e⟩:=h1
     rw[e];exact hm.2 p hp' q hq
   rw[←e,V3 (By l0)]
 obtain⟨d,h,rfl⟩:=key;exact h
theorem Zhx{t b:Int}(hb:b≠0):((Xh t b).den:Int)∣b:=by
 rw[Rat.den_divInt,YM hb];have:(b.natAbs/b.gcd t:Nat)∣b.natAbs:=Nat.div_dvd_of_dvd (by rw[Vz];exact Nat.gcd_dvd_left ..);exact Int.ofNat_dvd_left.mpr this
theorem Jq{a m k:Int}(hk:0<k)(hm:0<m):Xh (k*a) (m*k)=Xh a m:=by
 rw[Int.mul_comm k a];exact Rat.divInt_mul_right (by omega)
noncomputable def Zbe(n:Nat)(R:Nat->Nat->Int)(b:Int):List (List Rat):=(Xd n).map λi=>(Xd n).map λj=>Xh (R i j) b
theorem Ziw(T:List (List Rat)):Zcc [tbD T]=YB (.int T.length):=by
 unfold tbD;rw[Zmp,Xc]
theorem Zdq(n:Nat)(R:Nat->Nat->Int)(b:Int):(Zbe n R b).length=n:=by unfold Zbe;simp
theorem Zul{k x y:Int}(hk:0<k):max (k*x) (k*y)=k*max x y:=by
 rcases Int.le_total x y with h|h
 ·rw[V3 h,V3 (JC h (by omega))]
 ·rw[Ue h,Ue (JC h (by omega))]
theorem Zwt{k x:Int}(hk:0<k):max 0 (k*x)=k*max 0 x:=by
 rcases Int.le_total 0 x with h|h
 ·rw[V3 h,V3 (Uv (by omega) h)]
 ·rw[Ue h,Ue (Vk (by omega) h),Uu]
theorem Zut{S R:Nat->Nat->Int}{k:Int}(hk:0<k){n i j l m:Nat}(h:∀i j,i<n->j<n->k*S i j=R i j)(hi:i<n)(hj:j<n)(hl:l<n)(hm:m<n):rl R i j l m=k*rl S i j l m:=by
 unfold rl;rw[←h i l hi hl,←h j m hj hm,←h i m hi hm,←h j l hj hl,←h i j hi hj,←h l m hl hm,←Uh,←Uh,←Uh,Zul hk,Zul hk,←Int.mul_sub]
theorem Lst.scaled{S R:Nat->Nat->Int}{k:Int}(hk:0<k){n:Nat}{A B:List Int}(h:∀i j,i<n->j<n->k*S i j=R i j)(hA:∀x∈A,0≤x∧x<n)(hB:∀x∈B,0≤x∧x<n){m:Int}(hm:Lst S A B m):Lst R A B (k*m):=by
 have e:∀p∈dbl A,∀q∈dbl B,rlI R p q=k*rlI S p q:=λp hp q hq=>by
  obtain⟨p1,p2⟩:=Ze9 hp;obtain⟨q1,q2⟩:=Ze9 hq;have:=hA _ p1;have:=hA _ p2;have:=hB _ q1;have:=hB _ q2;exact Zut hk h (by omega) (by omega) (by omega) (by omega)
 obtain⟨⟨p,hp,q,hq,e1⟩,h2⟩:=hm;exact⟨⟨p,hp,q,hq,by rw[e p hp q hq,e1]⟩,λp hp q hq=>by rw[e p hp q hq];exact JC (h2 p hp q hq) (by omega)⟩
theorem Zae(n:Nat)(R:Nat->Nat->Int)(b:Int):tbD (Zbe n R b)=Z1 n (frG λi j=>Xh (R i j) b):=by
 unfold tbD Zbe Z1;rw[XQ];refine YT XX (Xn λi _=>?_);show Zp4 _=_;unfold Zp4;rw[XQ];rfl
theorem Z4n{x y z b:Int}(hb:0<b)(h:x≤y+z):Xh x b≤Xh y b+Xh z b:=by
 have e:Xh y b+Xh z b=Xh (y+z) b:=by
  rw[QM,QM,QM,Vw,Vw,Vw,Rat.intCast_add,Rat.add_mul]
 rw[e];refine(Rat.le_iff_sub_nonneg _ _).mpr ?_;have e2:Xh (y+z) b-Xh x b=Xh (y+z-x) b:=by
  rw[QM,QM,QM,Vw,Vw,Vw,Rat.intCast_sub,Ug,Ug,Rat.add_mul,Rat.neg_mul]
 rw[e2];exact Zvh (by omega) hb
theorem Ziz{y z b:Int}:Xh y b+Xh z b=Xh (y+z) b:=by
 rw[QM,QM,QM,Vw,Vw,Vw,Rat.intCast_add,Rat.add_mul]
theorem Yau{x y z b:Int}(hb:0<b):Xh y b+Xh z b<Xh x b↔y+z<x:=by
 constructor
 ·intro h
  refine Int.not_le.mp λz=>?_;exact YX h (Rat.not_lt.mpr (Z4n hb z))
 ·intro h
  refine Rat.not_le.mp λw=>?_;rw[Ziz]at w;have nb:((b:Int):Rat)≠0:=by
   intro e;have:b=0:=by exact_mod_cast e
   omega
  have b0:(0:Rat)≤((b:Int):Rat):=by exact_mod_cast By hb
  have w2:=Rat.mul_le_mul_of_nonneg_right w b0;rw[QM,QM,Rat.div_mul_cancel nb,Rat.div_mul_cancel nb]at w2;have:x≤y+z:=by exact_mod_cast w2
  omega
theorem Ydv{R:Nat->Nat->Int}{b:Int}(hb:0<b):(shR λi j=>Xh (R i j) b)=shI R:=by
 funext i j k;exact decide_eq_decide.mpr (Yau hb)
theorem Ycf{R:Nat->Nat->Int}{b:Int}(hb:0<b)(bb:Bt 300 b)(bR:∀i j,Bt 300 (R i j)):Tq λi j=>Xh (R i j) b where
 num:=λi j=>Zfl (by omega) ((bR i j).mono (by decide))
 den:=λi j=>Znc (by omega) (bb.mono (by decide))
theorem Zl4{n:Nat}(hn:n≤10)(R:Nat->Nat->Int){b:Int}(hb:0<b)(bb:Bt 300 b):Told Zag [Z1 n (inG R),.int b] (tbD (Zbe n R b)):=by
 rw[Zae];exact Z0 rfl<|Wt<|Jl (cs:=[YB (.fz (.int b))]) (Xd n) (λi=>.list ((Xd n).map λj=>inG R i j)) (λi=>.list ((Xd n).map λj=>frG (λi j=>Xh (R i j) b) i j)) (Wj Za) (by rw[Xj];omega) rfl λi _=>
  Jl (cs:=[YB (.fz (.int b))]) (Xd n) (λj=>inG R i j) (λj=>frG (λi j=>Xh (R i j) b) i j) (Wj Za) (by rw[Xj];omega) rfl λj _=>Zq (Zb Za (Zb Za Zg)) (Za0 hb bb)
noncomputable def ctD(p:List Int×Rat):Xa:=.tuple [Zw p.1,frD p.2]
noncomputable def Ze7(L:List (List Int×Rat)):Xa:=.list (L.map ctD)
noncomputable def Zz6(L:List (List Int×Rat)):OT:=.nd ((L.map ctD).map OT.fz)
theorem Zh7(L:List (List Int×Rat)):(Zz6 L).data=Ze7 L:=by unfold Zz6 Ze7;rw[OT.data_nd,OT.map_fz]
theorem Zpt{α:Type}(f g:α->Xa)(L:List α):Zl7 (L.map f) (L.map g)=L.map λp=>.tuple [f p,g p]:=by
 induction L with
 | nil=>rfl
 | cons x L ih=>exact YT (_::·) ih
theorem Z0t{t:FT}{a b:FE}{δ:Zh}{d:Xa}(h:EvT t δ YD)(k:EvV a δ d):EvV (fIf t a b) δ d:=by
 obtain⟨o,e1,e2⟩:=k;exact⟨o,by unfold fIf;unfold EvT at h;rw[h];exact e1,e2⟩
theorem Z4f{t:FT}{a b:FE}{δ:Zh}{d:Xa}(h:EvT t δ YF)(k:EvV b δ d):EvV (fIf t a b) δ d:=by
 obtain⟨o,e1,e2⟩:=k;exact⟨o,by unfold fIf;unfold EvT at h;rw[h];exact e1,e2⟩
noncomputable def sd(p:List Int×Rat)(i:Nat):Int:=if(i:Int)∈p.1 then 1 else 0
noncomputable def Zf5(n:Nat)(p:List Int×Rat):Xa:=.list ((Xd n).map λi=>.int (sd p i))
theorem Zn6{n:Nat}(hn:n≤10)(p:List Int×Rat):Told Zau [.int n,Zw p.1] (Zf5 n p) :=
 Z0 rfl<|Wt<|Jl (cs:=[YB (.fz (Zw p.1))]) (Xd n) (λi:Nat=>Xq (0+(i:Int))) (λi=>.int (sd p i)) (Zm2 (Zb Za Zg) (by omega)) (by rw[Xj];omega) rfl λi _=>by
  have t:∀{b:Bool},decide ((i:Int)∈p.1)=b->EvT (tV (Zi (Z2g YF) (Ze 0) (Ze 1))) [YB (.fz (.int (0+(i:Int)))),YB (.fz (Zw p.1))] b:=λhb=>hb▸Ze1 (Zo Za Za (by rw[Zl1,BZ];rfl));unfold sd
  by_cases c:(i:Int)∈p.1
  ·rw[YL c];exact Z0t (t (YQ c)) Z4
  ·rw[YM c];exact Z4f (t (YS c)) Z4
theorem Zlp{n:Nat}(hn:n≤10)(L:List (List Int×Rat))(hl:L.length<64):Told Zak [.int n,Ze7 L] (.list (L.map (Zf5 n))) :=
 Z0 rfl<|Wt<|Jl (cs:=[YB (.fz (.int n))]) L ctD (Zf5 n) (Wj Za) (by omega) rfl λp _=>Zq (Zb Za (Zb (Y4 (d:=Zw p.1) Za Z4 rfl) Zg)) (Zn6 hn p)
noncomputable def prt(i j:Nat)(p:List Int×Rat):Bool:=!decide (sd p i=sd p j)
noncomputable def SmL(L:List (List Int×Rat))(i j:Nat):Rat:=((L.filter (prt i j)).map λp=>p.2).sum
noncomputable def Zjd(L:List (List Int×Rat)):Nat×Nat->Xa:=λp=>frD (SmL L p.1 p.2)
theorem Z0b{m:Int}:∀(L:List (List Int×Rat)),(∀p∈L,(p.2.den:Int)∣m)->(((L.map λp=>scI m p.2).sum:Int):Rat)=(L.map λp=>p.2).sum*(m:Rat)
 | [],_=>by simp
 | p::L,h=>by
  rw[Qg,Qg,UV,UV,Rat.intCast_add,Zzw (h p (.head _)),Z0b L λq hq=>h q (.tail _ hq),Rat.add_mul]
theorem Z5c{m:Int}(hm:0<m)(L:List (List Int×Rat))(h:∀p∈L,(p.2.den:Int)∣m):Xh (L.map λp=>scI m p.2).sum m=(L.map λp=>p.2).sum:=by
 have m0:(m:Rat)≠0:=λz=>by
  have:=Rat.intCast_inj.mp (z.trans (Rat.intCast_zero).symm);omega
 rw[QM,Z0b L h,Vw,Rat.mul_assoc,Rat.mul_inv_cancel _ m0,Rat.mul_one]
theorem Zs8(es:List Int):Z9r [Zw es]=YB (.int es.sum):=by
 show(Zc8 (es.map Xq)).bind _=_;rw[Zaw];rfl
theorem Zqz{n:Nat}{m:Int}{L:List (List Int×Rat)}{a b:Nat}{δ:Zh}(ha:a<n)(hb:b<n)(hl:L.length<64)(h5:δ[5]? =YB (YB (.fz (.list (L.map (Zf5 n))))))(h4:δ[4]? =YB (YB (.fz (.list (L.map λp=>.int (scI m p.2))))))(hk:blk 2 [7,8] δ=[YC,YC,YB (.fz (.int a)),YB (.fz (.int b))]) :
  EvV (Yr 2 [7,8] (Zdx (Zc (Ze 5) (Zc (Ze 4) Zn))) (gTp 2 (gCn (gNm 0) (gCn (gNm 1) gNl))) (tV (Zi gNe (Yb gIx (Ze 0) (Ze 2)) (Yb gIx (Ze 0) (Ze 3)))) (Ze 1)) δ (Zw ((L.filter (prt a b)).map λp=>scI m p.2)):=by
 have hi:EvI (Zdx (Zc (Ze 5) (Zc (Ze 4) Zn))) δ (L.map λp=>.tuple [Zf5 n p,.int (scI m p.2)]):=Zf9 (Za h5) (Za h4) (Zpt (Zf5 n) (λp=>.int (scI m p.2)) L);obtain⟨ts,δ',e1,z0,z1,rfl,e2⟩:=Z93 (t:=tV (Zi gNe (Yb gIx (Ze 0) (Ze 2)) (Yb gIx (Ze 0) (Ze 3)))) (e:=Ze 1) (g:=gTp 2 (gCn (gNm 0) (gCn (gNm 1) gNl))) (δ:=[YC,YC,YB (.fz (.int a)),YB (.fz (.int b))])
  (λk acc δ=>∃z0 z1,δ=[z0,z1,YB (.fz (.int a)),YB (.fz (.int b))]∧acc=(((L.take k).filter (prt a b)).map λp=>scI m p.2).map Xq) (L.map λp=>.tuple [Zf5 n p,.int (scI m p.2)]) 0 [] ⟨YC,YC,rfl,by simp⟩ (λk d acc δ hd q=>by
   obtain⟨z0,z1,rfl,rfl⟩:=q;rw[VR]at*
   rw[Xl]at hd;cases e:L[k]? with
   | none=>rw[e]at hd;cases hd
   | some p=>
    rw[e]at hd;cases hd;have et:L.take (k+1)=L.take k++[p]:=by rw[Vg,e];rfl
    have at':∀{c:Nat},c<n->gIx (Zf5 n p) (.int (c:Int))=YB (.fz (.int (sd p c))):=λhc=>by
     unfold Zf5;rw[Zns,Zlo,Xl,Qq hc];rfl
    refine⟨_,rfl,Zhf (Ze1 (Zoc (Y4 (d:=.int (sd p a)) Za Za (at' ha)) (Y4 (d:=.int (sd p b)) Za Za (at' hb)) (p:=prt a b p) rfl)) ⟨λc=>?_,λc=>?_⟩⟩
    ·refine Y0 (d:=.int (scI m p.2)) Za ⟨_,_,rfl,?_⟩
     rw[et,Uc,JW c,List.filter_nil,XM,XM];rfl
    ·refine⟨_,_,rfl,?_⟩
     rw[et,Uc,JX (by rw[c];decide),List.filter_nil,QW])
 rw[VR,Xc,Vc,List.nil_append]at e2;refine⟨.nd ts,?_,by rw[OT.data_nd,e2];rfl⟩;unfold EvI at hi;unfold Yr;rw[hi];show(if(L.map λp=>PyData.tuple [Zf5 n p,.int (scI m p.2)]).length≤Xz then _ else YC)=_;rw[YL (by rw[Xc,X8];omega),hk,e1];rfl
noncomputable def Zje:Xa:=.tuple [.int 0,.int 1]
noncomputable def Zl2(g:Nat×Nat->Xa)(i j:Nat):Xa:=if i<j then g (i,j)else if j<i then g (j,i)else Zje
theorem Zfo{n:Nat}(hn:n≤10)(g:Nat×Nat->Xa):Y5 [.int n,.list ((Wi n).map g)]= .ok (W0 n (Zl2 g)):=by
 have e0:(Yr 1 [0] (iRa (Zc (Ze 0) Zn)) (gNm 0) Zc7 (Zvz (Zfm (Zc (fC (.int 0)) (Zc (fC (.int 1)) Zn))) (Ze 1))) [YB (.fz (.int n)),YB (.fz (.list ((Wi n).map g))),YC,YC,YC]=YB (W0 n λ_ _=>Zje,[YB (.fz (.int n)),YB (.fz (.list ((Wi n).map g))),YC,YC,YC]):=by
  have er:∀v:Option OT,(Zvz (Zfm (Zc (fC (.int 0)) (Zc (fC (.int 1)) Zn))) (Ze 1)) [v,YB (.fz (.int n))]=YB (.nd (XJ n (.fz Zje)),[v,YB (.fz (.int n))]):=λv=>by
   have e2:(Zfm (Zc (fC (.int 0)) (Zc (fC (.int 1)) Zn))) [v,YB (.fz (.int n))]=fC Zje [v,YB (.fz (.int n))]:=by
    rw[Zu0];exact YL (e:=YC) (show 2≤Xz by rw[X8];omega)
   rw[←Z7a (d:=Zje) (n:=n) (by omega)];rw[Zkz,Zkz,e2]
  rw[Zey (cs:=[YB (.fz (.int n))]) (Xd n) (λi:Nat=>Xq (0+(i:Int))) (λ_=>.nd (XJ n (.fz Zje))) (Zm2 (Zb Za Zg) (by omega)) (by rw[Xj,X8];omega) rfl λx _=>er _];unfold W0;have ec:((Xd n).map λ_=>OT.fz Zje)=XJ n (OT.fz Zje):=by rw[List.map_const',Xj]
  rw[←ec]
 have key:∃δ',Y7 [YB (.fz (.int n)),YB (.fz (.list ((Wi n).map g))),YC,YC,YC]= .rt (W0 n (Zl2 g)) δ':=by
  obtain⟨δ',e1,f,z3,z4,rfl,h1,h2⟩:=Zeg (it:=Zdx (Zc (Zv Wc (Zc (Ze 0) Zn)) (Zc (Ze 1) Zn))) (g:=gTp 2 (gCn (gNm 3) (gCn (gNm 4) gNl))) (S:=Z5 (Zg3 2 (Ze 4) (Yb gIx (Ze 3) (fC (.int 0))) (Yb gIx (Ze 3) (fC (.int 1)))) (Zg3 2 (Ze 4) (Yb gIx (Ze 3) (fC (.int 1))) (Yb gIx (Ze 3) (fC (.int 0)))))
   (δ:=[YB (.fz (.int n)),YB (.fz (.list ((Wi n).map g))),YB (W0 n λ_ _=>Zje),YC,YC]) (ds:=(Wi n).map λp=>.tuple [ptD p,g p])
   (λk δ=>∃(f:Nat->Nat->Xa) (z3 z4:Option OT),δ=[YB (.fz (.int n)),YB (.fz (.list ((Wi n).map g))),YB (W0 n f),z3,z4]∧(∀i,f i i=Zje)∧∀l p,l<k->(Wi n)[l]? =YB p->f p.1 p.2=g p∧f p.2 p.1=g p)
   (Zf9 (Zq (Zb Za Zg) (Zik n (by omega))) Za (Zpt ptD g _)) ⟨_,YC,YC,rfl,λ_=>rfl,λl p hl=>YX hl (Vp l)⟩ (λk d δ hd q=>by
    obtain⟨f,z3,z4,rfl,h1,h2⟩:=q;rw[Xl]at hd;cases e:(Wi n)[k]? with
    | none=>rw[e]at hd;cases hd
    | some p=>
     rw[e]at hd;cases hd;obtain⟨m1,m2⟩:=Zft (Qn e);have i0:∀{δ:Zh},δ[3]? =YB (YB (.fz (ptD p)))->EvV (Yb gIx (Ze 3) (fC (.int 0))) δ (.int (p.1:Int)):=λh=>Y4 (Za h) Z4 rfl;have i1:∀{δ:Zh},δ[3]? =YB (YB (.fz (ptD p)))->EvV (Yb gIx (Ze 3) (fC (.int 1))) δ (.int (p.2:Int)):=λh=>Y4 (Za h) Z4 rfl;refine⟨_,_,rfl,.inl (Je (Zhs (n:=n) (f:=f) (a:=p.1) (b:=p.2) (d:=g p) Za rfl (i0 rfl) (by omega) (i1 rfl) (by omega)) (Zhs (n:=n) (a:=p.2) (b:=p.1) (d:=g p) Za rfl (i1 rfl) (by omega) (i0 rfl) (by omega))),_,_,_,rfl,λi=>?_,λl q hl hq=>?_⟩
     ·unfold upG
      rw[YM (by omega),YM (by omega)];exact h1 i
     ·by_cases c:q=p
      ·subst c
       unfold upG;exact⟨by split<;>(try rfl);rw[YL ⟨rfl,rfl⟩],by rw[YL ⟨rfl,rfl⟩]⟩
      ·have hl':l<k:=by
        rcases V0 l k with z|z
        ·exact z
        ·have:l=k:=by omega
         subst this;rw[e]at hq;cases hq;exact YX rfl c
       obtain⟨q1,q2⟩:=Zft (Qn hq);have ne:¬(q.1=p.1∧q.2=p.2):=λz=>c (Prod.ext z.1 z.2);obtain⟨g1,g2⟩:=h2 l q hl' hq;unfold upG;rw[YM (by omega),YM (by omega),YM (by omega),YM (by omega)];exact⟨g1,g2⟩)
  rw[Xc]at h2;refine⟨[YB (.fz (.int n)),YB (.fz (.list ((Wi n).map g))),YC,z3,z4],Je (Zkc e0) (Je e1 ?_)⟩;have eG:W0 n f=W0 n (Zl2 g):=Zpc λi j hi hj=>?_
  ·rw[eG];rfl
  unfold Zl2;rcases Nat.lt_trichotomy i j with c|c|c
  ·obtain⟨l,hl⟩:=BK (Zjn c hj)
   rw[YL c];exact(h2 l _ (Xw.mp hl).1 hl).1
  ·subst c
   rw[YM (Bj _),YM (Bj _)];exact h1 i
  ·obtain⟨l,hl⟩:=BK (Zjn c hi)
   rw[YM (by omega),YL c];exact(h2 l _ (Xw.mp hl).1 hl).2
 obtain⟨δ',e⟩:=key;unfold Y5;rw[Zhk (np:=2) (by rfl)];show(Y7 [YB (.fz (.int n)),YB (.fz (.list ((Wi n).map g))),YC,YC,YC]).told=_;rw[e];rfl
theorem Z1u{F:FD}{as:FA}{δ:Zh}{ds:List Xa}{o:OT}(h:EvA as δ ds)(k:F ds= .ok o):wE (Zv F as) J7 δ= .rt o δ:=by rw[Zcw,Z8p h k];rfl
theorem Zhl{n:Nat}(hn:n≤10)(L:List (List Int×Rat))(hl:L.length<64){B:Int}(B0:0<B)(bB:Bt 200 B)(hw:∀p∈L,(p.2.den:Int)∣B∧Bt 200 p.2.num):Z2 [.int n,Ze7 L]= .ok (W0 n (Zl2 (Zjd L))):=by
 obtain⟨m,eB,m0,m1,m2⟩:=Zct (n:=200) B0 bB (by decide) (L.map λp=>(p.2.num,(p.2.den:Int))) λp hp=>by
  obtain⟨q,hq,rfl⟩:=XD.mp hp;exact⟨Zab q.2,(hw q hq).1⟩
 have bm:Bt 200 m:=Zgv B0 m2 bB;have dm:∀p∈L,(p.2.den:Int)∣m:=λp hp=>m1 (p.2.num,(p.2.den:Int)) (XD.mpr ⟨p,hp,rfl⟩);have eW:(L.map λp=>(p.2.num,(p.2.den:Int))).map prD=(L.map λp=>p.2).map frD:=by rw[XQ,XQ];rfl
 rw[eW]at eB;have eT:=Zgt (n:=200) m0 bm (L.map λp=>p.2) (by rw[Xc];omega) λq hq=>by
  obtain⟨p,hp,rfl⟩:=XD.mp hq;exact⟨dm p hp,(hw p hp).2⟩
 rw[XQ]at eT;have lp:(Wi n).length≤100:=by
  have:=Zic n n;have e:Zj4 n n=Wi n:=rfl;rw[e]at this;exact Qt this (Nat.mul_le_mul hn hn)
 have key:∃δ',Jx [YB (.fz (.int n)),YB (.fz (Ze7 L)),YC,YC,YC,YC,YC,YC,YC,YC]= .rt (W0 n (Zl2 (Zjd L))) δ':=by
  obtain⟨δ',e1,z7,z8,z9,rfl⟩:=Zeg (it:=Zcu (Zv Wc (Zc (Ze 0) Zn))) (g:=gTp 2 (gCn (gNm 7) (gCn (gNm 8) gNl)))
   (S:=Z5 (wE (Yr 2 [7,8] (Zdx (Zc (Ze 5) (Zc (Ze 4) Zn))) (gTp 2 (gCn (gNm 0) (gCn (gNm 1) gNl))) (tV (Zi gNe (Yb gIx (Ze 0) (Ze 2)) (Yb gIx (Ze 0) (Ze 3)))) (Ze 1)) (W2 9)) (Yw 6 (Zv Yz (Zc (Zaq Z9r (Zc (Ze 9) Zn)) (Zc (Ze 3) Zn)))))
   (δ:=[YB (.fz (.int n)),YB (.fz (Ze7 L)),YB (.fz (.list ((L.map λp=>p.2).map frD))),YB (.fz (.int m)),YB (.fz (.list (L.map λp=>.int (scI m p.2)))),YB (.fz (.list (L.map (Zf5 n)))),YB (.nd []),YC,YC,YC]) (ds:=(Wi n).map ptD)
   (λk δ=>∃z7 z8 z9,δ=[YB (.fz (.int n)),YB (.fz (Ze7 L)),YB (.fz (.list ((L.map λp=>p.2).map frD))),YB (.fz (.int m)),YB (.fz (.list (L.map λp=>.int (scI m p.2)))),YB (.fz (.list (L.map (Zf5 n)))),YB (.nd ((((Wi n).take k).map (Zjd L)).map OT.fz)),z7,z8,z9])
   (Wj (Zq (Zb Za Zg) (Zik n (by omega)))) ⟨YC,YC,YC,rfl⟩ (λk d δ hd q=>by
    obtain⟨z7,z8,z9,rfl⟩:=q;rw[Xl]at hd;cases e:(Wi n)[k]? with
    | none=>rw[e]at hd;cases hd
    | some p=>
     rw[e]at hd;cases hd;obtain⟨q1,q2⟩:=Zft (Qn e);have eF:Told Yz [.int ((L.filter (prt p.1 p.2)).map λp=>scI m p.2).sum,.int m] (Zjd L p):=by
      have:=Zi2 (t:=((L.filter (prt p.1 p.2)).map λp=>scI m p.2).sum) (b:=m) (n:=200) (by omega) bm
      rwa[Z5c m0 _ λp hp=>dm p (QF.mp hp).1]at this
     have et:(Wi n).take (k+1)=(Wi n).take k++[p]:=by rw[Vg,e];rfl
     refine⟨_,_,rfl,.inl (Je (Z3 (Zqz (n:=n) (m:=m) (L:=L) (a:=p.1) (b:=p.2) (by omega) q2 hl rfl rfl rfl)) (Zdj (d:=Zjd L p) (Zq (Zb (W9 (Zb Za Zg) (Zs8 _)) (Zb Za Zg)) eF) rfl ?_)),YB (.fz (.int (p.1:Int))),YB (.fz (.int (p.2:Int))),YB (.fz (Zw ((L.filter (prt p.1 p.2)).map λp=>scI m p.2))),?_⟩
     ·rw[Xc,Xc]
      exact Qt (U3 ..) (by omega)
     ·rw[et,XM,XM];rfl)
  rw[Xc,Vc]at e1;have ef:(OT.nd (((Wi n).map (Zjd L)).map OT.fz)).data= .list ((Wi n).map (Zjd L)):=by rw[OT.data_nd,OT.map_fz]
  refine⟨[YB (.fz (.int n)),YB (.fz (Ze7 L)),YB (.fz (.list ((L.map λp=>p.2).map frD))),YB (.fz (.int m)),YB (.fz (.list (L.map λp=>.int (scI m p.2)))),YB (.fz (.list (L.map (Zf5 n)))),YB (.fz (.list ((Wi n).map (Zjd L)))),z7,z8,z9],?_⟩;refine Je (Z3 (EvV.cast (Jl (cs:=[]) L ctD (λp=>frD p.2) (Wj Za) (by omega) rfl λp _=>Y4 (d:=frD p.2) Za Z4 rfl) (y:=.list ((L.map λp=>p.2).map frD)) (by rw[XQ];rfl))) ?_;refine Je (Z3 (Zq (Zb Za Zg) eB)) (Je (Z3 (Zq (Zb Za (Zb Za Zg)) eT)) (Je (Z3 (Zq (Zb Za (Zb Za Zg)) (Zlp hn L hl))) (Je Zdz (Je e1 (Zho rfl ?_)))));rw[ef];exact Z1u (Zb Za (Zb Za Zg)) (Zfo hn (Zjd L))
 obtain⟨δ',e⟩:=key;unfold Z2;rw[Zhk (np:=2) (by rfl)];show(Jx [YB (.fz (.int n)),YB (.fz (Ze7 L)),YC,YC,YC,YC,YC,YC,YC,YC]).told=_;rw[e];rfl
noncomputable def sdL:Nat->List (List Int)
 | 0=>[[]]
 | k+1=>sdL k++(sdL k).map λs=>s++[(k:Int)+1]
theorem Zid(k:Nat):(sdL k).length=2^k:=by
 induction k with
 | zero=>rfl
 | succ k ih=>rw[sdL,Qw,Xc,ih,Nat.pow_succ];omega
theorem Zpi(k:Nat):∀s∈sdL k,s.length≤k∧s.Pairwise (·<·)∧∀x∈s,1≤x∧x≤k:=by
 induction k with
 | zero=>intro s hs;rw[Xp.mp hs];exact⟨X6 _,.nil,λ_ m=>nomatch m⟩
 | succ k ih=>
  intro s hs;rcases QV.mp hs with hs|hs
  ·obtain⟨h1,h2,h3⟩:=ih s hs
   exact⟨by omega,h2,λx hx=>by have:=h3 x hx;omega⟩
  ·obtain⟨r,hr,rfl⟩:=XD.mp hs
   obtain⟨h1,h2,h3⟩:=ih r hr;refine⟨by rw[Qw];exact Nat.succ_le_succ h1,List.pairwise_append.mpr ⟨h2,JL ..,λx hx y hy=>?_⟩,λx hx=>?_⟩
   ·rw[Xp.mp hy]
    have:=h3 x hx;omega
   ·rcases QV.mp hx with z|z
    ·have:=h3 x z;omega
    ·rw[Xp.mp z];omega
noncomputable def Wq(bot:Int)(q:Rat):Prop:=∃x,q=Xh x (2*bot)∧0≤x∧x≤6000000000000000000000
theorem Yas{n:Nat}{R:Nat->Nat->Int}{b:Int}{δ:Zh}(h:δ[0]? =YB (YB (.fz (tbD (Zbe n R b))))):EvV (Zaq Zcc (Zc (Ze 0) Zn)) δ (.int n):=W9 (Zb (Za h) Zg) (by rw[Ziw,Zdq])
noncomputable def LgR(n:Nat)(R:Nat->Nat->Int):Prop:=sc3 n (shI R) tpI=YC
theorem Zyk{q r:Rat}(bq:Bt 400 q.num)(dq:Bt 400 (q.den:Int))(br:Bt 400 r.num)(dr:Bt 400 (r.den:Int)):Told Zbh [frD q,frD r] (frD (q-r)):=by
 rw[←Zlw];exact Z0 rfl<|Wt<|Zq (Zb (Ztq (Zo (Y4 (d:=.int q.num) Za Z4 rfl) (Y4 (d:=.int (r.den:Int)) Za Z4 rfl) (Jf (Wr bq dr))) (Zo (Y4 (d:=.int r.num) Za Z4 rfl) (Y4 (d:=.int (q.den:Int)) Za Z4 rfl) (Jf (Wr br dq)))) (Zb (Zo (Y4 (d:=.int (q.den:Int)) Za Z4 rfl) (Y4 (d:=.int (r.den:Int)) Za Z4 rfl) (Jf (Wr dq dr))) Zg)) (Zch (Int.ne_of_gt (Int.mul_pos (Zab q) (Zab r))) (dq.mul dr))
theorem Zvg{bot:Int}:∀(xs:List Rat),(∀q∈xs,Wq bot q)->∃y,xs.sum=Xh y (2*bot)∧0≤y∧y≤(xs.length:Int)*6000000000000000000000
 | [],_=>⟨0,by rw[List.sum_nil,Ub],Ui _,by decide⟩
 | q::xs,h=>by
  obtain⟨y,e,y0,y1⟩:=Zvg xs λr hr=>h r (.tail _ hr);obtain⟨x,ex,x0,x1⟩:=h q (.head _);refine⟨x+y,by rw[UV,e,ex,Ziz],by omega,?_⟩;rw[JN,Int.natCast_add,Int.add_mul,Int.natCast_one,Int.one_mul];omega
structure Q4(q:Rat):Prop where
 num:Bt 400 q.num
 den:Bt 400 (q.den:Int)
theorem Z6x{y b:Int}(hb:0<b)(bb:b≤24)(y0:0≤y)(y1:y≤600000000000000000000000):Q4 (Xh y b) :=
 ⟨Zfl (by omega) (Znj (m:=100) y0 (JG y1 (by decide +kernel)) (by decide)),Znc (by omega) (Bt.mono (m:=5) (Bt.of_lt (by omega) (by omega)) (by decide))⟩
noncomputable def Qm(L:List (List Int×Rat))(i j:Nat):Rat:=if i<j then SmL L i j else if j<i then SmL L j i else 0
theorem Z92(L:List (List Int×Rat))(i j:Nat):Zl2 (Zjd L) i j=frD (Qm L i j):=by
 unfold Zl2 Qm;split
 ·rfl
 ·split
  ·rfl
  ·rfl
theorem Zz5{L:List (List Int×Rat)}{bot:Int}(hl:L.length<64)(b0:0<bot)(b1:bot≤12)(hW:∀p∈L,Wq bot p.2)(i j:Nat):Q4 (SmL L i j):=by
 unfold SmL;obtain⟨y,e,y0,y1⟩:=Zvg (bot:=bot) ((L.filter (prt i j)).map λp=>p.2) λq hq=>by
  obtain⟨p,hp,rfl⟩:=XD.mp hq;exact hW p (QF.mp hp).1
 rw[e];refine Z6x (by omega) (by omega) y0 (JG y1 ?_);have:(L.filter (prt i j)).length≤L.length:=JV ..;rw[Xc];omega
theorem Z7n{L:List (List Int×Rat)}{bot:Int}(hl:L.length<64)(b0:0<bot)(b1:bot≤12)(hW:∀p∈L,Wq bot p.2)(i j:Nat):Q4 (Qm L i j):=by
 unfold Qm;split
 ·exact Zz5 hl b0 b1 hW i j
 ·split
  ·exact Zz5 hl b0 b1 hW j i
  ·have:=Z6x (y:=0) (b:=1) (by decide) (by decide) (by decide) (by decide)
   rwa[Ub]at this
theorem Zlm{α:Type}{caps:List Nat}{it:FI}{g:FG}{t:FT}{me:FE}{cs δ:Zh}(xs:List α)(x1 x2:α->Xa)(p:α->Bool)(f:α->Xa)(hi:EvI it δ (xs.map λx=>.tuple [x1 x,x2 x]))(hz:xs.length≤1000000)(hb:blk 2 caps δ=YC::YC::cs)
  (hg:∀x∈xs,∀z0 z1,g (.tuple [x1 x,x2 x]) (z0::z1::cs)=YB (YB (.fz (x1 x))::YB (.fz (x2 x))::cs)) (ht:∀x∈xs,EvT t (YB (.fz (x1 x))::YB (.fz (x2 x))::cs) (p x)) (hm:∀x∈xs,p x=YD->EvV me (YB (.fz (x1 x))::YB (.fz (x2 x))::cs) (f x)) :
  EvV (Yr 2 caps it g t me) δ (.list ((xs.filter p).map f)):=by
 have ch:∀x,∃o:OT,x∈xs->p x=YD->me (YB (.fz (x1 x))::YB (.fz (x2 x))::cs)=YB (o,YB (.fz (x1 x))::YB (.fz (x2 x))::cs)∧o.data=f x:=λx=>by
  by_cases c:x∈xs∧p x=YD
  ·obtain⟨o,h⟩:=hm x c.1 c.2
   exact⟨o,λ_ _=>h⟩
  ·exact⟨.fz .none,λa b=>YX ⟨a,b⟩ c⟩
 obtain⟨F,hF⟩:=Classical.axiomOfChoice ch;refine⟨_,Yad xs x1 x2 p F hi hz hb hg ht λx m q=>(hF x m q).1,?_⟩;rw[OT.data_nd,XQ];exact YT XX (Xn λx m=>(hF x (QF.mp m).1 (QF.mp m).2).2)
theorem Zoj{a b:FE}{δ:Zh}{i j:Int}{m n:Nat}(ha:EvV a δ (.int i))(hb:EvV b δ (.int j))(h:Bt m i)(k:Bt n j)(hmn:m+n≤100000000:=by decide):EvV (Zi Zcs a b) δ (.int (i*j)):=Zo ha hb (Jf (Wr h k hmn))
theorem Zz1{e:FE}{δ:Zh}{q:Rat}(h:EvV e δ (frD q)):EvV (Yb gIx e (fC (.int 0))) δ (.int q.num):=Y4 h Z4 rfl
theorem Zpv{e:FE}{δ:Zh}{q:Rat}(h:EvV e δ (frD q)):EvV (Yb gIx e (fC (.int 1))) δ (.int (q.den:Int)):=Y4 h Z4 rfl
theorem Zv7{q r:Rat}(hq:BQ 400 q)(hr:BQ 400 r):Told Wa [frD q,frD r] (frD (q+r)):=by
 rw[←Zj5];exact Z0 rfl<|Wt<|Zq (Zb (Zar (Zoj (Zz1 Za) (Zpv Za) hq.1 hr.2) (Zoj (Zz1 Za) (Zpv Za) hr.1 hq.2)) (Zb (Zoj (Zpv Za) (Zpv Za) hq.2 hr.2) Zg)) (Zch (n:=800) (Int.mul_ne_zero (Zi1 q) (Zi1 r)) (hq.2.mul hr.2))
noncomputable def rwT(n:Nat)(f:Nat->Nat->Rat)(i:Nat):Xa:=.list ((Xd n).map λj=>frD (f i j))
noncomputable def mt(n:Nat)(f:Nat->Nat->Rat):Xa:=.list ((Xd n).map (rwT n f))
theorem Zs6(n:Nat)(R:Nat->Nat->Int)(b:Int):tbD (Zbe n R b)=mt n λi j=>Xh (R i j) b:=by
 unfold tbD Zbe mt;rw[XQ];refine YT XX (Xn λi _=>?_);show Zp4 _=_;unfold Zp4;rw[XQ];rfl
theorem Zoy{n:Nat}{f g:Nat->Nat->Rat}(h:∀i j,i<n->j<n->f i j=g i j):mt n f=mt n g:=by
 unfold mt rwT;refine YT XX (Xn λi hi=>YT XX (Xn λj hj=>?_));rw[h i j (Xx.mp hi) (Xx.mp hj)]
theorem Zlz{α:Type}(f g:α->Xa)(xs:List α):Zl7 (xs.map f) (xs.map g)=xs.map λx=>.tuple [f x,g x]:=by
 unfold Zl7
 induction xs with
 | nil=>rfl
 | cons x xs ih=>rw[Qg,Qg,List.zip_cons_cons,Qg,ih];rfl
theorem Zre(f:Nat->Xa)(i:Nat):((Xd i).map λx=>OT.fz (f x))++[OT.fz (f i)]=(Xd (i+1)).map λx=>OT.fz (f x):=by rw[V8,XM];rfl
theorem Zus{α:Type}{n i:Nat}{f:Nat->α}{d:α}(h:((Xd n).map f)[i]? =YB d):i<n∧d=f i:=by
 rw[Xl]at h;obtain⟨j,e,rfl⟩:=Bc.mp h;obtain⟨l,e⟩:=Xw.mp e;rw[List.getElem_range]at e;rw[Xj]at l;exact⟨l,by rw[e]⟩
theorem Zp2{n:Nat}(hn:n≤10){f g:Nat->Nat->Rat}(hf:∀i j,i<n->j<n->BQ 400 (f i j))(hg:∀i j,i<n->j<n->BQ 400 (g i j)):Told Jp [mt n f,mt n g] (mt n λi j=>f i j+g i j):=by
 have ln:∀h,Zcc [mt n h]=YB (.int n):=λh=>by unfold mt;rw[Zmp,Xc,Xj]
 refine Z0 rfl<|Z9 (Jb (Ze1 (Zoc (W9 (Zb Za Zg) (ln f)) (W9 (Zb Za Zg) (ln g)) (by rw[YQ rfl];rfl))) rfl)<|Z9 Zdz<|
  Zgo (ds:=(Xd n).map λi=>.tuple [rwT n f i,rwT n g i]) (λi δ=>∃z3 z4,δ=[YB (.fz (mt n f)),YB (.fz (mt n g)),YB (.nd ((Xd i).map λx=>OT.fz (rwT n (λi j=>f i j+g i j) x))),z3,z4]) (Zf9 Za Za (Zlz _ _ _)) ⟨YC,YC,rfl⟩ (λi d δ hd q=>?_) λδ' q=>?_
 ·obtain⟨z3,z4,rfl⟩:=q
  obtain⟨hi,rfl⟩:=Zus hd;refine⟨_,_,rfl,.inl (Zdj (d:=rwT n (λi j=>f i j+g i j) i) ?_ rfl (by rw[Xc,Xj];omega)),YB (.fz (rwT n f i)),YB (.fz (rwT n g i)),?_⟩
  ·refine(Zlm (t:=Zc7) (cs:=[]) (Xd n) (λj=>frD (f i j)) (λj=>frD (g i j)) (λ_=>YD) (λj=>frD (f i j+g i j)) (Zf9 (Za (i:=3) (d:=rwT n f i) rfl) (Za (i:=4) (d:=rwT n g i) rfl) (Zlz _ _ _)) (by rw[Xj];omega) rfl (λ_ _ _ _=>rfl) (λ_ _=>rfl) λj hj _=>?_).cast (by rw[List.filter_eq_self.mpr λ_ _=>rfl];rfl)
   have hj:=Xx.mp hj;exact Zq (Zb Za (Zb Za Zg)) (Zv7 (hf i j hi hj) (hg i j hi hj))
  ·rw[Zre];rfl
 ·obtain⟨z3,z4,rfl⟩:=q
  rw[Xc,Xj];exact Z31 rfl (by rw[OT.data_nd,Zrf];rfl)
theorem Z08(p:List Int):Sh 1 (Zw p):=Zea λd m=>by
 obtain⟨x,_,rfl⟩:=XD.mp m;exact Zop x
theorem Zby{ds:List Xa}(h:∀d∈ds,Wf d=YD):Wf (.list ds)=YD:=by
 rw[Wf]
 induction ds with
 | nil=>rfl
 | cons d ds ih=>rw[Zci,h d (.head _),ih λe he=>h e (.tail _ he)];rfl
theorem Zzq(p:List Int×Rat):kdT (ctD p)=YB (p.1,[p.2.num,(p.2.den:Int)]):=by
 show((Zc8 (p.1.map Xq)).bind λns=>(Zc8 [.int p.2.num,.int (p.2.den:Int)]).bind λms=>YB (ns,ms))=_;rw[Zaw];rfl
theorem Zjs:∀{a b c:List Int},ltI a b=YD->ltI b c=YD->ltI a c=YD:=by
 intro a
 induction a with
 | nil=>
  intro b c h1 h2;cases b with
  | nil=>cases h1
  | cons y b=>cases c with
   | nil=>cases h2
   | cons z c=>rfl
 | cons x a ih=>
  intro b c h1 h2;cases b with
  | nil=>cases h1
  | cons y b=>cases c with
   | nil=>cases h2
   | cons z c=>
    unfold ltI at h1 h2⊢
    by_cases e1:x=y
    ·subst e1
     rw[YL rfl]at h1
     by_cases e2:x=z
     ·rw[YL e2]at h2⊢;exact ih h1 h2
     ·rw[YM e2]at h2⊢;exact h2
    ·rw[YM e1]at h1
     have l1:=YW h1
     by_cases e2:y=z
     ·subst e2
      rw[YM e1];exact h1
     ·rw[YM e2]at h2
      have l2:=YW h2;rw[YM (by omega)];exact YQ (by omega)
theorem Zhw:∀a:List Int,ltI a a=YF:=by
 intro a
 induction a with
 | nil=>rfl
 | cons x a ih=>unfold ltI;rw[YL rfl];exact ih
theorem Zug:∀{a b:List Int},a≠b->ltI a b=YF->ltI b a=YD:=by
 intro a
 induction a with
 | nil=>
  intro b ne h;cases b with
  | nil=>exact YX rfl ne
  | cons y b=>cases h
 | cons x a ih=>
  intro b ne h;cases b with
  | nil=>rfl
  | cons y b=>
   unfold ltI at h⊢
   by_cases e:x=y
   ·subst e
    rw[YL rfl]at h⊢;exact ih (λz=>ne (z▸rfl)) h
   ·rw[YM e]at h
    rw[YM (JR e)];have:=of_decide_eq_false h;exact YQ (by omega)
noncomputable def sCt(L:List (List Int×Rat)):List (List Int×Rat):=sLay ([],0) (lk kdT ltT (L.map ctD)) L
noncomputable def Dst(L:List (List Int×Rat)):Prop:=∀k l,k<l->l<L.length->(L.getD k ([],0)).1≠(L.getD l ([],0)).1
theorem Zz3{L:List (List Int×Rat)}(h:Dst L){i j:Nat}(hi:i<L.length)(hj:j<L.length):lk kdT ltT (L.map ctD) i j=ltI (L.getD i ([],0)).1 (L.getD j ([],0)).1:=by
 have e:∀k,k<L.length->kdT ((L.map ctD).getD k .none)=YB ((L.getD k ([],0)).1,[(L.getD k ([],0)).2.num,((L.getD k ([],0)).2.den:Int)]):=λk hk=>by
  rw[Xe,Xl,Xm hk,Xe,Xm hk];exact Zzq _
 unfold lk;rw[e i hi,e j hj];show ltT _ _=_;unfold ltT
 by_cases c:i=j
 ·subst c
  rw[YL rfl,YL rfl,Zhw]
 ·rw[YM]
  rcases Nat.lt_or_gt_of_ne c with z|z
  ·exact h i j z hj
  ·exact λq=>h j i z hi q.symm
theorem Z7m{L:List (List Int×Rat)}(h:Dst L):(sCt L).Pairwise λa b=>ltI a.1 b.1=YD:=by
 refine Zro (β:=Nat) (d:=([],0)) (vs:=L) ⟨λi j k hi hj hk h1 h2=>?_,λi j hi hj c q=>?_,λi j hi hj q=>?_⟩ λi j hi hj q=>?_
 ·rw[Zz3 h hi hj]at h1
  rw[Zz3 h hj hk]at h2;rw[Zz3 h hi hk];exact Zjs h1 h2
 ·rw[Zz3 h hi hj]at q
  rw[Zz3 h hj hi];refine Zug ?_ q;rcases Nat.lt_or_gt_of_ne c with z|z
  ·exact h i j z hj
  ·exact λq=>h j i z hi q.symm
 ·rw[Zz3 h hi hj]at q
  rw[Zz3 h hj hi];refine Vq.mpr λz=>?_;have:=Zjs q z;rw[Zhw]at this;cases this
 ·rw[Zz3 h hi hj]at q
  exact q
theorem Zvi{α:Type}(d d':α)(lt:Nat->Nat->Bool)(vs:List α):sLay d lt vs=sLay d' lt vs:=by
 unfold sLay;split
 ·rfl
 ·refine Xn λi hi=>?_
  have:=Xx.mp ((Zfi (by omega)).mem_iff.mp hi);rw[Xe,Xe,Xm this];rfl
theorem Z1g{e:FE}{δ:Zh}{L:List (List Int×Rat)}(he:EvV e δ (Ze7 L))(h:L.length<64):EvV (fBl (Zg1 kdT ltT) (Zc e Zn)) δ (Ze7 (sCt L)):=by
 refine Z2n (Zb he Zg) (o:=.nd (((sCt L).map ctD).map OT.fz)) ?_ (by rw[OT.data_nd,OT.map_fz];rfl);unfold sCt;rw[←Zpu,Zvi (ctD ([],0)) PyData.none];refine YL ?_;rw[Xv,decide_eq_true_eq,Xc,Vd];refine⟨h,λd m=>?_⟩;obtain⟨p,_,rfl⟩:=XD.mp m;rw[Zzq];rfl
theorem Ziq{d:Xa}{n:Nat}(h:Sh n d)(hn:n≤64)(hp:Wf d=YD):gEq d d=YB (.bool YD)∧gNe d d=YB (.bool YF):=by
 have s:=(h.shp hn).ok;unfold gEq gNe;rw[YL (by rw[s];rfl),YL (by rw[s];rfl),Zya hp];exact⟨rfl,rfl⟩
noncomputable def sh1(n A:Nat)(x:Nat):Nat:=if x<n then x else A
noncomputable def sh2(n to:Nat)(x:Nat):Nat:=if x<n then to else if x-n<to then x-n else x-n+1
set_option synthInstance.maxHeartbeats 400000 in
set_option synthInstance.maxSize 4000 in
noncomputable def Wl(q:Rat):Prop:=(q.den:Int)∣2520∧Bt 300 q.num
theorem Z54{q r:Rat}(hq:Wl q)(hr:Wl r):Told Wa [frD q,frD r] (frD (q+r)):=Zs7 (hq.2.mono (by decide)) ((Zgv (by decide) hq.1 (Bt.of_lt (m:=12) (by decide) (by decide))).mono (by decide)) (hr.2.mono (by decide)) ((Zgv (by decide) hr.1 (Bt.of_lt (m:=12) (by decide) (by decide))).mono (by decide))
noncomputable def hgT(n A to:Nat)(S T:Nat->Nat->Rat):Nat->Nat->Rat:=λx y=>S (sh1 n A x) (sh1 n A y)+T (sh2 n to x) (sh2 n to y)
noncomputable def bhd(m to:Nat):List Nat:=(Xd m).filter λb=>!decide (b=to)
theorem Zu8:∀m<6,∀to<m,bhd m to=(Xd (m-1)).map λk=>sh2 0 to k:=by decide
theorem Zjx{f g:Int->Int->Bool}{a b c:FE}{δ:Zh}{i j k:Int}(ha:EvV a δ (.int i))(hb:EvV b δ (.int j))(hc:EvV c δ (.int k))(h:f i j=YD)(hg:g j k=YD):EvV (Zmu f g a b c) δ (.bool YD):=by
 obtain⟨_,e1,d1⟩:=ha;obtain⟨_,e2,d2⟩:=hb;obtain⟨_,e3,d3⟩:=hc;refine⟨.fz (.bool YD),?_,OT.data_fz _⟩;unfold Zmu;rw[e1,Xk,e2,Xk];dsimp only;rw[d1,d2];dsimp only;rw[YL h,e3,Xk,d3];dsimp only;rw[hg]
theorem Zh8{n i:Nat}{f:Nat->Nat->Xa}(h:i<n):Told Wd [Z1 n f,.int i] (.bool YD) :=
 Z0 rfl<|Wt (Zjx Z4 Za (Zll Za) (YQ (by omega)) (YQ (by rw[Xc,Xj];omega)))
theorem Zer{n i:Nat}{f:Nat->Xa}(h:i<n):gIx (.list ((Xd n).map f)) (.int i)=YB (.fz (f i)):=by
 rw[Zns,Zlo,Xl,Qq h];rfl
theorem Zhb{n i:Nat}{f:Nat->Nat->Xa}(h:i<n):gIx (Z1 n f) (.int i)=YB (.fz (.list ((Xd n).map λj=>f i j))):=Zer (f:=λi=>.list ((Xd n).map λj=>f i j)) h
noncomputable def hR1(n A to m:Nat)(S T:Nat->Nat->Rat)(i:Nat):Xa:=.list (((Xd n).map λj=>frG S i j)++(bhd m to).map λb=>frD (S i A+T to b))
noncomputable def hR2(n A to m:Nat)(S T:Nat->Nat->Rat)(b:Nat):Xa:=.list (((Xd n).map λj=>frD (T b to+S A j))++(bhd m to).map λc=>frG T b c)
theorem Zu9{n A to m:Nat}(ha:A<n)(hm:m≤5)(ht:to<m){S T:Nat->Nat->Rat}(hS:∀i,S i i=0)(hT:∀i,T i i=0):XX ((Xd n).map (hR1 n A to m S T)++(bhd m to).map (hR2 n A to m S T))=Z1 (n+m-1) (frG (hgT n A to S T)):=by
 have hw:n+m-1=n+(m-1):=by omega
 have s1:∀{i},i<n->sh1 n A i=i:=λh=>by unfold sh1;rw[YL h]
 have s2:∀{i},i<n->sh2 n to i=to:=λh=>by unfold sh2;rw[YL h]
 have s3:∀k,sh1 n A (n+k)=A:=λk=>by unfold sh1;rw[YM (by omega)]
 have s4:∀k,sh2 n to (n+k)=sh2 0 to k:=λk=>by unfold sh2;rw[YM (show¬n+k<n by omega),YM (show¬k<0 by omega),Nat.add_sub_cancel_left,Nat.sub_zero]
 unfold Z1;rw[hw,List.range_add,Zu8 m (by omega) to ht,XM,XQ,XQ];refine YT XX (congr (YT _ (Xn λi hi=>?_)) (Xn λk _=>?_))
 ·have hi:=Xx.mp hi
  unfold hR1;rw[XM,Zu8 m (by omega) to ht,XQ,XQ];refine YT XX (congr (YT _ (Xn λj hj=>?_)) (Xn λl _=>?_))
  ·have hj:=Xx.mp hj
   unfold frG hgT;rw[s1 hi,s1 hj,s2 hi,s2 hj,hT,Rat.add_zero]
  ·show _=frD (hgT n A to S T i (n+l))
   unfold hgT;rw[s1 hi,s2 hi,s3,s4];rfl
 ·show hR2 n A to m S T (sh2 0 to k)=XX ((Xd n++(Xd (m-1)).map (n+·)).map λj=>frG (hgT n A to S T) (n+k) j)
  unfold hR2;rw[XM,Zu8 m (by omega) to ht,XQ,XQ];refine YT XX (congr (YT _ (Xn λj hj=>?_)) (Xn λl _=>?_))
  ·have hj:=Xx.mp hj
   show _=frD (hgT n A to S T (n+k) j);unfold hgT;rw[s1 hj,s2 hj,s3,s4,Rat.add_comm]
  ·show frD (T (sh2 0 to k) (sh2 0 to l))=frD (hgT n A to S T (n+k) (n+l))
   unfold hgT;rw[s3,s3,s4,s4,hS,Rat.zero_add]
theorem Zt3{m to b:Nat}(h:b∈bhd m to):b<m:=Xx.mp (QF.mp h).1
theorem Z2q{n A to m:Nat}(hn:n≤6)(ha:A<n)(hm:m≤5)(ht:to<m){S T:Nat->Nat->Rat}(hS:∀i,S i i=0)(hT:∀i,T i i=0)(wS:∀i j,Wl (S i j))(wT:∀i j,Wl (T i j)):Told Yv [Z1 n (frG S),.int A,Z1 m (frG T),.int to] (Z1 (n+m-1) (frG (hgT n A to S T))):=by
 rw[←Zu9 ha hm ht hS hT];have lb:(bhd m to).length≤10:=by
  have:=JV (λb=>!decide (b=to)) (Xd m);rw[Xj]at this;exact Qt this (by omega)
 have hi:EvI (iRa (Zc (Zaq Zcc (Zc (Ze 2) Zn)) Zn)) (Zil 9 [Z1 n (frG S),.int A,Z1 m (frG T),.int to]) ((Xd m).map λi:Nat=>Xq (i:Int)):=by
  have e0:(λi:Nat=>Xq (0+(i:Int)))= λi:Nat=>Xq (i:Int):=funext λi=>by rw[BZ]
  have h:EvI (iRa (Zc (Zaq Zcc (Zc (Ze 2) Zn)) Zn)) (Zil 9 [Z1 n (frG S),.int A,Z1 m (frG T),.int to]) ((Xd m).map λi:Nat=>Xq (0+(i:Int))):=Zm2 (Zb ((Zll Za).cast (by rw[Xc,Xj])) Zg) (by omega)
  rwa[e0]at h
 have hb:=Zkx (caps:=[3]) (t:=tV (Zi gNe (Ze 0) (Ze 1))) (me:=Ze 0) (cs:=[YB (.fz (.int to))]) (Xd m) (λi:Nat=>Xq (i:Int)) (λb=>!decide (b=to)) hi (by rw[Xj];omega) rfl (λk _=>Ze1 (Zoc Za Za (by rw[decide_eq_decide.mpr (show(k:Int)=(to:Int)↔k=to by omega)]))) λi _ _=>rfl;refine Z0 rfl<|Z9 (Jb (Yeb (Zmk (p:=YD) (Zle (Zq (Zb Za (Zb Za Zg)) (Zh8 ha)))) (Zmk (p:=YD) (Zle (Zq (Zb Za (Zb Za Zg)) (Zh8 ht))))) rfl)<|Z9 (Z3 hb)<|Z9 Zdz<|
  Zgo (ds:=(Xd n).map λi=>.list ((Xd n).map λj=>frG S i j)) (λk δ=>∃z6 z7,δ=[YB (.fz (Z1 n (frG S))),YB (.fz (.int A)),YB (.fz (Z1 m (frG T))),YB (.fz (.int to)),YB (.fz (.list ((bhd m to).map λb:Nat=>.int b))),YB (.nd ((((Xd n).take k).map (hR1 n A to m S T)).map OT.fz)),z6,z7,YC]) (Wj Za) ⟨YC,YC,rfl⟩ (λk d δ hd q=>?_) λδ' q=>?_
 ·obtain⟨z6,z7,rfl⟩:=q
  rw[Xl]at hd;obtain⟨i,hi,rfl⟩:=Bc.mp hd;have et:(Xd n).take (k+1)=(Xd n).take k++[i]:=by rw[Vg,hi];rfl
  have hc:=Jl (δ:=[YB (.fz (Z1 n (frG S))),YB (.fz (.int A)),YB (.fz (Z1 m (frG T))),YB (.fz (.int to)),YB (.fz (.list ((bhd m to).map λb:Nat=>.int b))),YB (.nd ((((Xd n).take k).map (hR1 n A to m S T)).map OT.fz)),YB (.fz (.list ((Xd n).map λj=>frG S i j))),z7,YC]) (caps:=[6,1,2,3]) (it:=Zcu (Ze 4)) (me:=Zv Wa (Zc (Yb gIx (Ze 1) (Ze 2)) (Zc (Yb gIx (Yb gIx (Ze 3) (Ze 4)) (Ze 0)) Zn))) (cs:=[YB (.fz (.list ((Xd n).map λj=>frG S i j))),YB (.fz (.int A)),YB (.fz (Z1 m (frG T))),YB (.fz (.int to))]) (bhd m to) (λb:Nat=>Xq b) (λb=>frD (S i A+T to b)) (Wj Za) (by omega) rfl λb hb=>Zq (Zb (Y4 Za Za (Zer (f:=λj=>frG S i j) ha)) (Zb (Y4 (Y4 Za Za (Zhb ht)) Za (Zer (f:=λj=>frG T to j) (Zt3 hb))) Zg)) (Z54 (wS i A) (wT to b));refine⟨_,_,rfl,.inl (Je (Z3 hc) (Zdj (ts:=(((Xd n).take k).map (hR1 n A to m S T)).map OT.fz) (d:=hR1 n A to m S T i) (Zjj (Z2n (Zb Za Zg) (Z4z _) (by rw[OT.data_nd,OT.map_fz])) Za (by rw[Xc,Xc,Xj];omega)) rfl ?_)),YB (.fz (.list ((Xd n).map λj=>frG S i j))),YB (.fz (.list ((bhd m to).map λb=>frD (S i A+T to b)))),?_⟩
  ·rw[Xc,Xc]
   exact Qt (U3 ..) (by rw[Xj];omega)
  ·rw[et,XM,XM];rfl
 ·obtain⟨z6,z7,rfl⟩:=q
  rw[Xc,Vc];refine Zgo (ds:=(bhd m to).map λb:Nat=>.int b) (λk δ=>∃z7 z8,δ=[YB (.fz (Z1 n (frG S))),YB (.fz (.int A)),YB (.fz (Z1 m (frG T))),YB (.fz (.int to)),YB (.fz (.list ((bhd m to).map λb:Nat=>.int b))),YB (.nd (((Xd n).map (hR1 n A to m S T)++((bhd m to).take k).map (hR2 n A to m S T)).map OT.fz)),z6,z7,z8]) (Wj Za) ⟨z7,YC,by rw[List.take_zero,List.map_nil,QW]⟩ (λk d δ hd q=>?_) λδ' q=>?_
  ·obtain⟨z7,z8,rfl⟩:=q
   rw[Xl]at hd;obtain⟨b,hb',rfl⟩:=Bc.mp hd;have bm:=Zt3 (Qn hb');have et:(bhd m to).take (k+1)=(bhd m to).take k++[b]:=by rw[Vg,hb'];rfl
   have hc:=Jl (δ:=[YB (.fz (Z1 n (frG S))),YB (.fz (.int A)),YB (.fz (Z1 m (frG T))),YB (.fz (.int to)),YB (.fz (.list ((bhd m to).map λb:Nat=>.int b))),YB (.nd (((Xd n).map (hR1 n A to m S T)++((bhd m to).take k).map (hR2 n A to m S T)).map OT.fz)),z6,z7,YB (.fz (.int b))]) (caps:=[2,8,3]) (it:=Zcu (Yb gIx (Ze 0) (Ze 1))) (me:=Zv Wa (Zc (Yb gIx (Yb gIx (Ze 1) (Ze 2)) (Ze 3)) (Zc (Ze 0) Zn))) (cs:=[YB (.fz (Z1 m (frG T))),YB (.fz (.int b)),YB (.fz (.int to))]) (Xd n) (λj=>frG S A j) (λj=>frD (T b to+S A j)) (Wj (Y4 Za Za (Zhb ha))) (by rw[Xj];omega) rfl λj _=>Zq (Zb (Y4 (Y4 Za Za (Zhb bm)) Za (Zer (f:=λj=>frG T b j) ht)) (Zb Za Zg)) (Z54 (wT b to) (wS A j));have hc2:∀{z:Option OT},EvV (Yr 1 [2,8] (Zcu (Ze 4)) (gNm 0) Zc7 (Yb gIx (Yb gIx (Ze 1) (Ze 2)) (Ze 0))) [YB (.fz (Z1 n (frG S))),YB (.fz (.int A)),YB (.fz (Z1 m (frG T))),YB (.fz (.int to)),YB (.fz (.list ((bhd m to).map λb:Nat=>.int b))),YB (.nd (((Xd n).map (hR1 n A to m S T)++((bhd m to).take k).map (hR2 n A to m S T)).map OT.fz)),z6,z,YB (.fz (.int b))] (.list ((bhd m to).map λc=>frG T b c)):=fun{z}=>Jl (cs:=[YB (.fz (Z1 m (frG T))),YB (.fz (.int b))]) (bhd m to) (λb:Nat=>Xq b) (λc=>frG T b c) (Wj Za) (by omega) rfl λc hc=>Y4 (Y4 Za Za (Zhb bm)) Za (Zer (f:=λj=>frG T b j) (Zt3 hc));refine⟨_,_,rfl,.inl (Je (Z3 hc) (Zdj (ts:=((Xd n).map (hR1 n A to m S T)++((bhd m to).take k).map (hR2 n A to m S T)).map OT.fz) (d:=hR2 n A to m S T b) (Zjj Za hc2 (by rw[Xc,Xc,Xj];omega)) rfl ?_)),YB (.fz (.list ((Xd n).map λj=>frD (T b to+S A j)))),YB (.fz (.int b)),?_⟩
   ·rw[Xc,Qw,Xc,Xc,Xj]
    have:=U3 k (bhd m to);omega
   ·have e2:(Xd n).map (hR1 n A to m S T)++((bhd m to).take (k+1)).map (hR2 n A to m S T)=((Xd n).map (hR1 n A to m S T)++((bhd m to).take k).map (hR2 n A to m S T))++[hR2 n A to m S T b]:=by rw[et,XM,Bm];rfl
    rw[e2,XM (l₂:=[hR2 n A to m S T b])];rfl
  ·obtain⟨z7,z8,rfl⟩:=q
   rw[Xc,Vc];exact Z31 rfl (by rw[OT.data_nd,OT.map_fz])
noncomputable def lsN(l:List Nat):Xa:=.list (l.map λx:Nat=>.int (x:Int))
theorem Zk0(p:List Nat):Zcc [lsN p]=YB (.int (p.length:Nat)):=by unfold lsN;rw[Zmp,Xc]
theorem Z39{n i:Nat}{f:Nat->Nat->Xa}{δ:Zh}(h:δ[i]? =YB (YB (.fz (Z1 n f)))):EvV (Zaq Zcc (Zc (Ze i) Zn)) δ (.int n):=by
 have:=Zll (δ:=δ) (e:=Ze i) (ds:=(Xd n).map λi=>.list ((Xd n).map λj=>f i j)) (Za h)
 rwa[Xc,Xj]at this
theorem Zrb{δ:Zh}{i:Nat}{p:List Nat}(h:δ[i]? =YB (YB (.fz (lsN p))))(hp:p.Nodup)(hl:p.length≤1000):EvV (Zkw (Zc (Ze i) Zn)) δ (.int (p.length:Nat)):=by
 obtain⟨_,e1,d1⟩:=Zb (Za h) Zg;have em:p.map (λx:Nat=>Xq (x:Int))=(p.map λx:Nat=>(x:Int)).map Xq:=by rw[XQ];rfl
 refine⟨.fz (.int (Zsf (p.map λx:Nat=>(x:Int)))),?_,by
  rw[Zrc ?_,Xc,OT.data_fz];rw[Qv,VF];exact hp.imp λz e=>z (Int.ofNat.inj e)⟩
 unfold Zkw;rw[e1,Xk];dsimp only;rw[d1];unfold lsN;rw[em];show(Zc8 _).bind _=_;rw[Zaw,Xk,YL (by rw[Xc];omega)]
theorem map_getD{α:Type}(p:List Nat)(f:Nat->α):p.map f=(Xd p.length).map λi=>f (p.getD i 0):=by
 refine List.ext_getElem (by rw[Xc,Xc,Xj]) λi h1 h2=>?_;rw[Xc]at h1;rw[List.getElem_map,List.getElem_map,List.getElem_range,Xe,Xm h1];rfl
theorem Zqf{n:Nat}{f:Nat->Nat->Xa}{p:List Nat}(h1:0<p.length)(hp:p.Nodup)(hb:∀x∈p,x<n)(hl:p.length≤1000):Told Zbm [Z1 n f,lsN p] (.bool YD):=by
 refine Z0 rfl<|Zgo (ds:=p.map λx:Nat=>.int (x:Int)) (λk δ=>∃z,δ=[YB (.fz (Z1 n f)),YB (.fz (lsN p)),z]) (Wj Za) ⟨YC,rfl⟩ (λk d δ hd q=>?_) λδ' q=>?_
 ·obtain⟨z,rfl⟩:=q
  rw[Xl]at hd;obtain⟨x,hx,rfl⟩:=Bc.mp hd;have hx:=hb x (Qn hx);have e:Told Wd [Z1 n f,.int x] (.bool YD):=Z0 rfl<|Wt (Zjx Z4 Za (Z39 rfl) (YQ (by omega)) (YQ (by omega)));exact⟨_,_,rfl,.inl (Jb (Zmk (Zle (Zq (Zb Za (Zb Za Zg)) e))) rfl),_,rfl⟩
 ·obtain⟨z,rfl⟩:=q
  exact Wt (Zkp (Zme (W9 (Zb Za Zg) (Zk0 p)) Z4 (YQ (by omega))) (Zuh (Zrb rfl hp hl) (W9 (Zb Za Zg) (Zk0 p)) (YQ rfl)))
theorem Zrg{n:Nat}{f:Nat->Nat->Xa}{p:List Nat}(h1:0<p.length)(hp:p.Nodup)(hb:∀x∈p,x<n)(hl:p.length≤1000):Told Zac [Z1 n f,lsN p] (Z1 p.length λi j=>f (p.getD i 0) (p.getD j 0)):=by
 refine Z0 rfl<|Z9 (Jb (Zmk (Zle (Zq (Zb Za (Zb Za Zg)) (Zqf h1 hp hb hl)))) rfl) (Z9 Zdz ?_);refine Zgo (ds:=p.map λx:Nat=>.int (x:Int)) (λk δ=>∃z,δ=[YB (.fz (Z1 n f)),YB (.fz (lsN p)),YB (.nd (((p.take k).map λa=>XX (p.map λb=>f a b)).map OT.fz)),z]) (Wj Za) ⟨YC,rfl⟩ (λk d δ hd q=>?_) λδ' q=>?_
 ·obtain⟨z,rfl⟩:=q
  rw[Xl]at hd;obtain⟨a,ha,rfl⟩:=Bc.mp hd;have am:=hb a (Qn ha);refine⟨_,_,rfl,.inl (Zdj (d:=.list (p.map λb=>f a b)) (Jl (cs:=[YB (.fz (Z1 n f)),YB (.fz (.int a))]) p (λx:Nat=>Xq (x:Int)) _ (Wj Za) (by omega) rfl λb hm=>Zwe (i0:=1) (i9:=2) (i10:=0) am (hb b hm) rfl rfl rfl) rfl (by rw[Xc,Xc,Bv];omega)),YB (.fz (.int a)),?_⟩;have tk:p.take (k+1)=p.take k++[a]:=by rw[Vg,ha];rfl
  rw[tk,XM,XM];rfl
 ·obtain⟨z,rfl⟩:=q
  refine Z31 rfl ?_;rw[Xc,Vc,OT.data_nd,OT.map_fz,map_getD];unfold Z1;exact YT XX (Xn λi _=>YT XX (map_getD p _))
noncomputable def sb(R:Nat->Nat->Int)(ps:List Nat):Nat->Nat->Int:=λi j=>R (ps.getD i 0) (ps.getD j 0)
theorem Zxk{n:Nat}{R:Nat->Nat->Int}{b:Int}{p:List Nat}(h1:0<p.length)(hp:p.Nodup)(hb:∀x∈p,x<n)(hl:p.length≤1000):Told Zac [tbD (Zbe n R b),lsN p] (tbD (Zbe p.length (sb R p) b)):=by
 rw[Zae,Zae];exact Zrg h1 hp hb hl
structure Zp6(n:Nat)(s:List Int):Prop where
 ne:s≠[]
 up:s.Pairwise (·<·)
 pt:∀x∈s,1≤x∧x<n
theorem Zth:∀{s t:List Int},s.Pairwise (·<·)->t.Pairwise (·<·)->(∀x,x∈s↔x∈t)->s=t:=by
 intro s
 induction s with
 | nil=>
  intro t _ _ h;cases t with
  | nil=>rfl
  | cons y t=>exact YX ((h y).mpr (.head _)) (λz=>nomatch z)
 | cons x s ih=>
  intro t hs ht h;cases t with
  | nil=>exact YX ((h x).mp (.head _)) (λz=>nomatch z)
  | cons y t=>
   have h1:∀{z:Int},z∈s->x<z:=λm=>Vn hs m;have h2:∀{z:Int},z∈t->y<z:=λm=>Vn ht m;have e:x=y:=by
    rcases Xu.mp ((h x).mp (.head _))with e|m
    ·exact e
    ·rcases Xu.mp ((h y).mpr (.head _))with e|m'
     ·exact e.symm
     ·have:=h1 m';have:=h2 m;omega
   subst e;refine YT (x::·) (ih hs.tail ht.tail λz=>⟨λm=>?_,λm=>?_⟩)
   ·rcases Xu.mp ((h z).mp (.tail _ m))with e|m'
    ·have:=h1 m;omega
    ·exact m'
   ·rcases Xu.mp ((h z).mpr (.tail _ m))with e|m'
    ·have:=h2 m;omega
    ·exact m'
theorem Zuy:∀(k:Nat) (s:List Int),s.Pairwise (·<·)->(∀x∈s,1≤x∧x≤(k:Int))->s∈sdL k:=by
 intro k
 induction k with
 | zero=>
  intro s _ h;cases s with
  | nil=>exact .head _
  | cons x s=>have:=h x (.head _);omega
 | succ k ih=>
  intro s hs h
  by_cases c:((k:Int)+1)∈s
  ·refine QV.mpr (.inr (XD.mpr ⟨s.filter λx=>decide (x≤(k:Int)),ih _ (hs.filter _) λx hx=>?_,?_⟩))
   ·obtain⟨h1,h2⟩:=QF.mp hx
    exact⟨(h x h1).1,YW h2⟩
   ·refine Zth (List.pairwise_append.mpr ⟨hs.filter _,JL ..,λx hx y hy=>?_⟩) hs λx=>?_
    ·rw[Xp.mp hy]
     have:=YW (QF.mp hx).2;omega
    ·rw[QV,QF,decide_eq_true_eq,Xp]
     constructor
     ·rintro(⟨q,_⟩|rfl)
      ·exact q
      ·exact c
     ·intro q
      have:=(h x q).2
      by_cases e:x=(k:Int)+1
      ·exact .inr e
      ·exact .inl ⟨q,by omega⟩
  ·refine QV.mpr (.inl (ih s hs λx hx=>⟨(h x hx).1,?_⟩))
   have:=(h x hx).2;have:x≠(k:Int)+1:=λe=>c (e▸hx);omega
theorem Zvp:∀k,(sdL k).Nodup:=by
 intro k
 induction k with
 | zero=>exact Qy.mpr ⟨(λz=>nomatch z),.nil⟩
 | succ k ih=>
  refine BL.mpr ⟨ih,?_,λs hs t ht e=>?_⟩
  ·unfold Qv
   rw[VF];exact ih.imp λq e=>q (List.append_cancel_right e)
  ·obtain⟨r,_,rfl⟩:=XD.mp ht
   have:=((Zpi k s hs).2.2 ((k:Int)+1) (by rw[e];exact QV.mpr (.inr (.head _)))).2;omega
theorem Zoa(n:Nat)(h1:1≤n)(s:List Int):s∈sdL (n-1)∧s≠[]↔Zp6 n s:=by
 constructor
 ·rintro⟨a,b⟩
  obtain⟨_,h2,h3⟩:=Zpi _ s a;exact⟨b,h2,λx hx=>by have:=h3 x hx;omega⟩
 ·rintro⟨a,b,c⟩
  exact⟨Zuy _ s b λx hx=>by have:=c x hx;omega,a⟩
theorem Zwg:∀{L M:List (List Int×Rat)},L.Pairwise (λa b=>ltI a.1 b.1=YD)->M.Pairwise (λa b=>ltI a.1 b.1=YD)->(∀x,x∈L↔x∈M)->L=M:=by
 intro L
 induction L with
 | nil=>
  intro M _ _ h;cases M with
  | nil=>rfl
  | cons y M=>exact YX ((h y).mpr (.head _)) (λz=>nomatch z)
 | cons x L ih=>
  intro M hL hM h;cases M with
  | nil=>exact YX ((h x).mp (.head _)) (λz=>nomatch z)
  | cons y M=>
   have h1:∀{z:List Int×Rat},z∈L->ltI x.1 z.1=YD:=λm=>Vn hL m;have h2:∀{z:List Int×Rat},z∈M->ltI y.1 z.1=YD:=λm=>Vn hM m;have no:∀{a b:List Int},ltI a b=YD->ltI b a=YD->False:=λp q=>by
    have:=Zjs p q;rw[Zhw]at this;cases this
   have e:x=y:=by
    rcases Xu.mp ((h x).mp (.head _))with e|m
    ·exact e
    ·rcases Xu.mp ((h y).mpr (.head _))with e|m'
     ·exact e.symm
     ·exact(no (h1 m') (h2 m)).elim
   subst e;refine YT (x::·) (ih hL.tail hM.tail λz=>⟨λm=>?_,λm=>?_⟩)
   ·rcases Xu.mp ((h z).mp (.tail _ m))with e|m'
    ·subst e;exact(no (h1 m) (h1 m)).elim
    ·exact m'
   ·rcases Xu.mp ((h z).mpr (.tail _ m))with e|m'
    ·subst e;exact(no (h2 m) (h2 m)).elim
    ·exact m'
theorem Zgz{p:List Int}{x y:Int}(hx:x∈p)(hy:y∈p):(x,y)∈dbl p∨(y,x)∈dbl p:=by
 obtain⟨i,hi,rfl⟩:=BR hx;obtain⟨j,hj,rfl⟩:=BR hy;have g:∀k (h:k<p.length),p[k]=p.getD k 0:=λk h=>by rw[Xe,Xm h];rfl
 rw[g i hi,g j hj];rcases Nat.le_total i j with h|h
 ·exact .inl (Zhz.mpr ⟨i,j,h,hj,rfl⟩)
 ·exact .inr (Zhz.mpr ⟨j,i,h,hi,rfl⟩)
theorem Zxm(a b:List Int):gEq (Zw a) (Zw b)=YB (.bool (decide (a=b))):=by
 have s:∀p,U7 (Zw p)=YD:=λp=>((Z08 p).shp (by omega)).ok;unfold gEq;rw[YL (by rw[s,s];rfl)];exact YT (λz=>YB (PyData.bool z)) (Zib a b)
theorem Zwr{L:List (List Int)}{i j:Nat}(hi:i<L.length)(hj:j<L.length):lk kdL ltI (L.map Zw) i j=ltI (L.getD i []) (L.getD j []):=by
 have e:∀k,k<L.length->kdL ((L.map Zw).getD k .none)=YB (L.getD k []):=λk hk=>by
  rw[Xe,Xl,Xm hk,Xe,Xm hk];exact Zaw _
 unfold lk;rw[e i hi,e j hj];rfl
theorem Z4e{L:List (List Int)}(nd:L.Nodup){i j:Nat}(hi:i<L.length)(hj:j<L.length)(h:i≠j):L.getD i []≠L.getD j []:=by
 rw[Xe,Xe,Xm hi,Xm hj];exact λe=>h ((List.getElem_inj nd).mp e)
noncomputable def UpL(L:List (List Int)):Prop:=L.Pairwise λa b=>ltI a b=YD
theorem Zq1{L:List (List Int)}(nd:L.Nodup)(h:L.length<64):∃L1:List (List Int),Zgn kdL ltI [.list (L.map Zw)]=YB (.nd ((L1.map Zw).map OT.fz))∧L1.Perm L∧UpL L1:=by
 refine⟨sLay [] (lk kdL ltI (L.map Zw)) L,?_,Zfh _ _ _,?_⟩
 ·have e2:Zg1 kdL ltI [.list (L.map Zw)]=YB (.nd ((sLay PyData.none (lk kdL ltI (L.map Zw)) (L.map Zw)).map OT.fz)):=by
   show(if(decide ((L.map Zw).length<64)&&(L.map Zw).all λd=>(kdL d).isSome)=YD then YB (OT.nd ((sLay PyData.none (lk kdL ltI (L.map Zw)) (L.map Zw)).map OT.fz))else YC)=_;rw[YL];rw[Xv,decide_eq_true_eq,Xc,Vd];refine⟨h,λd m=>?_⟩;obtain⟨p,_,rfl⟩:=XD.mp m;show(Zc8 (p.map Xq)).isSome=YD;rw[Zaw];rfl
  have e3:sLay PyData.none (lk kdL ltI (L.map Zw)) (L.map Zw)=(sLay [] (lk kdL ltI (L.map Zw)) L).map Zw:=by rw[←Zpu,Zvi (Zw []) PyData.none]
  unfold Zgn;rw[e2,e3]
 ·refine Zro (β:=Nat) (d:=[]) (vs:=L) ⟨λi j k hi hj hk h1 h2=>?_,λi j hi hj c q=>?_,λi j hi hj q=>?_⟩ λi j hi hj q=>?_
  ·rw[Zwr hi hj]at h1
   rw[Zwr hj hk]at h2;rw[Zwr hi hk];exact Zjs h1 h2
  ·rw[Zwr hi hj]at q
   rw[Zwr hj hi];exact Zug (Z4e nd hi hj c) q
  ·rw[Zwr hi hj]at q
   rw[Zwr hj hi];refine Vq.mpr λz=>?_;have:=Zjs q z;rw[Zhw]at this;cases this
  ·rw[Zwr hi hj]at q
   exact q
noncomputable def bits:Nat->Nat->List Nat
 | 0,_=>[]
 | k+1,i=>if Ut i (2^k)=YD then bits k i else bits k (i-2^k)++[k+1]
noncomputable def Ybh:List Nat->List Nat->Bool
 | [],[]=>YF
 | [],_::_=>YD
 | _::_,[]=>YF
 | x::xs,y::ys=>bif Nat.beq x y then Ybh xs ys else Ut x y
theorem Z0m:∀a b:List Nat,ltI (a.map λx:Nat=>(x:Int)) (b.map λx:Nat=>(x:Int))=Ybh a b
 | [],[]=>rfl
 | [],_::_=>rfl
 | _::_,[]=>rfl
 | x::xs,y::ys=>by
  rw[Qg,Qg,ltI,Ybh]
  by_cases c:x=y
  ·subst c
   rw[YL rfl,show Nat.beq x x=YD from Nat.beq_refl x];exact Z0m xs ys
  ·rw[YM (by omega),show Nat.beq x y=YF from Vq.mpr λz=>c (JK z)]
   show decide _=Ut x y;rw[Bool.eq_iff_iff,decide_eq_true_iff];exact⟨λz=>Nat.ble_eq_true_of_le (by omega),λz=>by have:=QS z;omega⟩
theorem Zb4:∀(k i:Nat),i<2^k->(sdL k)[i]? =YB ((bits k i).map λx:Nat=>(x:Int))
 | 0,i,h=>by
  have:i=0:=by omega
  subst this;rfl
 | k+1,i,h=>by
  have l:=Zid k;rw[sdL,bits]
  by_cases c:i<2^k
  ·rw[YL (show Ut i (2^k)=YD from Nat.ble_eq_true_of_le c),Vo (by omega)]
   exact Zb4 k i c
  ·rw[YM (λz:Ut i (2^k)=YD=>c (QS z)),Bl (by omega),Xl,l,Zb4 k (i-2^k) (by rw[Nat.pow_succ]at h;omega),Qc,XM]
   show YB (_++[(k:Int)+1])=YB (_++[((k+1:Nat):Int)]);rw[Int.natCast_add];rfl
noncomputable def ltS(k i j:Nat):Bool:=Ybh (bits k i) (bits k j)
noncomputable def chB(lt:Nat->Nat->Bool):List Nat->Bool
 | []=>YD
 | [_]=>YD
 | x::y::l=>lt x y&&chB lt (y::l)
noncomputable def OkS(k:Nat)(p:List Nat):Prop:=Zdv (ltS k) (2^k)=YB p∧p.Perm (Xd (2^k))∧chB (ltS k) p=YD
noncomputable def Ych(k:Nat):Bool:=match Zdv (ltS k) (2^k)with
 | some p=>fcL p λp=>Z2u (2^k) p&&chB (ltS k) p
 | none=>YF
theorem Z1s{k:Nat}(h:Ych k=YD):∃p,OkS k p:=by
 unfold Ych at h;split at h
 case h_2=>cases h
 rename_i p ep;rw[Z0e,Xv]at h;exact⟨p,ep,Zka h.1,h.2⟩
theorem Z9n{k i j:Nat}(hi:i<2^k)(hj:j<2^k):ltI ((sdL k).getD i []) ((sdL k).getD j [])=ltS k i j:=by
 rw[Xe,Xe,Zb4 k i hi,Zb4 k j hj];exact Z0m _ _
theorem Zze{α:Type}{R:α->α->Prop}(tr:∀{a b c},R a b->R b c->R a c){f:Nat->α}{lt:Nat->Nat->Bool}:∀{p:List Nat},(∀i∈p,∀j∈p,lt i j=YD->R (f i) (f j))->chB lt p=YD->(p.map f).Pairwise R
 | [],_,_=>.nil
 | [_],_,_=>JL ..
 | x::y::l,h,c=>by
  rw[chB,Xv]at c;have t:=Zze (R:=R) (f:=f) tr (p:=y::l) (λi hi j hj=>h i (.tail _ hi) j (.tail _ hj)) c.2;have xy:=h x (.head _) y (.tail _ (.head _)) c.1;rw[Qg];refine .cons (λz hz=>?_) t;rcases Xu.mp hz with rfl|hz
  ·exact xy
  ·exact tr xy (Vn t hz)
theorem Zd7{k:Nat}(h:∃p,OkS k p)(h6:6≤k)(h9:k≤9):∃L1:List (List Int),Zgn kdL ltI [.list ((sdL k).map Zw)]=YB (.nd ((L1.map Zw).map OT.fz))∧L1.Perm (sdL k)∧UpL L1:=by
 have p64:2^6≤2^k:=Ba (by decide) h6;have p512:2^k≤2^9:=Ba (by decide) h9;have l:=Zid k;obtain⟨p,ep,pm,up⟩:=h;have lp:p.length=2^k:=by rw[pm.length_eq,Xj]
 have lt:∀i∈p,i<2^k:=λi hi=>Xx.mp (pm.mem_iff.mp hi);have ep:Zdv (lk kdL ltI ((sdL k).map Zw)) (2^k)=YB p:=by
  rw[Zn5 (lt':=ltS k) λi hi j hj=>by rw[Zwr (by omega) (by omega),Z9n hi hj]];exact ep
 have lm:((sdL k).map Zw).length=2^k:=by rw[Xc,l]
 refine⟨p.map λi=>(sdL k).getD i [],?_,?_,Zze (R:=λa b=>ltI a b=YD) (f:=λi=>(sdL k).getD i []) Zjs (λi hi j hj c=>by rw[Z9n (lt i hi) (lt j hj)];exact c) up⟩
 ·have n0:Zg1 kdL ltI [.list ((sdL k).map Zw)]=YC:=by
   show(if(decide (((sdL k).map Zw).length<64)&&((sdL k).map Zw).all λd=>(kdL d).isSome)=YD then YB (OT.nd ((sLay PyData.none (lk kdL ltI ((sdL k).map Zw)) ((sdL k).map Zw)).map OT.fz))else YC)=YC;exact YM (by rw[YS (by omega),Bool.false_and];exact XC)
  unfold Zgn;rw[n0];show(Zdv (lk kdL ltI ((sdL k).map Zw)) ((sdL k).map Zw).length).bind _=_;rw[lm,ep,Xk,YL]
  ·refine YT (λx:List Xa=>YB (OT.nd (x.map OT.fz))) ?_
   unfold tLay;rw[XQ];refine Xn λi hi=>?_;have hi:=lt i hi;rw[Xe,Xl,Zb4 k i hi];show Zw _=Zw ((sdL k).getD i []);rw[Xe,Zb4 k i hi];rfl
  ·rw[Xv,Xv,Xv,decide_eq_true_eq,decide_eq_true_eq,decide_eq_true_eq,Vd]
   refine⟨⟨⟨by omega,by omega⟩,lp⟩,λd m=>?_⟩;obtain⟨s,_,rfl⟩:=XD.mp m;show(Zc8 (s.map Xq)).isSome=YD;rw[Zaw];rfl
 ·have e:(Xd (2^k)).map (λi=>(sdL k).getD i [])=sdL k:=by
   refine List.ext_getElem? λi=>?_;rw[Xl]
   by_cases c:i<2^k
   ·rw[Qq c,Qc,Xe,Zb4 k i c];rfl
   ·rw[Qp (by rw[Xj];omega),Qp (by omega)];rfl
  exact(pm.map _).trans (by rw[e])
theorem Yjf:∃p,OkS 6 p:=Z1s (by decide +kernel)
noncomputable def I7:Nat:=0x1fc7e1f47c1ec7a1e4781dc761d4741cc721c4701bc6e1b46c1ac6a1a46819c661946418c621846017c5e1745c16c5a1645815c561545414c521445013c4e1344c12c4a1244811c461144410c42104400fc3e0f43c0ec3a0e4380dc360d4340cc320c4300bc2e0b42c0ac2a0a42809c260942408c220842007c1e0741c06c1a0641805c160541404c120441003c0e0340c02c0a0240801c060140400c0200400
noncomputable def Ye9:Nat:=0x4018020140700c010120680a0581e0380600811064090541d0340504c1b02c1707c0f01c0300400+I7/1024^32*1024^32
theorem Yjr:ck1 (ltS 7) 128 32 0 I7 [] 7 32 Ye9 [(0,(32,0))] 7=YD:=by decide +kernel
noncomputable def Yev:Nat:=0x80300a038090340b03c088320a83a098360b83e084310a439094350b43d08c330ac3b09c370bc3f04018020140700c010120680a0581e0380600811064090541d0340504c1b02c1707c0f01c0300400+I7/1024^64*1024^64
theorem Yjj:ck1 (ltS 7) 128 32 32 Ye9 [(0,(32,0))] 7 64 Yev [(0,(32,2)),(32,(32,0))] 7=YD:=by decide +kernel
noncomputable def Yfs:Nat:=0x1005012058110541305c108521285a118561385e1045112459114551345d10c5312c5b11c5713c5f08030040280e018020240d0140b03c0700c010220c8120a83a0680a098360582e0f81e03806008210c4110a43906409094350542d0f41d0340508c3304c2b0ec1b02c270dc170bc3f07c0f01c0300400+I7/1024^96*1024^96
theorem Yji:ck1 (ltS 7) 128 32 64 Yev [(0,(32,2)),(32,(32,0))] 7 96 Yfs [(0,(64,1)),(64,(32,0))] 7=YD:=by decide +kernel
noncomputable def Yf0:Nat:=0x180701a078190741b07c188721a87a198761b87e184711a479194751b47d18c731ac7b19c771bc7f1005012058110541305c108521285a118561385e1045112459114551345d10c5312c5b11c5713c5f08030040280e018020240d0140b03c0700c010220c8120a83a0680a098360582e0f81e03806008210c4110a43906409094350542d0f41d0340508c3304c2b0ec1b02c270dc170bc3f07c0f01c0300400
theorem Yh6:ck1 (ltS 7) 128 32 96 Yfs [(0,(64,1)),(64,(32,0))] 7 128 Yf0 [(0,(64,1)),(64,(32,2)),(96,(32,0))] 7=YD:=by decide +kernel
noncomputable def Yet:Nat:=0x1006014070120681607811064150741306c1707c10862148721286a1687a11866158761386e1787e1046114471124691647911465154751346d1747d10c6314c7312c6b16c7b11c6715c7713c6f17c7f08030040280e018020240d0140b03c0700c010220c8120a83a0680a098360582e0f81e03806008210c4110a43906409094350542d0f41d0340508c3304c2b0ec1b02c270dc170bc3f07c0f01c0300400
theorem Yhz:ck2 (ltS 7) 128 Yf0 [(0,(64,1)),(64,(32,2)),(96,(32,0))] 7 Yet [(0,(64,1)),(64,(64,2))] 7=YD:=by decide +kernel
noncomputable def Yf3:Nat:=0x10060080501c030040481a028160780e0180204419024150740d0141306c0b05c1f03c0700c0104218822148720c8121286a0a85a1e83a0680a11866098561d8360584e1b82e1787e0f81e038060084118421144710c411124690a4591e4390640911465094551d4350544d1b42d1747d0f41d0340510c6308c531cc3304c4b1ac2b16c7b0ec1b02c4719c2715c770dc1713c6f0bc5f1fc3f07c0f01c0300400
theorem Yiy:ck2 (ltS 7) 128 Yet [(0,(64,1)),(64,(64,2))] 7 Yf3 [(0,(128,1))] 7=YD:=by decide +kernel
theorem Yh8:Zdv (ltS 7) 128=YB (dc 128 Yf3):=Zy4 (mr:=32) (by decide +kernel) (Zou (a:=dc 128 I7) (b:=Xd 128) (by decide +kernel)) (.step (Zcr Yjr) (.step (Zcr Yjj) (.step (Zcr Yji) (.step (Zcr Yh6) (.fin (Yfw rfl)))))) (.step (Zln Yhz) (.step (Zln Yiy) (.fin Ygd)))
theorem Yic:∃p,OkS 7 p:=⟨_,Yh8,Zka (by decide +kernel),by decide +kernel⟩
noncomputable def I8:Nat:=0x3fcfe3f4fc3ecfa3e4f83dcf63d4f43ccf23c4f03bcee3b4ec3acea3a4e839ce6394e438ce2384e037cde374dc36cda364d835cd6354d434cd2344d033cce334cc32cca324c831cc6314c430cc2304c02fcbe2f4bc2ecba2e4b82dcb62d4b42ccb22c4b02bcae2b4ac2acaa2a4a829ca6294a428ca2284a027c9e2749c26c9a2649825c962549424c922449023c8e2348c22c8a2248821c862148420c82204801fc7e1f47c1ec7a1e4781dc761d4741cc721c4701bc6e1b46c1ac6a1a46819c661946418c621846017c5e1745c16c5a1645815c561545414c521445013c4e1344c12c4a1244811c461144410c42104400fc3e0f43c0ec3a0e4380dc360d4340cc320c4300bc2e0b42c0ac2a0a42809c260942408c220842007c1e0741c06c1a0641805c160541404c120441003c0e0340c02c0a0240801c060140400c0200400
noncomputable def Ygb:Nat:=0x4018020140700c010120680a0581e0380600811064090541d0340504c1b02c1707c0f01c0300400+I8/1024^32*1024^32
theorem Yjq:ck1 (ltS 8) 256 32 0 I8 [] 7 32 Ygb [(0,(32,0))] 7=YD:=by decide +kernel
noncomputable def Ye4:Nat:=0x80300a038090340b03c088320a83a098360b83e084310a439094350b43d08c330ac3b09c370bc3f04018020140700c010120680a0581e0380600811064090541d0340504c1b02c1707c0f01c0300400+I8/1024^64*1024^64
theorem Yh3:ck1 (ltS 8) 256 32 32 Ygb [(0,(32,0))] 7 64 Ye4 [(0,(32,3)),(32,(32,0))] 7=YD:=by decide +kernel
noncomputable def Ygz:Nat:=0x1005012058110541305c108521285a118561385e1045112459114551345d10c5312c5b11c5713c5f08030040280e018020240d0140b03c0700c010220c8120a83a0680a098360582e0f81e03806008210c4110a43906409094350542d0f41d0340508c3304c2b0ec1b02c270dc170bc3f07c0f01c0300400+I8/1024^96*1024^96
theorem Yjd:ck1 (ltS 8) 256 32 64 Ye4 [(0,(32,3)),(32,(32,0))] 7 96 Ygz [(0,(64,2)),(64,(32,0))] 7=YD:=by decide +kernel
noncomputable def Ye3:Nat:=0x180701a078190741b07c188721a87a198761b87e184711a479194751b47d18c731ac7b19c771bc7f1005012058110541305c108521285a118561385e1045112459114551345d10c5312c5b11c5713c5f08030040280e018020240d0140b03c0700c010220c8120a83a0680a098360582e0f81e03806008210c4110a43906409094350542d0f41d0340508c3304c2b0ec1b02c270dc170bc3f07c0f01c0300400+I8/1024^128*1024^128
theorem Yhq:ck1 (ltS 8) 256 32 96 Ygz [(0,(64,2)),(64,(32,0))] 7 128 Ye3 [(0,(64,2)),(64,(32,3)),(96,(32,0))] 7=YD:=by decide +kernel
noncomputable def Yex:Nat:=0x2009022098210942309c208922289a218962389e2049122499214952349d20c9322c9b21c9723c9f10060080501c030040481a028160780e0180204419024150740d0141306c0b05c1f03c0700c0104218822148720c8121286a0a85a1e83a0680a11866098561d8360584e1b82e1787e0f81e038060084118421144710c411124690a4591e4390640911465094551d4350544d1b42d1747d0f41d0340510c6308c531cc3304c4b1ac2b16c7b0ec1b02c4719c2715c770dc1713c6f0bc5f1fc3f07c0f01c0300400+I8/1024^160*1024^160
theorem Yhv:ck1 (ltS 8) 256 32 128 Ye3 [(0,(64,2)),(64,(32,3)),(96,(32,0))] 7 160 Yex [(0,(128,1)),(128,(32,0))] 7=YD:=by decide +kernel
noncomputable def Ygh:Nat:=0x280b02a0b8290b42b0bc288b22a8ba298b62b8be284b12a4b9294b52b4bd28cb32acbb29cb72bcbf2009022098210942309c208922289a218962389e2049122499214952349d20c9322c9b21c9723c9f10060080501c030040481a028160780e0180204419024150740d0141306c0b05c1f03c0700c0104218822148720c8121286a0a85a1e83a0680a11866098561d8360584e1b82e1787e0f81e038060084118421144710c411124690a4591e4390640911465094551d4350544d1b42d1747d0f41d0340510c6308c531cc3304c4b1ac2b16c7b0ec1b02c4719c2715c770dc1713c6f0bc5f1fc3f07c0f01c0300400+I8/1024^192*1024^192
theorem Yjl:ck1 (ltS 8) 256 32 160 Yex [(0,(128,1)),(128,(32,0))] 7 192 Ygh [(0,(128,1)),(128,(32,3)),(160,(32,0))] 7=YD:=by decide +kernel
noncomputable def Yhj:Nat:=0x300d0320d8310d4330dc308d2328da318d6338de304d1324d9314d5334dd30cd332cdb31cd733cdf200a0240b0220a8260b8210a4250b4230ac270bc208a2248b2228aa268ba218a6258b6238ae278be204a1244b1224a9264b9214a5254b5234ad274bd20ca324cb322cab26cbb21ca725cb723caf27cbf10060080501c030040481a028160780e0180204419024150740d0141306c0b05c1f03c0700c0104218822148720c8121286a0a85a1e83a0680a11866098561d8360584e1b82e1787e0f81e038060084118421144710c411124690a4591e4390640911465094551d4350544d1b42d1747d0f41d0340510c6308c531cc3304c4b1ac2b16c7b0ec1b02c4719c2715c770dc1713c6f0bc5f1fc3f07c0f01c0300400+I8/1024^224*1024^224
theorem Yhl:ck1 (ltS 8) 256 32 192 Ygh [(0,(128,1)),(128,(32,3)),(160,(32,0))] 7 224 Yhj [(0,(128,1)),(128,(64,2)),(192,(32,0))] 7=YD:=by decide +kernel
noncomputable def Ye5:Nat:=0x380f03a0f8390f43b0fc388f23a8fa398f63b8fe384f13a4f9394f53b4fd38cf33acfb39cf73bcff300d0320d8310d4330dc308d2328da318d6338de304d1324d9314d5334dd30cd332cdb31cd733cdf200a0240b0220a8260b8210a4250b4230ac270bc208a2248b2228aa268ba218a6258b6238ae278be204a1244b1224a9264b9214a5254b5234ad274bd20ca324cb322cab26cbb21ca725cb723caf27cbf10060080501c030040481a028160780e0180204419024150740d0141306c0b05c1f03c0700c0104218822148720c8121286a0a85a1e83a0680a11866098561d8360584e1b82e1787e0f81e038060084118421144710c411124690a4591e4390640911465094551d4350544d1b42d1747d0f41d0340510c6308c531cc3304c4b1ac2b16c7b0ec1b02c4719c2715c770dc1713c6f0bc5f1fc3f07c0f01c0300400
theorem Yhk:ck1 (ltS 8) 256 32 224 Yhj [(0,(128,1)),(128,(64,2)),(192,(32,0))] 7 256 Ye5 [(0,(128,1)),(128,(64,2)),(192,(32,3)),(224,(32,0))] 7=YD:=by decide +kernel
noncomputable def Yfi:Nat:=0x300e0340f0320e8360f8310e4350f4330ec370fc308e2348f2328ea368fa318e6358f6338ee378fe304e1344f1324e9364f9314e5354f5334ed374fd30ce334cf332ceb36cfb31ce735cf733cef37cff200a0240b0220a8260b8210a4250b4230ac270bc208a2248b2228aa268ba218a6258b6238ae278be204a1244b1224a9264b9214a5254b5234ad274bd20ca324cb322cab26cbb21ca725cb723caf27cbf10060080501c030040481a028160780e0180204419024150740d0141306c0b05c1f03c0700c0104218822148720c8121286a0a85a1e83a0680a11866098561d8360584e1b82e1787e0f81e038060084118421144710c411124690a4591e4390640911465094551d4350544d1b42d1747d0f41d0340510c6308c531cc3304c4b1ac2b16c7b0ec1b02c4719c2715c770dc1713c6f0bc5f1fc3f07c0f01c0300400
theorem Yix:ck2 (ltS 8) 256 Ye5 [(0,(128,1)),(128,(64,2)),(192,(32,3)),(224,(32,0))] 7 Yfi [(0,(128,1)),(128,(64,2)),(192,(64,3))] 7=YD:=by decide +kernel
noncomputable def Z79:Nat:=0x200c0280e0240d02c0f0220c82a0e8260d82e0f8210c4290e4250d42d0f4230cc2b0ec270dc2f0fc208c2288e2248d22c8f2228ca2a8ea268da2e8fa218c6298e6258d62d8f6238ce2b8ee278de2f8fe204c1284e1244d12c4f1224c92a4e9264d92e4f9214c5294e5254d52d4f5234cd2b4ed274dd2f4fd20cc328ce324cd32ccf322ccb2aceb26cdb2ecfb21cc729ce725cd72dcf723ccf2bcef27cdf2fcff10060080501c030040481a028160780e0180204419024150740d0141306c0b05c1f03c0700c0104218822148720c8121286a0a85a1e83a0680a11866098561d8360584e1b82e1787e0f81e038060084118421144710c411124690a4591e4390640911465094551d4350544d1b42d1747d0f41d0340510c6308c531cc3304c4b1ac2b16c7b0ec1b02c4719c2715c770dc1713c6f0bc5f1fc3f07c0f01c0300400
theorem Yjs:ck2 (ltS 8) 256 Yfi [(0,(128,1)),(128,(64,2)),(192,(64,3))] 7 Z79 [(0,(128,1)),(128,(128,2))] 7=YD:=by decide +kernel
noncomputable def Z61:Nat:=0x200c0100a03806008090340502c0f01c03004088320482a0e81a028260d8160b83e0780e0180208431044290e419024250d4150b43d0740d014230cc130ac3b06c0b09c3705c2f0fc1f03c0700c0108230842288e218822248d2148b23c8720c812228ca128aa3a86a0a89a3685a2e8fa1e83a0680a218c6118a63986609896358562d8f61d8360588e3384e2b8ee1b82e278de178be3f87e0f81e038060088130441284e118421244d1144b13c4710c411224c9124a93a4690a499364592e4f91e43906409214c5114a53946509495354552d4f51d4350548d3344d2b4ed1b42d274dd174bd3f47d0f41d0340520cc310ca338c6308c9334c532ccf31cc3304c8b32c4b2aceb1ac2b26cdb16cbb3ec7b0ec1b02c8731c4729ce719c2725cd715cb73dc770dc1723ccf13caf3bc6f0bc9f37c5f2fcff1fc3f07c0f01c0300400
theorem Ycd:ck2 (ltS 8) 256 Z79 [(0,(128,1)),(128,(128,2))] 7 Z61 [(0,(256,1))] 7=YD:=by decide +kernel
theorem Yhx:Zdv (ltS 8) 256=YB (dc 256 Z61):=Zy4 (mr:=32) (by decide +kernel) (Zou (a:=dc 256 I8) (b:=Xd 256) (by decide +kernel)) (.step (Zcr Yjq) (.step (Zcr Yh3) (.step (Zcr Yjd) (.step (Zcr Yhq) (.step (Zcr Yhv) (.step (Zcr Yjl) (.step (Zcr Yhl) (.step (Zcr Yhk) (.fin (Yfw rfl)))))))))) (.step (Zln Yix) (.step (Zln Yjs) (.step (Zln Ycd) (.fin Ygd))))
theorem Yis:∃p,OkS 8 p:=⟨_,Yhx,Zka (by decide +kernel),by decide +kernel⟩
theorem Zt0{k:Nat}(hk:k≤8):∃L1:List (List Int),Zgn kdL ltI [.list ((sdL k).map Zw)]=YB (.nd ((L1.map Zw).map OT.fz))∧L1.Perm (sdL k)∧UpL L1:=by
 rcases V0 k 6 with c|c
 ·exact Zq1 (Zvp k) (by rw[Zid];exact Nat.lt_of_le_of_lt (Ba (by decide) (show k≤5 by omega)) (by decide))
 ·have:k=6∨k=7∨k=8:=by omega
  rcases this with rfl|rfl|rfl
  ·exact Zd7 Yjf (by decide) (by decide)
  ·exact Zd7 Yic (by decide) (by decide)
  ·exact Zd7 Yis (by decide) (by decide)
theorem Zei{n:Nat}(h0:1≤n)(hn:n≤9):∃Ls:List (List Int),Told We [.int n] (.list (Ls.map Zw))∧(∀s,s∈Ls↔Zp6 n s)∧UpL Ls∧Ls.length≤512:=by
 have p2:∀{k:Nat},k≤8->(sdL k).length≤256:=fun{k} hk=>by
  rw[Zid];exact Qt (Ba (by decide) hk) (by decide)
 have l2:=p2 (k:=n-1) (by omega);obtain⟨L1,eS,pS,uS⟩:=Zt0 (k:=n-1) (by omega);refine⟨L1.filter λs=>decide (0<s.length),?_,λs=>?_,uS.filter _,Qt (JV ..) (by rw[pS.length_eq];omega)⟩
 ·refine Z0 rfl<|Z9 (Z3 (Zbt (Zb (Zbt Zg (show 0≤1000 by decide)) Zg) (show 1≤1000 by decide)))<|
   Zgo (ds:=Zdh 1 (n-1)) (λk δ=>∃z2,δ=[YB (.fz (.int n)),YB (.fz (.list ((sdL k).map Zw))),z2]) (Zx5 (m:=1) (Zb Z4 (Zb Za Zg)) (by decide) (by omega)) ⟨YC,rfl⟩ (λk d δ hd q=>?_) λδ' q=>?_
  ·obtain⟨z2,rfl⟩:=q
   obtain⟨hk,rfl⟩:=Zfd hd;have lk:=p2 (k:=k) (by omega);refine⟨_,_,rfl,.inl (Z3 (EvV.cast (Zjj (ds:=(sdL k).map Zw) (es:=(sdL k).map λs=>Zw (s++[(k:Int)+1])) Za (Jl (cs:=[YB (.fz (.int (1+(k:Int))))]) (sdL k) Zw (λs=>Zw (s++[(k:Int)+1])) (Wj Za) (by omega) rfl λs hs=>?_) (by rw[Xc,Xc];omega)) (y:=.list ((sdL (k+1)).map Zw)) ?_)),_,rfl⟩
   ·have ls:=(Zpi k s hs).1
    exact(Zjj (ds:=s.map Xq) (es:=[.int (1+(k:Int))]) Za (Zbt (Zb Za Zg) (show 1≤1000 by decide)) (by rw[Xc];show _+1≤_;omega)).cast (by unfold Zw;rw[XM,Int.add_comm];rfl)
   ·rw[sdL,XM,XQ];rfl
  ·obtain⟨z2,rfl⟩:=q
   rw[Zcf];refine Wt (Zkx (cs:=[]) L1 Zw (λs=>decide (0<s.length)) (Wj (Z2n (Zb Za Zg) eS (by rw[OT.data_nd,OT.map_fz]))) (by rw[pS.length_eq];omega) rfl (λs _=>Ze1 (Zme (Zll (ds:=s.map Xq) Za) Z4 (decide_eq_decide.mpr (by rw[Xc];omega)))) λs _ _=>rfl)
 ·rw[QF,decide_eq_true_eq,List.length_pos_iff,pS.mem_iff]
  exact Zoa n h0 s
theorem Z4c{n:Nat}(hn:n≤100){R:Nat->Nat->Int}{b:Int}(hb:0<b)(bb:Bt 300 b)(bR:∀i j,i<n->j<n->Bt 300 (R i j)):∃(m k:Int) (S:Nat->Nat->Int),Told Yy [tbD (Zbe n R b)] (.int m)∧Told W7 [.int m,tbD (Zbe n R b)] (Zem n S)∧0<m∧0<k∧b=m*k∧Bt 300 m∧∀x y,x<n->y<n->k*S x y=R x y:=by
 have hz:∀r∈Zbe n R b,r.length≤1000:=λr hr=>by
  unfold Zbe at hr;obtain⟨x,_,rfl⟩:=XD.mp hr;rw[Xc,Xj];omega
 have hB:Z7p (Zbe n R b) b:=λr hr q hq=>by
  unfold Zbe at hr;obtain⟨x,_,rfl⟩:=XD.mp hr;obtain⟨y,_,rfl⟩:=XD.mp hq;exact Zhx (by omega)
 have hN:∀r∈Zbe n R b,∀q∈r,Bt 300 q.num:=λr hr q hq=>by
  unfold Zbe at hr;obtain⟨x,hx,rfl⟩:=XD.mp hr;obtain⟨y,hy,rfl⟩:=XD.mp hq;exact Zfl (by omega) (bR x y (Xx.mp hx) (Xx.mp hy))
 obtain⟨m,e1,m0,hm,k,rfl⟩:=Zim hb bb (by decide) (Zbe n R b) hz hB;have k0:0<k:=by
  by_cases c:0<k
  ·exact c
  ·have:=Vk (a:=m) (b:=k) (by omega) (by omega)
   omega
 have bm:Bt 300 m:=Zgv hb ⟨k,rfl⟩ bb;have e2:=Zkh m0 bm (Zbe n R (m*k)) (by rw[Zdq];omega) hz hm hN;have er:XX ((Zbe n R (m*k)).map λr=>.list (r.map λq=>.int (scI m q)))=Zem n λi j=>scI m (Xh (R i j) (m*k)):=by
  unfold Zbe Zem;rw[XQ];refine YT XX (Xn λi _=>?_);show XX _=Z8r _ _;rw[XQ];rfl
 rw[er]at e2;refine⟨m,k,_,e1,e2,m0,k0,rfl,bm,λx y hx hy=>?_⟩;have hd:((Xh (R x y) (m*k)).den:Int)∣m:=hm _ (XD.mpr ⟨x,Xx.mpr hx,rfl⟩) _ (XD.mpr ⟨y,Xx.mpr hy,rfl⟩);have:=Zzw hd;have e:((k*scI m (Xh (R x y) (m*k)):Int):Rat)=((R x y:Int):Rat):=by
  have nk:((k:Int):Rat)≠0:=by
   intro z;have:k=0:=by exact_mod_cast z
   omega
  have nm:((m:Int):Rat)≠0:=by
   intro z;have:m=0:=by exact_mod_cast z
   omega
  rw[Rat.intCast_mul,this,QM,Rat.intCast_mul];rw[Rat.mul_comm,Rat.mul_assoc];exact Rat.div_mul_cancel (λz=>(Rat.mul_eq_zero.mp z).elim nm nk)
 exact_mod_cast e
noncomputable def wtL(Ls:List (List Int))(W:List Int->Int)(b:Int):List (List Int×Rat):=(Ls.filter λA=>decide (0<W A)).map λA=>(A,Xh (W A) (2*b))
theorem Z1y{n:Nat}{R:Nat->Nat->Int}{b:Int}{δ:Zh}(h:δ[0]? =YB (YB (.fz (tbD (Zbe n R b))))):EvV (Zaq Zcc (Zc (Ze 0) Zn)) δ (.int n):=W9 (Zb (Za h) Zg) (by rw[Ziw,Zdq])
theorem Zne{n:Nat}(hn:n≤10){R:Nat->Nat->Int}{b:Int}(hb:0<b)(bb:Bt 300 b)(bR:∀i j,i<n->j<n->Bt 300 (R i j)){Ls:List (List Int)}(eC:Told We [.int n] (.list (Ls.map Zw)))(hL:∀s∈Ls,Zp6 n s)(lL:Ls.length≤1000){W:List Int->Int}(hW:∀A∈Ls,∀m,Lst R A (away n A) m->max 0 m=W A):Told Jw [tbD (Zbe n R b),fnD "split_rule"] (Ze7 (wtL Ls W b)):=by
 obtain⟨m,k,S,e1,e2,m0,k0,rfl,bm,sc⟩:=Z4c (n:=n) (by omega) hb bb bR;obtain⟨δ',e3,z5,z6,rfl⟩:=Zeg (it:=Zcu (Zv We (Zc (Zaq Zcc (Zc (Ze 0) Zn)) Zn))) (g:=gNm 5) (S:=(Z5 (wE (Zv Ye (Zc (Ze 3) (Zc (Ze 5) (Zc (Ze 1) Zn)))) (W2 6))
  (Zbr (tV (Zi gGt (Ze 6) (fC (.int 0))))
  (Yw 4 (Zfm (Zc (Ze 5) (Zc (Zv Yz (Zc (Ze 6) (Zc (Zi Zcs (fC (.int 2)) (Ze 2)) Zn))) Zn))))
  fNx))) (δ:=[YB (.fz (tbD (Zbe n R (m*k)))),YB (.fz (fnD "split_rule")),YB (.fz (.int m)),YB (.fz (Zem n S)),YB (.nd []),YC,YC]) (ds:=Ls.map Zw)
  (λi δ=>∃z5 z6,δ=[YB (.fz (tbD (Zbe n R (m*k)))),YB (.fz (fnD "split_rule")),YB (.fz (.int m)),YB (.fz (Zem n S)),YB (Zz6 (wtL (Ls.take i) W (m*k))),z5,z6]) (Wj (Zq (Zb (Z1y rfl) Zg) eC)) ⟨YC,YC,rfl⟩ (λi d δ hd q=>by
   obtain⟨z5,z6,rfl⟩:=q;rw[Xl]at hd;cases e:Ls[i]? with
   | none=>rw[e]at hd;cases hd
   | some s=>
    rw[e]at hd;cases hd;have gs:=hL s (Qn e);have ls:s.length≤100:=by
     obtain⟨x,hx⟩:=Bq s gs.ne;have n1:1≤n:=by have:=gs.pt x hx;omega
     have:=(Zpi _ s ((Zoa n n1 s).mpr gs).1).1;omega
    obtain⟨mS,hm,eL⟩:=Zp0 (S:=S) (A:=s) (n:=n) (by omega) ls gs.pt gs.ne;have hR:=hW s (Qn e) _ (hm.scaled k0 sc (λx hx=>⟨by have:=(gs.pt x hx).1;omega,(gs.pt x hx).2⟩) λx hx=>by
     obtain⟨a1,a2,_⟩:=Yo.mp hx;exact⟨a1,a2⟩)
    rw[Zwt k0]at hR;have eF:=Zi2 (n:=302) (t:=max 0 mS) (b:=2*m) (by omega) (Bt.mul (m:=2) (Bt.of_lt (by decide) (by decide)) bm);have eD:Xh (W s) (2*(m*k))=Xh (max 0 mS) (2*m):=by rw[←hR,show 2*(m*k)=(2*m)*k by rw[Int.mul_assoc],Jq k0 (by omega)]
    have cw:0<max 0 mS↔0<W s:=by
     rw[←hR];exact⟨λq=>Int.mul_pos k0 q,λq=>Int.not_le.mp λz=>by have:=Vk (a:=k) (by omega) z;omega⟩
    have et:wtL (Ls.take (i+1)) W (m*k)=wtL (Ls.take i) W (m*k)++if 0<W s then[(s,Xh (W s) (2*(m*k)))]else[]:=by
     unfold wtL;rw[Vg,e,Option.toList_some,Uc,XM]
     by_cases c:0<W s
     ·rw[YL c,JW (p:=λA=>decide (0<W A)) (YQ c)];rfl
     ·rw[YM c,JX (p:=λA=>decide (0<W A)) (by rw[YS c];exact XC)];rfl
    have ll:(wtL (Ls.take i) W (m*k)).length≤1000:=by
     unfold wtL;rw[Xc];exact Qt (JV ..) (Qt (U3 ..) lL)
    by_cases c:0<max 0 mS
    ·refine⟨_,_,rfl,.inl (Je (Z3 (Zq (Zb Za (Zb Za (Zb Za Zg))) eL)) (Zbk (Ze1 (Zme Za Z4 (YQ c))) (Zdj (d:=ctD (s,Xh (max 0 mS) (2*m))) (ts:=((wtL (Ls.take i) W (m*k)).map ctD).map OT.fz) (Zap (Zb Za (Zb (Zq (Zb Za (Zb (Zr6 Z4 Za) Zg)) eF) Zg)) (show 2≤1000 by decide)) rfl (by rw[Xc,Xc];omega)))),YB (.fz (Zw s)),YB (.fz (.int (max 0 mS))),?_⟩
     rw[et,YL (cw.mp c),eD];show _=[_,_,_,_,YB (Zz6 (wtL (Ls.take i) W (m*k)++[(s,Xh (max 0 mS) (2*m))])),YB (.fz (Zw s)),YB (.fz (.int (max 0 mS)))];unfold Zz6;rw[XM,XM];rfl
    ·refine⟨_,_,rfl,.inl (Je (Z3 (Zq (Zb Za (Zb Za (Zb Za Zg))) eL)) (Jb (Ze1 (Zme Za Z4 (YS c))) rfl)),YB (.fz (Zw s)),YB (.fz (.int (max 0 mS))),?_⟩
     rw[et,YM (λz=>c (cw.mpr z)),QW];rfl)
 rw[Xc,Vc]at e3;exact Z0 rfl<|Z9 (Z3 (Zq (Zb Za Zg) e1))<|Z9 (Z3 (Zq (Zb Za (Zb Za Zg)) e2))<|Z9 Zdz<|Z9 e3 (Z31 rfl (Zh7 _))
theorem Zin{n:Nat}(hn:n≤10){R:Nat->Nat->Int}{b:Int}(hb:0<b)(bb:Bt 300 b)(bR:∀i j,Bt 300 (R i j))(lg:LgR n R){Ls:List (List Int)}(eC:Told We [.int n] (.list (Ls.map Zw)))(hL:∀s∈Ls,Zp6 n s)(lL:Ls.length≤1000){W:List Int->Int}(hW:∀A∈Ls,∀m,Lst R A (away n A) m->max 0 m=W A):Told Z6 [tbD (Zbe n R b)] (Ze7 (wtL Ls W b)) :=
 Z0 rfl<|Z9 (Z20 (Zq (Zb Za Zg) (by rw[Zae];exact Zlv hn (Ycf hb bb bR) (by rw[Ydv hb];exact lg)))) (Wt (Zq (Zb Za (Zb Z4 Zg)) (Zne hn hb bb (λi j _ _=>bR i j) eC hL lL hW)))
theorem Z7j{n:Nat}{R:Nat->Nat->Int}(tr:∀i j k,i<n->j<n->k<n->R i k≤R i j+R j k):LgR n R:=by
 unfold LgR;rcases Zyn (n:=n) (c:=shI R) (v:=tpI)with z|⟨⟨i,j,k,hi,hj,hk,c⟩,_⟩
 ·exact z.2
 ·have:=YW c
  have:=tr i j k hi hj hk;omega
noncomputable def Btw(n:Nat)(R:Nat->Nat->Int)(A:List Int):Prop:=(∃a∈A,∃b∈A,∃c∈away n A,R a.toNat c.toNat+R c.toNat b.toNat=R a.toNat b.toNat)∨∃a∈away n A,∃b∈away n A,∃c∈A,R a.toNat c.toNat+R c.toNat b.toNat=R a.toNat b.toNat
theorem Z8d{R:Nat->Nat->Int}(sy:∀i j,R i j=R j i)(dg:∀i,R i i=0){A B:List Int}{m a b c:Int}(h:Lst R A B m)(ha:a∈A)(hb:b∈A)(hc:c∈B)(e:R a.toNat c.toNat+R c.toNat b.toNat=R a.toNat b.toNat):m≤0:=by
 have d2:=(Zgz hc hc).elim id id;have s1:=sy b.toNat c.toNat;have s2:=sy a.toNat b.toNat;have s3:=sy a.toNat c.toNat;have d:=dg c.toNat;rcases Zgz ha hb with d1|d1
 ·have:=h.2 _ d1 _ d2
  unfold rlI rl at this;dsimp only at this;omega
 ·have:=h.2 _ d1 _ d2
  unfold rlI rl at this;dsimp only at this;omega
theorem Z18{R:Nat->Nat->Int}(sy:∀i j,R i j=R j i)(dg:∀i,R i i=0){A B:List Int}{m a b c:Int}(h:Lst R A B m)(ha:a∈B)(hb:b∈B)(hc:c∈A)(e:R a.toNat c.toNat+R c.toNat b.toNat=R a.toNat b.toNat):m≤0:=by
 have d2:=(Zgz hc hc).elim id id;have s1:=sy b.toNat c.toNat;have s2:=sy a.toNat b.toNat;have s3:=sy a.toNat c.toNat;have d:=dg c.toNat;rcases Zgz ha hb with d1|d1
 ·have:=h.2 _ d2 _ d1
  unfold rlI rl at this;dsimp only at this;omega
 ·have:=h.2 _ d2 _ d1
  unfold rlI rl at this;dsimp only at this;omega
theorem Zq0{n:Nat}{R:Nat->Nat->Int}(sy:∀i j,R i j=R j i)(dg:∀i,R i i=0){A:List Int}(h:Btw n R A){m:Int}(hm:Lst R A (away n A) m):max 0 m=0:=by
 have:m≤0:=by
  rcases h with⟨a,ha,b,hb,c,hc,e⟩|⟨a,ha,b,hb,c,hc,e⟩
  ·exact Z8d sy dg hm ha hb hc e
  ·exact Z18 sy dg hm ha hb hc e
 omega
theorem Zyp{Ls:List (List Int)}{b:Int}:wtL Ls (λ_=>0) b=[]:=by
 unfold wtL;rw[List.filter_eq_nil_iff.mpr λA _ c=>YX (YW c) (Int.lt_irrefl 0)];rfl
theorem Zn7{n:Nat}(hn:n≤10){R:Nat->Nat->Int}{b:Int}(hq:∀i j,Q4 (Xh (R i j) b)){L:List (List Int×Rat)}{bot:Int}(eS:Told Z6 [tbD (Zbe n R b)] (Ze7 L))(hl:L.length<64)(b0:0<bot)(b1:bot≤12)(hW:∀p∈L,Wq bot p.2):Told Yh [tbD (Zbe n R b)] (Z1 n (frG λi j=>Xh (R i j) b-Qm L i j)):=by
 have eT:Told Z2 [.int n,Ze7 L] (Z1 n (frG (Qm L))):=by
  refine⟨_,Zhl (n:=n) hn L hl (B:=2*bot) (by omega) (Bt.mono (m:=6) (Bt.of_lt (by omega) (by omega)) (by decide)) λp hp=>?_,?_⟩
  ·obtain⟨x,e,x0,x1⟩:=hW p hp
   rw[e];exact⟨Zhx (by omega),Zfl (by omega) (Znj (m:=100) x0 (JG x1 (by decide +kernel)) (by decide))⟩
  ·rw[Zfr]
   unfold Z1;exact YT XX (Xn λi _=>YT XX (Xn λj _=>Z92 L i j))
 obtain⟨T,hT⟩:∃T:Nat->Nat->Rat,T= λi j=>Xh (R i j) b:=⟨_,rfl⟩;have eg:tbD (Zbe n R b)=Z1 n (frG T):=by rw[hT];exact Zae n R b
 have qT:∀i j,Q4 (T i j):=λi j=>by rw[hT];exact hq i j
 have hlen:EvV (Zaq Zcc (Zc (Ze 0) Zn)) [YB (.fz (tbD (Zbe n R b))),YC,YC,YC,YC] (.int n):=Yas rfl;rw[eg]at eS hlen⊢;rw[show(λi j=>Xh (R i j) b-Qm L i j)= λi j=>T i j-Qm L i j by rw[hT]];obtain⟨δ',e3,z3,z4,rfl⟩:=Zeg (it:=Zdx (Zc (Ze 0) (Zc (Ze 1) Zn))) (g:=gTp 2 (gCn (gNm 3) (gCn (gNm 4) gNl))) (S:=Yw 2 (Yr 2 [] (Zdx (Zc (Ze 3) (Zc (Ze 4) Zn))) (gTp 2 (gCn (gNm 0) (gCn (gNm 1) gNl))) Zc7 (Zv Zbh (Zc (Ze 0) (Zc (Ze 1) Zn)))))
  (δ:=[YB (.fz (Z1 n (frG T))),YB (.fz (Z1 n (frG (Qm L)))),YB (.nd []),YC,YC]) (ds:=(Xd n).map λi=>.tuple [.list ((Xd n).map λj=>frG T i j),.list ((Xd n).map λj=>frG (Qm L) i j)])
  (λk δ=>∃z3 z4,δ=[YB (.fz (Z1 n (frG T))),YB (.fz (Z1 n (frG (Qm L)))),YB (.nd ((((Xd n).take k).map λi=>XX ((Xd n).map λj=>frD (T i j-Qm L i j))).map OT.fz)),z3,z4]) (Zf9 (Za (d:=Z1 n (frG T)) rfl) (Za (d:=Z1 n (frG (Qm L))) rfl) (Zp3 _ _ _)) ⟨YC,YC,rfl⟩ (λk d δ hd q=>by
   obtain⟨z3,z4,rfl⟩:=q;rw[Xl]at hd;have hk:k<n:=by
    refine Nat.lt_of_not_le λz=>?_;rw[Qp (by rw[Xj];exact z)]at hd;cases hd
   rw[Qq hk]at hd;cases hd;have tk:(Xd n).take (k+1)=(Xd n).take k++[k]:=by rw[Vg,Qq hk];rfl
   refine⟨_,_,rfl,.inl (Zdj (d:=.list ((Xd n).map λj=>frD (T k j-Qm L k j))) (ts:=(((Xd n).take k).map λi=>XX ((Xd n).map λj=>frD (T i j-Qm L i j))).map OT.fz) (Zyu (Xd n) (λj=>.tuple [frG T k j,frG (Qm L) k j]) (λj=>frD (T k j-Qm L k j)) (Zf9 (Za rfl) (Za rfl) (Zp3 _ _ _)) (by rw[Xj];omega) λj _ z0 z1=>⟨_,_,rfl,Zq (Zb (Za rfl) (Zb (Za rfl) Zg)) (Zyk (qT k j).num (qT k j).den (Z7n hl b0 b1 hW k j).num (Z7n hl b0 b1 hW k j).den)⟩) rfl (by rw[Xc,Xc,Bv];omega)),YB (.fz (.list ((Xd n).map λj=>frG T k j))),YB (.fz (.list ((Xd n).map λj=>frG (Qm L) k j))),?_⟩;rw[tk,XM,XM];rfl)
 rw[Xc,Xj]at e3;rw[show(Xd n).take n=Xd n from List.take_of_length_le (by rw[Xj];omega)]at e3;exact Z0 rfl<|Z9 (Z3 (Zq (Zb hlen (Zb (Zq (Zb Za Zg) eS) Zg)) eT))<|Z9 Zdz<|Z9 e3 (Z31 rfl (by rw[OT.data_nd,OT.map_fz];rfl))
theorem Z8h(i j:Nat):Qm [] i j=0:=by
 unfold Qm SmL;split
 ·rfl
 ·split<;>rfl
theorem Z4u{e:FE}{g:FG}{δ:Zh}{N:Zh->Prop}{R:Xa->Zh->Prop}(h:EvP e δ λd δ'=>∃δ2,g d δ'=YB δ2∧N δ2):EpS (wE e (Z8f g)) δ N R:=by
 obtain⟨t,δ',e1,δ2,e2,q⟩:=h;refine .inl ⟨δ2,?_,q⟩;rw[Zcw,e1,Wk,Z36,e2];rfl
noncomputable def nO(l:List Nat):OT:=.nd (l.map λx:Nat=>.fz (.int (x:Int)))
theorem Zte(l:List Nat):(nO l).data=lsN l:=by
 unfold nO lsN;rw[OT.data_nd,XQ];exact YT XX (Xn λx _=>OT.data_fz _)
theorem Zjw{α β:Type}(f:α->β):∀(l:List α) (j:Nat),(l.map f).eraseIdx j=(l.eraseIdx j).map f
 | [],_=>rfl
 | _::_,0=>rfl
 | a::l,j+1=>by
  show f a::(l.map f).eraseIdx j=f a::(l.eraseIdx j).map f;rw[Zjw f l j]
theorem Zh1:∀(l:List Nat) (j:Nat),j<l.length->(l.getD j 0::l.eraseIdx j).Perm l
 | [],_,h=>by simp at h
 | a::l,0,_=>.refl _
 | a::l,j+1,h=>by
  have:=Zh1 l j (by simpa using h);show(l.getD j 0::a::l.eraseIdx j).Perm (a::l);exact(List.Perm.swap _ _ _).trans (this.cons a)
theorem Z7r{i:Nat}{a:FE}{δ:Zh}{l:List Nat}{Q:Xa->Zh->Prop}(h0:δ[i]? =YB (YB (nO l)))(hl:l.length≤1000)(h:EvP a δ λd δ1=>∃j:Nat,d= .int j∧j<l.length∧δ1[i]? =YB (YB (nO l))∧Q (.int (l.getD j 0:Nat)) (δ1.set i (YB (nO (l.eraseIdx j))))):EvP (Z9t i a) δ Q:=by
 obtain⟨t,δ1,e1,j,d1,hj,h1,q⟩:=h;refine⟨.fz (.int (l.getD j 0:Nat)),δ1.set i (YB (nO (l.eraseIdx j))),?_,by rw[OT.data_fz];exact q⟩;have e2:(l.map λx:Nat=>OT.fz (.int (x:Int)))[j]? =YB (.fz (.int (l.getD j 0:Nat))):=by
  rw[Xl,Xe,Xm hj];rfl
 unfold nO at h0 h1⊢;unfold Z9t;rw[h0];dsimp only;rw[e1,Xk];dsimp only;rw[h1];dsimp only;rw[d1];dsimp only;rw[Zsy (by rw[Xc];exact hj)];dsimp only;rw[e2];dsimp only;rw[YL (by rw[Xc,X8];omega),Zjw]
noncomputable def sid(few:Nat)(far:Int)(i j:Nat):Int:=if i=j then 0 else far*(if decide (i<few)=decide (j<few)then 2 else 1)
noncomputable def sE(x:Int)(few n:Nat)(far:Int)(o5 o6 o7 o8 o9 oa:Option OT)(more:Nat):Zh:=[YB (dk x),YB (.fz (.int few)),YB (.fz (.int more)),YB (.fz (.int n)),YB (.fz (.int far)),o5,o6,o7,o8,o9,oa]
theorem Zzu{a b:FE}{δ:Zh}{i j:Nat}(ha:EvV a δ (.int i))(hb:EvV b δ (.int j)):EvV (Zi gLt a b) δ (.bool (decide (i<j))):=Zu3 ha hb (decide_eq_decide.mpr (by omega))
theorem Yae(x y:Bool):gEq (.bool x) (.bool y)=YB (.bool (decide (x=y))):=by cases x<;>cases y<;>rfl
theorem Zqu{x:Int}{few n more:Nat}{far:Int}{o8 o9 oa:Option OT}(hn:n≤10):∃o6 o7,Zaj (iRa (Zc (Ze 3) Zn)) (gNm 6)
  (Zaj (iRa (Zc (Ze 3) Zn)) (gNm 7)
  (Zbr (tV (Zi gNe (Ze 6) (Ze 7)))
  (Zg3 5 (Zi Zcs (Ze 4) (Yb gIx (Zb0 (Zc (fC (.int 1)) (Zc (fC (.int 2)) Zn))) (Zaq Zrk (Zc (Zi gEq (Zi gLt (Ze 6) (Ze 1)) (Zi gLt (Ze 7) (Ze 1))) Zn)))) (Ze 6) (Ze 7))
  fNx)) (sE x few n far (YB (W0 n (inG λ_ _=>0))) YC YC o8 o9 oa more)= .nx (sE x few n far (YB (W0 n (inG (sid few far)))) o6 o7 o8 o9 oa more):=by
 obtain⟨δ',e,f,o6,o7,rfl,hf⟩:=Zeg (it:=iRa (Zc (Ze 3) Zn)) (g:=gNm 6) (S:=Zaj (iRa (Zc (Ze 3) Zn)) (gNm 7) (Zbr (tV (Zi gNe (Ze 6) (Ze 7)))
  (Zg3 5 (Zi Zcs (Ze 4) (Yb gIx (Zb0 (Zc (fC (.int 1)) (Zc (fC (.int 2)) Zn))) (Zaq Zrk (Zc (Zi gEq (Zi gLt (Ze 6) (Ze 1)) (Zi gLt (Ze 7) (Ze 1))) Zn)))) (Ze 6) (Ze 7))
  fNx)) (δ:=sE x few n far (YB (W0 n (inG λ_ _=>0))) YC YC o8 o9 oa more) (ds:=(Xd n).map mkI) (λk δ=>∃(f:Nat->Nat->Int) (o6 o7:Option OT),δ=sE x few n far (YB (W0 n (inG f))) o6 o7 o8 o9 oa more∧∀i j,i<n->j<n->f i j=if i<k then sid few far i j else 0) (Zwa (Zb (Za rfl) Zg) hn) ⟨_,_,_,rfl,λi j _ _=>rfl⟩ (λk d δ hd q=>by
   obtain⟨f,o6,o7,rfl,hf⟩:=q;have hk:k<n:=by
    refine Nat.lt_of_not_le λz=>?_;rw[Xl,Qp (by rw[Xj];exact z)]at hd;cases hd
   rw[Xl,Qq hk]at hd;cases hd;obtain⟨δ',e,g,o7',rfl,hg⟩:=Zeg (it:=iRa (Zc (Ze 3) Zn)) (g:=gNm 7) (S:=Zbr (tV (Zi gNe (Ze 6) (Ze 7)))
    (Zg3 5 (Zi Zcs (Ze 4) (Yb gIx (Zb0 (Zc (fC (.int 1)) (Zc (fC (.int 2)) Zn))) (Zaq Zrk (Zc (Zi gEq (Zi gLt (Ze 6) (Ze 1)) (Zi gLt (Ze 7) (Ze 1))) Zn)))) (Ze 6) (Ze 7))
    fNx) (δ:=sE x few n far (YB (W0 n (inG f))) (YB (.fz (mkI k))) o7 o8 o9 oa more) (ds:=(Xd n).map mkI) (λl δ=>∃(g:Nat->Nat->Int) (o7:Option OT),δ=sE x few n far (YB (W0 n (inG g))) (YB (.fz (mkI k))) o7 o8 o9 oa more∧∀i j,i<n->j<n->g i j=if i<k∨i=k∧j<l then sid few far i j else 0) (Zwa (Zb (Za rfl) Zg) hn) ⟨f,_,rfl,λi j hi hj=>by
     rw[hf i j hi hj]
     by_cases c:i<k
     ·rw[YL c,YL (.inl c)]
     ·rw[YM c,YM (by omega)]⟩ (λl d δ hd q=>by
     obtain⟨g,o7,rfl,hg⟩:=q;have hl:l<n:=by
      refine Nat.lt_of_not_le λz=>?_;rw[Xl,Qp (by rw[Xj];exact z)]at hd;cases hd
     rw[Xl,Qq hl]at hd;cases hd
     by_cases c:k=l
     ·subst c
      refine⟨_,_,rfl,.inl (Jb (Ze1 (Zoc (Za (i:=6) (d:=.int k) rfl) (Za (i:=7) (d:=.int k) rfl) (by rw[YQ rfl];rfl))) rfl),g,YB (.fz (mkI k)),rfl,λi j hi hj=>?_⟩;rw[hg i j hi hj]
      by_cases q1:i=k∧j=k
      ·rw[YM (by omega),YL (by omega),q1.1,q1.2]
       unfold sid;rw[YL rfl]
      ·by_cases q2:i<k∨i=k∧j<k
       ·rw[YL q2,YL (by omega)]
       ·rw[YM q2,YM (by omega)]
     ·have ev:EvV (Zi Zcs (Ze 4) (Yb gIx (Zb0 (Zc (fC (.int 1)) (Zc (fC (.int 2)) Zn))) (Zaq Zrk (Zc (Zi gEq (Zi gLt (Ze 6) (Ze 1)) (Zi gLt (Ze 7) (Ze 1))) Zn)))) (sE x few n far (YB (W0 n (inG g))) (YB (.fz (mkI k))) (YB (.fz (mkI l))) o8 o9 oa more) (.int (sid few far k l)):=by
       have ix:EvV (Yb gIx (Zb0 (Zc (fC (.int 1)) (Zc (fC (.int 2)) Zn))) (Zaq Zrk (Zc (Zi gEq (Zi gLt (Ze 6) (Ze 1)) (Zi gLt (Ze 7) (Ze 1))) Zn))) (sE x few n far (YB (W0 n (inG g))) (YB (.fz (mkI k))) (YB (.fz (mkI l))) o8 o9 oa more) (.int (if decide (k<few)=decide (l<few)then 2 else 1)):=by
        refine Y4 (Zbt (Zb Z4 (Zb Z4 Zg)) (show 2≤1000 by decide)) (W9 (Zb (Zo (Zzu (Za (i:=6) (d:=.int (k:Int)) rfl) (Za (i:=1) (d:=.int (few:Int)) rfl)) (Zzu (Za (i:=7) (d:=.int (l:Int)) rfl) (Za (i:=1) (d:=.int (few:Int)) rfl)) (Yae _ _)) Zg) (Z0c _)) ?_
        by_cases q:decide (k<few)=decide (l<few)
        ·rw[YL q,YQ q];rfl
        ·rw[YM q,YS q];rfl
       have v2:(0:Int)≤(if decide (k<few)=decide (l<few)then 2 else 1)∧(if decide (k<few)=decide (l<few)then 2 else 1)≤(2:Int):=by split<;>decide
       refine(Zo (Za (i:=4) (d:=.int far) rfl) ix (Jf (Z9c (by omega)))).cast ?_;unfold sid;rw[YM c]
      refine⟨_,_,rfl,.inl (Zbk (Ze1 (Zoc (Za (i:=6) (d:=.int k) rfl) (Za (i:=7) (d:=.int l) rfl) (by rw[YS (by omega)];rfl))) (Z3g (i:=5) (a:=k) (b:=l) ev rfl (Za rfl) hk (Za rfl) hl)),_,YB (.fz (mkI l)),rfl,λi j hi hj=>?_⟩;unfold upR
      by_cases q1:i=k∧j=l
      ·rw[YL q1,YL (by omega),q1.1,q1.2]
      ·rw[YM q1,hg i j hi hj]
       by_cases q2:i<k∨i=k∧j<l
       ·rw[YL q2,YL (by omega)]
       ·rw[YM q2,YM (by omega)])
   rw[Xc,Xj]at hg;refine⟨_,_,rfl,.inl e,g,YB (.fz (mkI k)),o7',rfl,λi j hi hj=>?_⟩;rw[hg i j hi hj]
   by_cases c:i<k+1
   ·rw[YL c,YL (by omega)]
   ·rw[YM c,YM (by omega)])
 rw[Xc,Xj]at hf;refine⟨o6,o7,e.trans ?_⟩;rw[Zpc (f:=inG f) (g:=inG (sid few far)) λi j hi hj=>by
  show Xq _=Xq _;rw[hf i j hi hj,YL hi]]
theorem Yel{r:Int}(h0:0≤r)(h1:r<4):∃few more:Nat,gIx (.list [.tuple [.int 2,.int 3],.tuple [.int 2,.int 4],.tuple [.int 2,.int 5],.tuple [.int 3,.int 3]]) (.int r)=YB (.fz (.tuple [.int few,.int more]))∧2≤few∧few+3≤few+more∧5≤few+more∧few+more≤7:=by
 have:r=0∨r=1∨r=2∨r=3:=by omega
 rcases this with rfl|rfl|rfl|rfl
 ·exact⟨2,3,rfl,by decide,by decide,by decide,by decide⟩
 ·exact⟨2,4,rfl,by decide,by decide,by decide,by decide⟩
 ·exact⟨2,5,rfl,by decide,by decide,by decide,by decide⟩
 ·exact⟨3,3,rfl,by decide,by decide,by decide,by decide⟩
structure SdT(n few:Nat)(far b:Int)(O:List Nat):Prop where
 few2:2≤few
 more3:few+3≤n
 n5:5≤n
 n7:n≤7
 far0:0<far
 far1:far≤100000000000000000000
 b0:0<b
 b9:b≤9
 pm:O.Perm (Xd n)
theorem Zto{S:FS}{δ:Zh}{i:Nat}{o:OT}{N:Zh->Prop}{R:Xa->Zh->Prop}(h:δ[i]? =YB (YB o))(k:EpS S (δ.set i (YB (.fz o.data))) N R):EpS (Zce i S) δ N R:=by
 rcases k with⟨δ',e,q⟩|⟨t,δ',e,q⟩
 ·exact .inl ⟨δ',Zho h e,q⟩
 ·exact .inr ⟨t,δ',Zho h e,q⟩
theorem Zow(x:Int):ToldI Jj (dk x) [] λd t'=>∃(x':Int) (n few:Nat) (far b:Int) (O:List Nat),t'=dk x'∧d=tbD (Zbe n (sb (sid few far) O) b)∧SdT n few far b O:=by
 refine Zkf rfl (Yl (Z4u (Zt8 (Y0 (Zbt (Zb (Zap (Zb Z4 (Zb Z4 Zg)) (show 2≤1000 by decide)) (Zb (Zap (Zb Z4 (Zb Z4 Zg)) (show 2≤1000 by decide)) (Zb (Zap (Zb Z4 (Zb Z4 Zg)) (show 2≤1000 by decide)) (Zb (Zap (Zb Z4 (Zb Z4 Zg)) (show 2≤1000 by decide)) Zg)))) (show 4≤1000 by decide)) (Zbl rfl (Zb Z4 Zg) (by decide) (btc (by decide +kernel) (by decide +kernel)) λr x1 r0 r1=>?_)))));obtain⟨few,more,e1,f2,m2,n5,n7⟩:=Yel r0 r1;obtain⟨n,hn⟩:∃n,n=few+more:=⟨_,rfl⟩;refine⟨_,e1,_,rfl,Yl (Zbj (Y0 (d:=.int n) ((Zar (Za (i:=1) (d:=.int (few:Int)) rfl) (Za (i:=2) (d:=.int (more:Int)) rfl)).cast (by rw[hn];rfl)) ?_))⟩;refine Yl (Zbj (Zi3 (Y0 Z4 (Zdt rfl (Wm (Zt8 (Y0 (Zbt (Zb Z4 (Zb (Zo Z4 Z4 Yg5) Zg)) (show 2≤1000 by decide)) (Zbl rfl (Zb Z4 Zg) (by decide) (btc (by decide +kernel) (by decide +kernel)) λr2 x2 r20 r21=>?_))))))));obtain⟨mx,em,m0,m1⟩:∃mx:Int,gIx (.list [.int 3,.int 100000000000000000000]) (.int r2)=YB (.fz (.int mx))∧0<mx∧mx≤100000000000000000000:=by
  have:r2=0∨r2=1:=by omega
  rcases this with rfl|rfl
  ·exact⟨_,rfl,by decide,by decide⟩
  ·exact⟨_,rfl,by decide,by decide⟩
 have bm:Bt 400 mx:=by
  have:(100000000000000000000:Int)<2^70:=by decide +kernel
  exact(Bt.of_lt (m:=70) (by omega) (by omega)).mono (by decide)
 refine⟨_,em,Zbq ⟨_,rfl,(Zoi x2 m0 bm).mono λd t' h=>?_⟩⟩;obtain⟨r3,x3,rfl,r30,r31,rfl⟩:=h;refine⟨_,Zl8 _ _,?_⟩;obtain⟨far,hf⟩:∃far,far=1+r3:=⟨_,rfl⟩;rw[←hf];show EpS _ (sE x3 few n far YC YC YC YC YC YC more) _ _;refine Yl (Zk5 (o:=W0 n (inG λ_ _=>0)) (Zey (cs:=[YB (.fz (.int n))]) (Xd n) (λi:Nat=>Xq (0+(i:Int))) (λi=>.nd ((Xd n).map λj=>.fz (inG (λ_ _=>0) i j))) (Zm2 (Zb (Za rfl) Zg) (by omega)) (by rw[Xj,X8];omega) rfl λi _=>
   Zey (cs:=[]) (Xd n) (λi:Nat=>Xq (0+(i:Int))) (λj=>.fz (inG (λ_ _=>0) i j)) (Zm2 (Zb (Za rfl) Zg) (by omega)) (by rw[Xj,X8];omega) rfl λj _=>rfl) ?_)
 obtain⟨o6,o7,e6⟩:=Zqu (x:=x3) (few:=few) (n:=n) (more:=more) (far:=far) (o8:=YC) (o9:=YC) (oa:=YC) (by omega);refine Yl (Zfb e6 ?_);refine Yl (Zk5 (o:=nO (Xd n)) (δ':=sE x3 few n far (YB (W0 n (inG (sid few far)))) o6 o7 YC YC YC more) ?_ ?_)
 ·have e:Ya5 (Zc (Ze 3) Zn) (sE x3 few n far (YB (W0 n (inG (sid few far)))) o6 o7 YC YC YC more)=YB (.nd ((Zdh 0 n).map OT.fz),sE x3 few n far (YB (W0 n (inG (sid few far)))) o6 o7 YC YC YC more):=by
   obtain⟨_,e1,d1⟩:=Zb (Za (δ:=sE x3 few n far (YB (W0 n (inG (sid few far)))) o6 o7 YC YC YC more) (i:=3) (d:=.int n) rfl) Zg;rw[Z4s,e1,Xk,d1,Z99,YL ⟨Zgr (by omega) (by omega),by rw[X8];omega⟩,Q0]
  rw[e];unfold nO Zdh;rw[XQ];refine YT YB (YT (λz=>(OT.nd z,_)) (Xn λi _=>?_));show OT.fz (.int (0+(i:Int)))=_;rw[BZ]
 refine Yl (Zfb Zdz ?_);refine Yl (Zk8 (ds:=(Xd n).map mkI) (λk δ=>∃(x4:Int) (left order:List Nat) (oa:Option OT),δ=sE x4 few n far (YB (W0 n (inG (sid few far)))) o6 o7 (YB (nO left)) (YB (nO order)) oa more∧(order++left).Perm (Xd n)∧order.length=k) (Zwa (Zb (Za rfl) Zg) (by omega)) ⟨x3,Xd n,[],YC,rfl,.refl _,rfl⟩ (λk d δ hd q=>?_) λδ' q=>?_)
 ·obtain⟨x4,left,order,oa,rfl,pm,lo⟩:=q
  have hk:k<n:=by
   refine Nat.lt_of_not_le λz=>?_;rw[Xl,Qp (by rw[Xj];exact z)]at hd;cases hd
  have lp:=pm.length_eq;rw[Qw,Xj]at lp;rw[Xl,Qq hk]at hd;cases hd;have ln:EvV (Zaq Zcc (Zc (Zrj 8) Zn)) (sE x4 few n far (YB (W0 n (inG (sid few far)))) o6 o7 (YB (nO left)) (YB (nO order)) (YB (.fz (mkI k))) more) (.int left.length):=W9 (Zb (Ztn rfl (Zte left)) Zg) (Zk0 left);have bl:Bt 400 (left.length:Int):=(Bt.of_lt (m:=10) (by omega) (by omega)).mono (by decide);refine⟨_,rfl,Z44 (ts0:=order.map λx:Nat=>.fz (.int (x:Int))) rfl (Z7r (i:=8) (l:=left) rfl (by omega) (Zbl (x:=x4) rfl (Zb ln Zg) (by omega) bl λr x5 r0 r1=>⟨r.toNat,by rw[Bp r0],by omega,rfl,?_⟩))⟩;refine⟨order.map λx:Nat=>.fz (.int (x:Int)),rfl,by rw[Xc];omega,x5,left.eraseIdx r.toNat,order++[left.getD r.toNat 0],YB (.fz (mkI k)),?_,?_,by rw[Qw,lo];rfl⟩
  ·unfold sE nO
   rw[XM];rfl
  ·rw[Bm]
   exact((Zh1 left r.toNat (by omega)).append_left order).trans pm
 ·obtain⟨x4,left,order,oa,rfl,pm,lo⟩:=q
  rw[Xc,Xj]at lo;have lp:=pm.length_eq;rw[Qw,Xj]at lp;have:left=[]:=JT (by omega);subst this;rw[QW]at pm;refine Zto (o:=W0 n (inG (sid few far))) rfl (Zto (o:=nO order) rfl (Zlc (Zhr (Wm (Zhr (Wm (Y0 (d:=Z1 n (inG (sid few far))) (by rw[←Zfr];exact Za rfl) (Wm (Zi3 (Y0 Z4 (Zbl (x:=x4) rfl (Zb Z4 Zg) (by decide) (btc (by decide +kernel) (by decide +kernel)) λr x5 r0 r1=>?_)))))))))));refine⟨_,Zl8 _ _,Zbq ⟨tbD (Zbe n (sid few far) (1+r)),Zl4 (by omega) _ (by omega) ((Bt.of_lt (m:=10) (by omega) (by omega)).mono (by decide)),?_⟩⟩;refine Wm (Y0 (d:=lsN order) (by rw[←Zte];exact Za rfl) (Zbq ⟨_,Zxk (by omega) (pm.nodup_iff.mpr List.nodup_range) (λy hy=>Xx.mp (pm.mem_iff.mp hy)) (by omega),?_⟩));exact⟨_,rfl,x5,n,few,far,1+r,order,rfl,by rw[lo],f2,by omega,by omega,by omega,by omega,by omega,by omega,by omega,pm⟩
noncomputable def Yii(n:Nat)(R:Nat->Nat->Int)(P:Nat->Prop):Prop:=(∃a b c,a<n∧b<n∧c<n∧P a∧P b∧¬P c∧R a c+R c b=R a b)∨∃a b c,a<n∧b<n∧c<n∧¬P a∧¬P b∧P c∧R a c+R c b=R a b
noncomputable def Bare(n:Nat)(R:Nat->Nat->Int):Prop:=∀P:Nat->Prop,(∃x,x<n∧P x)->(∃x,x<n∧¬P x)->Yii n R P
theorem Bare.btw{n:Nat}{R:Nat->Nat->Int}(h:Bare n R){A:List Int}(hA:Zp6 n A):Btw n R A:=by
 have mA:∀x,x<n->¬((x:Int)∈A)->(x:Int)∈away n A:=λx hx hn=>Yo.mpr ⟨by omega,by omega,hn⟩;obtain⟨a,ha⟩:=Bq A hA.ne;have pa:=hA.pt a ha;rcases h (λx=>(x:Int)∈A) ⟨a.toNat,by omega,by rw[Bp (by omega)];exact ha⟩ ⟨0,by omega,λz=>by have:=(hA.pt _ z).1;omega⟩with⟨a,b,c,la,lb,lc,pa,pb,pc,e⟩|⟨a,b,c,la,lb,lc,pa,pb,pc,e⟩
 ·exact .inl ⟨a,pa,b,pb,c,mA c lc pc,e⟩
 ·exact .inr ⟨a,mA a la pa,b,mA b lb pb,c,pc,e⟩
theorem Z72(few:Nat)(far:Int)(i j:Nat):sid few far i j=sid few far j i:=by
 unfold sid
 by_cases c:i=j
 ·rw[YL c,YL c.symm]
 ·rw[YM c,YM (JR c)]
  by_cases q:decide (i<few)=decide (j<few)
  ·rw[YL q,YL q.symm]
  ·rw[YM q,YM (JR q)]
theorem Zov(few:Nat)(far:Int)(i:Nat):sid few far i i=0:=YL rfl
theorem Zlb{few:Nat}{far:Int}{i j:Nat}(ne:i≠j)(h:i<few↔j<few):sid few far i j=far*2:=by
 unfold sid;rw[YM ne,YL (decide_eq_decide.mpr h)]
theorem Zh4{few:Nat}{far:Int}{i j:Nat}(h:¬(i<few↔j<few)):sid few far i j=far:=by
 unfold sid;rw[YM (λe=>h (by rw[e])),YM (λe=>h (decide_eq_decide.mp e)),Int.mul_one]
theorem Zis{few:Nat}{far:Int}(h:0<far)(i j:Nat):0≤sid few far i j∧sid few far i j≤2*far∧(i≠j->far≤sid few far i j):=by
 by_cases c:i=j
 ·subst c;rw[Zov];exact⟨Ui _,by omega,λz=>YX rfl z⟩
 ·by_cases q:i<few↔j<few
  ·rw[Zlb c q];omega
  ·rw[Zh4 q];omega
theorem Z6t{few:Nat}{far:Int}(h:0<far)(i j k:Nat):sid few far i k≤sid few far i j+sid few far j k:=by
 by_cases c1:i=j
 ·subst c1;rw[Zov];omega
 ·by_cases c2:j=k
  ·subst c2;rw[Zov];omega
  ·have:=(Zis (few:=few) h i j).2.2 c1
   have:=(Zis (few:=few) h j k).2.2 c2;have:=(Zis (few:=few) h i k).2.1;omega
theorem Zwj{n few:Nat}{far:Int}{O:List Nat}(h2:2≤few)(h3:few+3≤n)(pm:O.Perm (Xd n)):Bare n (sb (sid few far) O):=by
 have lp:O.length=n:=by rw[pm.length_eq,Xj]
 have at':∀k,k<n->∃u,u<n∧O.getD u 0=k:=λk hk=>by
  obtain⟨u,hu,e⟩:=BR (pm.mem_iff.mpr (Xx.mpr hk));exact⟨u,by omega,by rw[Xe,Xm hu];exact e⟩
 obtain⟨u0,l0,e0⟩:=at' 0 (by omega);obtain⟨u1,l1,e1⟩:=at' 1 (by omega);obtain⟨v0,m0,g0⟩:=at' few (by omega);obtain⟨v1,m1,g1⟩:=at' (few+1) (by omega);obtain⟨v2,m2,g2⟩:=at' (few+2) (by omega);have two:∀a b c,O.getD a 0≠O.getD b 0->(O.getD a 0<few↔O.getD b 0<few)->¬(O.getD a 0<few↔O.getD c 0<few)->sb (sid few far) O a c+sb (sid few far) O c b=sb (sid few far) O a b:=λa b c ne s d=>by
  show sid few far _ _+sid few far _ _=sid few far _ _;rw[Zlb ne s,Zh4 d,Zh4 (λz=>d (by rw[s,z]))];omega
 intro P hx hy;have uu:∀c,¬O.getD c 0<few->sb (sid few far) O u0 c+sb (sid few far) O c u1=sb (sid few far) O u0 u1:=λc hc=>two u0 u1 c (by rw[e0,e1];omega) (by rw[e0,e1];omega) (by rw[e0];omega);have vv:∀a b c,few≤O.getD a 0->few≤O.getD b 0->O.getD a 0≠O.getD b 0->O.getD c 0<few->sb (sid few far) O a c+sb (sid few far) O c b=sb (sid few far) O a b:=λa b c ha hb ne hc=>two a b c ne (by omega) (by omega)
 -- two points of the greater side on one side of the cut
 have key:∀Q:Nat->Prop,(∃x,x<n∧¬Q x)->∀a b,a<n->b<n->Q a->Q b->few≤O.getD a 0->few≤O.getD b 0->O.getD a 0≠O.getD b 0->∃a b c,a<n∧b<n∧c<n∧Q a∧Q b∧¬Q c∧sb (sid few far) O a c+sb (sid few far) O c b=sb (sid few far) O a b:=λQ ⟨x,lx,nx⟩ a b la lb qa qb ha hb ne=>by
  by_cases c:∃u,u<n∧O.getD u 0<few∧¬Q u
  ·obtain⟨u,lu,hu,nu⟩:=c
   exact⟨a,b,u,la,lb,lu,qa,qb,nu,vv a b u ha hb ne hu⟩
  ·have al:∀u,u<n->O.getD u 0<few->Q u:=λu lu hu=>Vf λz=>c ⟨u,lu,hu,z⟩
   exact⟨u0,u1,x,l0,l1,lx,al u0 l0 (by omega),al u1 l1 (by omega),nx,uu x λz=>nx (al x lx z)⟩
 by_cases c0:P v0<;>by_cases c1:P v1<;>by_cases c2:P v2
 ·exact .inl (key P hy v0 v1 m0 m1 c0 c1 (by omega) (by omega) (by omega))
 ·exact .inl (key P hy v0 v1 m0 m1 c0 c1 (by omega) (by omega) (by omega))
 ·exact .inl (key P hy v0 v2 m0 m2 c0 c2 (by omega) (by omega) (by omega))
 all_goals try exact .inl (key P hy v1 v2 m1 m2 c1 c2 (by omega) (by omega) (by omega))
 all_goals
  have nx:∃x,x<n∧¬¬P x:=by obtain⟨x,lx,h⟩:=hx;exact⟨x,lx,λz=>z h⟩
  have ex:∃a b c,a<n∧b<n∧c<n∧¬P a∧¬P b∧¬¬P c∧sb (sid few far) O a c+sb (sid few far) O c b=sb (sid few far) O a b:=by
   first
    | exact key (λx=>¬P x) nx v0 v1 m0 m1 c0 c1 (by omega) (by omega) (by omega)
    | exact key (λx=>¬P x) nx v0 v2 m0 m2 c0 c2 (by omega) (by omega) (by omega)
    | exact key (λx=>¬P x) nx v1 v2 m1 m2 c1 c2 (by omega) (by omega) (by omega)
  obtain⟨a,b,c,la,lb,lc,pa,pb,pc,e⟩:=ex;exact .inr ⟨a,b,c,la,lb,lc,pa,pb,Vf pc,e⟩
noncomputable def hgI(n A to:Nat)(S T:Nat->Nat->Int):Nat->Nat->Int:=λx y=>S (sh1 n A x) (sh1 n A y)+T (sh2 n to x) (sh2 n to y)
theorem Ztz{n m A to:Nat}{S T:Nat->Nat->Int}(hA:A<n)(ht:to<m)(dS:∀i,S i i=0)(dT:∀i,T i i=0)(bS:Bare n S)(bT:Bare m T):Bare (n+m-1) (hgI n A to S T):=λP hx hy=>by
 have lo:∀x,x<n->sh1 n A x=x∧sh2 n to x=to:=λx hx=>by unfold sh1 sh2;rw[YL hx,YL hx];exact⟨rfl,rfl⟩
 by_cases c:(∃x,x<n∧P x)∧∃x,x<n∧¬P x
 ·have e:∀x y,x<n->y<n->hgI n A to S T x y=S x y:=λx y hx hy=>by unfold hgI;rw[(lo x hx).1,(lo y hy).1,(lo x hx).2,(lo y hy).2,dT,Int.add_zero]
  rcases bS P c.1 c.2 with⟨a,b,c,la,lb,lc,pa,pb,pc,h⟩|⟨a,b,c,la,lb,lc,pa,pb,pc,h⟩
  ·exact .inl ⟨a,b,c,by omega,by omega,by omega,pa,pb,pc,by rw[e a c la lc,e c b lc lb,e a b la lb];exact h⟩
  ·exact .inr ⟨a,b,c,by omega,by omega,by omega,pa,pb,pc,by rw[e a c la lc,e c b lc lb,e a b la lb];exact h⟩
 ·obtain⟨f,hf⟩:∃f:Nat->Nat,f= λk=>if k=to then A else if k<to then n+k else n+k-1:=⟨_,rfl⟩
  have f1:∀k,k<m->f k<n+m-1∧sh1 n A (f k)=A∧sh2 n to (f k)=k:=λk hk=>by
   rw[hf];dsimp only;unfold sh1 sh2
   by_cases c1:k=to
   ·rw[YL c1,YL hA,YL hA];omega
   ·rw[YM c1]
    by_cases c2:k<to
    ·rw[YL c2,YM (by omega),YM (by omega),YL (by omega)];omega
    ·rw[YM c2,YM (by omega),YM (by omega),YM (by omega)];omega
  have e:∀x y,x<m->y<m->hgI n A to S T (f x) (f y)=T x y:=λx y hx hy=>by unfold hgI;rw[(f1 x hx).2.1,(f1 y hy).2.1,(f1 x hx).2.2,(f1 y hy).2.2,dS,BZ]
  have cov:∀y,n≤y->y<n+m-1->∃k,k<m∧f k=y:=λy h1 h2=>by
   by_cases c1:y-n<to
   ·exact⟨y-n,by omega,by rw[hf];dsimp only;rw[YM (by omega),YL c1];omega⟩
   ·exact⟨y-n+1,by omega,by rw[hf];dsimp only;rw[YM (by omega),YM (by omega)];omega⟩
  have fto:f to=A:=by rw[hf];exact YL rfl
  -- all of the first table on one side
  have q1:∃k,k<m∧P (f k):=by
   obtain⟨x,lx,h⟩:=hx
   by_cases d:x<n
   ·exact⟨to,ht,by rw[fto];exact Vf λz=>c ⟨⟨x,d,h⟩,A,hA,z⟩⟩
   ·obtain⟨k,hk,ek⟩:=cov x (by omega) lx
    exact⟨k,hk,by rw[ek];exact h⟩
  have q2:∃k,k<m∧¬P (f k):=by
   obtain⟨x,lx,h⟩:=hy
   by_cases d:x<n
   ·exact⟨to,ht,by rw[fto];exact λz=>c ⟨⟨A,hA,z⟩,x,d,h⟩⟩
   ·obtain⟨k,hk,ek⟩:=cov x (by omega) lx
    exact⟨k,hk,by rw[ek];exact h⟩
  rcases bT (λk=>P (f k)) q1 q2 with⟨a,b,c,la,lb,lc,pa,pb,pc,h⟩|⟨a,b,c,la,lb,lc,pa,pb,pc,h⟩
  ·exact .inl ⟨f a,f b,f c,(f1 a la).1,(f1 b lb).1,(f1 c lc).1,pa,pb,pc,by rw[e a c la lc,e c b lc lb,e a b la lb];exact h⟩
  ·exact .inr ⟨f a,f b,f c,(f1 a la).1,(f1 b lb).1,(f1 c lc).1,pa,pb,pc,by rw[e a c la lc,e c b lc lb,e a b la lb];exact h⟩
structure Mt(R:Nat->Nat->Int):Prop where
 sy:∀i j,R i j=R j i
 dg:∀i,R i i=0
 tr:∀i j k,R i k≤R i j+R j k
 bd:∀i j,0≤R i j∧R i j≤1000000000000000000000000
theorem Mt.bt{R:Nat->Nat->Int}(h:Mt R)(i j:Nat):Bt 300 (R i j):=Znj (m:=100) (h.bd i j).1 (JG (h.bd i j).2 (by decide +kernel)) (by decide)
theorem Mt.q4{R:Nat->Nat->Int}(h:Mt R){b:Int}(hb:0<b)(b1:b≤1000)(i j:Nat):Q4 (Xh (R i j) b):=⟨Zfl (by omega) ((h.bt i j).mono (by decide)),Znc (by omega) ((Bt.of_lt (m:=10) (by omega) (by omega)).mono (by decide))⟩
theorem Mt.long{R:Nat->Nat->Int}(h:Mt R)(n:Nat):LgR n R:=Z7j λi j k _ _ _=>h.tr i j k
theorem Zr7(q:Rat):Sh 1 (frD q):=Zda [q.num,(q.den:Int)]
theorem Zld(n:Nat)(T:Nat->Nat->Rat):Sh 3 (Z1 n (frG T))∧Wf (Z1 n (frG T))=YD:=by
 refine⟨Zea λd m=>?_,Zby λd m=>?_⟩
 ·obtain⟨i,_,rfl⟩:=XD.mp m
  exact Zea λd m=>by
   obtain⟨j,_,rfl⟩:=XD.mp m;exact Zr7 _
 ·obtain⟨i,_,rfl⟩:=XD.mp m
  exact Zby λd m=>by
   obtain⟨j,_,rfl⟩:=XD.mp m;rfl
theorem Zmx{n:Nat}(h1:1≤n)(hn:n≤9){R:Nat->Nat->Int}(M:Mt R){b:Int}(hb:0<b)(b1:b≤1000)(h:Bare n R):Told Yp [tbD (Zbe n R b)] (.bool YD):=by
 obtain⟨Ls,eC,mC,_,lC⟩:=Zei h1 hn;have bb:Bt 300 b:=(Bt.of_lt (m:=10) (by omega) (by omega)).mono (by decide);have eS:=Zin (n:=n) (by omega) hb bb M.bt (M.long n) eC (λs hs=>(mC s).mp hs) (by omega) (W:=λ_=>0) λA hA m hm=>Zq0 M.sy M.dg (h.btw ((mC A).mp hA)) hm;rw[Zyp]at eS;have eR:=Zn7 (n:=n) (by omega) (M.q4 hb b1) eS (show 0<64 by decide) (bot:=1) (by decide) (by decide) λp hp=>nomatch hp;have e2:Z1 n (frG λi j=>Xh (R i j) b-Qm [] i j)=tbD (Zbe n R b):=by
  rw[Zae];refine YT (λT=>Z1 n (frG T)) (funext λi=>funext λj=>?_);rw[Z8h,Ug,Rat.neg_zero,Rat.add_zero]
 rw[e2]at eR;have ok:=Zld n λi j=>Xh (R i j) b;rw[←Zae]at ok;exact Z0 rfl<|Wt (Zkp (Zo (Zq (Zb Za Zg) eS) (Zbt Zg (show 0≤1000 by decide)) rfl) (Zo (Zq (Zb Za Zg) eR) Za (Ziq ok.1 (by decide) ok.2).1))
theorem SdT.mt{n few:Nat}{far b:Int}{O:List Nat}(h:SdT n few far b O):Mt (sb (sid few far) O):=⟨λi j=>Z72 ..,λi=>Zov ..,λi j k=>Z6t h.far0 ..,λi j=>by
 have:=Zis (few:=few) h.far0 (O.getD i 0) (O.getD j 0);have:=h.far1;show 0≤sid few far _ _∧sid few far _ _≤_;omega⟩
theorem SdT.bare{n few:Nat}{far b:Int}{O:List Nat}(h:SdT n few far b O):Bare n (sb (sid few far) O):=Zwj h.few2 h.more3 h.pm
theorem Z2i{n A to:Nat}{S T:Nat->Nat->Int}(hS:Mt S)(hT:Mt T){c d:Int}(c0:0<c)(d0:0<d)(bS:∀i j,c*S i j≤100000000000000000000000)(bT:∀i j,d*T i j≤100000000000000000000000):Mt (hgI n A to (λi j=>c*S i j) λi j=>d*T i j):=by
 refine⟨λi j=>?_,λi=>?_,λi j k=>?_,λi j=>?_⟩<;>unfold hgI<;>dsimp only
 ·rw[hS.sy (sh1 n A i),hT.sy (sh2 n to i)]
 ·rw[hS.dg,hT.dg,Uu,Uu,Int.add_zero]
 ·have h1:=JC (hS.tr (sh1 n A i) (sh1 n A j) (sh1 n A k)) (By c0)
  have h2:=JC (hT.tr (sh2 n to i) (sh2 n to j) (sh2 n to k)) (By d0);rw[Uh]at h1 h2;omega
 ·have h1:=Uv (By c0) (hS.bd (sh1 n A i) (sh1 n A j)).1
  have h2:=Uv (By d0) (hT.bd (sh2 n to i) (sh2 n to j)).1;have:=bS (sh1 n A i) (sh1 n A j);have:=bT (sh2 n to i) (sh2 n to j);omega
theorem Bare.scaled{n:Nat}{R:Nat->Nat->Int}(h:Bare n R)(c:Int):Bare n λi j=>c*R i j:=λP hx hy=>by
 rcases h P hx hy with⟨a,b,d,la,lb,lc,pa,pb,pc,e⟩|⟨a,b,d,la,lb,lc,pa,pb,pc,e⟩
 ·exact .inl ⟨a,b,d,la,lb,lc,pa,pb,pc,by rw[←Uh,e]⟩
 ·exact .inr ⟨a,b,d,la,lb,lc,pa,pb,pc,by rw[←Uh,e]⟩
theorem Ztp{n m few gew:Nat}{far gar b c:Int}{O ρ:List Nat}(h:SdT n few far b O)(g:SdT m gew gar c ρ)(hn:n≤6)(hm:m≤5)(nm:n+m≤10){A to:Nat}(hA:A<n)(ht:to<m):∃d,Told Yv [tbD (Zbe n (sb (sid few far) O) b),.int A,tbD (Zbe m (sb (sid gew gar) ρ) c),.int to] d∧Told Yp [d] (.bool YD):=by
 have M1:=h.mt;have M2:=g.mt;have hb:=h.b0;have hc:=g.b0;have b9:=h.b9;have c9:=g.b9;have wl:∀{R:Nat->Nat->Int} {x:Int},Mt R->0<x->x≤9->∀i j,Wl (Xh (R i j) x):=fun{R x} M x0 x9 i j=>by
  refine⟨Int.dvd_trans (Zhx (by omega)) ?_,Zfl (by omega) (M.bt i j)⟩;have:x=1∨x=2∨x=3∨x=4∨x=5∨x=6∨x=7∨x=8∨x=9:=by omega
  rcases this with rfl|rfl|rfl|rfl|rfl|rfl|rfl|rfl|rfl<;>decide
 have T:=Z2q (n:=n) (A:=A) (to:=to) (m:=m) hn hA hm ht (S:=λi j=>Xh (sb (sid few far) O i j) b) (T:=λi j=>Xh (sb (sid gew gar) ρ i j) c) (λi=>by rw[M1.dg,Ub]) (λi=>by rw[M2.dg,Ub]) (wl M1 hb b9) (wl M2 hc c9);rw[←Zae,←Zae]at T;have e:Z1 (n+m-1) (frG (hgT n A to (λi j=>Xh (sb (sid few far) O i j) b) λi j=>Xh (sb (sid gew gar) ρ i j) c))=tbD (Zbe (n+m-1) (hgI n A to (λi j=>c*sb (sid few far) O i j) λi j=>b*sb (sid gew gar) ρ i j) (b*c)):=by
  rw[Zae];refine YT (λT=>Z1 _ (frG T)) (funext λi=>funext λj=>?_);unfold hgT hgI;dsimp only;rw[←Ziz,Jq hc hb,Int.mul_comm b c,Jq hb hc]
 rw[e]at T;have b1:∀i j,c*sb (sid few far) O i j≤100000000000000000000000:=λi j=>by
  have h1:=(Zis (few:=few) h.far0 (O.getD i 0) (O.getD j 0));have h2:c*sb (sid few far) O i j≤9*sb (sid few far) O i j:=Int.mul_le_mul_of_nonneg_right c9 h1.1;have h3:sb (sid few far) O i j≤2*far:=h1.2.1;have:=h.far1;omega
 have b2:∀i j,b*sb (sid gew gar) ρ i j≤100000000000000000000000:=λi j=>by
  have h1:=(Zis (few:=gew) g.far0 (ρ.getD i 0) (ρ.getD j 0));have h2:b*sb (sid gew gar) ρ i j≤9*sb (sid gew gar) ρ i j:=Int.mul_le_mul_of_nonneg_right b9 h1.1;have h3:sb (sid gew gar) ρ i j≤2*gar:=h1.2.1;have:=g.far1;omega
 have bc:b*c≤9*9:=Int.mul_le_mul b9 c9 (by omega) (by decide);exact⟨_,T,Zmx (by omega) (by omega) (Z2i M1 M2 hc hb b1 b2) (Int.mul_pos hb hc) (by omega) (Ztz hA ht (λi=>by rw[M1.dg,Uu]) (λi=>by rw[M2.dg,Uu]) (h.bare.scaled c) (g.bare.scaled b))⟩
noncomputable def evR(E:Int)(i j:Nat):Int:=if i=j then 0 else E
theorem Z58{E:Int}(h:0≤E)(h1:E≤1000000000000000000000000):Mt (evR E):=by
 refine⟨λi j=>?_,λi=>YL rfl,λi j k=>?_,λi j=>?_⟩<;>unfold evR
 ·by_cases c:i=j
  ·rw[YL c,YL c.symm]
  ·rw[YM c,YM (JR c)]
 ·by_cases c1:i=j
  ·subst c1;rw[YL rfl];omega
  ·by_cases c2:j=k
   ·subst c2;rw[YL rfl];omega
   ·rw[YM c1,YM c2]
    by_cases c3:i=k
    ·rw[YL c3];omega
    ·rw[YM c3];omega
 ·by_cases c:i=j
  ·rw[YL c];omega
  ·rw[YM c];omega
noncomputable def Two(A:List Int):Prop:=∃x∈A,∃y∈A,x≠y
open Classical in
noncomputable def tw(E:Int)(A:List Int):Int:=if Two A then E else 0
theorem Z29{E:Int}{A:List Int}(h:Two A):tw E A=E:=YL h
theorem Z5k{E:Int}{A:List Int}(h:¬Two A):tw E A=0:=YM h
theorem Zvk{E:Int}(hE:0≤E)(A:List Int):0≤tw E A∧tw E A≤E:=by
 by_cases c:Two A
 ·rw[Z29 c];omega
 ·rw[Z5k c];omega
noncomputable def evW(n:Nat)(E:Int)(A:List Int):Int:=2*E-tw E A-tw E (away n A)
theorem Z7d{n:Nat}{E:Int}(hE:0≤E){A:List Int}(hA:∀x∈A,0≤x){p q:Int×Int}(hp:p∈dbl A)(hq:q∈dbl (away n A)):rlI (evR E) p q=2*E-(if p.1=p.2 then 0 else E)-(if q.1=q.2 then 0 else E):=by
 obtain⟨p1,p2⟩:=Ze9 hp;obtain⟨q1,q2⟩:=Ze9 hq;obtain⟨a1,_,a2⟩:=Yo.mp q1;obtain⟨b1,_,b2⟩:=Yo.mp q2;have e1:=hA _ p1;have e2:=hA _ p2;have n1:p.1≠q.1:=λe=>a2 (e▸p1);have n2:p.2≠q.2:=λe=>b2 (e▸p2);have n3:p.1≠q.2:=λe=>b2 (e▸p1);have n4:p.2≠q.1:=λe=>a2 (e▸p2);have v1:evR E p.1.toNat p.2.toNat=if p.1=p.2 then 0 else E:=by
  unfold evR
  by_cases c:p.1=p.2
  ·rw[YL c,YL (by omega)]
  ·rw[YM c,YM (by omega)]
 have v2:evR E q.1.toNat q.2.toNat=if q.1=q.2 then 0 else E:=by
  unfold evR
  by_cases c:q.1=q.2
  ·rw[YL c,YL (by omega)]
  ·rw[YM c,YM (by omega)]
 have far:∀x y:Int,0≤x->0≤y->x≠y->evR E x.toNat y.toNat=E:=λx y hx hy h=>YM (by omega);unfold rlI rl;rw[v1,v2,far _ _ e1 a1 n1,far _ _ e2 b1 n2,far _ _ e1 b1 n3,far _ _ e2 a1 n4]
 by_cases c:p.1=p.2<;>by_cases d:q.1=q.2<;>simp only[c,d,if_true,if_false]<;>omega
theorem Ztr{A:List Int}(ne:A≠[]){E:Int}:∃p∈dbl A,(if p.1=p.2 then 0 else E)=tw E A:=by
 by_cases c:Two A
 ·rw[Z29 c]
  obtain⟨x,hx,y,hy,h⟩:=c;rcases Zgz hx hy with d|d
  ·exact⟨_,d,YM h⟩
  ·exact⟨_,d,YM (JR h)⟩
 ·obtain⟨x,hx⟩:=Bq A ne
  rw[Z5k c];exact⟨(x,x),(Zgz hx hx).elim (λz=>z) (λz=>z),YL rfl⟩
theorem Zum{A:List Int}{E:Int}(hE:0≤E){p:Int×Int}(hp:p∈dbl A):(if p.1=p.2 then 0 else E)≤tw E A:=by
 by_cases d:p.1=p.2
 ·rw[YL d]
  exact(Zvk hE A).1
 ·obtain⟨p1,p2⟩:=Ze9 hp
  rw[YM d,Z29 ⟨_,p1,_,p2,d⟩];exact Ui _
theorem Zx6{n:Nat}{E:Int}(hE:0≤E){A:List Int}(hA:Zp6 n A){m:Int}(h:Lst (evR E) A (away n A) m):max 0 m=evW n E A:=by
 have a0:∀x∈A,0≤x:=λx hx=>by have:=(hA.pt x hx).1;omega
 obtain⟨x,hx⟩:=Bq A hA.ne;have n0:(0:Int)∈away n A:=Yo.mpr ⟨Ui _,by have:=hA.pt x hx;omega,λz=>by have:=(hA.pt _ z).1;omega⟩;obtain⟨p,hp,ep⟩:=Ztr hA.ne (E:=E);obtain⟨q,hq,eq⟩:=Ztr (List.ne_nil_of_mem n0) (E:=E);obtain⟨⟨p',hp',q',hq',e⟩,lo⟩:=h;have h1:=lo p hp q hq;rw[Z7d hE a0 hp hq,ep,eq]at h1;rw[Z7d hE a0 hp' hq']at e;have h2:=Zum hE hp';have h3:=Zum hE hq';have w:evW n E A=2*E-tw E A-tw E (away n A):=rfl;have b1:=(Zvk hE A).2;have b2:=(Zvk hE (away n A)).2;omega
noncomputable def Zo2(n:Nat):List Int:=(Xd (n-1)).map λi:Nat=>1+(i:Int)
theorem Zff{n:Nat}(h:2≤n):Zp6 n (Zo2 n)∧∀x,x∈Zo2 n↔1≤x∧x<n:=by
 have m:∀x,x∈Zo2 n↔1≤x∧x<n:=λx=>by
  unfold Zo2;rw[XD];constructor
  ·rintro⟨i,hi,rfl⟩
   have:=Xx.mp hi;omega
  ·rintro⟨a,b⟩
   exact⟨(x-1).toNat,Xx.mpr (by omega),by omega⟩
 refine⟨⟨List.ne_nil_of_mem ((m 1).mpr ⟨by omega,by omega⟩),?_,λx hx=>(m x).mp hx⟩,m⟩;unfold Zo2;rw[VF];exact List.pairwise_lt_range.imp λh=>by omega
theorem Zng{n:Nat}{k:Int}(h1:1≤k)(h2:k<n):Zp6 n [k]:=⟨List.cons_ne_nil _ _,JL ..,λx hx=>by rw[Xp.mp hx];exact⟨h1,h2⟩⟩
theorem Z4w{n:Nat}{A:List Int}(hA:Zp6 n A)(h:¬Two A):∃k:Int,1≤k∧k<n∧A=[k]:=by
 obtain⟨x,hx⟩:=Bq A hA.ne;refine⟨x,(hA.pt x hx).1,(hA.pt x hx).2,Zth hA.up (JL ..) λy=>?_⟩;rw[Xp];exact⟨λhy=>Vf λz=>h ⟨y,hy,x,hx,z⟩,λe=>e▸hx⟩
theorem Zr4{n:Nat}(h2:2≤n){A:List Int}(hA:Zp6 n A)(h:¬Two (away n A)):A=Zo2 n:=by
 have n0:(0:Int)∈away n A:=Yo.mpr ⟨Ui _,by omega,λz=>by have:=(hA.pt _ z).1;omega⟩;obtain⟨c1,c2⟩:=Zff h2;refine Zth hA.up c1.up λx=>?_;rw[c2];exact⟨hA.pt x,λq=>Vf λz=>h ⟨0,n0,x,Yo.mpr ⟨by omega,q.2,z⟩,by omega⟩⟩
theorem Ztu(k:Int):¬Two [k]:=λ⟨x,hx,y,hy,h⟩=>h (by rw[Xp.mp hx,Xp.mp hy])
theorem Zsm{n:Nat}(h2:2≤n):¬Two (away n (Zo2 n)):=λ⟨x,hx,y,hy,h⟩=>by
 obtain⟨a1,a2,a3⟩:=Yo.mp hx;obtain⟨b1,b2,b3⟩:=Yo.mp hy;rw[(Zff h2).2]at a3 b3;omega
noncomputable def Zly(n:Nat)(h f:Rat):List (List Int×Rat):=if n=2 then[([1],f)]else((Xd (n-1)).map λi:Nat=>([1+(i:Int)],h))++[(Zo2 n,h)]
theorem Ztm{n:Nat}(h2:2≤n){E b:Int}(hE:0<E)(hb:0<b)(x:List Int×Rat):x∈Zly n (Xh E (2*b)) (Xh E b)↔∃A,Zp6 n A∧0<evW n E A∧x=(A,Xh (evW n E A) (2*b)):=by
 have w0:∀A,evW n E A=2*E-tw E A-tw E (away n A):=λ_=>rfl
 by_cases c:n=2
 ·subst c
  have w1:evW 2 E [1]=2*E:=by
   have:=Zsm (n:=2) (by omega);rw[w0,Z5k (Ztu 1),Z5k (show¬Two (away 2 [1])from this)];omega
  have e:Xh (2*E) (2*b)=Xh E b:=by rw[Int.mul_comm 2 b];exact Jq (by decide) hb
  unfold Zly;rw[YL rfl,Xp];constructor
  ·rintro rfl
   exact⟨[1],Zng (by omega) (by decide),by omega,by rw[w1,e]⟩
  ·rintro⟨A,hA,_,rfl⟩
   have:A=[1]:=Zr4 (by omega) hA λ⟨x,hx,y,hy,h⟩=>by
    obtain⟨a,ha⟩:=Bq A hA.ne;have p:=hA.pt a ha;obtain⟨a1,a2,a3⟩:=Yo.mp hx;obtain⟨b1,b2,b3⟩:=Yo.mp hy;have:x≠a:=λz=>a3 (z▸ha);have:y≠a:=λz=>b3 (z▸ha);omega
   subst this;rw[w1,e]
 ·have s1:∀k:Int,1≤k->k<n->evW n E [k]=E:=λk k1 k2=>by
   rw[w0,Z5k (Ztu k),Z29 ⟨0,Yo.mpr ⟨by omega,by omega,λz=>by rw[Xp]at z;omega⟩,?_⟩]
   ·omega
   ·by_cases d:k=1
    ·exact⟨2,Yo.mpr ⟨by omega,by omega,λz=>by rw[Xp]at z;omega⟩,by decide⟩
    ·exact⟨1,Yo.mpr ⟨by omega,by omega,λz=>by rw[Xp]at z;omega⟩,by decide⟩
  have s2:evW n E (Zo2 n)=E:=by
   have m:=(Zff h2).2;rw[w0,Z5k (Zsm h2),Z29 ⟨1,(m 1).mpr (by omega),2,(m 2).mpr (by omega),by decide⟩];omega
  unfold Zly;rw[YM c,QV,Xp,XD];constructor
  ·rintro(⟨i,hi,rfl⟩|rfl)
   ·have:=Xx.mp hi
    have w:=s1 (1+(i:Int)) (by omega) (by omega);exact⟨[1+(i:Int)],Zng (by omega) (by omega),by rw[w];exact hE,by rw[w]⟩
   ·exact⟨Zo2 n,(Zff h2).1,by rw[s2];exact hE,by rw[s2]⟩
  ·rintro⟨A,hA,w,rfl⟩
   by_cases d:Two A
   ·by_cases d2:Two (away n A)
    ·rw[w0,Z29 d,Z29 d2]at w;omega
    ·have:=Zr4 h2 hA d2
     subst this;exact .inr (by rw[s2])
   ·obtain⟨k,k1,k2,rfl⟩:=Z4w hA d
    exact .inl ⟨(k-1).toNat,Xx.mpr (by omega),by rw[s1 k k1 k2,show 1+((k-1).toNat:Int)=k by omega]⟩
theorem Z1d{n:Nat}(h f:Rat):Dst (Zly n h f):=by
 have pw:(Zly n h f).Pairwise λx y=>x.1≠y.1:=by
  unfold Zly;split
  ·exact JL ..
  ·refine List.pairwise_append.mpr ⟨?_,JL ..,λx hx y hy=>?_⟩
   ·rw[VF]
    refine List.Pairwise.imp (R:=λa b=>a<b) ?_ List.pairwise_lt_range;intro a b h e;have:(1+(a:Int))=1+(b:Int):=List.head_eq_of_cons_eq e;omega
   ·rw[Xp.mp hy]
    obtain⟨i,hi,rfl⟩:=XD.mp hx;have:=Xx.mp hi;intro e;have m:=(Zff (n:=n) (by omega)).2;have m1:=(m 1).mpr (by omega);have m2:=(m 2).mpr (by omega);rw[←show[1+(i:Int)]=Zo2 n from e,Xp]at m1 m2;omega
 intro k l hkl hl;have:=List.pairwise_iff_getElem.mp pw k l (by omega) hl hkl
 rwa[Xe,Xe,Xm (by omega),Xm hl]
theorem Z4k{n:Nat}(h2:2≤n){E b:Int}(hE:0<E)(hb:0<b){Ls:List (List Int)}(mem:∀s,s∈Ls↔Zp6 n s)(up:UpL Ls):wtL Ls (evW n E) b=sCt (Zly n (Xh E (2*b)) (Xh E b)):=by
 refine Zwg ?_ (Z7m (Z1d _ _)) λx=>?_
 ·unfold wtL
  rw[VF];exact(up.filter _).imp λh=>h
 ·have pm:(sCt (Zly n (Xh E (2*b)) (Xh E b))).Perm _:=Zfh _ _ _
  rw[pm.mem_iff,Ztm h2 hE hb];unfold wtL;rw[XD];constructor
  ·rintro⟨A,hA,rfl⟩
   obtain⟨h1,h2⟩:=QF.mp hA;exact⟨A,(mem A).mp h1,YW h2,rfl⟩
  ·rintro⟨A,hA,w,rfl⟩
   exact⟨A,QF.mpr ⟨(mem A).mpr hA,YQ w⟩,rfl⟩
theorem Z9k{a b:FE}{δ:Zh}{d:Xa}{n:Nat}(ha:EvV a δ d)(hb:EvV b δ (.int n))(hn:n≤1000000):EvV (Zvz a b) δ (.list (XJ n d)):=by
 obtain⟨t,e1,d1⟩:=ha;obtain⟨u,e2,d2⟩:=hb;refine⟨_,by rw[Zkz,e1,Xk,e2,Xk,d2,Znp,YL ⟨Zgr (by omega) (by omega),by rw[X8];omega⟩,Q0],?_⟩;rw[OT.data_nd,List.map_replicate,OT.data_fz,d1]
theorem Z0y{as:FA}{δ:Zh}{n:Nat}(h1:1≤n)(hn:n≤1000)(h:EvA as δ [.int 1,.int n]):EvV (Yby as) δ (Zw (Zo2 n)):=by
 obtain⟨ts,e1,e2⟩:=h;refine⟨.nd ((Zdh 1 (n-1)).map OT.fz),?_,?_⟩
 ·unfold Yby
  rw[e1];show(match OT.datas ts with|[.int i,.int j]=>if rOk i=YD∧rOk j=YD∧(j-i).toNat≤Xz then YB (OT.nd ((Zdh i (j-i).toNat).map OT.fz),δ)else YC|_=>YC)=_;rw[e2];show(if rOk 1=YD∧rOk (n:Int)=YD∧((n:Int)-1).toNat≤Xz then _ else YC)=_;rw[YL ⟨Zgr (by omega) (by omega),Zgr (by omega) (by omega),by rw[X8];omega⟩,show((n:Int)-1).toNat=n-1 by omega]
 ·rw[OT.data_nd,XQ]
  unfold Zdh Zo2 Zw;rw[XQ,XQ];exact YT XX (Xn λi _=>OT.data_fz _)
theorem Z8g(p:List Int×Rat):Sh 2 (ctD p)∧Wf (ctD p)=YD:=by
 have h1:Sh 1 (Zw p.1):=Zea λd m=>by
  obtain⟨x,_,rfl⟩:=XD.mp m;exact Zop x
 have h2:Wf (Zw p.1)=YD:=Zby λd m=>by
  obtain⟨x,_,rfl⟩:=XD.mp m;rfl
 refine⟨Zr3 λd m=>?_,?_⟩
 ·rcases Xu.mp m with rfl|m
  ·exact h1
  ·rw[Xp.mp m];exact Zr7 _
 ·show Zci [Zw p.1,frD p.2]=YD
  rw[Zci,h2];rfl
theorem Z6a(L:List (List Int×Rat)):Sh 3 (Ze7 L)∧Wf (Ze7 L)=YD:=by
 refine⟨Zea λd m=>?_,Zby λd m=>?_⟩
 ·obtain⟨p,_,rfl⟩:=XD.mp m
  exact(Z8g p).1
 ·obtain⟨p,_,rfl⟩:=XD.mp m
  exact(Z8g p).2
theorem Zyd{L M:List (List Int×Rat)}(h:L.Perm M)(i j:Nat):SmL L i j=SmL M i j:=by
 unfold SmL;exact List.Perm.foldr_eq' ((h.filter _).map _) (λx _ y _ z=>by rw[←Rat.add_assoc,←Rat.add_assoc,Rat.add_comm y x]) _
theorem Z1o{n:Nat}(h2:2≤n)(hn:n≤7)(h f:Rat){i j:Nat}(hij:i<j)(hj:j<n):SmL (Zly n h f) i j=if n=2 then f+0 else h+(h+0):=by
 have:n=2∨n=3∨n=4∨n=5∨n=6∨n=7:=by omega
 have hi:i=0∨i=1∨i=2∨i=3∨i=4∨i=5:=by omega
 have hj':j=1∨j=2∨j=3∨j=4∨j=5∨j=6:=by omega
 rcases this with rfl|rfl|rfl|rfl|rfl|rfl<;>rcases hj' with rfl|rfl|rfl|rfl|rfl|rfl<;>first|omega|(rcases hi with rfl|rfl|rfl|rfl|rfl|rfl<;>first|omega|rfl)
noncomputable def Ybr(n:Nat)(h:Rat):List OT:=(Xd (n-1)).map λi:Nat=>.tp [.nd [.fz (.int (1+(i:Int)))],.fz (frD h)]
theorem Zsw{n:Nat}(h2:2≤n)(hn:n≤7){E b:Int}(hb:0<b){L:List (List Int×Rat)}(pm:L.Perm (Zly n (Xh E (2*b)) (Xh E b))):Z1 n (frG λi j=>Xh (evR E i j) b-Qm L i j)= .list ((Xd n).map λ_=>.list (XJ n (.tuple [.int 0,.int 1]))):=by
 have hh:Xh E (2*b)+(Xh E (2*b)+0)=Xh E b:=by
  rw[Rat.add_zero,Ziz,←Int.two_mul,Int.mul_comm 2 b,Jq (by decide) hb]
 have s:∀i j,i<j->j<n->SmL L i j=Xh E b:=λi j hij hj=>by
  rw[Zyd pm,Z1o h2 hn _ _ hij hj];split
  ·exact Rat.add_zero _
  ·exact hh
 have z:∀q:Rat,q-q=0:=λq=>by rw[Ug,Rat.add_neg_cancel]
 have f0:frD 0= .tuple [.int 0,.int 1]:=rfl;unfold Z1;refine YT XX (Xn λi hi=>YT XX ?_);rw[List.eq_replicate_iff];refine⟨by rw[Xc,Xj],λd hd=>?_⟩;obtain⟨j,hj,rfl⟩:=XD.mp hd;have hi:=Xx.mp hi;have hj:=Xx.mp hj;rw[←f0];refine YT frD ?_;unfold evR Qm;dsimp only
 by_cases c:i=j
 ·subst c
  rw[YL rfl,YM (by omega),YM (by omega),Ub,z]
 ·rw[YM c]
  by_cases d:i<j
  ·rw[YL d,s i j d hj,z]
  ·rw[YM d,YL (by omega),s j i (by omega) hi,z]
theorem Z42{n:Nat}(h2:2≤n)(hn:n≤7){q:Rat}(q0:0<q.num)(q1:q.num≤1000000000000000000000)(qd:q.den≤12):Told Jr [.int n,frD q] (.bool YD):=by
 obtain⟨E,hE⟩:∃E,E=q.num:=⟨_,rfl⟩;obtain⟨b,hB⟩:∃b:Int,b=q.den:=⟨_,rfl⟩;have hb:0<b:=by have:=q.den_pos;omega
 have b1:b≤12:=by omega
 rw[←hE]at q0 q1;have eq:Xh E b=q:=by rw[hE,hB];exact Vy q
 have bb:Bt 300 b:=(Bt.of_lt (m:=10) (by omega) (by omega)).mono (by decide);obtain⟨Ls,eC,mC,up,lC⟩:=Zei (n:=n) (by omega) (by omega);have M:Mt (evR E):=Z58 (by omega) (by omega);have eS:=Zin (n:=n) (by omega) hb bb M.bt (M.long n) eC (λs hs=>(mC s).mp hs) (by omega) (W:=evW n E) λA hA m hm=>Zx6 (by omega) ((mC A).mp hA) hm;rw[Z4k h2 q0 hb mC up]at eS;have pm:(sCt (Zly n (Xh E (2*b)) (Xh E b))).Perm (Zly n (Xh E (2*b)) (Xh E b)):=Zfh _ _ _;have ld:(Zly n (Xh E (2*b)) (Xh E b)).length<64:=by
  unfold Zly;split
  ·exact(by decide:1<64)
  ·rw[Qw,Xc,Xj]
   show n-1+1<64;omega
 have eR:=Zn7 (n:=n) (by omega) (M.q4 hb (by omega)) eS (by rw[pm.length_eq];exact ld) hb b1 λp hp=>by
  obtain⟨A,_,w,rfl⟩:=(Ztm h2 q0 hb p).mp (pm.mem_iff.mp hp);refine⟨_,rfl,by omega,?_⟩;have w0:evW n E A=2*E-tw E A-tw E (away n A):=rfl;have b1:=(Zvk (By q0) A).1;have b2:=(Zvk (By q0) (away n A)).1;omega
 rw[Zsw h2 hn hb pm]at eR;have eT:tbD (Zbe n (evR E) b)= .list ((Xd n).map λi=>.list ((Xd n).map λj=>if i=j then .tuple [.int 0,.int 1]else frD q)):=by
  rw[Zae];unfold Z1;refine YT XX (Xn λi _=>YT XX (Xn λj _=>?_));show frD (Xh (evR E i j) b)=_;unfold evR
  by_cases c:i=j
  ·rw[YL c,YL c,Ub];rfl
  ·rw[YM c,YM c,eq]
 rw[eT]at eS eR;have fq:frD q= .tuple [.int E,.int b]:=by rw[hE,hB];rfl
 -- the statements
 have s1:EvV (Yr 1 [0,1] (iRa (Zc (Ze 0) Zn)) (gNm 0) Zc7 (Yr 1 [2,0] (iRa (Zc (Ze 1) Zn)) (gNm 0) Zc7 (Yb gIx (Zb0 (Zc (Ze 1) (Zc (Zfm (Zc (fC (.int 0)) (Zc (fC (.int 1)) Zn))) Zn))) (Zaq Zrk (Zc (Zi gEq (Ze 2) (Ze 0)) Zn))))) [YB (.fz (.int n)),YB (.fz (frD q)),YC,YC,YC] (.list ((Xd n).map λi=>.list ((Xd n).map λj=>if i=j then .tuple [.int 0,.int 1]else frD q))) :=
  Jl (cs:=[YB (.fz (.int n)),YB (.fz (frD q))]) (Xd n) mkI (λi=>.list ((Xd n).map λj=>if i=j then .tuple [.int 0,.int 1]else frD q)) (Zwa (Zb (Za rfl) Zg) (by omega)) (by rw[Xj];omega) rfl λi _=>
   Jl (cs:=[YB (.fz (frD q)),YB (.fz (mkI i))]) (Xd n) mkI (λj=>if i=j then .tuple [.int 0,.int 1]else frD q) (Zwa (Zb (Za rfl) Zg) (by omega)) (by rw[Xj];omega) rfl λj _=>by
    refine Y4 (Zbt (Zb (Za rfl) (Zb (Zap (Zb Z4 (Zb Z4 Zg)) (show 2≤1000 by decide)) Zg)) (show 2≤1000 by decide)) (W9 (Zb (Zuh (i:=(i:Int)) (j:=(j:Int)) (Za rfl) (Za rfl) rfl) Zg) (Z0c _)) ?_
    by_cases c:i=j
    ·rw[YL c,YQ (by omega)];rfl
    ·rw[YM c,YS (by omega)];rfl
 have s2:EvV (Zv Yj (Zc (Yb gIx (Ze 1) (fC (.int 0))) (Zc (Zi Zcs (fC (.int 2)) (Yb gIx (Ze 1) (fC (.int 1)))) Zn))) [YB (.fz (.int n)),YB (.fz (frD q)),YB (.fz (.list ((Xd n).map λi=>.list ((Xd n).map λj=>if i=j then .tuple [.int 0,.int 1]else frD q)))),YC,YC] (frD (Xh E (2*b))):=by
  rw[fq];exact Zq (Zb (Y4 (d:=.int E) (Za rfl) Z4 rfl) (Zb (Zr6 Z4 (Y4 (d:=.int b) (Za rfl) Z4 rfl)) Zg)) (Za0 (n:=10) (by omega) (Bt.of_lt (by omega) (by omega)))
 have last:∀o4:OT,o4.data=Ze7 (Zly n (Xh E (2*b)) (Xh E b))->∀h3,Zlk (wE (Zy3 (Zi gEq (Zv Z6 (Zc (Ze 2) Zn)) (fBl (Zg1 kdT ltT) (Zc (Zrj 4) Zn))) (Zi gEq (Zv Yh (Zc (Ze 2) Zn)) (Yr 1 [0] (iRa (Zc (Ze 0) Zn)) (gNm 0) Zc7 (Zvz (Zfm (Zc (fC (.int 0)) (Zc (fC (.int 1)) Zn))) (Ze 1))))) J7) [YB (.fz (.int n)),YB (.fz (frD q)),YB (.fz (.list ((Xd n).map λi=>.list ((Xd n).map λj=>if i=j then .tuple [.int 0,.int 1]else frD q)))),h3,YB o4] (.bool YD):=λo4 ho h3=>by
  have k1:=Z6a (sCt (Zly n (Xh E (2*b)) (Xh E b)));have k2:=Zld n λ_ _=>0;have e0:Z1 n (frG λ_ _=>0)= .list ((Xd n).map λ_=>.list (XJ n (.tuple [.int 0,.int 1]))):=by
   unfold Z1;refine YT XX (Xn λi _=>YT XX ?_);rw[List.eq_replicate_iff];refine⟨by rw[Xc,Xj],λd hd=>?_⟩;obtain⟨j,_,rfl⟩:=XD.mp hd;rfl
  rw[e0]at k2;exact Wt (Zkp (Zo (Zq (Zb (Za rfl) Zg) eS) (Z1g (Ztn rfl ho) ld) (Ziq k1.1 (by decide) k1.2).1) (Zo (Zq (Zb (Za rfl) Zg) eR) (Jl (cs:=[YB (.fz (.int n))]) (Xd n) mkI (λ_=>.list (XJ n (.tuple [.int 0,.int 1]))) (Zwa (Zb (Za rfl) Zg) (by omega)) (by rw[Xj];omega) rfl λi _=>Z9k (Zap (Zb Z4 (Zb Z4 Zg)) (show 2≤1000 by decide)) (Za rfl) (by omega)) (Ziq k2.1 (by decide) k2.2).1))
 refine Z0 rfl<|Z9 (Z3 s1)<|Z9 (Z3 s2)<|Z9 (Zkc (o:=.nd (Ybr n (Xh E (2*b)))) (Zey (cs:=[YB (.fz (frD (Xh E (2*b))))]) (Xd (n-1)) (λi:Nat=>Xq (1+(i:Int))) (λi=>.tp [.nd [.fz (.int (1+(i:Int)))],.fz (frD (Xh E (2*b)))]) (Zx5 (m:=1) (Zb Z4 (Zb (Za rfl) Zg)) (by decide) (by omega)) (by rw[Xj,X8];omega) rfl λi _=>rfl)) ?_
 by_cases c:n=2
 ·subst c
  refine Z9 (Jb (Ze1 (Zme (Za rfl) Z4 rfl)) rfl)<|Z9 (Zbk (Ze1 (Zuh (Za rfl) Z4 rfl)) (Zkc (o:=.nd [.tp [.nd [.fz (.int 1)],.fz (frD q)]]) rfl)) (last _ ?_ _);rw[eq];rfl
 ·refine Z9 (Zbk (Ze1 (Zme (Za rfl) Z4 (YQ (by omega)))) (Zdj (d:=ctD (Zo2 n,Xh E (2*b))) (ts:=Ybr n (Xh E (2*b))) (Zap (Zb (Z0y (by omega) (by omega) (Zb Z4 (Zb (Za rfl) Zg))) (Zb (Za rfl) Zg)) (show 2≤1000 by decide)) rfl (by unfold Ybr;rw[Xc,Xj];omega)))<|Z9 (Jb (Ze1 (Zuh (Za rfl) Z4 (YS (by omega)))) rfl) (last _ ?_ _)
  rw[OT.data_nd,XM];unfold Ybr Zly Ze7;rw[YM c,XM,XQ,XQ];rfl
theorem Zxn(A B:List Rat):(A++B).sum=A.sum+B.sum:=by
 induction A with
 | nil=>rw[List.nil_append,List.sum_nil,Rat.zero_add]
 | cons x A ih=>rw[List.cons_append,UV,UV,ih,Rat.add_assoc]
theorem Z05(A B:List (List Int×Rat))(i j:Nat):SmL (A++B) i j=SmL A i j+SmL B i j:=by
 unfold SmL;rw[Uc,XM,Zxn]
noncomputable def Zg5(k:Nat)(w:Nat->Int):List (List Int×Rat):=((Xd k).filter λi=>decide (0<w (i+1))).map λi:Nat=>([1+(i:Int)],((w (i+1):Int):Rat))
theorem Ze8(k:Nat)(w:Nat->Int):Zg5 (k+1) w=Zg5 k w++if 0<w (k+1)then[([1+(k:Int)],((w (k+1):Int):Rat))]else[]:=by
 unfold Zg5;rw[V8,Uc,XM]
 by_cases c:0<w (k+1)
 ·rw[YL c,JW (p:=λi=>decide (0<w (i+1))) (YQ c)];rfl
 ·rw[YM c,JX (p:=λi=>decide (0<w (i+1))) (by rw[YS c];exact XC)];rfl
theorem Zpg(k:Nat)(w:Nat->Int):(Zg5 k w).length≤k:=by
 unfold Zg5;rw[Xc];exact Qt (JV ..) (by rw[Xj];exact X6 _)
theorem Zuk{w:Nat->Int}(h0:w 0=0)(hw:∀i,0≤w i){i j:Nat}(ne:i≠j)(k:Nat):SmL (Zg5 k w) i j=(((if i≤k then w i else 0)+if j≤k then w j else 0:Int):Rat):=by
 induction k with
 | zero=>
  have e:∀i,(if i≤0 then w i else 0)=0:=λi=>by
   by_cases c:i≤0
   ·rw[YL c,show i=0 by omega,h0]
   ·rw[YM c]
  rw[e,e];rfl
 | succ k ih=>
  have one:∀i,(if i≤k+1 then w i else 0)=(if i≤k then w i else 0)+if i=k+1 then w (k+1)else 0:=λi=>by
   by_cases c:i≤k
   ·rw[YL c,YL (by omega),YM (by omega),Int.add_zero]
   ·rw[YM c,BZ]
    by_cases d:i=k+1
    ·rw[YL d,YL (by omega),d]
    ·rw[YM d,YM (by omega)]
  have sd1:∀t:Nat,sd (([1+(k:Int)],((w (k+1):Int):Rat)):List Int×Rat) t=if t=k+1 then 1 else 0:=λt=>by
   unfold sd
   by_cases c:t=k+1
   ·rw[YL c,YL (Xp.mpr (by omega))]
   ·rw[YM c,YM (λz=>c (by have:=Xp.mp z;omega))]
  have s:SmL (if 0<w (k+1)then[([1+(k:Int)],((w (k+1):Int):Rat))]else[]) i j=(((if i=k+1 then w (k+1)else 0)+if j=k+1 then w (k+1)else 0:Int):Rat):=by
   by_cases c:0<w (k+1)
   ·rw[YL c]
    unfold SmL
    by_cases d:i=k+1∨j=k+1
    ·have:prt i j (([1+(k:Int)],((w (k+1):Int):Rat)):List Int×Rat)=YD:=by
      unfold prt;rw[sd1,sd1];rcases d with d|d
      ·rw[YL d,YM (by omega)];rfl
      ·rw[YL d,YM (by omega)];rfl
     rw[JW this,List.filter_nil,Qg,List.map_nil,UV,List.sum_nil,Rat.add_zero];rcases d with d|d
     ·rw[YL d,YM (by omega),Int.add_zero]
     ·rw[YL d,YM (by omega),BZ]
    ·have:¬prt i j (([1+(k:Int)],((w (k+1):Int):Rat)):List Int×Rat)=YD:=by
      unfold prt;rw[sd1,sd1,YM (by omega),YM (by omega)];decide
     rw[JX this,YM (by omega),YM (by omega)];rfl
   ·have:w (k+1)=0:=by have:=hw (k+1);omega
    rw[YM c,this];have z:∀i:Nat,(if i=k+1 then(0:Int)else 0)=0:=λi=>by split<;>rfl
    rw[z,z];rfl
  rw[Ze8,Z05,ih,s,←Rat.intCast_add,one i,one j];refine YT (λz:Int=>(z:Rat)) ?_;omega
noncomputable def enR(R:Nat->Nat->Int)(b:Int)(w:Nat->Int)(i j:Nat):Int:=R i j+b*if i=j then 0 else w i+w j
theorem Z77{n:Nat}{R:Nat->Nat->Int}{b:Int}(hb:0<b){w:Nat->Int}(h0:w 0=0)(hw:∀i,0≤w i){i j:Nat}(hi:i<n)(hj:j<n):Xh (R i j) b+Qm (Zg5 (n-1) w) i j=Xh (enR R b w i j) b:=by
 have e:Qm (Zg5 (n-1) w) i j=(((if i=j then 0 else w i+w j:Int)):Rat):=by
  unfold Qm
  by_cases c:i=j
  ·subst c
   rw[YM (by omega),YM (by omega),YL rfl];rfl
  ·rw[YM c]
   by_cases d:i<j
   ·rw[YL d,Zuk h0 hw c,YL (by omega),YL (by omega)]
   ·rw[YM d,YL (by omega),Zuk h0 hw (JR c),YL (by omega),YL (by omega),Int.add_comm]
 have i2:∀z:Int,((z:Int):Rat)=Xh (b*z) b:=λz=>by
  have:=Jq (a:=z) (m:=1) (k:=b) hb (by decide);rw[Int.one_mul]at this;rw[this];exact(Vy ((z:Int):Rat)).symm
 rw[e,i2,Ziz];rfl
theorem Yaq{R:Nat->Nat->Int}{b:Int}(M:Mt R)(hb:0<b)(b9:b≤9)(B:∀i j,R i j≤200000000000000000000){w:Nat->Int}(hw:∀i,0≤w i∧w i≤4):Mt (enR R b w)∧∀i j,enR R b w i j≤300000000000000000000:=by
 have x0:∀i j,0≤(if i=j then 0 else w i+w j)∧(if i=j then 0 else w i+w j)≤8:=λi j=>by
  have:=hw i;have:=hw j;split<;>omega
 have x1:∀i j,0≤b*(if i=j then 0 else w i+w j)∧b*(if i=j then 0 else w i+w j)≤9*8:=λi j=>⟨Uv (by omega) (x0 i j).1,Int.mul_le_mul b9 (x0 i j).2 (x0 i j).1 (by decide)⟩;refine⟨⟨λi j=>?_,λi=>?_,λi j k=>?_,λi j=>?_⟩,λi j=>?_⟩<;>unfold enR
 ·rw[M.sy i j]
  refine YT (λz=>R j i+b*z) ?_
  by_cases c:i=j
  ·rw[YL c,YL c.symm]
  ·rw[YM c,YM (JR c),Int.add_comm]
 ·rw[M.dg,YL rfl,Uu];rfl
 ·have h:=M.tr i j k
  have t:(if i=k then 0 else w i+w k)≤(if i=j then 0 else w i+w j)+if j=k then 0 else w j+w k:=by
   have:=hw i;have:=hw j;have:=hw k
   by_cases c1:i=j
   ·subst c1;rw[YL (rfl:i=i)];omega
   ·by_cases c2:j=k
    ·subst c2;rw[YL (rfl:j=j)];omega
    ·rw[YM c1,YM c2]
     split<;>omega
  have:=JC t (By hb);rw[Uh]at this;omega
 ·have:=x1 i j
  have:=(M.bd i j).1;have:=B i j;omega
 ·have:=x1 i j
  have:=B i j;omega
open Classical in
noncomputable def lsW(n:Nat)(R:Nat->Nat->Int)(A:List Int):Int:=if h:∃m,Lst R A (away n A) m then max 0 h.choose else 0
theorem Lst.uniq{R:Nat->Nat->Int}{A B:List Int}{l m:Int}(h:Lst R A B l)(k:Lst R A B m):l=m:=by
 obtain⟨⟨p,hp,q,hq,e⟩,lo⟩:=h;obtain⟨⟨p',hp',q',hq',e'⟩,lo'⟩:=k;have:=lo p' hp' q' hq';have:=lo' p hp q hq;omega
theorem Zzj{n:Nat}{R:Nat->Nat->Int}{A:List Int}{m:Int}(h:Lst R A (away n A) m):max 0 m=lsW n R A:=by
 unfold lsW;rw[dif_pos ⟨m,h⟩];exact YT (max 0) (h.uniq (Exists.choose_spec (⟨m,h⟩:∃m,Lst R A (away n A) m)))
theorem Z7q{n:Nat}{R:Nat->Nat->Int}{B:Int}(hR:∀i j,0≤R i j∧R i j≤B)(A:List Int):0≤lsW n R A∧lsW n R A≤2*B:=by
 have hB:=hR 0 0;unfold lsW
 by_cases c:∃m,Lst R A (away n A) m
 ·rw[dif_pos c]
  obtain⟨⟨p,hp,q,hq,e⟩,_⟩:=c.choose_spec;have:c.choose≤2*B:=by
   rw[e];unfold rlI rl;have:=hR p.1.toNat p.2.toNat;have:=hR q.1.toNat q.2.toNat;have:=hR p.1.toNat q.1.toNat;have:=hR p.2.toNat q.2.toNat;have:=hR p.1.toNat q.2.toNat;have:=hR p.2.toNat q.1.toNat;omega
  omega
 ·rw[dif_neg c];omega
theorem Z41{n few:Nat}{far b:Int}{O:List Nat}(h:SdT n few far b O){p:Nat}(hp:p<n):∃c d,c<n∧d<n∧c≠p∧d≠p∧c≠d∧sb (sid few far) O c p+sb (sid few far) O p d=sb (sid few far) O c d:=by
 have pm:=h.pm;have f2:=h.few2;have f3:=h.more3;have lp:O.length=n:=by rw[pm.length_eq,Xj]
 have at':∀k,k<n->∃u,u<n∧O.getD u 0=k:=λk hk=>by
  obtain⟨u,hu,e⟩:=BR (pm.mem_iff.mpr (Xx.mpr hk));exact⟨u,by omega,by rw[Xe,Xm hu];exact e⟩
 have two:∀c d,O.getD c 0≠O.getD d 0->(O.getD c 0<few↔O.getD d 0<few)->¬(O.getD c 0<few↔O.getD p 0<few)->c≠p∧d≠p∧c≠d∧sb (sid few far) O c p+sb (sid few far) O p d=sb (sid few far) O c d:=λc d ne s q=>by
  refine⟨λz=>q (by rw[z]),λz=>q (by rw[s,z]),λz=>ne (by rw[z]),?_⟩;show sid few far _ _+sid few far _ _=sid few far _ _;rw[Zlb ne s,Zh4 q,Zh4 (λz=>q (by rw[s,z]))];omega
 by_cases c:O.getD p 0<few
 ·obtain⟨u,hu,eu⟩:=at' few (by omega)
  obtain⟨v,hv,ev⟩:=at' (few+1) (by omega);exact⟨u,v,hu,hv,two u v (by omega) (by omega) (by omega)⟩
 ·obtain⟨u,hu,eu⟩:=at' 0 (by omega)
  obtain⟨v,hv,ev⟩:=at' 1 (by omega);exact⟨u,v,hu,hv,two u v (by omega) (by omega) (by omega)⟩
theorem Zp7{n:Nat}{R:Nat->Nat->Int}{b:Int}(M:Mt R)(hb:0<b){w:Nat->Int}(hw:∀i,0≤w i){p:Nat}(hp:p<n)(mid:∃c d,c<n∧d<n∧c≠p∧d≠p∧c≠d∧R c p+R p d=R c d){m:Int}(h:Lst (enR R b w) [(p:Int)] (away n [(p:Int)]) m):m=2*(b*w p):=by
 have pp:((p:Int),(p:Int))∈dbl [(p:Int)]:=(Zgz (Xp.mpr rfl) (Xp.mpr rfl)).elim (λz=>z) λz=>z;have dgE:∀i,enR R b w i i=0:=λi=>by unfold enR;rw[M.dg,YL rfl,Uu];rfl
 have neE:∀i j,i≠j->enR R b w i j=R i j+(b*w i+b*w j):=λi j c=>by unfold enR;rw[YM c,Uh]
 have nn:∀i,0≤b*w i:=λi=>Uv (By hb) (hw i);have bd:=λi j=>(M.bd i j).1;have val:∀c d:Nat,rlI (enR R b w) ((p:Int),(p:Int)) ((c:Int),(d:Int))=max (max (enR R b w c d) (enR R b w p c+enR R b w p d)) (enR R b w p d+enR R b w p c)-enR R b w c d:=λc d=>by
  unfold rlI rl;dsimp only;rw[Q0,Q0,Q0,dgE p,BZ]
 obtain⟨⟨x,hx,q,hq,e⟩,lo⟩:=h;have ge:2*(b*w p)≤m:=by
  obtain⟨x1,x2⟩:=Ze9 hx;obtain⟨q1,q2⟩:=Ze9 hq;obtain⟨a0,a1,a2⟩:=Yo.mp q1;obtain⟨b0,b1,b2⟩:=Yo.mp q2;rw[Xp]at x1 x2 a2 b2;obtain⟨c,hc⟩:∃c:Nat,q.1=c:=⟨q.1.toNat,by omega⟩;obtain⟨d,hd⟩:∃d:Nat,q.2=d:=⟨q.2.toNat,by omega⟩;have ex:x=((p:Int),(p:Int)):=Prod.ext x1 x2;have eq:q=((c:Int),(d:Int)):=Prod.ext hc hd;rw[e,ex,eq,val];have n1:=neE p c (by omega);have n2:=neE p d (by omega);have:=nn c;have:=nn d;have:=nn p;have:=bd p c;have:=bd p d
  by_cases s:c=d
  ·subst s
   rw[dgE,n1];omega
  ·have n3:=neE c d s
   have:=M.tr c p d;have:=M.sy c p;rw[n1,n2,n3];omega
 have le:m≤2*(b*w p):=by
  obtain⟨c,d,hc,hd,c1,d1,cd,mid⟩:=mid;have mc:(c:Int)∈away n [(p:Int)]:=Yo.mpr ⟨by omega,by omega,λz=>by rw[Xp]at z;omega⟩;have md:(d:Int)∈away n [(p:Int)]:=Yo.mpr ⟨by omega,by omega,λz=>by rw[Xp]at z;omega⟩;have n1:=neE p c (JR c1);have n2:=neE p d (JR d1);have n3:=neE c d cd;have n4:=neE d c (JR cd);have:=M.sy c p;have:=M.sy c d;have:=nn p;rcases Zgz mc md with z|z
  ·have:=lo _ pp _ z
   rw[val,n1,n2,n3]at this;omega
  ·have:=lo _ pp _ z
   rw[val,n1,n2,n4]at this;omega
 omega
theorem Zqp{L:List (List Int)}(nd:L.Nodup){a:List Int}(h:a∈L):L.filter (λx=>decide (x=a))=[a]:=by
 induction L with
 | nil=>cases h
 | cons y L ih=>
  obtain⟨n1,n2⟩:=Qy.mp nd
  by_cases c:y=a
  ·subst c
   rw[JW (p:=λx=>decide (x=y)) (YQ rfl),List.filter_eq_nil_iff.mpr λ(x:List Int) (hx:x∈L) (q:decide (x=y)=YD)=>n1 (by rw[←YW q];exact hx)]
  ·rw[JX (p:=λx=>decide (x=a)) (by rw[YS c];exact XC)]
   exact ih n2 ((Xu.mp h).resolve_left (JR c))
theorem UpL.nodup{L:List (List Int)}(h:UpL L):L.Nodup:=h.imp fun{a b} q e=>by
 rw[e,Zhw]at q;cases q
theorem Z9g{L M:List (List Int)}(nd:L.Nodup)(h:∀x∈L,x∈M):L.length≤M.length:=by
 induction L generalizing M with
 | nil=>exact QZ _
 | cons y L ih=>
  obtain⟨n1,n2⟩:=Qy.mp nd;have m:=h y (.head _);have:=ih (M:=M.erase y) n2 λx hx=>(List.mem_erase_of_ne (λe:x=y=>n1 (by rw[←e];exact hx))).mpr (h x (.tail _ hx));have:=List.length_erase_of_mem m;have:=List.length_pos_of_mem m;rw[JN];omega
theorem Zw9{n:Nat}(h1:1≤n)(hn:n≤7){Ls:List (List Int)}(mC:∀s,s∈Ls↔Zp6 n s)(nd:Ls.Nodup):Ls.length<64:=by
 have:=Z9g (L:=[]::Ls) (M:=sdL (n-1)) (Qy.mpr ⟨λz=>((mC _).mp z).ne rfl,nd⟩) λx hx=>by
  rcases Xu.mp hx with rfl|hx
  ·exact Zuy _ _ .nil λx hx=>nomatch hx
  ·exact((Zoa n h1 x).mpr ((mC x).mp hx)).1
 rw[Zid,JN]at this;have:2^(n-1)≤2^6:=Ba (by decide) (by omega);omega
theorem found_one{Ls:List (List Int)}(nd:Ls.Nodup){W:List Int->Int}{b:Int}{a:List Int}(ha:a∈Ls)(hW:0<W a):((wtL Ls W b).filter λp=>decide (p.1=a)).map (λp=>frD p.2)=[frD (Xh (W a) (2*b))]:=by
 have:(wtL Ls W b).filter (λp=>decide (p.1=a))=[(a,Xh (W a) (2*b))]:=by
  unfold wtL;rw[List.filter_map];have e:(Ls.filter λA=>decide (0<W A)).filter ((λp:List Int×Rat=>decide (p.1=a))∘ λA=>(A,Xh (W A) (2*b)))=[a]:=Zqp (nd.filter _) (QF.mpr ⟨ha,YQ hW⟩);rw[e];rfl
 rw[this];rfl
theorem Yah{L:List (List Int×Rat)}{bot:Int}(hl:L.length<64)(b0:0<bot)(b1:bot≤12)(hW:∀p∈L,Wq bot p.2)(i j:Nat):BQ 199 (Qm L i j):=by
 have z:BQ 199 (0:Rat):=⟨btc (by decide +kernel) (by decide +kernel),btc (by decide +kernel) (by decide +kernel)⟩;have s:∀i j,BQ 199 (SmL L i j):=λi j=>by
  unfold SmL;obtain⟨y,e,y0,y1⟩:=Zvg (bot:=bot) ((L.filter (prt i j)).map λp=>p.2) λq hq=>by
   obtain⟨p,hp,rfl⟩:=XD.mp hq;exact hW p (QF.mp hp).1
  rw[e];have:(L.filter (prt i j)).length≤L.length:=JV ..;rw[Xc]at y1;exact BQ.div (by omega) (Znj (m:=100) y0 (JG (b:=600000000000000000000000) (by omega) (by decide +kernel)) (by decide)) (Bt.mono (m:=5) (Bt.of_lt (by omega) (by omega)) (by decide))
 unfold Qm;split
 ·exact s i j
 ·split
  ·exact s j i
  ·exact z
theorem Zh5{n:Nat}(hn:n≤10){L:List (List Int×Rat)}{bot:Int}(hl:L.length<64)(b0:0<bot)(b1:bot≤12)(hW:∀p∈L,Wq bot p.2):Told Z2 [.int n,Ze7 L] (mt n (Qm L)):=by
 refine⟨_,Zhl (n:=n) hn L hl (B:=2*bot) (by omega) (Bt.mono (m:=6) (Bt.of_lt (by omega) (by omega)) (by decide)) λp hp=>?_,?_⟩
 ·obtain⟨x,e,x0,x1⟩:=hW p hp
  rw[e];exact⟨Zhx (by omega),Zfl (by omega) (Znj (m:=100) x0 (JG x1 (by decide +kernel)) (by decide))⟩
 ·rw[Zfr]
  unfold Z1 mt rwT;exact YT XX (Xn λi _=>YT XX (Xn λj _=>Z92 L i j))
structure EnF(n:Nat)(T T':Xa)(w:Nat->Int)(L:List (List Int×Rat)):Prop where
 ends:∃Q,Told Z2 [.int n,Ze7 (Zg5 (n-1) w)] Q∧Told Jp [T,Q] T'
 told:Told Z6 [T'] (Ze7 L)
 few:L.length<64
 one:∀i,i<n-1->0<w (i+1)->(L.filter λp=>decide (p.1=[1+(i:Int)])).map (λp=>frD p.2)=[frD ((w (i+1):Int):Rat)]
 back:∃D Q,Told Yh [T'] D∧Told Z2 [.int n,Ze7 L] Q∧Told Jp [D,Q] T'
 same:gEq T' T'=YB (.bool YD)
theorem Zwm{n few:Nat}{far b:Int}{O:List Nat}(h:SdT n few far b O){w:Nat->Int}(h0:w 0=0)(hw:∀i,0≤w i∧w i≤4):∃T' L,EnF n (tbD (Zbe n (sb (sid few far) O) b)) T' w L:=by
 have hn:=h.n7;have n5:=h.n5;have M:=h.mt;have hb:=h.b0;have b9:=h.b9;have bb:Bt 300 b:=(Bt.of_lt (m:=10) (by omega) (by omega)).mono (by decide);have B:∀i j,sb (sid few far) O i j≤200000000000000000000:=λi j=>by
  have h1:=(Zis (few:=few) h.far0 (O.getD i 0) (O.getD j 0)).2.1;have h2:=h.far1;show sid few far _ _≤_;omega
 obtain⟨R,hR⟩:∃R,R=sb (sid few far) O:=⟨_,rfl⟩;have mid:∀p,p<n->∃c d,c<n∧d<n∧c≠p∧d≠p∧c≠d∧R c p+R p d=R c d:=λp hp=>by rw[hR];exact Z41 h hp
 rw[←hR]at M B⊢;obtain⟨M',B'⟩:=Yaq M hb b9 B hw;have wn:=λi=>(hw i).1;obtain⟨Ls,eC,mC,up,lC⟩:=Zei (n:=n) (by omega) (by omega);have nd:=up.nodup;have eS:=Zin (n:=n) (by omega) hb bb M'.bt (M'.long n) eC (λs hs=>(mC s).mp hs) (by omega) (W:=lsW n (enR R b w)) λA _ m hm=>Zzj hm;have ll:(wtL Ls (lsW n (enR R b w)) b).length<64:=by
  have:=Zw9 (n:=n) (by omega) hn mC nd;have:(wtL Ls (lsW n (enR R b w)) b).length≤Ls.length:=by
   unfold wtL;rw[Xc];exact JV ..
  omega
 have wq:∀p∈wtL Ls (lsW n (enR R b w)) b,Wq b p.2:=λp hp=>by
  obtain⟨A,_,rfl⟩:=XD.mp hp;have:=Z7q (n:=n) (B:=300000000000000000000) (λi j=>⟨(M'.bd i j).1,B' i j⟩) A;exact⟨_,rfl,this.1,by omega⟩
 have wp:∀p∈Zg5 (n-1) w,Wq 1 p.2:=λp hp=>by
  obtain⟨i,_,rfl⟩:=XD.mp hp;have:=hw (i+1);refine⟨2*w (i+1),?_,by omega,by omega⟩;have e:=Jq (a:=w (i+1)) (m:=1) (k:=2) (by decide) (by decide);exact(Vy ((w (i+1):Int):Rat)).symm.trans e.symm
 have bqT:∀i j,BQ 199 (Xh (enR R b w i j) b):=λi j=>BQ.div (by omega) (Znj (m:=100) (M'.bd i j).1 (JG (B' i j) (by decide +kernel)) (by decide)) (Bt.mono (m:=5) (Bt.of_lt (by omega) (by omega)) (by decide));have bqR:∀i j,BQ 199 (Xh (R i j) b):=λi j=>BQ.div (by omega) (Znj (m:=100) (M.bd i j).1 (JG (B i j) (by decide +kernel)) (by decide)) (Bt.mono (m:=5) (Bt.of_lt (by omega) (by omega)) (by decide));have lp:=Zpg (n-1) w;have q1:=Yah (L:=Zg5 (n-1) w) (by omega) (by decide) (by decide) wp;have q2:=Yah ll hb (by omega) wq;have e1:=Zh5 (n:=n) (by omega) (L:=Zg5 (n-1) w) (by omega) (by decide) (by decide) wp;have e2:=Zp2 (n:=n) (by omega) (f:=λi j=>Xh (R i j) b) (g:=Qm (Zg5 (n-1) w)) (λi j _ _=>(bqR i j).mono (by decide)) λi j _ _=>(q1 i j).mono (by decide);rw[Zoy (g:=λi j=>Xh (enR R b w i j) b) λi j hi hj=>Z77 hb h0 wn hi hj,←Zs6,←Zs6]at e2;have eR:=Zn7 (n:=n) (by omega) (M'.q4 hb (by omega)) eS ll hb (by omega) wq;have e3:=Zh5 (n:=n) (by omega) ll hb (by omega) wq;have e4:=Zp2 (n:=n) (by omega) (f:=λi j=>Xh (enR R b w i j) b-Qm (wtL Ls (lsW n (enR R b w)) b) i j) (g:=Qm (wtL Ls (lsW n (enR R b w)) b)) (λi j _ _=>((bqT i j).minus (q2 i j)).mono (by decide)) λi j _ _=>(q2 i j).mono (by decide);rw[Zoy (f:=λi j=>Xh (enR R b w i j) b-Qm (wtL Ls (lsW n (enR R b w)) b) i j+Qm (wtL Ls (lsW n (enR R b w)) b) i j) (g:=λi j=>Xh (enR R b w i j) b) λi j _ _=>by
  rw[Ug,Rat.add_assoc,Rat.neg_add_cancel,Rat.add_zero],←Zs6]at e4
 have ok:=Zld n λi j=>Xh (enR R b w i j) b;rw[←Zae]at ok;refine⟨_,_,⟨_,e1,e2⟩,eS,ll,λi hi hp=>?_,⟨_,_,eR,e3,e4⟩,(Ziq ok.1 (by decide) ok.2).1⟩;have hA:Zp6 n [1+(i:Int)]:=Zng (by omega) (by omega)
 -- its weight
 have hW:lsW n (enR R b w) [1+(i:Int)]=2*(b*w (i+1)):=by
  have a0:(1+(i:Int))∈[1+(i:Int)]:=Xp.mpr rfl;obtain⟨m,hm⟩:∃m,Lst (enR R b w) [1+(i:Int)] (away n [1+(i:Int)]) m:=by
   obtain⟨m,hm,_⟩:=Zp0 (S:=enR R b w) (A:=[1+(i:Int)]) (n:=n) (by omega) (show 1≤100 by decide) hA.pt hA.ne;exact⟨m,hm⟩
  have:=Zp7 (n:=n) M hb wn (p:=i+1) (by omega) (mid (i+1) (by omega)) (m:=m) (by rw[show((i+1:Nat):Int)=1+(i:Int) by omega];exact hm);rw[←Zzj hm,this];have:=Uv (By hb) (wn (i+1));omega
 have pos:0<b*w (i+1):=Int.mul_pos hb hp;rw[found_one nd ((mC _).mpr hA) (by omega),hW];have e:=Jq (a:=w (i+1)) (m:=1) (k:=2*b) (by omega) (by decide);rw[←Int.mul_assoc,show 2*b=1*(2*b) by omega,show 1*(2*b)*w (i+1)=2*b*w (i+1) by rw[Int.one_mul],e];exact YT (λq=>[frD q]) (Vy ((w (i+1):Int):Rat))
theorem Z3o{as:FA}{δ:Zh}{ds:List Xa}(h:EvA as δ ds)(hl:ds.length≤1000):EvV (Zqs as) δ (.tuple ds):=by
 obtain⟨ts,e1,d1⟩:=h;have:=Zes ts;rw[d1]at this;exact⟨.tp ts,by rw[Zx8,e1,Xk,YL (by rw[X8];show ts.length≤_;omega)],by rw[OT.data];exact YT _ d1⟩
theorem Zqe{k:Nat}{w w':Nat->Int}(h:∀i,i≤k->w i=w' i):Zg5 k w=Zg5 k w':=by
 induction k with
 | zero=>rfl
 | succ k ih=>rw[Ze8,Ze8,ih λi hi=>h i (by omega),h (k+1) (by omega)]
noncomputable def wE'(x:Int)(T:Xa)(n:Nat)(L:List (List Int×Rat))(z4 z5:Option OT):Zh:=[YB (dk x),YB (.fz T),YB (.fz (.int n)),YB (Zz6 L),z4,z5,YC,YC,YC,YC,YC]
theorem Z12{n few:Nat}{far b:Int}{O:List Nat}(h:SdT n few far b O)(x:Int):ToldI Ja (dk x) [tbD (Zbe n (sb (sid few far) O) b)] λd t'=>d= .bool YD∧∃x',t'=dk x':=by
 have hn:=h.n7;have n5:=h.n5;refine Zkf rfl (Yl (Zbj (Y0 (d:=.int n) (W9 (Zb (Za rfl) Zg) (by rw[Ziw,Zdq])) ?_)));obtain⟨T,hT⟩:∃T,T=tbD (Zbe n (sb (sid few far) O) b):=⟨_,rfl⟩;have key:=fun{w:Nat->Int} (h0:w 0=0) (hw:∀i,0≤w i∧w i≤4)=>Zwm h h0 hw;rw[←hT]at key⊢;refine Yl (Zfb Zdz ?_);refine Yl (Zk8 (ds:=Zdh 1 (n-1)) (λk δ=>∃(x:Int) (w:Nat->Int) (z4 z5:Option OT),δ=wE' x T n (Zg5 k w) z4 z5∧w 0=0∧∀i,0≤w i∧w i≤4) (Zx5 (m:=1) (Zb Z4 (Zb (Za rfl) Zg)) (by decide) (by omega)) ⟨x,λ_=>0,YC,YC,rfl,rfl,λ_=>show(0:Int)≤0∧(0:Int)≤4 by decide⟩ (λk d δ hd q=>?_) λδ' q=>?_)
 ·obtain⟨x,w,z4,z5,rfl,h0,hw⟩:=q
  obtain⟨hk,rfl⟩:=Zfd hd;refine⟨wE' x T n (Zg5 k w) (YB (.fz (.int (1+(k:Int))))) z5,rfl,Yl (Zbj (Zbl (x:=x) rfl (Zb Z4 Zg) (by decide) (btc (by decide +kernel) (by decide +kernel)) λr x1 r0 r1=>?_))⟩;show EpS _ (wE' x1 T n (Zg5 k w) (YB (.fz (.int (1+(k:Int))))) (YB (.fz (.int r)))) _ _;obtain⟨w',hw'⟩:∃w':Nat->Int,w'= λi=>if i=k+1 then r else w i:=⟨_,rfl⟩
  have e1:w' (k+1)=r:=by rw[hw'];exact YL rfl
  have e0:∀i,i≠k+1->w' i=w i:=λi hi=>by rw[hw'];exact YM hi
  have ec:Zg5 k w=Zg5 k w':=Zqe λi hi=>(e0 i (by omega)).symm;have hb:∀i,0≤w' i∧w' i≤4:=λi=>by
   by_cases c:i=k+1
   ·rw[c,e1];omega
   ·rw[e0 i c];exact hw i
  have lp:=Zpg k w';have es:=Ze8 k w';rw[e1]at es;rw[ec]
  by_cases c:0<r
  ·refine Zfb (Zbk (Ze1 (Zme (Za (i:=5) (d:=.int r) rfl) Z4 (YQ c))) (Zdj (i:=3) (d:=ctD ([1+(k:Int)],((r:Int):Rat))) (ts:=((Zg5 k w').map ctD).map OT.fz) (Z3o (Zb (Zbt (Zb (Za rfl) Zg) (show 1≤1000 by decide)) (Zb (Zap (Zb (Za rfl) (Zb Z4 Zg)) (show 2≤1000 by decide)) Zg)) (show 2≤1000 by decide)) rfl (by rw[Xc,Xc];omega))) ?_
   refine⟨x1,w',YB (.fz (.int (1+(k:Int)))),YB (.fz (.int r)),?_,by rw[e0 0 (by omega),h0],hb⟩;rw[es,YL c];unfold wE' Zz6;rw[XM,XM];rfl
  ·refine Zfb (Jb (Ze1 (Zme (Za (i:=5) (d:=.int r) rfl) Z4 (YS c))) rfl) ?_
   refine⟨x1,w',YB (.fz (.int (1+(k:Int)))),YB (.fz (.int r)),?_,by rw[e0 0 (by omega),h0],hb⟩;rw[es,YM c,QW]
 ·obtain⟨x,w,z4,z5,rfl,h0,hw⟩:=q
  rw[Zcf];obtain⟨T',L,F⟩:=key h0 hw;obtain⟨Q,eQ,eT⟩:=F.ends;refine Yl (Zto (o:=Zz6 (Zg5 (n-1) w)) rfl (Zbj (Y0 (d:=T') ?_ ?_)))
  ·rw[Zh7]
   exact Zq (Zb (Za rfl) (Zb (Zq (Zb (Za rfl) (Zb (Za rfl) Zg)) eQ) Zg)) eT
  ·rw[Zh7]
   refine Yl (Zbj (Y0 (d:=Ze7 L) (Zq (Zb (Za rfl) Zg) F.told) ?_));refine Yl (Zk8 (ds:=(Zg5 (n-1) w).map ctD) (λk δ=>∃(z8 z9 z10:Option OT),δ=[YB (dk x),YB (.fz T),YB (.fz (.int n)),YB (.fz (Ze7 (Zg5 (n-1) w))),z4,z5,YB (.fz T'),YB (.fz (Ze7 L)),z8,z9,z10]) (Wj (Za rfl)) ⟨YC,YC,YC,rfl⟩ (λk d δ hd q=>?_) λδ' q=>?_)
   ·obtain⟨z8,z9,z10,rfl⟩:=q
    rw[Xl]at hd;obtain⟨p,hp,rfl⟩:=Bc.mp hd;obtain⟨i,hi,rfl⟩:=XD.mp (Qn hp);obtain⟨i1,i2⟩:=QF.mp hi;have one:=F.one i (Xx.mp i1) (YW i2);have few:=F.few;have s1:=Zr7 ((w (i+1):Int):Rat);have s2:Sh 2 (.list [frD ((w (i+1):Int):Rat)]):=Zea λd m=>by rw[Xp.mp m];exact s1
    have ne:=(Ziq s2 (by decide) (Zby λd m=>by rw[Xp.mp m];rfl)).2;refine⟨[YB (dk x),YB (.fz T),YB (.fz (.int n)),YB (.fz (Ze7 (Zg5 (n-1) w))),z4,z5,YB (.fz T'),YB (.fz (Ze7 L)),YB (.fz (Zw [1+(i:Int)])),YB (.fz (frD ((w (i+1):Int):Rat))),z10],rfl,?_⟩;refine Yl (Zfb (Z3 (d:=.list [frD ((w (i+1):Int):Rat)]) ((Zlm (cs:=[YB (.fz (Zw [1+(i:Int)]))]) L (λp=>Zw p.1) (λp=>frD p.2) (λp=>decide (p.1=[1+(i:Int)])) (λp=>frD p.2) (Wj (Za (d:=Ze7 L) rfl)) (by omega) rfl (λ_ _ _ _=>rfl) (λp _=>Ze1 (Zo (Za rfl) (Za rfl) (Zxm _ _))) λp _ _=>Za rfl).cast (by rw[one]))) ?_);exact Zfb (Jb (Ze1 (Zo (Za rfl) (Zbt (Zb (Za rfl) Zg) (show 1≤1000 by decide)) ne)) rfl) ⟨_,_,_,rfl⟩
   ·obtain⟨z8,z9,z10,rfl⟩:=q
    obtain⟨D,Q,e1,e2,e3⟩:=F.back;exact Zlc (Y0 (Zo (Zq (Zb (Zq (Zb (Za rfl) Zg) e1) (Zb (Zq (Zb (Za rfl) (Zb (Za rfl) Zg)) e2) Zg)) e3) (Za rfl) F.same) ⟨_,rfl,rfl,x,rfl⟩)
theorem Z0h{e:FE}{δ:Zh}{T:Bool->Zh->Prop}(h:EvP e δ λd δ'=>∃p,d= .bool p∧T (!p) δ'):EpT (tNo (tD e)) δ T:=by
 obtain⟨t,δ',e1,p,e2,q⟩:=h;exact⟨!p,δ',by rw[Zzz,Z6l,e1,Xk,e2];rfl,q⟩
theorem Z9a{t u:FT}{δ:Zh}{T:Bool->Zh->Prop}(h:EvT t δ YF)(k:EpT u δ T):EpT (tO t u) δ T:=by
 obtain⟨p,δ',e,q⟩:=k;unfold EvT at h;exact⟨p,δ',by rw[Z69,h,Xk,YM XC,e],q⟩
theorem Z4j{t b:Int}(ht:0<t)(hb:0<b):0<(Xh t b).num∧(Xh t b).num≤t∧((Xh t b).den:Int)≤b:=by
 have e:=Vy (Xh t b);have d:=(Xh t b).den_pos;have d1:((Xh t b).den:Int)∣b:=Zhx (by omega);have d2:=Int.le_of_dvd hb d1;have e3:(Xh t b).num*b=t*((Xh t b).den:Int):=(Rat.divInt_eq_divInt_iff (by omega) (by omega)).mp e;obtain⟨k,hk⟩:=d1;have k0:0<k:=by
  by_cases c:0<k
  ·exact c
  ·have:=Vk (a:=((Xh t b).den:Int)) (b:=k) (by omega) (by omega)
   omega
 have e4:(Xh t b).num*k=t:=by
  have:((Xh t b).den:Int)*((Xh t b).num*k)=((Xh t b).den:Int)*t:=by
   rw[Int.mul_left_comm,←hk,e3,Int.mul_comm]
  exact Int.eq_of_mul_eq_mul_left (by omega) this
 have n0:0<(Xh t b).num:=by
  by_cases c:0<(Xh t b).num
  ·exact c
  ·have:=Int.mul_nonpos_of_nonpos_of_nonneg (a:=(Xh t b).num) (b:=k) (by omega) (by omega)
   omega
 refine⟨n0,?_,d2⟩;have:(Xh t b).num*1≤(Xh t b).num*k:=JC (by omega) (By n0);omega
noncomputable def lw(ns:List Int)(z1 z2 z3 z4 z5 z6:Option OT):Zh:=[YB (.fz (Zw ns)),z1,z2,z3,z4,z5,z6]
theorem Zwq(ns:List Int)(hl:ns.length≤63):Zgj [.list (ns.map Xq)]= .ok (.fz (.bool YD)):=by
 show Zgj [Zw ns]=_;have key:EpS Zgf (lw ns YC YC YC YC YC YC) (λ_=>False) λd _=>d= .bool YD:=by
  refine Yl (Zk8 (ds:=(1000000000000000000::Zv9 ns YC (YB 2)).map Xq) (λ_ δ=>∃z1 z2 z3 z4 z5 z6,δ=lw ns z1 z2 z3 z4 z5 z6)
   (Wj (Zjj (ds:=[.int 1000000000000000000]) (es:=(Zv9 ns YC (YB 2)).map Xq) (Zbt (Zb (Zo Z4 Z4 Ybj) Zg) (show 1≤1000 by decide)) (Z6o (r:=ns) Za Ygf (Yhi Z4) rfl) ?_)) ⟨_,_,_,_,_,_,rfl⟩ (λk d δ hd q=>?_) λδ' q=>?_)
  ·have:(Zv9 ns YC (YB 2)).length≤ns.length:=by
    unfold Zv9;rw[Bv,Q8];omega
   rw[Xc];show 1+_≤_;omega
  ·obtain⟨z1,z2,z3,z4,z5,z6,rfl⟩:=q
   obtain⟨c,_,rfl⟩:=XD.mp (Qn hd);clear hd;obtain⟨x0,eD⟩:=Z3b c;refine⟨_,rfl,Yl (Zk5 (Z8p (Zb Za Zg) eD) ?_)⟩;refine Yl (Zbj (Zdt rfl (Zbq ⟨dk x0,rfl,(Zow x0).mono λd t' h=>?_⟩)));obtain⟨x1,n,few,far,b,O,rfl,rfl,A⟩:=h;refine Yl (Zbj (Zdt (t0:=dk x1) rfl (Zbq ⟨dk x1,rfl,(Zow x1).mono λd t' h=>?_⟩)));obtain⟨x2,m,gew,gar,b',ρ,rfl,rfl,B⟩:=h;have n5:=A.n5;have n7:=A.n7;have m5:=B.n5;have m7:=B.n7;have b0:=A.b0;have b9:=A.b9;have eA:=Zmx (n:=n) (by omega) (by omega) A.mt b0 (by omega) A.bare;obtain⟨T,hT⟩:∃T,T=tbD (Zbe n (sb (sid few far) O) b):=⟨_,rfl⟩;obtain⟨Oa,hO⟩:∃Oa,Oa=tbD (Zbe m (sb (sid gew gar) ρ) b'):=⟨_,rfl⟩;have lT:Zcc [T]=YB (.int n):=by rw[hT,Ziw,Zdq]
   have lO:Zcc [Oa]=YB (.int m):=by rw[hO,Ziw,Zdq]
   have eE:=λx=>Z12 A x;have eH:n+m<11->∀{i j:Nat},i<n->j<m->∃d,Told Yv [T,.int i,Oa,.int j] d∧Told Yp [d] (.bool YD):=λq i j hi hj=>by
    rw[hT,hO];exact Ztp A B (by omega) (by omega) (by omega) hi hj
   rw[←hT]at eA eE⊢;rw[←hO];show EpS _ (lw ns (YB (.fz (.int c))) (YB (dk x2)) (YB (.fz T)) (YB (.fz Oa)) z5 z6) _ _;refine Yl (Zo0 (Z9a (Zmk (Zle (p:=YD) (Zq (Zb (Za rfl) Zg) eA))) (Z0h (Zdt rfl (Wm (Y0 (Za rfl) (Zbq ⟨dk x2,rfl,(eE x2).mono λd t' h=>?_⟩)))))));obtain⟨rfl,x3,rfl⟩:=h;refine⟨YD,rfl,λz=>YX z (by decide),λ_=>Zpe ?_⟩;show EpS _ (lw ns (YB (.fz (.int c))) (YB (dk x3)) (YB (.fz T)) (YB (.fz Oa)) z5 z6) _ _;refine Yl (EpS.mono (N:=λδ=>∃(x:Int) (z5:Option OT),δ=lw ns (YB (.fz (.int c))) (YB (dk x)) (YB (.fz T)) (YB (.fz Oa)) z5 z6) (R:=λ_ _=>False) ?_ (λδ q=>?_) λ_ _ z=>z.elim)
   ·refine Zo0 (Zhf (p:=decide ((n:Int)+m<11)) (Ze1 (Zu3 (Zar (W9 (Zb (Za rfl) Zg) lT) (W9 (Zb (Za rfl) Zg) lO)) Z4 rfl)) ⟨λhp=>?_,λ_=>Zpe ⟨x3,z5,rfl⟩⟩)
    have hp:=YW hp;refine Yl (Zbj (Zhr (Wm (Y0 (Za rfl) (Wm (Zbl (x:=x3) rfl (Zb (W9 (Zb (Za rfl) Zg) lT) Zg) (by omega) ((Bt.of_lt (m:=10) (by omega) (by omega)).mono (by decide)) λr x4 r0 r1=>Wm (Y0 (Za rfl) (Wm (Zbl (x:=x4) rfl (Zb (W9 (Zb (Za rfl) Zg) lO) Zg) (by omega) ((Bt.of_lt (m:=10) (by omega) (by omega)).mono (by decide)) λs x5 s0 s1=>Zbq ?_)))))))));obtain⟨i,rfl⟩:∃i:Nat,r=i:=⟨r.toNat,(Bp r0).symm⟩;obtain⟨j,rfl⟩:∃j:Nat,s=j:=⟨s.toNat,(Bp s0).symm⟩;obtain⟨d,e1,e2⟩:=eH (by omega) (i:=i) (j:=j) (by omega) (by omega);refine⟨d,e1,?_⟩;exact Zo0 (Zhf (Zmk (Zle (p:=YD) (Zq (Zb (Za rfl) Zg) e2))) ⟨λz=>YX z (by decide),λ_=>Zpe ⟨x5,YB (.fz d),rfl⟩⟩)
   ·obtain⟨x4,z5,rfl⟩:=q
    refine Yl (Zbj (Zhr (Wm (Zi3 (Y0 Z4 (Zdt rfl (Wm (Zt8 (Y0 (Zbt (Zb Z4 (Zb (Zo Z4 Z4 Yg5) Zg)) (show 2≤1000 by decide)) (Zbl (x:=x4) rfl (Zb Z4 Zg) (by decide) (btc (by decide +kernel) (by decide +kernel)) λr2 x5 r20 r21=>?_))))))))));obtain⟨mx,em,m0,m1⟩:∃mx:Int,gIx (.list [.int 4,.int 100000000000000000000]) (.int r2)=YB (.fz (.int mx))∧0<mx∧mx≤100000000000000000000:=by
     have:r2=0∨r2=1:=by omega
     rcases this with rfl|rfl
     ·exact⟨_,rfl,by decide,by decide⟩
     ·exact⟨_,rfl,by decide,by decide⟩
    have bm:Bt 400 mx:=by
     have:(100000000000000000000:Int)<2^70:=by decide +kernel
     exact(Bt.of_lt (m:=70) (by omega) (by omega)).mono (by decide)
    refine⟨_,em,Zbq ⟨_,rfl,(Zoi x5 m0 bm).mono λd t' h=>?_⟩⟩;obtain⟨r3,x6,rfl,r30,r31,rfl⟩:=h;refine⟨_,Zl8 _ _,Wm (Zi3 (Y0 Z4 (Zbl (x:=x6) rfl (Zb Z4 Zg) (by decide) (btc (by decide +kernel) (by decide +kernel)) λr4 x7 r40 r41=>⟨_,Zl8 _ _,Zbq ⟨_,Za0 (n:=10) (by omega) (Bt.of_lt (by omega) (by omega)),?_⟩⟩)))⟩;obtain⟨f1,f2,f3⟩:=Z4j (t:=1+r3) (b:=1+r4) (by omega) (by omega);show EpS _ (lw ns (YB (.fz (.int c))) (YB (dk x7)) (YB (.fz T)) (YB (.fz Oa)) z5 (YB (.fz (frD (Xh (1+r3) (1+r4)))))) _ _;refine Zo0 (Z0h (Zhr (Wm (Zi3 (Y0 Z4 (Zbl (x:=x7) rfl (Zb Z4 Zg) (by decide) (btc (by decide +kernel) (by decide +kernel)) λr5 x8 r50 r51=>⟨_,Zl8 _ _,Wm (Y0 (Za rfl) (Zbq ⟨.bool YD,?_,YD,rfl,λz=>YX z (by decide),λ_=>Zpe ⟨_,_,_,_,_,_,rfl⟩⟩))⟩))))));obtain⟨k,hk⟩:∃k:Nat,2+r5=k:=⟨(2+r5).toNat,by omega⟩;rw[hk];exact Z42 (by omega) (by omega) f1 (by omega) (by omega)
  ·obtain⟨z1,z2,z3,z4,z5,z6,rfl⟩:=q
   exact Zlc (Y0 Z4 rfl)
 rcases key with⟨_,_,z⟩|⟨o,δ',e,h⟩
 ·exact z.elim
 ·exact Told.ok (Z0 rfl ⟨o,δ',e,h⟩)
end My
namespace L2
open PySem PySem.Spec PyProof.Rows
structure Ei(K:Xb)(x:Str)(st:YK)(f:YG)(fd:XN):Prop where
 a:QQ K Qj x=YB (YB (.ref f))
 F:Fun K x x st f fd
structure En(K:Xb)(mg:Str->Option Xf)(x:Str)(st:YK)(ps:List Str)(f:YG)(fd:XN):Prop where
 F:Fun K x x st f fd
 b:Binds K fd ps []
 m:mg x=YB (.ref f)
structure Ec(K:Xb)(mg:Str->Option Xf)(x:Str)(f:YG):Prop where
 m:mg x=YB (.ref f)
 a:ClsAt K x f
section
variable {K:Xb}{h:YH}{mg:Str->Option Xf}{x:Str}{st:YK}{f:YG}{fd:XN}
theorem en0(X:K.In h)(G:h.Ns Qj mg)(q:Ei K x st f fd){ps:List Str}(hb:∀(kV doc pm:Xf) (an:Option YG) (cdv ct:Xf) (us:List Xf),us.length=ps.length->bindArgs (VH x x (Zfx st) (Za7 st) (Zm st) .none kV doc pm an cdv ct) ⟨us,[]⟩=pure (ps.zip us)):En K mg x st ps f fd:=⟨q.F,q.F.binds hb,PySem.W.mg_of X G q.a⟩
noncomputable abbrev Bd(x:Str)(st:YK)(ps:List Str)(us:List Xf):Prop:=∀(kV doc pm:Xf) (an:Option YG) (cdv ct:Xf),bindArgs (VH x x (Zfx st) (Za7 st) (Zm st) .none kV doc pm an cdv ct) ⟨us,[]⟩=pure (ps.zip us)
theorem l_c{us:List Xf}{n:Nat}(h:us.length=n+1):∃u vs,us=u::vs∧vs.length=n:=by
 cases us with
 | nil=>cases h
 | cons u vs=>exact⟨u,vs,rfl,Nat.succ.inj h⟩
theorem en1(X:K.In h)(G:h.Ns Qj mg)(q:Ei K x st f fd){p0:Str}(hb:∀v0,Bd x st [p0] [v0]:=by exact λ_ _ _ _ _ _ _=>rfl):En K mg x st [p0] f fd:=en0 X G q λa b c d e g us hl=>by
 have h0:us.length=1:=hl;obtain⟨u0,us0,e0,h1⟩:=l_c h0;cases JT h1;subst e0;exact hb u0 a b c d e g
theorem en2(X:K.In h)(G:h.Ns Qj mg)(q:Ei K x st f fd){p0 p1:Str}(hb:∀v0 v1,Bd x st [p0,p1] [v0,v1]:=by exact λ_ _ _ _ _ _ _ _=>rfl):En K mg x st [p0,p1] f fd:=en0 X G q λa b c d e g us hl=>by
 have h0:us.length=2:=hl;obtain⟨u0,us0,e0,h1⟩:=l_c h0;obtain⟨u1,us1,e1,h2⟩:=l_c h1;cases JT h2;subst e1;subst e0;exact hb u0 u1 a b c d e g
theorem en3(X:K.In h)(G:h.Ns Qj mg)(q:Ei K x st f fd){p0 p1 p2:Str}(hb:∀v0 v1 v2,Bd x st [p0,p1,p2] [v0,v1,v2]:=by exact λ_ _ _ _ _ _ _ _ _=>rfl):En K mg x st [p0,p1,p2] f fd:=en0 X G q λa b c d e g us hl=>by
 have h0:us.length=3:=hl;obtain⟨u0,us0,e0,h1⟩:=l_c h0;obtain⟨u1,us1,e1,h2⟩:=l_c h1;obtain⟨u2,us2,e2,h3⟩:=l_c h2;cases JT h3;subst e2;subst e1;subst e0;exact hb u0 u1 u2 a b c d e g
theorem en4(X:K.In h)(G:h.Ns Qj mg)(q:Ei K x st f fd){p0 p1 p2 p3:Str}(hb:∀v0 v1 v2 v3,Bd x st [p0,p1,p2,p3] [v0,v1,v2,v3]:=by exact λ_ _ _ _ _ _ _ _ _ _=>rfl):En K mg x st [p0,p1,p2,p3] f fd:=en0 X G q λa b c d e g us hl=>by
 have h0:us.length=4:=hl;obtain⟨u0,us0,e0,h1⟩:=l_c h0;obtain⟨u1,us1,e1,h2⟩:=l_c h1;obtain⟨u2,us2,e2,h3⟩:=l_c h2;obtain⟨u3,us3,e3,h4⟩:=l_c h3;cases JT h4;subst e3;subst e2;subst e1;subst e0;exact hb u0 u1 u2 u3 a b c d e g
theorem en5(X:K.In h)(G:h.Ns Qj mg)(q:Ei K x st f fd){p0 p1 p2 p3 p4:Str}(hb:∀v0 v1 v2 v3 v4,Bd x st [p0,p1,p2,p3,p4] [v0,v1,v2,v3,v4]:=by exact λ_ _ _ _ _ _ _ _ _ _ _=>rfl):En K mg x st [p0,p1,p2,p3,p4] f fd:=en0 X G q λa b c d e g us hl=>by
 have h0:us.length=5:=hl;obtain⟨u0,us0,e0,h1⟩:=l_c h0;obtain⟨u1,us1,e1,h2⟩:=l_c h1;obtain⟨u2,us2,e2,h3⟩:=l_c h2;obtain⟨u3,us3,e3,h4⟩:=l_c h3;obtain⟨u4,us4,e4,h5⟩:=l_c h4;cases JT h5;subst e4;subst e3;subst e2;subst e1;subst e0;exact hb u0 u1 u2 u3 u4 a b c d e g
theorem ec(X:K.In h)(G:h.Ns Qj mg)(a:QQ K Qj x=YB (YB (.ref f))):Ec K mg x f:=⟨PySem.W.mg_of X G a,a⟩
end
theorem fsc{N P:List Str}{sc:U4}(h1:sc.kind= .function:=by rfl)(h2:sc.isCoroutine=YF:=by rfl)(h3:sc.isGenerator=YF:=by rfl)(h4:N.Nodup:=by decide +kernel)(h5:N.take P.length=P:=by rfl)(h6:∀x∈P,sc.names.lookup x=YB .local∨sc.names.lookup x=YB .cell:=by decide +kernel)(h7:∀y∈sc.names,y.2≠ .free:=by decide +kernel):Zt N P sc:=⟨h1,h2,h3,h4,h5,h6,h7⟩
section
variable {X:Cx}{io:List Nat}{st:YK}{sts ss ss':List YK}{f g:FS}{e:YJ}{es:List YJ}{p c:Bool}{ta:FT}{pos:Pos}{ra:FA}
noncomputable abbrev BS(X:Cx)(io:List Nat)(st:YK)(f:FS):Prop:=MS X io st (oS f)∧XS X io st (xS X.K f)
noncomputable abbrev BSs(X:Cx)(io:List Nat)(sts:List YK)(f:FS):Prop:=MSs X io sts (oS f)∧XSs X io sts (xS X.K f)
end
section
variable {X:Cx}{io:List Nat}{e:YJ}{es:List YJ}{p c:Bool}{ra:FA}{pos pp:Pos}{k k':Nat}{f:YG}{fd:XN}{ps:List Str}{x:Str}{F:FD}{st:YK}
theorem xce(G:FnOk X.prog X.w X.K X.mg X.base CX0 k f fd ps (spD X.K (sD F)))(hr:Room k' X.A)(E:En X.K X.mg x st ps f fd)(ha:MA X io p c (e::es) (o2 ra))(hle:k≤k':=by decide)(hg:Gl X x:=by rfl)(h1:(x==("__debug__" : Str))=YF:=by decide)(h2:Xr (e::es) X.env=(YF,eval e X.env)::Xr es X.env:=by rfl)(h3:((JP pos (Xr es X.env)).any λx=>x.fst)=YF:=by rfl):ME X io p c (.Call (.Name x pp) (e::es) [] pos) (o2 (Zv F ra)):=xcl G (hr.mono hle) E.m E.F.kp E.b ha hg h1 h2 h3
end
section
variable {X:Cx}{io:List Nat}{p ci pt pe:Bool}{tg iter elt:YJ}{ifs:List YJ}{sc:U4}{pos:Pos}{mi:MIt}{g:MGt}{mt:MTt}{me:MEt}
theorem Zd8(own:List Str)(caps:List Nat)(N':List Str)(hi:MI X io p ci tg iter mi)
  (hg:∀C cells s₂ H₂ fp,MG (Ww X N' sc C cells s₂ H₂ fp) (Zbs own.length caps) ci tg g) (ht:∀C cells s₂ H₂ fp,MIfs (Ww X N' sc C cells s₂ H₂ fp) (Zbs own.length caps) pt ifs mt) (he:∀C cells s₂ H₂ fp,ME (Ww X N' sc C cells s₂ H₂ fp) (Zbs own.length caps) pe YD elt me)
  (S:CompScope X own caps N' sc:=by exact⟨rfl,by decide +kernel,rfl,by decide +kernel,rfl,rfl⟩) (hc:X.calm=YD:=by rfl) (nd:caps.Nodup:=by decide) (hp:(pt&&pe)=YD:=by rfl) (hs:∀x,BV iter X.env x=pure x:=by intro _;rfl):ME X io p YD (.ListComp elt [⟨tg,iter,ifs,0⟩] sc pos) (Zia own.length caps mi g mt me):=Z6d S hc nd hi hg ht he hp hs
end
end L2
namespace My
open PySem L2 PySem.Spec
noncomputable def top(i:Nat):YK:=PySem.Challenge.pw_farcuts_k57_whole_rests_that_none_parts.main.body.getD i (.Pass ⟨0,0,0,0⟩)
noncomputable abbrev Zf1:YK:=top 45
noncomputable abbrev Zf0:YK:=top 46
noncomputable abbrev Zbn:YK:=top 48
noncomputable abbrev Jz:YK:=top 7
noncomputable abbrev Zf6:YK:=top 8
noncomputable abbrev Znl:YK:=top 11
noncomputable abbrev Zfu:YK:=top 12
noncomputable abbrev Zr2:YK:=top 10
noncomputable abbrev Zb6:YK:=top 32
noncomputable abbrev Zb7:YK:=top 33
noncomputable abbrev Zc0:YK:=top 40
noncomputable abbrev Zc2:YK:=top 41
noncomputable abbrev Zfv:YK:=top 22
noncomputable abbrev Zfy:YK:=top 6
noncomputable abbrev Zfs:YK:=top 9
noncomputable abbrev Zcy:YK:=top 28
noncomputable abbrev Zcx:YK:=top 27
noncomputable abbrev J5:YK:=top 29
noncomputable abbrev Za6:YK:=top 17
noncomputable abbrev Zbo:YK:=top 19
noncomputable abbrev Zd9:YK:=top 18
noncomputable abbrev Zc3:YK:=top 20
noncomputable abbrev Zb8:YK:=top 30
noncomputable abbrev Zec:YK:=top 42
noncomputable abbrev Zf2:YK:=top 23
noncomputable abbrev Zej:YK:=top 24
noncomputable abbrev Zgh:YK:=top 14
noncomputable abbrev Zai:YK:=top 15
noncomputable abbrev Zgg:YK:=top 25
noncomputable abbrev Zdl:YK:=top 43
noncomputable abbrev Zcj:YK:=top 51
noncomputable abbrev Zb9:YK:=top 52
noncomputable abbrev Zd6:YK:=top 49
noncomputable abbrev Zf3:YK:=top 47
noncomputable abbrev Zfn:YK:=top 34
noncomputable abbrev Zhn:YK:=top 35
noncomputable abbrev Zir:YK:=top 36
noncomputable abbrev Zen:YK:=top 50
noncomputable abbrev Zn8:YK:=top 37
noncomputable abbrev Zav:YK:=top 53
noncomputable abbrev Za4:YK:=top 38
noncomputable abbrev Z4t:YK:=top 54
set_option genInjectivity false in
set_option genSizeOfSpec false in
structure Txt(K:Xb)(mg:Str->Option Xf)(f:Nat->YG)(fd:Nat->XN)(cls:Nat->YG):Prop where
 e_law_stir:En K mg "_law_stir" Zf1 ["cell","k"] (f 0) (fd 0)
 e_law_deck:En K mg "_law_deck" Zf0 ["cell"] (f 1) (fd 1)
 e_law_fraction:En K mg "_law_fraction" Zbn ["top","bottom"] (f 2) (fd 2)
 e_greatest_divisor:En K mg "greatest_divisor" Jz ["a","b"] (f 3) (fd 3)
 e_in_least:En K mg "in_least" Zf6 ["top","bottom"] (f 4) (fd 4)
 e_minus:En K mg "minus" Znl ["q","r"] (f 5) (fd 5)
 e_is_below:En K mg "is_below" Zfu ["q","r"] (f 6) (fd 6)
 e_plus:En K mg "plus" Zr2 ["q","r"] (f 7) (fd 7)
 e_is_short_by:En K mg "is_short_by" Zb6 ["table","i","j","k"] (f 8) (fd 8)
 e_first_short:En K mg "first_short" Zb7 ["table"] (f 9) (fd 9)
 e_check_long:En K mg "check_long" Zc0 ["table"] (f 10) (fd 10)
 e_split_rule:En K mg "split_rule" Zc2 ["sums"] (f 11) (fd 11)
 e_all_cuts:En K mg "all_cuts" Zfv ["n"] (f 12) (fd 12)
 e_is_whole:En K mg "is_whole" Zfy ["thing"] (f 13) (fd 13)
 e_fraction:En K mg "fraction" Zfs ["top","bottom"] (f 14) (fd 14)
 e_doubles_of:En K mg "doubles_of" Zcy ["points"] (f 15) (fd 15)
 e_three_sums:En K mg "three_sums" Zcx ["rows","i","j","k","l"] (f 16) (fd 16)
 e_least_over_sides:En K mg "least_over_sides" J5 ["rows","cut","rule"] (f 17) (fd 17)
 e_shared_bottom:En K mg "shared_bottom" Za6 ["numbers"] (f 18) (fd 18)
 e_table_bottom:En K mg "table_bottom" Zbo ["table"] (f 19) (fd 19)
 e_tops_over:En K mg "tops_over" Zd9 ["bottom","numbers"] (f 20) (fd 20)
 e_table_over:En K mg "table_over" Zc3 ["bottom","table"] (f 21) (fd 21)
 e_weighted_by:En K mg "weighted_by" Zb8 ["table","rule"] (f 22) (fd 22)
 e_splits_of:En K mg "splits_of" Zec ["table"] (f 23) (fd 23)
 e_sides_of:En K mg "sides_of" Zf2 ["n","cut"] (f 24) (fd 24)
 e_all_sides:En K mg "all_sides" Zej ["n","cuts"] (f 25) (fd 25)
 e_pairs_of:En K mg "pairs_of" Zgh ["n"] (f 26) (fd 26)
 e_table_of_pairs:En K mg "table_of_pairs" Zai ["n","distances"] (f 27) (fd 27)
 e_table_of:En K mg "table_of" Zgg ["n","cuts"] (f 28) (fd 28)
 e_rest_table:En K mg "rest_table" Zdl ["table"] (f 29) (fd 29)
 e_law_is_bare:En K mg "_law_is_bare" Zcj ["table"] (f 30) (fd 30)
 e_law_is_even:En K mg "_law_is_even" Zb9 ["n","far"] (f 31) (fd 31)
 e_law_table:En K mg "_law_table" Zd6 ["rows","bottom"] (f 32) (fd 32)
 e_law_take:En K mg "_law_take" Zf3 ["deck","many"] (f 33) (fd 33)
 e_is_point:En K mg "is_point" Zfn ["table","point"] (f 34) (fd 34)
 e_is_part:En K mg "is_part" Zhn ["table","points"] (f 35) (fd 35)
 e_part_of:En K mg "part_of" Zir ["table","points"] (f 36) (fd 36)
 e_law_sided:En K mg "_law_sided" Zen ["deck"] (f 37) (fd 37)
 e_added:En K mg "added" Zn8 ["table","other"] (f 38) (fd 38)
 e_law_with_ends:En K mg "_law_with_ends" Zav ["deck","table"] (f 39) (fd 39)
 e_hung_together:En K mg "hung_together" Za4 ["table","point","other","other_point"] (f 40) (fd 40)
 e_law:En K mg "law" Z4t ["script"] (f 41) (fd 41)
 fa_split_rule:ClsAt K "split_rule" (f 11)
 z_abs:mg "abs"=YC
 z_bool:mg "bool"=YC
 z_enumerate:mg "enumerate"=YC
 z_int:mg "int"=YC
 z_isinstance:mg "isinstance"=YC
 z_len:mg "len"=YC
 z_list:mg "list"=YC
 z_max:mg "max"=YC
 z_min:mg "min"=YC
 z_range:mg "range"=YC
 z_set:mg "set"=YC
 z_sorted:mg "sorted"=YC
 z_sum:mg "sum"=YC
 z_zip:mg "zip"=YC
 c_NoNumber:Ec K mg "NoNumber" (cls 0)
 c_NoPoint:Ec K mg "NoPoint" (cls 1)
 c_NoTable:Ec K mg "NoTable" (cls 2)
 x_NoNumber:Zef K (cls 0)
 x_NoPoint:Zef K (cls 1)
 x_NoTable:Zef K (cls 2)
 r_NoNumber:Zq2 K (cls 0)
 r_NoPoint:Zq2 K (cls 1)
 r_NoTable:Zq2 K (cls 2)
section
variable {P:Qe}{w:Qz}{K:Xb}{mg:Str->Option Xf}{base:YH}
theorem Zeo:Zt ["cell","k","number"] ["cell","k"] (Zm Zf1):=fsc
theorem Zok{f:Nat->YG}{fd:Nat->XN}{cls:Nat->YG}(T:Txt K mg f fd cls):FnOk P w K mg base CX0 1 (f 0) (fd 0) ["cell","k"] (spD K (sD Ym)):=by
 refine Yc T.e_law_stir.F Zeo (S:=Zdf) rfl rfl (λcdv A outer s H E hr=>?_);exact(xsq (xst 2 Zeo.nd (Zjy (Zjy (Zjf (Z95 (xv 0) (Zvy xci xci)) xci) (Zjf (Zjf (Zvy xci xci) (Zjy (xv 1) xci)) (Zjy (xv 1) xci))) (xv 1))) (xsq (xst 2 Zeo.nd (Zjy (Zjf (xv 2) (xv 2)) (Zjf xci (xv 2)))) (Zk (xrt (Zzi (Z95 (Zjf (xv 2) (xv 2)) (Zjy (Zvy xci xci) xci)) xci)))))
theorem Zn0:Zt ["cell"] ["cell"] (Zm Zf0):=fsc
theorem Znv{f:Nat->YG}{fd:Nat->XN}{cls:Nat->YG}(T:Txt K mg f fd cls):FnOk P w K mg base CX0 2 (f 1) (fd 1) ["cell"] (spD K (sD J4)):=by
 have G_law_stir:=Zok (P:=P) (w:=w) (base:=base) T;refine Yc T.e_law_deck.F Zn0 (S:=Jv) rfl rfl (λcdv A outer s H E hr=>?_);exact(xsq (xif (xge (xv 0) (Zvy xci xci)) (Zk (xrt (xls (xa1 (Yen (xv 0) (Zvy xci xci)))))) xnl) (Zk (xrt (xls (xa1 (Zjy (Zjf (Zjy (Zjf (xce G_law_stir hr T.e_law_stir (Zf (xv 0) (xa1 xci))) (Zvy xci xci)) (xce G_law_stir hr T.e_law_stir (Zf (xv 0) (xa1 xci)))) (Zvy xci xci)) (xce G_law_stir hr T.e_law_stir (Zf (xv 0) (xa1 xci)))))))))
theorem Wh:Zt ["top","bottom","one","other","rest"] ["top","bottom"] (Zm Zbn):=fsc
theorem Za8{f:Nat->YG}{fd:Nat->XN}{cls:Nat->YG}(T:Txt K mg f fd cls):FnOk P w K mg base CX0 1 (f 2) (fd 2) ["top","bottom"] (spD K (sD Yj)):=by
 refine Yc T.e_law_fraction.F Wh (S:=Za2) rfl rfl (λcdv A outer s H E hr=>?_);have hu:=hr.units;exact(xsq (xst 2 Wh.nd (Ze4 Z15 (Zoh Zu1 Zku (by rfl) T.z_abs L2.B.boot_abs (xa1 (xv 0))))) (xsq (xst 3 Wh.nd (xv 1)) (xsq (Zox (Zpn X3 (xne hu (xv 3) xci) (xsq (xst 4 Wh.nd (Z95 (xv 2) (xv 3))) (xsq (xst 2 Wh.nd (xv 3)) (Zk (xst 3 Wh.nd (xv 4))))))) (Zk (xrt (xtp (Zf (Zzi (xv 0) (xv 2)) (xa1 (Zzi (xv 1) (xv 2))))))))))
theorem Yi:Zt ["a","b","left"] ["a","b"] (Zm Jz):=fsc
theorem Zaz{f:Nat->YG}{fd:Nat->XN}{cls:Nat->YG}(T:Txt K mg f fd cls):FnOk P w K mg base CX0 1 (f 3) (fd 3) ["a","b"] (spD K (sD Yd)):=by
 refine Yc T.e_greatest_divisor.F Yi (S:=J0) rfl rfl (λcdv A outer s H E hr=>?_);have hu:=hr.units;exact(xsq (xst 0 Yi.nd (Ze4 Z15 (Zoh Zu1 Zku (by rfl) T.z_abs L2.B.boot_abs (xa1 (xv 0))))) (xsq (xst 1 Yi.nd (Ze4 Z15 (Zoh Zu1 Zku (by rfl) T.z_abs L2.B.boot_abs (xa1 (xv 1))))) (xsq (Zox (Zpn X3 (xne hu (xv 1) xci) (xsq (xst 2 Yi.nd (Z95 (xv 0) (xv 1))) (xsq (xst 0 Yi.nd (xv 1)) (Zk (xst 1 Yi.nd (xv 2))))))) (Zk (xrt (xv 0))))))
theorem Zek:Zt ["top","bottom","shared"] ["top","bottom"] (Zm Zf6):=fsc
theorem Zel{f:Nat->YG}{fd:Nat->XN}{cls:Nat->YG}(T:Txt K mg f fd cls):FnOk P w K mg base CX0 2 (f 4) (fd 4) ["top","bottom"] (spD K (sD W4)):=by
 have G_greatest_divisor:=Zaz (P:=P) (w:=w) (base:=base) T;refine Yc T.e_in_least.F Zek (S:=Zdd) rfl rfl (λcdv A outer s H E hr=>?_);exact(xsq (xst 2 Zek.nd (xce G_greatest_divisor hr T.e_greatest_divisor (Zf (xv 0) (xa1 (xv 1))))) (xsq (xif (xlt (xv 1) xci) (Zk (xst 2 Zek.nd (Z82 (Yc7 (xv 2))))) xnl) (Zk (xrt (xtp (Zf (Zzi (xv 0) (xv 2)) (xa1 (Zzi (xv 1) (xv 2)))))))))
theorem Zyw:Zt ["q","r"] ["q","r"] (Zm Znl):=fsc
theorem Zxd{f:Nat->YG}{fd:Nat->XN}{cls:Nat->YG}(T:Txt K mg f fd cls):FnOk P w K mg base CX0 3 (f 5) (fd 5) ["q","r"] (spD K (sD Zbh)):=by
 have G_in_least:=Zel (P:=P) (w:=w) (base:=base) T;refine Yc T.e_minus.F Zyw (S:=Zg0) rfl rfl (λcdv A outer s H E hr=>?_);exact(Zk (xrt (xce G_in_least hr T.e_in_least (Zf (Yen (Zjf (xix (xv 0) xci) (xix (xv 1) xci)) (Zjf (xix (xv 1) xci) (xix (xv 0) xci))) (xa1 (Zjf (xix (xv 0) xci) (xix (xv 1) xci)))))))
theorem Znu:Zt ["q","r"] ["q","r"] (Zm Zfu):=fsc
theorem Zob{f:Nat->YG}{fd:Nat->XN}{cls:Nat->YG}(T:Txt K mg f fd cls):FnOk P w K mg base CX0 1 (f 6) (fd 6) ["q","r"] (spD K (sD Za1)):=by
 refine Yc T.e_is_below.F Znu (S:=Zc6) rfl rfl (λcdv A outer s H E hr=>?_);exact(Zk (xrt (Wz Yb3 (Zg2 Zu2 Zgy (Zjf (xix (xv 0) xci) (xix (xv 1) xci)) (Zjf (xix (xv 1) xci) (xix (xv 0) xci)) (hm:=(J2 _))))))
theorem Z1l:Zt ["q","r"] ["q","r"] (Zm Zr2):=fsc
theorem Znn{f:Nat->YG}{fd:Nat->XN}{cls:Nat->YG}(T:Txt K mg f fd cls):FnOk P w K mg base CX0 3 (f 7) (fd 7) ["q","r"] (spD K (sD Wa)):=by
 have G_in_least:=Zel (P:=P) (w:=w) (base:=base) T;refine Yc T.e_plus.F Z1l (S:=Zhu) rfl rfl (λcdv A outer s H E hr=>?_);exact(Zk (xrt (xce G_in_least hr T.e_in_least (Zf (Zjy (Zjf (xix (xv 0) xci) (xix (xv 1) xci)) (Zjf (xix (xv 1) xci) (xix (xv 0) xci))) (xa1 (Zjf (xix (xv 0) xci) (xix (xv 1) xci)))))))
theorem Zi6:Zt ["table","i","j","k"] ["table","i","j","k"] (Zm Zb6):=fsc
theorem Zi8{f:Nat->YG}{fd:Nat->XN}{cls:Nat->YG}(T:Txt K mg f fd cls):FnOk P w K mg base CX0 4 (f 8) (fd 8) ["table","i","j","k"] (spD K (sD Ju)):=by
 have G_is_below:=Zob (P:=P) (w:=w) (base:=base) T;have G_plus:=Znn (P:=P) (w:=w) (base:=base) T;refine Yc T.e_is_short_by.F Zi6 (S:=Zbf) rfl rfl (λcdv A outer s H E hr=>?_);exact(Zk (xrt (xce G_is_below hr T.e_is_below (Zf (xce G_plus hr T.e_plus (Zf (xix (xix (xv 0) (xv 1)) (xv 2)) (xa1 (xix (xix (xv 0) (xv 2)) (xv 3))))) (xa1 (xix (xix (xv 0) (xv 1)) (xv 3)))))))
theorem Jc:Zt ["table","n","i","j","k"] ["table"] (Zm Zb7):=fsc
theorem Zi7{f:Nat->YG}{fd:Nat->XN}{cls:Nat->YG}(T:Txt K mg f fd cls):FnOk P w K mg base CX0 5 (f 9) (fd 9) ["table"] (spD K (sD J3)):=by
 have G_is_short_by:=Zi8 (P:=P) (w:=w) (base:=base) T;refine Yc T.e_first_short.F Jc (S:=Zbi) rfl rfl (λcdv A outer s H E hr=>?_);exact(xsq (xst 1 Jc.nd (xln T.z_len (xa1 (xv 0)))) (xsq (xfr X3 rfl (Zdw (Yu (by rfl) T.z_range (xa1 (xv 1)))) (xg 2 Jc.nd) (Zk (xfr X3 rfl (Zdw (Yu (by rfl) T.z_range (xa1 (xv 1)))) (xg 3 Jc.nd) (Zk (xfr X3 rfl (Zdw (Yu (by rfl) T.z_range (xa1 (xv 1)))) (xg 4 Jc.nd) (Zk (xif (Zc5 (Zc4 (xce G_is_short_by hr T.e_is_short_by (Zf (xv 0) (Zf (xv 2) (Zf (xv 3) (xa1 (xv 4)))))) (λ_=>rfl))) (Zk (xrt (xtp (Zf (xv 2) (Zf (xv 3) (xa1 (xv 4))))))) xnl))))))) (Zk (xrt (Zvw Z0k)))))
theorem Zkv:Zt ["table"] ["table"] (Zm Zc0):=fsc
theorem Zk1{f:Nat->YG}{fd:Nat->XN}{cls:Nat->YG}(T:Txt K mg f fd cls):FnOk P w K mg base CX0 6 (f 10) (fd 10) ["table"] (spD K (sD J9)):=by
 have G_first_short:=Zi7 (P:=P) (w:=w) (base:=base) T;refine Yc T.e_check_long.F Zkv (S:=Zbz) rfl rfl (λcdv A outer s H E hr=>?_);exact(Zk (xif (Zev Z07 (Ze5 Z3l Z19 (xce G_first_short hr T.e_first_short (xa1 (xv 0))) (Zvw Z0k) (hm:=(J2 _)))) (Zk Ze6) xnl))
theorem Zlh:Zt ["sums"] ["sums"] (Zm Zc2):=fsc
theorem Zfc{f:Nat->YG}{fd:Nat->XN}{cls:Nat->YG}(T:Txt K mg f fd cls):FnOk P w K mg base CX0 1 (f 11) (fd 11) ["sums"] (spD K (sD Yk)):=by
 refine Yc T.e_split_rule.F Zlh (S:=Zbw) rfl rfl (λcdv A outer s H E hr=>?_);exact(Zk (xrt (Yen (Ze4 Yap (Zoh Z21 (Zuz rfl (by rfl)) (by rfl) T.z_max L2.B.boot_max (xa1 (xv 0)))) (xix (xv 0) xci))))
theorem Zca:Zt ["n","sides","point"] ["n"] (Zm Zfv):=fsc
theorem Znw{f:Nat->YG}{fd:Nat->XN}{cls:Nat->YG}(T:Txt K mg f fd cls):FnOk P w K mg base CX0 1 (f 12) (fd 12) ["n"] (spD K (sD We)):=by
 refine Yc T.e_all_cuts.F Zca (S:=Zdi) rfl rfl (λcdv A outer s H E hr=>?_);have hu:=hr.units;exact(xsq (xst 1 Zca.nd (xls (xa1 (xls xa0)))) (xsq (xfr X3 rfl (Zwh (Zfa (by rfl) T.z_range (Zf xci (xa1 (xv 0))))) (xg 2 Zca.nd) (Zk (xst 1 Zca.nd (Znq (Zi4 Zqd (Z5i (Zfw rfl) Zj2 (xv 1) (Jk (Zd8 ["side"] [2] ["side","point"] (xil (xv 1)) (λ_ _ _ _ _=>(xg 0 (by show Qv (["side","point"]:List Str);decide +kernel))) (λ_ _ _ _ _=>(Y8 Y9)) (λ_ _ _ _ _=>(Znq (Zi4 Zqd (Z5i (Zfw rfl) Zj2 (xv 0) (xls (xa1 (xv 1))))))))))))))) (Zk (xrt (Jk (Zd8 ["side"] [] ["side"] (xil (Z1x Z1q (Ygs Zwn (Zqn Z5v rfl hu) (by rfl) T.z_sorted L2.B.boot_sorted (xa1 (xv 1))))) (λ_ _ _ _ _=>(xg 0 (by show Qv (["side"]:List Str);decide +kernel))) (λ_ _ _ _ _=>(Zhq (xgt (xln T.z_len (xa1 (xv 0))) xci))) (λ_ _ _ _ _=>(xv 0))))))))
theorem Znh:Zt ["thing"] ["thing"] (Zm Zfy):=fsc
theorem Zno{f:Nat->YG}{fd:Nat->XN}{cls:Nat->YG}(T:Txt K mg f fd cls):FnOk P w K mg base CX0 1 (f 13) (fd 13) ["thing"] (spD K (sD W5)):=by
 refine Yc T.e_is_whole.F Znh (S:=Zdm) rfl rfl (λcdv A outer s H E hr=>?_);exact(Zk (xrt (Zkd (Zyf (Zzs (Ya6 (by decide) (by rfl) T.z_isinstance L2.B.boot_isinstance (by rfl) T.z_int L2.B.boot_int (xv 0))) (Zwx (Z01 (Yeg (Zzs (Ya6 (by decide) (by rfl) T.z_isinstance L2.B.boot_isinstance (by rfl) T.z_bool L2.B.boot_bool (xv 0))))))))))
theorem Zn2:Zt ["top","bottom"] ["top","bottom"] (Zm Zfs):=fsc
theorem Ziu{f:Nat->YG}{fd:Nat->XN}{cls:Nat->YG}(T:Txt K mg f fd cls):FnOk P w K mg base CX0 3 (f 14) (fd 14) ["top","bottom"] (spD K (sD Yz)):=by
 have G_in_least:=Zel (P:=P) (w:=w) (base:=base) T;have G_is_whole:=Zno (P:=P) (w:=w) (base:=base) T;refine Yc T.e_fraction.F Zn2 (S:=Zcz) rfl rfl (λcdv A outer s H E hr=>?_);have hu:=hr.units;exact(xsq (xif (MW.mt (Zyl (Zwy (xno (Zc5 (Zc4 (xce G_is_whole hr T.e_is_whole (xa1 (xv 0))) (λ_=>rfl)))) (Zyl (Zwy (xno (Zc5 (Zc4 (xce G_is_whole hr T.e_is_whole (xa1 (xv 1))) (λ_=>rfl)))) (Ztw (xeq hu (xv 1) xci))))))) (Zk Ze6) xnl) (Zk (xrt (xce G_in_least hr T.e_in_least (Zf (xv 0) (xa1 (xv 1)))))))
theorem Jt:Zt ["points","doubles","place","point","other"] ["points"] (Zm Zcy):=fsc
theorem Zla{f:Nat->YG}{fd:Nat->XN}{cls:Nat->YG}(T:Txt K mg f fd cls):FnOk P w K mg base CX0 1 (f 15) (fd 15) ["points"] (spD K (sD W8)):=by
 refine Yc T.e_doubles_of.F Jt (S:=Zbu) rfl rfl (λcdv A outer s H E hr=>?_);exact(xsq (xso 1 Jt.nd (xls xa0)) (xsq (xfr X3 rfl (Z4r (Z33 (by rfl) T.z_enumerate L2.B.boot_enumerate (xa1 (xv 0)))) (xg2 rfl (xg 2 Jt.nd) (xg 3 Jt.nd)) (Zk (xfr X3 rfl (xil (Ya0 (Z7v (xv 0) (Zvl (Zt6 (xv 2))) (Zvj Zr8)))) (xg 4 Jt.nd) (Zk (Wu (Wv 1 (xtp (Zf (xv 3) (xa1 (xv 4)))))))))) (Zk (Zc9 (Zdk 1)))))
theorem Zli:Zt ["rows","i","j","k","l"] ["rows","i","j","k","l"] (Zm Zcx):=fsc
theorem Zkr{f:Nat->YG}{fd:Nat->XN}{cls:Nat->YG}(T:Txt K mg f fd cls):FnOk P w K mg base CX0 1 (f 16) (fd 16) ["rows","i","j","k","l"] (spD K (sD Yg)):=by
 refine Yc T.e_three_sums.F Zli (S:=Zb1) rfl rfl (λcdv A outer s H E hr=>?_);exact(Zk (xrt (xtp (Zf (Zjy (xix (xix (xv 0) (xv 1)) (xv 2)) (xix (xix (xv 0) (xv 3)) (xv 4))) (Zf (Zjy (xix (xix (xv 0) (xv 1)) (xv 3)) (xix (xix (xv 0) (xv 2)) (xv 4))) (xa1 (Zjy (xix (xix (xv 0) (xv 1)) (xv 4)) (xix (xix (xv 0) (xv 2)) (xv 3)))))))))
theorem Zx:Zt ["rows","cut","rule","others","beyond","least","a","b","c","e"] ["rows","cut","rule"] (Zm J5):=fsc
theorem Zee{f:Nat->YG}{fd:Nat->XN}{cls:Nat->YG}(T:Txt K mg f fd cls):FnOk P w K mg base CX0 2 (f 17) (fd 17) ["rows","cut","rule"] (spD K (sD Ye)):=by
 have G_doubles_of:=Zla (P:=P) (w:=w) (base:=base) T;have G_split_rule:=Zfc (P:=P) (w:=w) (base:=base) T;have G_three_sums:=Zkr (P:=P) (w:=w) (base:=base) T;refine Yc T.e_least_over_sides.F Zx (S:=J6) rfl rfl (λcdv A outer s H E hr=>?_);exact(xsq (Zdn (Wb (i:=3) (own:=["point"]) (caps:=[1]) (N':=["point","cut"]) YF Zx.nd rfl (QD rfl) (by exact⟨rfl,by decide +kernel,rfl,by decide +kernel,rfl,rfl⟩) (by rfl) (by decide) (Zdw (Yu (by rfl) T.z_range (xa1 (xln T.z_len (xa1 (xv 0)))))) (λ_ _ _ _ _=>(xg 0 (by show Qv (["point","cut"]:List Str);decide +kernel))) (λ_ _ _ _ _=>(Zhq (Zev Z7u (Ze5 (Ztx rfl) Z98 (xv 0) (xv 1) (hm:=(by with_unfolding_all rfl)))))) (λ_ _ _ _ _=>(xv 0)))) (xsq (xst 4 Zx.nd (xce G_doubles_of hr T.e_doubles_of (xa1 (xv 3)))) (xsq (xst 5 Zx.nd (Zpj (Zrq (i:=2) G_split_rule (hr.mono (by decide)) T.fa_split_rule T.e_split_rule.F.kp T.e_split_rule.b Zcv (xa1 (xce G_three_sums hr T.e_three_sums (Zf (xv 0) (Zf (xix (xv 1) xci) (Zf (xix (xv 1) xci) (Zf xci (xa1 xci)))))))))) (xsq (xfr X3 rfl (xil (xce G_doubles_of hr T.e_doubles_of (xa1 (xv 1)))) (xg2 rfl (xg 6 Zx.nd) (xg 7 Zx.nd)) (xsq (xfr X3 rfl (xil (xv 4)) (xg2 rfl (xg 8 Zx.nd) (xg 9 Zx.nd)) (Zk (xst 5 Zx.nd (Ze4 Ydr (Zoh Z0x (Zvm (by rfl)) (by rfl) T.z_min L2.B.boot_min (Zf (xv 5) (xa1 (Zpj (Zrq (i:=2) G_split_rule (hr.mono (by decide)) T.fa_split_rule T.e_split_rule.F.kp T.e_split_rule.b Zcv (xa1 (xce G_three_sums hr T.e_three_sums (Zf (xv 0) (Zf (xv 6) (Zf (xv 7) (Zf (xv 8) (xa1 (xv 9))))))))))))))))) (Zk (xif (xle (xv 5) xci) (Zk (xrt xci)) xnl)))) (Zk (xrt (xv 5)))))))
theorem Ji:Zt ["numbers","bottom","q"] ["numbers"] (Zm Za6):=fsc
theorem Zcm{f:Nat->YG}{fd:Nat->XN}{cls:Nat->YG}(T:Txt K mg f fd cls):FnOk P w K mg base CX0 2 (f 18) (fd 18) ["numbers"] (spD K (sD Yt)):=by
 have G_greatest_divisor:=Zaz (P:=P) (w:=w) (base:=base) T;refine Yc T.e_shared_bottom.F Ji (S:=Zal) rfl rfl (λcdv A outer s H E hr=>?_);exact(xsq (xst 1 Ji.nd xci) (xsq (xfr X3 rfl (xil (xv 0)) (xg 2 Ji.nd) (Zk (xst 1 Ji.nd (Zjf (Zzi (xv 1) (xce G_greatest_divisor hr T.e_greatest_divisor (Zf (xv 1) (xa1 (xix (xv 2) xci))))) (xix (xv 2) xci))))) (Zk (xrt (xv 1)))))
theorem J1:Zt ["table","bottom","row"] ["table"] (Zm Zbo):=fsc
theorem Zh3{f:Nat->YG}{fd:Nat->XN}{cls:Nat->YG}(T:Txt K mg f fd cls):FnOk P w K mg base CX0 3 (f 19) (fd 19) ["table"] (spD K (sD Yy)):=by
 have G_shared_bottom:=Zcm (P:=P) (w:=w) (base:=base) T;refine Yc T.e_table_bottom.F J1 (S:=Zax) rfl rfl (λcdv A outer s H E hr=>?_);exact(xsq (xst 1 J1.nd xci) (xsq (xfr X3 rfl (xil (xv 0)) (xg 2 J1.nd) (Zk (xst 1 J1.nd (xce G_shared_bottom hr T.e_shared_bottom (xa1 (Znq (Zi4 Zqd (Z5i (Zfw rfl) Zj2 (xls (xa1 (xtp (Zf xci (xa1 (xv 1)))))) (xv 2))))))))) (Zk (xrt (xv 1)))))
theorem Zlr:Zt ["bottom","numbers"] ["bottom","numbers"] (Zm Zd9):=fsc
theorem Zgq{f:Nat->YG}{fd:Nat->XN}{cls:Nat->YG}(T:Txt K mg f fd cls):FnOk P w K mg base CX0 1 (f 20) (fd 20) ["bottom","numbers"] (spD K (sD Jh)):=by
 refine Yc T.e_tops_over.F Zlr (S:=Zcl) rfl rfl (λcdv A outer s H E hr=>?_);exact(Zk (xrt (Jk (Zd8 ["q"] [0] ["q","bottom"] (xil (xv 1)) (λ_ _ _ _ _=>(xg 0 (by show Qv (["q","bottom"]:List Str);decide +kernel))) (λ_ _ _ _ _=>(Y8 Y9)) (λ_ _ _ _ _=>(Zjf (xix (xv 0) xci) (Zzi (xv 1) (xix (xv 0) xci))))))))
theorem Zlf:Zt ["bottom","table"] ["bottom","table"] (Zm Zc3):=fsc
theorem Zkg{f:Nat->YG}{fd:Nat->XN}{cls:Nat->YG}(T:Txt K mg f fd cls):FnOk P w K mg base CX0 2 (f 21) (fd 21) ["bottom","table"] (spD K (sD W7)):=by
 have G_tops_over:=Zgq (P:=P) (w:=w) (base:=base) T;refine Yc T.e_table_over.F Zlf (S:=Zb2) rfl rfl (λcdv A outer s H E hr=>?_);exact(Zk (xrt (Jk (Zd8 ["row"] [0] ["row","bottom"] (xil (xv 1)) (λ_ _ _ _ _=>(xg 0 (by show Qv (["row","bottom"]:List Str);decide +kernel))) (λ_ _ _ _ _=>(Y8 Y9)) (λ_ _ _ _ _=>(xce G_tops_over hr T.e_tops_over (Zf (xv 1) (xa1 (xv 0)))))))))
theorem Wy:Zt ["table","rule","bottom","rows","weighted","cut","least"] ["table","rule"] (Zm Zb8):=fsc
theorem Zjb{f:Nat->YG}{fd:Nat->XN}{cls:Nat->YG}(T:Txt K mg f fd cls):FnOk P w K mg base CX0 4 (f 22) (fd 22) ["table","rule"] (spD K (sD Jw)):=by
 have G_all_cuts:=Znw (P:=P) (w:=w) (base:=base) T;have G_fraction:=Ziu (P:=P) (w:=w) (base:=base) T;have G_least_over_sides:=Zee (P:=P) (w:=w) (base:=base) T;have G_table_bottom:=Zh3 (P:=P) (w:=w) (base:=base) T;have G_table_over:=Zkg (P:=P) (w:=w) (base:=base) T;refine Yc T.e_weighted_by.F Wy (S:=Zbg) rfl rfl (λcdv A outer s H E hr=>?_);exact(xsq (xst 2 Wy.nd (xce G_table_bottom hr T.e_table_bottom (xa1 (xv 0)))) (xsq (xst 3 Wy.nd (xce G_table_over hr T.e_table_over (Zf (xv 2) (xa1 (xv 0))))) (xsq (xso 4 Wy.nd (xls xa0)) (xsq (xfr X3 rfl (xil (xce G_all_cuts hr T.e_all_cuts (xa1 (xln T.z_len (xa1 (xv 0)))))) (xg 5 Wy.nd) (xsq (xst 6 Wy.nd (xce G_least_over_sides hr T.e_least_over_sides (Zf (xv 3) (Zf (xv 5) (xa1 (xv 1)))))) (Zk (xif (xgt (xv 6) xci) (Zk (Wu (Wv 4 (xtp (Zf (xv 5) (xa1 (xce G_fraction hr T.e_fraction (Zf (xv 6) (xa1 (Zjf xci (xv 2))))))))))) xnl)))) (Zk (Zc9 (Zdk 4)))))))
theorem Zl6:Zt ["table"] ["table"] (Zm Zec):=fsc
theorem Zbd{f:Nat->YG}{fd:Nat->XN}{cls:Nat->YG}(T:Txt K mg f fd cls):FnOk P w K mg base CX0 7 (f 23) (fd 23) ["table"] (spD K (sD Z6)):=by
 have G_check_long:=Zk1 (P:=P) (w:=w) (base:=base) T;have G_split_rule:=Zfc (P:=P) (w:=w) (base:=base) T;have G_weighted_by:=Zjb (P:=P) (w:=w) (base:=base) T;refine Yc T.e_splits_of.F Zl6 (S:=Zco) rfl rfl (λcdv A outer s H E hr=>?_);exact(xsq (Z30 (Z1k (xce G_check_long hr T.e_check_long (xa1 (xv 0))))) (Zk (xrt (xce G_weighted_by hr T.e_weighted_by (Zf (xv 0) (xa1 (Zvw (Yjc (by rfl) T.e_split_rule.m T.fa_split_rule))))))))
theorem Zod:Zt ["n","cut"] ["n","cut"] (Zm Zf2):=fsc
theorem Znr{f:Nat->YG}{fd:Nat->XN}{cls:Nat->YG}(T:Txt K mg f fd cls):FnOk P w K mg base CX0 1 (f 24) (fd 24) ["n","cut"] (spD K (sD Zau)):=by
 refine Yc T.e_sides_of.F Zod (S:=Zdb) rfl rfl (λcdv A outer s H E hr=>?_);exact(Zk (xrt (Jk (Zd8 ["point"] [1] ["point","cut"] (Zdw (Yu (by rfl) T.z_range (xa1 (xv 0)))) (λ_ _ _ _ _=>(xg 0 (by show Qv (["point","cut"]:List Str);decide +kernel))) (λ_ _ _ _ _=>(Y8 Y9)) (λ_ _ _ _ _=>(Znq (Yc9 (Yjn (Zev Z7u (Ze5 (Z6z rfl) Z98 (xv 0) (xv 1) (hm:=(by with_unfolding_all rfl)))) xci xci))))))))
theorem Zm9:Zt ["n","cuts"] ["n","cuts"] (Zm Zej):=fsc
theorem Zmd{f:Nat->YG}{fd:Nat->XN}{cls:Nat->YG}(T:Txt K mg f fd cls):FnOk P w K mg base CX0 2 (f 25) (fd 25) ["n","cuts"] (spD K (sD Zak)):=by
 have G_sides_of:=Znr (P:=P) (w:=w) (base:=base) T;refine Yc T.e_all_sides.F Zm9 (S:=Zcn) rfl rfl (λcdv A outer s H E hr=>?_);exact(Zk (xrt (Jk (Zd8 ["weighted"] [0] ["weighted","n"] (xil (xv 1)) (λ_ _ _ _ _=>(xg 0 (by show Qv (["weighted","n"]:List Str);decide +kernel))) (λ_ _ _ _ _=>(Y8 Y9)) (λ_ _ _ _ _=>(xce G_sides_of hr T.e_sides_of (Zf (xv 1) (xa1 (xix (xv 0) xci)))))))))
theorem Zb3:Zt ["n","pairs","i","j"] ["n"] (Zm Zgh):=fsc
theorem Zie{f:Nat->YG}{fd:Nat->XN}{cls:Nat->YG}(T:Txt K mg f fd cls):FnOk P w K mg base CX0 1 (f 26) (fd 26) ["n"] (spD K (sD Wc)):=by
 refine Yc T.e_pairs_of.F Zb3 (S:=Zdg) rfl rfl (λcdv A outer s H E hr=>?_);exact(xsq (xso 1 Zb3.nd (xls xa0)) (xsq (xfr X3 rfl (Zdw (Yu (by rfl) T.z_range (xa1 (xv 0)))) (xg 2 Zb3.nd) (Zk (xfr X3 rfl (Zwh (Zfa (by rfl) T.z_range (Zf (Zjy (xv 2) xci) (xa1 (xv 0))))) (xg 3 Zb3.nd) (Zk (Wu (Wv 1 (xtp (Zf (xv 2) (xa1 (xv 3)))))))))) (Zk (Zc9 (Zdk 1)))))
theorem W6:Zt ["n","distances","table","pair","distance"] ["n","distances"] (Zm Zai):=fsc
theorem Zgi{f:Nat->YG}{fd:Nat->XN}{cls:Nat->YG}(T:Txt K mg f fd cls):FnOk P w K mg base CX0 2 (f 27) (fd 27) ["n","distances"] (spD K (sD Y5)):=by
 have G_pairs_of:=Zie (P:=P) (w:=w) (base:=base) T;refine Yc T.e_table_of_pairs.F W6 (S:=Y7) rfl rfl (λcdv A outer s H E hr=>?_);exact(xsq (Zke (Wb (i:=2) (own:=["point"]) (caps:=[0]) (N':=["point","n"]) YD W6.nd rfl (QD rfl) (by exact⟨rfl,by decide +kernel,rfl,by decide +kernel,rfl,rfl⟩) (by rfl) (by decide) (Zdw (Yu (by rfl) T.z_range (xa1 (xv 0)))) (λ_ _ _ _ _=>(xg 0 (by show Qv (["point","n"]:List Str);decide +kernel))) (λ_ _ _ _ _=>(Y8 Y9)) (λ_ _ _ _ _=>(Z0i (Yam (xtp (Zf xci (xa1 xci))) (xv 1)))))) (xsq (xfr X3 rfl (Zf4 (Zgk (by rfl) T.z_zip L2.B.boot_zip (Zf (xce G_pairs_of hr T.e_pairs_of (xa1 (xv 0))) (xa1 (xv 1))))) (xg2 rfl (xg 3 W6.nd) (xg 4 W6.nd)) (xsq (Znf (Zog 2 (xv 4) (xix (xv 3) xci) (xix (xv 3) xci) (λ_ _=>rfl))) (Zk (Znf (Zog 2 (xv 4) (xix (xv 3) xci) (xix (xv 3) xci) (λ_ _=>rfl)))))) (Zk (Zc9 (Zdk 2)))))
theorem Wo:Zt ["n","cuts","weights","bottom","tops","sides","distances","i","j","parting"] ["n","cuts"] (Zm Zgg):=fsc
theorem Zh0{f:Nat->YG}{fd:Nat->XN}{cls:Nat->YG}(T:Txt K mg f fd cls):FnOk P w K mg base CX0 4 (f 28) (fd 28) ["n","cuts"] (spD K (sD Z2)):=by
 have G_all_sides:=Zmd (P:=P) (w:=w) (base:=base) T;have G_fraction:=Ziu (P:=P) (w:=w) (base:=base) T;have G_pairs_of:=Zie (P:=P) (w:=w) (base:=base) T;have G_shared_bottom:=Zcm (P:=P) (w:=w) (base:=base) T;have G_table_of_pairs:=Zgi (P:=P) (w:=w) (base:=base) T;have G_tops_over:=Zgq (P:=P) (w:=w) (base:=base) T;refine Yc T.e_table_of.F Wo (S:=Jx) rfl rfl (λcdv A outer s H E hr=>?_);have hu:=hr.units;exact(xsq (Zdn (Wb (i:=2) (own:=["weighted"]) (caps:=[]) (N':=["weighted"]) YF Wo.nd rfl (QD rfl) (by exact⟨rfl,by decide +kernel,rfl,by decide +kernel,rfl,rfl⟩) (by rfl) (by decide) (xil (xv 1)) (λ_ _ _ _ _=>(xg 0 (by show Qv (["weighted"]:List Str);decide +kernel))) (λ_ _ _ _ _=>(Y8 Y9)) (λ_ _ _ _ _=>(xix (xv 0) xci)))) (xsq (xst 3 Wo.nd (xce G_shared_bottom hr T.e_shared_bottom (xa1 (xv 2)))) (xsq (xst 4 Wo.nd (xce G_tops_over hr T.e_tops_over (Zf (xv 3) (xa1 (xv 2))))) (xsq (xst 5 Wo.nd (xce G_all_sides hr T.e_all_sides (Zf (xv 0) (xa1 (xv 1))))) (xsq (xso 6 Wo.nd (xls xa0)) (xsq (xfr X3 rfl (xil (xce G_pairs_of hr T.e_pairs_of (xa1 (xv 0)))) (xg2 rfl (xg 7 Wo.nd) (xg 8 Wo.nd)) (xsq (Zdn (Wb (i:=9) (own:=["side","top"]) (caps:=[7,8]) (N':=["side","top","i","j"]) YF Wo.nd rfl (QD rfl) (by exact⟨rfl,by decide +kernel,rfl,by decide +kernel,rfl,rfl⟩) (by rfl) (by decide) (Zf4 (Zgk (by rfl) T.z_zip L2.B.boot_zip (Zf (xv 5) (xa1 (xv 4))))) (λ_ _ _ _ _=>(xg2 rfl (xg 0 (by show Qv (["side","top","i","j"]:List Str);decide +kernel)) (xg 1 (by show Qv (["side","top","i","j"]:List Str);decide +kernel)))) (λ_ _ _ _ _=>(Zhq (xne hu (xix (xv 0) (xv 2)) (xix (xv 0) (xv 3))))) (λ_ _ _ _ _=>(xv 1)))) (Zk (Wu (Wv 6 (xce G_fraction hr T.e_fraction (Zf (Ze4 Yer (Zoh Z9b (Zue rfl (by rfl)) (by rfl) T.z_sum L2.B.boot_sum (xa1 (xv 9)))) (xa1 (xv 3))))))))) (Zk (Zex (Zew 6 (xrt (xce G_table_of_pairs hr T.e_table_of_pairs (Zf (xv 0) (xa1 (xv 6))))))))))))))
theorem Jy:Zt ["table","parted","rest","row","parted_row"] ["table"] (Zm Zdl):=fsc
theorem Zcd{f:Nat->YG}{fd:Nat->XN}{cls:Nat->YG}(T:Txt K mg f fd cls):FnOk P w K mg base CX0 8 (f 29) (fd 29) ["table"] (spD K (sD Yh)):=by
 have G_minus:=Zxd (P:=P) (w:=w) (base:=base) T;have G_splits_of:=Zbd (P:=P) (w:=w) (base:=base) T;have G_table_of:=Zh0 (P:=P) (w:=w) (base:=base) T;refine Yc T.e_rest_table.F Jy (S:=Zbx) rfl rfl (λcdv A outer s H E hr=>?_);exact(xsq (xst 1 Jy.nd (xce G_table_of hr T.e_table_of (Zf (xln T.z_len (xa1 (xv 0))) (xa1 (xce G_splits_of hr T.e_splits_of (xa1 (xv 0))))))) (xsq (xso 2 Jy.nd (xls xa0)) (xsq (xfr X3 rfl (Zf4 (Zgk (by rfl) T.z_zip L2.B.boot_zip (Zf (xv 0) (xa1 (xv 1))))) (xg2 rfl (xg 3 Jy.nd) (xg 4 Jy.nd)) (Zk (Wu (Wv 2 (Jk (Zd8 ["q","r"] [] ["q","r"] (Zf4 (Zgk (by rfl) T.z_zip L2.B.boot_zip (Zf (xv 3) (xa1 (xv 4))))) (λ_ _ _ _ _=>(xg2 rfl (xg 0 (by show Qv (["q","r"]:List Str);decide +kernel)) (xg 1 (by show Qv (["q","r"]:List Str);decide +kernel)))) (λ_ _ _ _ _=>(Y8 Y9)) (λ_ _ _ _ _=>(xce G_minus hr T.e_minus (Zf (xv 0) (xa1 (xv 1))))))))))) (Zk (Zc9 (Zdk 2))))))
theorem Zjg:Zt ["table"] ["table"] (Zm Zcj):=fsc
theorem Zjh{f:Nat->YG}{fd:Nat->XN}{cls:Nat->YG}(T:Txt K mg f fd cls):FnOk P w K mg base CX0 9 (f 30) (fd 30) ["table"] (spD K (sD Yp)):=by
 have G_rest_table:=Zcd (P:=P) (w:=w) (base:=base) T;have G_splits_of:=Zbd (P:=P) (w:=w) (base:=base) T;refine Yc T.e_law_is_bare.F Zjg (S:=Zbb) rfl rfl (λcdv A outer s H E hr=>?_);have hu:=hr.units;exact(Zk (xrt (Zkd (Zyf (Wz Zx1 (Zg2 (Zfj hu) Zkm (xce G_splits_of hr T.e_splits_of (xa1 (xv 0))) (xls xa0) (hm:=(J2 _)))) (Zwx (Wz Zx1 (Zg2 (Zfj hu) Zkm (xce G_rest_table hr T.e_rest_table (xa1 (xv 0))) (xv 0) (hm:=(J2 _)))))))))
theorem Jd:Zt ["n","far","table","half","due"] ["n","far"] (Zm Zb9):=fsc
theorem Zji{f:Nat->YG}{fd:Nat->XN}{cls:Nat->YG}(T:Txt K mg f fd cls):FnOk P w K mg base CX0 9 (f 31) (fd 31) ["n","far"] (spD K (sD Jr)):=by
 have G_law_fraction:=Za8 (P:=P) (w:=w) (base:=base) T;have G_rest_table:=Zcd (P:=P) (w:=w) (base:=base) T;have G_splits_of:=Zbd (P:=P) (w:=w) (base:=base) T;refine Yc T.e_law_is_even.F Jd (S:=Zbc) rfl rfl (λcdv A outer s H E hr=>?_);have hu:=hr.units;exact(xsq (Zdn (Wb (i:=2) (own:=["one"]) (caps:=[0,1]) (N':=["one","n","far"]) YF Jd.nd rfl (QD rfl) (by exact⟨rfl,by decide +kernel,rfl,by decide +kernel,rfl,rfl⟩) (by rfl) (by decide) (Zdw (Yu (by rfl) T.z_range (xa1 (xv 0)))) (λ_ _ _ _ _=>(xg 0 (by show Qv (["one","n","far"]:List Str);decide +kernel))) (λ_ _ _ _ _=>(Y8 Y9)) (λ_ _ _ _ _=>(Jk (Zd8 ["other"] [2,0] ["other","far","one"] (Zdw (Yu (by rfl) T.z_range (xa1 (xv 1)))) (λ_ _ _ _ _=>(xg 0 (by show Qv (["other","far","one"]:List Str);decide +kernel))) (λ_ _ _ _ _=>(Y8 Y9)) (λ_ _ _ _ _=>(xix (xls (Zf (xv 1) (xa1 (xtp (Zf xci (xa1 xci)))))) (Ze4 Z9p (Ya9 Zzx Zlt (by rfl) T.z_int L2.B.boot_int (xa1 (Wz Zx1 (Zg2 (Zfj hu) Zkm (xv 2) (xv 0) (hm:=(J2 _)))))))))))))) (xsq (Zs1 (Zsl (i:=3) Jd.nd rfl (Qx rfl) (xce G_law_fraction hr T.e_law_fraction (Zf (xix (xv 1) xci) (xa1 (Zjf xci (xix (xv 1) xci))))))) (xsq (Zke (Wb (i:=4) (own:=["point"]) (caps:=[3]) (N':=["point","half"]) YD Jd.nd rfl (QD rfl) (by exact⟨rfl,by decide +kernel,rfl,by decide +kernel,rfl,rfl⟩) (by rfl) (by decide) (Zwh (Zfa (by rfl) T.z_range (Zf xci (xa1 (xv 0))))) (λ_ _ _ _ _=>(xg 0 (by show Qv (["point","half"]:List Str);decide +kernel))) (λ_ _ _ _ _=>(Y8 Y9)) (λ_ _ _ _ _=>(Znd (Zvf (Zf (xls (xa1 (xv 0))) (xa1 (xv 1)))))))) (xsq (xif (xgt (xv 0) xci) (Zk (Wu (Wv 4 (xtp (Zf (Yaa (Zr1 (by rfl) (by rfl) T.z_list L2.B.boot_list (by rfl) T.z_range L2.B.boot_range (Zf xci (xa1 (xv 0))))) (xa1 (xv 3))))))) xnl) (xsq (xif (xeq hu (xv 0) xci) (Zk (xso 4 Jd.nd (xls (xa1 (Znd (Zvf (Zf (xls (xa1 xci)) (xa1 (xv 1))))))))) xnl) (Zk (xrt (Zkd (Zyf (Wz Zx1 (Zg2 (Zfj hu) Zkm (xce G_splits_of hr T.e_splits_of (xa1 (xv 2))) (Z1x Zt9 (Ygs Zoz (Zjk Z5o rfl hu) (by rfl) T.z_sorted L2.B.boot_sorted (xa1 (xo 4)))) (hm:=(J2 _)))) (Zwx (Wz Zx1 (Zg2 (Zfj hu) Zkm (xce G_rest_table hr T.e_rest_table (xa1 (xv 2))) (Jk (Zd8 ["point"] [0] ["point","n"] (Zdw (Yu (by rfl) T.z_range (xa1 (xv 0)))) (λ_ _ _ _ _=>(xg 0 (by show Qv (["point","n"]:List Str);decide +kernel))) (λ_ _ _ _ _=>(Y8 Y9)) (λ_ _ _ _ _=>(Z0i (Yam (xtp (Zf xci (xa1 xci))) (xv 1)))))) (hm:=(J2 _))))))))))))))
theorem Zms:Zt ["rows","bottom"] ["rows","bottom"] (Zm Zd6):=fsc
theorem Zlu{f:Nat->YG}{fd:Nat->XN}{cls:Nat->YG}(T:Txt K mg f fd cls):FnOk P w K mg base CX0 2 (f 32) (fd 32) ["rows","bottom"] (spD K (sD Zag)):=by
 have G_law_fraction:=Za8 (P:=P) (w:=w) (base:=base) T;refine Yc T.e_law_table.F Zms (S:=Zcp) rfl rfl (λcdv A outer s H E hr=>?_);exact(Zk (xrt (Jk (Zd8 ["row"] [1] ["row","bottom"] (xil (xv 0)) (λ_ _ _ _ _=>(xg 0 (by show Qv (["row","bottom"]:List Str);decide +kernel))) (λ_ _ _ _ _=>(Y8 Y9)) (λ_ _ _ _ _=>(Jk (Zd8 ["number"] [1] ["number","bottom"] (xil (xv 0)) (λ_ _ _ _ _=>(xg 0 (by show Qv (["number","bottom"]:List Str);decide +kernel))) (λ_ _ _ _ _=>(Y8 Y9)) (λ_ _ _ _ _=>(xce G_law_fraction hr T.e_law_fraction (Zf (xv 0) (xa1 (xv 1))))))))))))
theorem Zig:Zt ["deck","many","taken"] ["deck","many"] (Zm Zf3):=fsc
theorem Zeb{f:Nat->YG}{fd:Nat->XN}{cls:Nat->YG}(T:Txt K mg f fd cls):FnOk P w K mg base CX0 1 (f 33) (fd 33) ["deck","many"] (spI K (sI Zu)):=by
 refine Zvu T.e_law_take.F Zig (S:=Zde) rfl rfl (λcdv A outer s H E hr=>?_);exact(xsq (xst 2 Zig.nd (Z95 (xix (xo 0) xci) (xv 1))) (xsq (Yal (Z52 0 (Zzi (xix (xo 0) xci) (xv 1)) xci)) (Zk (xrt (xv 2)))))
theorem Zn3:Zt ["table","point"] ["table","point"] (Zm Zfn):=fsc
theorem Zix{f:Nat->YG}{fd:Nat->XN}{cls:Nat->YG}(T:Txt K mg f fd cls):FnOk P w K mg base CX0 1 (f 34) (fd 34) ["table","point"] (spD K (sD Wd)):=by
 refine Yc T.e_is_point.F Zn3 (S:=Zdc) rfl rfl (λcdv A outer s H E hr=>?_);exact(Zk (xrt (Zxc (Z49 Z6h Zu2 xci (xv 1) (xln T.z_len (xa1 (xv 0)))))))
theorem Zjo:Zt ["table","points","point"] ["table","points"] (Zm Zhn):=fsc
theorem Zqr{f:Nat->YG}{fd:Nat->XN}{cls:Nat->YG}(T:Txt K mg f fd cls):FnOk P w K mg base CX0 2 (f 35) (fd 35) ["table","points"] (spD K (sD Zbm)):=by
 have G_is_point:=Zix (P:=P) (w:=w) (base:=base) T;refine Yc T.e_is_part.F Zjo (S:=Zdy) rfl rfl (λcdv A outer s H E hr=>?_);have hu:=hr.units;exact(xsq (xfr X3 rfl (xil (xv 1)) (xg 2 Zjo.nd) (Zk (xif (xno (Zc5 (Zc4 (xce G_is_point hr T.e_is_point (Zf (xv 0) (xa1 (xv 2)))) (λ_=>rfl)))) (Zk (xrt (Zvw Zqw))) xnl))) (Zk (xrt (Zkd (Zyf (Wz Yfz (Zg2 Z9f Zgy (xln T.z_len (xa1 (xv 1))) xci (hm:=(J2 _)))) (Zwx (Wz Zx1 (Zg2 (Zfj hu) Zkm (Zup (Zxb (by rfl) (by rfl) T.z_len L2.B.boot_len (by rfl) T.z_set L2.B.boot_set (xa1 (xv 1)))) (xln T.z_len (xa1 (xv 1))) (hm:=(J2 _))))))))))
theorem Zf8:Zt ["table","points","part","point"] ["table","points"] (Zm Zir):=fsc
theorem Zq6{f:Nat->YG}{fd:Nat->XN}{cls:Nat->YG}(T:Txt K mg f fd cls):FnOk P w K mg base CX0 3 (f 36) (fd 36) ["table","points"] (spD K (sD Zac)):=by
 have G_is_part:=Zqr (P:=P) (w:=w) (base:=base) T;refine Yc T.e_part_of.F Zf8 (S:=Zd1) rfl rfl (λcdv A outer s H E hr=>?_);exact(xsq (xif (xno (Zc5 (Zc4 (xce G_is_part hr T.e_is_part (Zf (xv 0) (xa1 (xv 1)))) (λ_=>rfl)))) (Zk Ze6) xnl) (xsq (xso 2 Zf8.nd (xls xa0)) (xsq (xfr X3 rfl (xil (xv 1)) (xg 3 Zf8.nd) (Zk (Wu (Wv 2 (Jk (Zd8 ["other"] [0,3] ["other","table","point"] (xil (xv 1)) (λ_ _ _ _ _=>(xg 0 (by show Qv (["other","table","point"]:List Str);decide +kernel))) (λ_ _ _ _ _=>(Y8 Y9)) (λ_ _ _ _ _=>(xix (xix (xv 1) (xv 2)) (xv 0))))))))) (Zk (Zc9 (Zdk 2))))))
theorem Yn:Zt ["deck","few","more","n","far","rows","one","other","left","order","k"] ["deck"] (Zm Zen):=fsc
theorem Zmv{f:Nat->YG}{fd:Nat->XN}{cls:Nat->YG}(T:Txt K mg f fd cls):FnOk P w K mg base CX0 4 (f 37) (fd 37) ["deck"] (spI K (sI Jj)):=by
 have G_law_table:=Zlu (P:=P) (w:=w) (base:=base) T;have G_law_take:=Zeb (P:=P) (w:=w) (base:=base) T;have G_part_of:=Zq6 (P:=P) (w:=w) (base:=base) T;refine Zvu T.e_law_sided.F Yn (S:=Zck) rfl rfl (λcdv A outer s H E hr=>?_);have hu:=hr.units;exact(xsq (Z7k (Ya8 (xix (xls (Zf (xtp (Zf xci (xa1 xci))) (Zf (xtp (Zf xci (xa1 xci))) (Zf (xtp (Zf xci (xa1 xci))) (xa1 (xtp (Zf xci (xa1 xci)))))))) (Ws (Jm (i:=0) G_law_take (hr.mono (by decide)) (by rfl) T.e_law_take.m T.e_law_take.F.kp T.e_law_take.b Zcv (xa1 xci)))) (xg2 rfl (xg 1 Yn.nd) (xg 2 Yn.nd)))) (xsq (Zs1 (Zsl (i:=3) Yn.nd rfl (Qx rfl) (Zjy (xv 1) (xv 2)))) (xsq (xst 4 Yn.nd (Zjy xci (Ws (Jm (i:=0) G_law_take (hr.mono (by decide)) (by rfl) T.e_law_take.m T.e_law_take.F.kp T.e_law_take.b Zcv (xa1 (xix (xls (Zf xci (xa1 (Zvy xci xci)))) (Ws (Jm (i:=0) G_law_take (hr.mono (by decide)) (by rfl) T.e_law_take.m T.e_law_take.F.kp T.e_law_take.b Zcv (xa1 xci))))))))) (xsq (Zke (Wb (i:=5) (own:=["one"]) (caps:=[3]) (N':=["one","n"]) YD Yn.nd rfl (QD rfl) (by exact⟨rfl,by decide +kernel,rfl,by decide +kernel,rfl,rfl⟩) (by rfl) (by decide) (Zdw (Yu (by rfl) T.z_range (xa1 (xv 3)))) (λ_ _ _ _ _=>(xg 0 (by show Qv (["one","n"]:List Str);decide +kernel))) (λ_ _ _ _ _=>(Y8 Y9)) (λ_ _ _ _ _=>(Jk (Zd8 ["other"] [] ["other"] (Zdw (Yu (by rfl) T.z_range (xa1 (xv 1)))) (λ_ _ _ _ _=>(xg 0 (by show Qv (["other"]:List Str);decide +kernel))) (λ_ _ _ _ _=>(Y8 Y9)) (λ_ _ _ _ _=>xci)))))) (xsq (xfr X3 rfl (Zdw (Yu (by rfl) T.z_range (xa1 (xv 3)))) (xg 6 Yn.nd) (Zk (xfr X3 rfl (Zdw (Yu (by rfl) T.z_range (xa1 (xv 3)))) (xg 7 Yn.nd) (Zk (xif (xne hu (xv 6) (xv 7)) (Zk (Znf (Zog 5 (Zjf (xv 4) (xix (xls (Zf xci (xa1 xci))) (Ze4 Z9p (Ya9 Zzx Zlt (by rfl) T.z_int L2.B.boot_int (xa1 (Wz Zx1 (Zg2 (Zfj hu) Zkm (Wz Yb3 (Zg2 Zu2 Zgy (xv 6) (xv 1) (hm:=(J2 _)))) (Wz Yb3 (Zg2 Zu2 Zgy (xv 7) (xv 1) (hm:=(J2 _)))) (hm:=(J2 _))))))))) (xv 6) (xv 7) (λ_ _=>rfl)))) xnl))))) (xsq (xso 8 Yn.nd (Yax (Zuc (by rfl) (by rfl) T.z_list L2.B.boot_list (by rfl) T.z_range L2.B.boot_range (xa1 (xv 3))))) (xsq (xso 9 Yn.nd (xls xa0)) (xsq (xfr X3 rfl (Zdw (Yu (by rfl) T.z_range (xa1 (xv 3)))) (xg 10 Yn.nd) (Zk (Wu (Wv 9 (Z6c (Yds 8 (Ws (Jm (i:=0) G_law_take (hr.mono (by decide)) (by rfl) T.e_law_take.m T.e_law_take.F.kp T.e_law_take.b Zcv (xa1 (xln T.z_len (xa1 (xo 8)))))))))))) (Zk (Zex (Zew 5 (Zex (Zew 9 (xrt (xce G_part_of hr T.e_part_of (Zf (xce G_law_table hr T.e_law_table (Zf (xv 5) (xa1 (Zjy xci (Ws (Jm (i:=0) G_law_take (hr.mono (by decide)) (by rfl) T.e_law_take.m T.e_law_take.F.kp T.e_law_take.b Zcv (xa1 xci))))))) (xa1 (xv 9))))))))))))))))))
theorem Zhc:Zt ["table","other","together","row","other_row"] ["table","other"] (Zm Zn8):=fsc
theorem Zwf{f:Nat->YG}{fd:Nat->XN}{cls:Nat->YG}(T:Txt K mg f fd cls):FnOk P w K mg base CX0 4 (f 38) (fd 38) ["table","other"] (spD K (sD Jp)):=by
 have G_plus:=Znn (P:=P) (w:=w) (base:=base) T;refine Yc T.e_added.F Zhc (S:=Zgw) rfl rfl (λcdv A outer s H E hr=>?_);have hu:=hr.units;exact(xsq (xif (xne hu (xln T.z_len (xa1 (xv 0))) (xln T.z_len (xa1 (xv 1)))) (Zk Ze6) xnl) (xsq (xso 2 Zhc.nd (xls xa0)) (xsq (xfr X3 rfl (Zf4 (Zgk (by rfl) T.z_zip L2.B.boot_zip (Zf (xv 0) (xa1 (xv 1))))) (xg2 rfl (xg 3 Zhc.nd) (xg 4 Zhc.nd)) (Zk (Wu (Wv 2 (Jk (Zd8 ["q","r"] [] ["q","r"] (Zf4 (Zgk (by rfl) T.z_zip L2.B.boot_zip (Zf (xv 3) (xa1 (xv 4))))) (λ_ _ _ _ _=>(xg2 rfl (xg 0 (by show Qv (["q","r"]:List Str);decide +kernel)) (xg 1 (by show Qv (["q","r"]:List Str);decide +kernel)))) (λ_ _ _ _ _=>(Y8 Y9)) (λ_ _ _ _ _=>(xce G_plus hr T.e_plus (Zf (xv 0) (xa1 (xv 1))))))))))) (Zk (Zc9 (Zdk 2))))))
theorem Zz:Zt ["deck","table","n","ends","point","number","more","told","side","weight","found"] ["deck","table"] (Zm Zav):=fsc
theorem Zg7{f:Nat->YG}{fd:Nat->XN}{cls:Nat->YG}(T:Txt K mg f fd cls):FnOk P w K mg base CX0 9 (f 39) (fd 39) ["deck","table"] (spI K (sI Ja)):=by
 have G_law_take:=Zeb (P:=P) (w:=w) (base:=base) T;have G_added:=Zwf (P:=P) (w:=w) (base:=base) T;have G_rest_table:=Zcd (P:=P) (w:=w) (base:=base) T;have G_splits_of:=Zbd (P:=P) (w:=w) (base:=base) T;have G_table_of:=Zh0 (P:=P) (w:=w) (base:=base) T;refine Zvu T.e_law_with_ends.F Zz (S:=Zao) rfl rfl (λcdv A outer s H E hr=>?_);have hu:=hr.units;exact(xsq (xst 2 Zz.nd (xln T.z_len (xa1 (xv 1)))) (xsq (xso 3 Zz.nd (xls xa0)) (xsq (xfr X3 rfl (Zwh (Zfa (by rfl) T.z_range (Zf xci (xa1 (xv 2))))) (xg 4 Zz.nd) (xsq (xst 5 Zz.nd (Ws (Jm (i:=0) G_law_take (hr.mono (by decide)) (by rfl) T.e_law_take.m T.e_law_take.F.kp T.e_law_take.b Zcv (xa1 xci)))) (Zk (xif (xgt (xv 5) xci) (Zk (Wu (Wv 3 (Znd (Zvf (Zf (xls (xa1 (xv 4))) (xa1 (xtp (Zf (xv 5) (xa1 xci)))))))))) xnl)))) (xsq (Zex (Zew 3 (xst 6 Zz.nd (xce G_added hr T.e_added (Zf (xv 1) (xa1 (xce G_table_of hr T.e_table_of (Zf (xv 2) (xa1 (xv 3)))))))))) (xsq (xst 7 Zz.nd (xce G_splits_of hr T.e_splits_of (xa1 (xv 6)))) (xsq (xfr X3 rfl (xil (xv 3)) (xg2 rfl (xg 8 Zz.nd) (xg 9 Zz.nd)) (xsq (Zdn (Wb (i:=10) (own:=["cut","other"]) (caps:=[8]) (N':=["cut","other","side"]) YF Zz.nd rfl (QD rfl) (by exact⟨rfl,by decide +kernel,rfl,by decide +kernel,rfl,rfl⟩) (by rfl) (by decide) (xil (xv 7)) (λ_ _ _ _ _=>(xg2 rfl (xg 0 (by show Qv (["cut","other","side"]:List Str);decide +kernel)) (xg 1 (by show Qv (["cut","other","side"]:List Str);decide +kernel)))) (λ_ _ _ _ _=>(Zhq (xeq hu (xv 0) (xv 2)))) (λ_ _ _ _ _=>(xv 1)))) (Zk (xif (xne hu (xv 10) (xls (xa1 (xv 9)))) (Zk (xrt (Zvw Zqw))) xnl)))) (Zk (xrt (Wz Zx1 (Zg2 (Zfj hu) Zkm (xce G_added hr T.e_added (Zf (xce G_rest_table hr T.e_rest_table (xa1 (xv 6))) (xa1 (xce G_table_of hr T.e_table_of (Zf (xv 2) (xa1 (xv 7))))))) (xv 6) (hm:=(J2 _))))))))))))
theorem Ys:Zt ["table","point","other","other_point","behind","hung","row","across","b"] ["table","point","other","other_point"] (Zm Za4):=fsc
theorem Zg6{f:Nat->YG}{fd:Nat->XN}{cls:Nat->YG}(T:Txt K mg f fd cls):FnOk P w K mg base CX0 4 (f 40) (fd 40) ["table","point","other","other_point"] (spD K (sD Yv)):=by
 have G_is_point:=Zix (P:=P) (w:=w) (base:=base) T;have G_plus:=Znn (P:=P) (w:=w) (base:=base) T;refine Yc T.e_hung_together.F Ys (S:=Zan) rfl rfl (λcdv A outer s H E hr=>?_);have hu:=hr.units;exact(xsq (xif (MW.mt (Zyl (Zwy (xno (Zc5 (Zc4 (xce G_is_point hr T.e_is_point (Zf (xv 0) (xa1 (xv 1)))) (λ_=>rfl)))) (Ztw (xno (Zc5 (Zc4 (xce G_is_point hr T.e_is_point (Zf (xv 2) (xa1 (xv 3)))) (λ_=>rfl)))))))) (Zk Ze6) xnl) (xsq (Zdn (Wb (i:=4) (own:=["b"]) (caps:=[3]) (N':=["b","other_point"]) YF Ys.nd rfl (QD rfl) (by exact⟨rfl,by decide +kernel,rfl,by decide +kernel,rfl,rfl⟩) (by rfl) (by decide) (Zdw (Yu (by rfl) T.z_range (xa1 (xln T.z_len (xa1 (xv 2)))))) (λ_ _ _ _ _=>(xg 0 (by show Qv (["b","other_point"]:List Str);decide +kernel))) (λ_ _ _ _ _=>(Zhq (xne hu (xv 0) (xv 1)))) (λ_ _ _ _ _=>(xv 0)))) (xsq (xso 5 Ys.nd (xls xa0)) (xsq (xfr X3 rfl (xil (xv 0)) (xg 6 Ys.nd) (xsq (Zdn (Wb (i:=7) (own:=["b"]) (caps:=[6,1,2,3]) (N':=["b","row","point","other","other_point"]) YF Ys.nd rfl (QD rfl) (by exact⟨rfl,by decide +kernel,rfl,by decide +kernel,rfl,rfl⟩) (by rfl) (by decide) (xil (xv 4)) (λ_ _ _ _ _=>(xg 0 (by show Qv (["b","row","point","other","other_point"]:List Str);decide +kernel))) (λ_ _ _ _ _=>(Y8 Y9)) (λ_ _ _ _ _=>(xce G_plus hr T.e_plus (Zf (xix (xv 1) (xv 2)) (xa1 (xix (xix (xv 3) (xv 4)) (xv 0)))))))) (Zk (Wu (Wv 5 (Znq (Zi4 Zqd (Z5i (Zfw rfl) Zj2 (Z1x Z8j (Yiz Z3j (Zrd rfl) (by rfl) T.z_list L2.B.boot_list (xa1 (xv 6)))) (xv 7))))))))) (xsq (xfr X3 rfl (xil (xv 4)) (xg 8 Ys.nd) (xsq (Zdn (Wb (i:=7) (own:=["r"]) (caps:=[2,8,3]) (N':=["r","other","b","other_point"]) YF Ys.nd rfl (QD rfl) (by exact⟨rfl,by decide +kernel,rfl,by decide +kernel,rfl,rfl⟩) (by rfl) (by decide) (xil (xix (xv 0) (xv 1))) (λ_ _ _ _ _=>(xg 0 (by show Qv (["r","other","b","other_point"]:List Str);decide +kernel))) (λ_ _ _ _ _=>(Y8 Y9)) (λ_ _ _ _ _=>(xce G_plus hr T.e_plus (Zf (xix (xix (xv 1) (xv 2)) (xv 3)) (xa1 (xv 0))))))) (Zk (Wu (Wv 5 (Znq (Zi4 Zqd (Z5i (Zfw rfl) Zj2 (xv 7) (Jk (Zd8 ["c"] [2,8] ["c","other","b"] (xil (xv 4)) (λ_ _ _ _ _=>(xg 0 (by show Qv (["c","other","b"]:List Str);decide +kernel))) (λ_ _ _ _ _=>(Y8 Y9)) (λ_ _ _ _ _=>(xix (xix (xv 1) (xv 2)) (xv 0))))))))))))) (Zk (Zc9 (Zdk 5))))))))
theorem Zio:Zt ["script","cell","deck","table","other","both","far"] ["script"] (Zm Z4t):=fsc
theorem Z6n{f:Nat->YG}{fd:Nat->XN}{cls:Nat->YG}(T:Txt K mg f fd cls):FnOk P w K mg base CX0 10 (f 41) (fd 41) ["script"] (spD K (sD Zgj)):=by
 have G_law_deck:=Znv (P:=P) (w:=w) (base:=base) T;have G_law_fraction:=Za8 (P:=P) (w:=w) (base:=base) T;have G_law_is_bare:=Zjh (P:=P) (w:=w) (base:=base) T;have G_law_is_even:=Zji (P:=P) (w:=w) (base:=base) T;have G_law_sided:=Zmv (P:=P) (w:=w) (base:=base) T;have G_law_take:=Zeb (P:=P) (w:=w) (base:=base) T;have G_law_with_ends:=Zg7 (P:=P) (w:=w) (base:=base) T;have G_hung_together:=Zg6 (P:=P) (w:=w) (base:=base) T;refine Yc T.e_law.F Zio (S:=Zgf) rfl rfl (λcdv A outer s H E hr=>?_);exact(xsq (xfr X3 rfl (xil (Znq (Zi4 Zqd (Z5i (Zfw rfl) Zj2 (xls (xa1 (Zvy xci xci))) (Ya0 (Z7v (xv 0) (Zvj Zr8) (Zvl (Zt6 xci)))))))) (xg 1 Zio.nd) (xsq (xso 2 Zio.nd (xce G_law_deck hr T.e_law_deck (xa1 (xv 1)))) (xsq (xst 3 Zio.nd (Ws (Jm (i:=2) G_law_sided (hr.mono (by decide)) (by rfl) T.e_law_sided.m T.e_law_sided.F.kp T.e_law_sided.b Zcv xa0))) (xsq (xst 4 Zio.nd (Ws (Jm (i:=2) G_law_sided (hr.mono (by decide)) (by rfl) T.e_law_sided.m T.e_law_sided.F.kp T.e_law_sided.b Zcv xa0))) (xsq (xif (MW.mt (Zyl (Zwy (xno (Zc5 (Zc4 (xce G_law_is_bare hr T.e_law_is_bare (xa1 (xv 3))) (λ_=>rfl)))) (Ztw (xno (Zc5 (Zc4 (Ws (Jm (i:=2) G_law_with_ends (hr.mono (by decide)) (by rfl) T.e_law_with_ends.m T.e_law_with_ends.F.kp T.e_law_with_ends.b Zcv (xa1 (xv 3)))) (λ_=>rfl)))))))) (Zk (xrt (Zvw Zqw))) xnl) (xsq (xif (xlt (Zjy (xln T.z_len (xa1 (xv 3))) (xln T.z_len (xa1 (xv 4)))) xci) (xsq (xst 5 Zio.nd (xce G_hung_together hr T.e_hung_together (Zf (xv 3) (Zf (Ws (Jm (i:=2) G_law_take (hr.mono (by decide)) (by rfl) T.e_law_take.m T.e_law_take.F.kp T.e_law_take.b Zcv (xa1 (xln T.z_len (xa1 (xv 3)))))) (Zf (xv 4) (xa1 (Ws (Jm (i:=2) G_law_take (hr.mono (by decide)) (by rfl) T.e_law_take.m T.e_law_take.F.kp T.e_law_take.b Zcv (xa1 (xln T.z_len (xa1 (xv 4)))))))))))) (Zk (xif (xno (Zc5 (Zc4 (xce G_law_is_bare hr T.e_law_is_bare (xa1 (xv 5))) (λ_=>rfl)))) (Zk (xrt (Zvw Zqw))) xnl))) xnl) (xsq (xst 6 Zio.nd (xce G_law_fraction hr T.e_law_fraction (Zf (Zjy xci (Ws (Jm (i:=2) G_law_take (hr.mono (by decide)) (by rfl) T.e_law_take.m T.e_law_take.F.kp T.e_law_take.b Zcv (xa1 (xix (xls (Zf xci (xa1 (Zvy xci xci)))) (Ws (Jm (i:=2) G_law_take (hr.mono (by decide)) (by rfl) T.e_law_take.m T.e_law_take.F.kp T.e_law_take.b Zcv (xa1 xci)))))))) (xa1 (Zjy xci (Ws (Jm (i:=2) G_law_take (hr.mono (by decide)) (by rfl) T.e_law_take.m T.e_law_take.F.kp T.e_law_take.b Zcv (xa1 xci)))))))) (Zk (xif (xno (Zc5 (Zc4 (xce G_law_is_even hr T.e_law_is_even (Zf (Zjy xci (Ws (Jm (i:=2) G_law_take (hr.mono (by decide)) (by rfl) T.e_law_take.m T.e_law_take.F.kp T.e_law_take.b Zcv (xa1 xci)))) (xa1 (xv 6)))) (λ_=>rfl)))) (Zk (xrt (Zvw Zqw))) xnl))))))))) (Zk (xrt (Zvw Zqw))))
theorem Z5b{f:Nat->YG}{fd:Nat->XN}{cls:Nat->YG}(T:Txt K mg f fd cls):FnOk P w K mg base CX0 10 (f 41) (fd 41) ["script"] (spD K Z8y):=(Z6n T).imp λvs H Q E q=>by
 obtain⟨L,ds,k,h1,⟨ns,e,hl,hk⟩,h3⟩:=q;exact⟨L,ds,k,h1,⟨_,by rw[e];exact Zwq ns hl,hk⟩,h3⟩
end
theorem Z66{l:PySem.W.OpenLaw}{w:Qz}{K:Xb}{h:YH}{mg:Str->Option Xf}{fa:YG}(X:K.In h)(G:h.Ns Qj mg)(hfa:mg "law"=YB (.ref fa))
  (q1:Ei K "_law_stir" Zf1 f1 d1)
  (q2:Ei K "_law_deck" Zf0 f2 d2)
  (q3:Ei K "_law_fraction" Zbn f3 d3)
  (q4:Ei K "greatest_divisor" Jz f4 d4)
  (q5:Ei K "in_least" Zf6 f5 d5)
  (q6:Ei K "minus" Znl f6 d6)
  (q7:Ei K "is_below" Zfu f7 d7)
  (q8:Ei K "plus" Zr2 f8 d8)
  (q9:Ei K "is_short_by" Zb6 f9 d9)
  (q10:Ei K "first_short" Zb7 f10 d10)
  (q11:Ei K "check_long" Zc0 f11 d11)
  (q12:Ei K "split_rule" Zc2 f12 d12)
  (q13:Ei K "all_cuts" Zfv f13 d13)
  (q14:Ei K "is_whole" Zfy f14 d14)
  (q15:Ei K "fraction" Zfs f15 d15)
  (q16:Ei K "doubles_of" Zcy f16 d16)
  (q17:Ei K "three_sums" Zcx f17 d17)
  (q18:Ei K "least_over_sides" J5 f18 d18)
  (q19:Ei K "shared_bottom" Za6 f19 d19)
  (q20:Ei K "table_bottom" Zbo f20 d20)
  (q21:Ei K "tops_over" Zd9 f21 d21)
  (q22:Ei K "table_over" Zc3 f22 d22)
  (q23:Ei K "weighted_by" Zb8 f23 d23)
  (q24:Ei K "splits_of" Zec f24 d24)
  (q25:Ei K "sides_of" Zf2 f25 d25)
  (q26:Ei K "all_sides" Zej f26 d26)
  (q27:Ei K "pairs_of" Zgh f27 d27)
  (q28:Ei K "table_of_pairs" Zai f28 d28)
  (q29:Ei K "table_of" Zgg f29 d29)
  (q30:Ei K "rest_table" Zdl f30 d30)
  (q31:Ei K "_law_is_bare" Zcj f31 d31)
  (q32:Ei K "_law_is_even" Zb9 f32 d32)
  (q33:Ei K "_law_table" Zd6 f33 d33)
  (q34:Ei K "_law_take" Zf3 f34 d34)
  (q35:Ei K "is_point" Zfn f35 d35)
  (q36:Ei K "is_part" Zhn f36 d36)
  (q37:Ei K "part_of" Zir f37 d37)
  (q38:Ei K "_law_sided" Zen f38 d38)
  (q39:Ei K "added" Zn8 f39 d39)
  (q40:Ei K "_law_with_ends" Zav f40 d40)
  (q41:Ei K "hung_together" Za4 f41 d41)
  (q42:Ei K "law" Z4t f42 d42)
  (z0:QQ K Qj "abs"=YB YC)
  (z1:QQ K Qj "bool"=YB YC)
  (z2:QQ K Qj "enumerate"=YB YC)
  (z3:QQ K Qj "int"=YB YC)
  (z4:QQ K Qj "isinstance"=YB YC)
  (z5:QQ K Qj "len"=YB YC)
  (z6:QQ K Qj "list"=YB YC)
  (z7:QQ K Qj "max"=YB YC)
  (z8:QQ K Qj "min"=YB YC)
  (z9:QQ K Qj "range"=YB YC)
  (z10:QQ K Qj "set"=YB YC)
  (z11:QQ K Qj "sorted"=YB YC)
  (z12:QQ K Qj "sum"=YB YC)
  (z13:QQ K Qj "zip"=YB YC)
  (cc_NoNumber:QQ K Qj "NoNumber"=YB (YB (.ref C_NoNumber)))
  (cc_NoPoint:QQ K Qj "NoPoint"=YB (YB (.ref C_NoPoint)))
  (cc_NoTable:QQ K Qj "NoTable"=YB (YB (.ref C_NoTable)))
  (x_NoNumber:Zef K C_NoNumber)
  (x_NoPoint:Zef K C_NoPoint)
  (x_NoTable:Zef K C_NoTable)
  (r_NoNumber:Zq2 K C_NoNumber)
  (r_NoPoint:Zq2 K C_NoPoint)
  (r_NoTable:Zq2 K C_NoTable)
  :∃fd:XN,(∀(s:Xg) (v:Xf),BindsTo s fd ⟨[v],[]⟩ [("script",v)])∧∀base:YH,K.In base->base.Ns Qj mg->FnOk l.prog w K mg base CX0 10 fa fd ["script"] (spD K Z8y):=by
 have e:=hfa.symm.trans (PySem.W.mg_of X G q42.a);cases e;have T:Txt K mg (λk=>[f1,f2,f3,f4,f5,f6,f7,f8,f9,f10,f11,f12,f13,f14,f15,f16,f17,f18,f19,f20,f21,f22,f23,f24,f25,f26,f27,f28,f29,f30,f31,f32,f33,f34,f35,f36,f37,f38,f39,f40,f41,f42].getD k 0) (λk=>[d1,d2,d3,d4,d5,d6,d7,d8,d9,d10,d11,d12,d13,d14,d15,d16,d17,d18,d19,d20,d21,d22,d23,d24,d25,d26,d27,d28,d29,d30,d31,d32,d33,d34,d35,d36,d37,d38,d39,d40,d41,d42].getD k d42) (λk=>[C_NoNumber,C_NoPoint,C_NoTable].getD k 0):=⟨en2 X G q1,en1 X G q2,en2 X G q3,en2 X G q4,en2 X G q5,en2 X G q6,en2 X G q7,en2 X G q8,en4 X G q9,en1 X G q10,en1 X G q11,en1 X G q12,en1 X G q13,en1 X G q14,en2 X G q15,en1 X G q16,en5 X G q17,en3 X G q18,en1 X G q19,en1 X G q20,en2 X G q21,en2 X G q22,en2 X G q23,en1 X G q24,en2 X G q25,en2 X G q26,en1 X G q27,en2 X G q28,en2 X G q29,en1 X G q30,en1 X G q31,en2 X G q32,en2 X G q33,en2 X G q34,en2 X G q35,en2 X G q36,en2 X G q37,en1 X G q38,en2 X G q39,en2 X G q40,en4 X G q41,en1 X G q42,q12.a,QG X G z0,QG X G z1,QG X G z2,QG X G z3,QG X G z4,QG X G z5,QG X G z6,QG X G z7,QG X G z8,QG X G z9,QG X G z10,QG X G z11,QG X G z12,QG X G z13,ec X G cc_NoNumber,ec X G cc_NoPoint,ec X G cc_NoTable,x_NoNumber,x_NoPoint,x_NoTable,r_NoNumber,r_NoPoint,r_NoTable⟩;refine⟨d42,λs v=>?_,λbase _ _=>Z5b (P:=l.prog) (w:=w) (base:=base) T⟩;obtain⟨_,_,_,_,_,_,_,_,_,rfl,_,_⟩:=q42.F.ex;exact .of_eq rfl
theorem walk{l:PySem.W.OpenLaw}{q:Qe}{loose:List Str}{XP:(Str->Option Xf)->YH->Prop}{YP:Qz->YH->Prop}{d:DefRec}{K:Params->Xb}(hn:l.most=YB 63)(hdf:d.params.defaults=[])
  (hY:∀(w:Qz) (h:YH),YP w h->(K w.params).In h)
  (F:∀(w:Qz) (mg:Str->Option Xf) (fa:YG) (h:YH),(K w.params).In h->h.Ns Qj mg->mg d.name=YB (.ref fa) ->
   ∃fd:XN,(∀(s:Xg) (u:Xf),BindsTo s fd ⟨[u],[]⟩ [("script",u)])∧∀base:YH,(K w.params).In base->base.Ns Qj mg->FnOk l.prog w (K w.params) mg base CX0 10 fa fd ["script"] (spD (K w.params) Z8y)) :
  PySem.W.WalkO q loose XP YP l.row.toRowW d [] (λf vs=>PySem.call f vs) :=
 L2.Z2c (n:=63) (k:=10) (x :="script") (CX:=λ_=>CX0) (sp:=λw=>spD (K w.params) Z8y) hn (by decide) hdf ⟨rfl,by decide,by decide⟩ hY F (λ_ _ a ns hl _ hS=>Z85 hl hS) λ_ _ _ _ _ z=>z
end My
open PySem PySem.W PyProof.Rows
theorem PySem.W.Fast.tw13378926319742763952:True:=trivial
theorem PySem.W.Fast.tw7634796840750498930:True:=trivial
theorem PySem.W.Fast.tw15803673177995366247:True:=trivial
theorem PySem.W.Fast.tw17806711297493840823:True:=trivial
theorem PySem.W.Fast.tw1487016695817511007:True:=trivial
theorem PySem.W.Fast.tw13584044556771592912:True:=trivial
theorem PySem.W.Fast.tw3372280986685528792:True:=trivial
theorem PySem.W.Fast.tw6654956281641360954:True:=trivial
theorem PySem.W.Fast.tw15952031573500879678:True:=trivial
theorem PySem.W.Fast.tw14961950832612866904:True:=trivial
theorem PySem.W.Fast.tw8868702092731267640:True:=trivial
theorem PySem.W.Fast.tw15454319042937823911:True:=trivial
theorem PySem.W.Fast.tw14364343347020194568:True:=trivial
theorem PySem.W.Fast.tw17944379565956005685:True:=trivial
theorem PySem.W.Fast.tw303168000160049302:True:=trivial
theorem PySem.W.Fast.tw17672641031068580166:True:=trivial
theorem PySem.W.Fast.tw12786943065909342932:True:=trivial
theorem PySem.W.Fast.tw7119320957251961493:True:=trivial
theorem PySem.W.Fast.tw4173807330731120677:True:=trivial
theorem PySem.W.Fast.tw17590817195384118551:True:=trivial
theorem PySem.W.Fast.tw13769692709861264240:True:=trivial
theorem PySem.W.Fast.tw16072428217230015062:True:=trivial
theorem PySem.W.Fast.tw2162303118550425295:True:=trivial
theorem PySem.W.Fast.tw8590218084338263452:True:=trivial
theorem PySem.W.Fast.tw4149773650665120234:True:=trivial
theorem PySem.W.Fast.tw18323959146127539809:True:=trivial
theorem PySem.W.Fast.tw14213511852445268761:True:=trivial
theorem PySem.W.Fast.tw6459912225058004116:True:=trivial
theorem PySem.W.Fast.tw15466489834556329923:True:=trivial
theorem PySem.W.Fast.tw5050355275114547387:True:=trivial
theorem PySem.W.Fast.tw10174681630386740290:True:=trivial
theorem PySem.W.Fast.tw8412118300295321881:True:=trivial
theorem PySem.W.Fast.tw4356132261710499495:True:=trivial
theorem PySem.W.Fast.tw3314112991499963829:True:=trivial
theorem PySem.W.Fast.tw16326853698516870177:True:=trivial
theorem PySem.W.Fast.tw487435308823938894:True:=trivial
theorem PySem.W.Fast.tw3147849861207378843:True:=trivial
theorem PySem.W.Fast.tw10063034186517081723:True:=trivial
theorem PySem.W.Fast.tw13278550988184874207:True:=trivial
theorem PySem.W.Fast.tw16528827771271277013:True:=trivial
set_option maxRecDepth 100000 in
set_option maxHeartbeats 0 in
theorem PySem.Challenge.cw_farcuts_k57_whole_rests_that_none_parts_holds : PySem.Challenge.rw_farcuts_k57_whole_rests_that_none_parts.Holds := by
 w_on;o_law;k_head;(case hw=>w_witness2)
 k_fill
 refine My.walk (l:=PySem.Challenge.rw_farcuts_k57_whole_rests_that_none_parts) rfl rfl (λw h Y_a=>PySem.W.kIn_of Y_a) ?F
 case F=>
  intro w mg fa h KX G hmg;refine' My.Z66 KX G hmg ?_ ?_ ?_ ?_ ?_ ?_ ?_ ?_ ?_ ?_ ?_ ?_ ?_ ?_ ?_ ?_ ?_ ?_ ?_ ?_ ?_ ?_ ?_ ?_ ?_ ?_ ?_ ?_ ?_ ?_ ?_ ?_ ?_ ?_ ?_ ?_ ?_ ?_ ?_ ?_ ?_ ?_ ?_ ?_ ?_ ?_ ?_ ?_ ?_ ?_ ?_ ?_ ?_ ?_ ?_ ?_ ?_ ?_ ?_ ?_ ?_ ?_ ?_ ?_ ?_
  all_goals try (first|(refine' ⟨?a,L2.Z8q ?l ?c ?k⟩;(case a=>k_is);(case l=>k_is);(case c=>k_is);(case k=>k_is))|k_is|kit_is|(show PySem.W.excIn _ _ _ _=YD;k_exc)|(refine' ⟨?_,?_,?_,?_,?_,?_,?_,?_,?_,?_,?_⟩<;>first|k_is|kit_is|(show PySem.W.isClsIn _ _=YD;k_is)))
#print axioms PySem.Challenge.cw_farcuts_k57_whole_rests_that_none_parts_holds
