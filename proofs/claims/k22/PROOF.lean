import PyProof.Rows.All
import Wide.All
import OpenK.AllK
import Wide.FinOn
import PyProof.EqAt
import PyProof.EqKinds
import PyProof.TupleCall
import PyProof.P3In
import PyProof.ZipIter
import PyProof.ListRange
import PyProof.SetRoads
import PyProof.Rows.SetFrom
import PyProof.Rows.SeqMore2
import KE.RegKIsAll
import PyProof.StrWalks
import PyProof.EnumMake
import PyProof.Conv_int
import PyProof.Conv_int_bool
import PyProof.StrBlockI
import PyProof.Draws
import PyProof.DictItems
import PySem.Challenge.RW_farcuts_k22_parts_of_trees
set_option Elab.async false
set_option linter.all false
set_option maxRecDepth 100000
set_option genSizeOfSpec false
set_option genInjectivity false
open Array renaming map_extract->X4,map_append->Qc,size_map->Ql,map_push->QC,map_reverse->QX,getElem?_toList->Q3,length_toList->BZ
open Bool renaming false_ne_true->Xn,and_eq_true->Xp,false_eq_true->Vk,eq_false_iff->Vt,and_true->U6
open Classical renaming byContradiction->Qw
open False renaming elim->V4
open ForInStep renaming yield->Bh
open Int renaming toNat_natCast->QV,toNat_of_nonneg->JX,le_refl->Be,zero_add->Bq,le_trans->Br,gcd->Bs,gcd_eq_natAbs_gcd_natAbs->VN,min_eq_right->Ui,min_eq_left->Uq,mul_nonpos_of_nonneg_of_nonpos->Us,sub_le_sub_right->U9
open List renaming getD_eq_getElem?_getD->Xb,length_map->Xe,getElem?_eq_getElem->Xi,mem_singleton->Xj,getElem?_map->Xm,mem_cons->Xo,map_congr_left->Xr,getElem?_eq_some_iff->Xu,range->Xw,size_toArray->Xx,map_cons->XC,mem_range->XF,length_append->XH,mem_map->XM,map_map->XQ,replicate->X7,length_range->Qd,map_append->Qg,nodup_cons->Qn,mem_append->Qo,mem_filter->Qs,mem_of_getElem?->Qy,getElem?_eq_none_iff->Qz,mem_append_right->QF,getElem?_eq_none->QL,getElem?_set_ne->QR,lookup_cons->Q6,rel_of_pairwise_cons->Q8,exists_mem_of_ne_nil->Q9,getElem?_set_self->JB,length_drop->JG,getElem_mem->JH,getElem?_append_right->JN,append_nil->JP,getElem?_range->JR,Nodup->JS,nodup_append->JW,sum_cons->JZ,pairwise_singleton->Bb,toArray->Bm,pairwise_map->Bo,mem_map_of_mem->Bp,eq_nil_of_length_eq_zero->BR,append_assoc->BW,length_cons->Vh,all_eq_true->Vi,length_set->Vo,mem_append_left->Vq,getElem?_of_mem->Vr,exists_of_findSome?_eq_some->Vs,replicate_succ->Vx,length_take->Vy,filter_cons_of_pos->Vz,filter_cons_of_neg->VB,length_replicate->VP,getElem?_append->V7,take_length->Ua,getElem?_zip_eq_some->Ue,getElem?_append_left->Ug,drop_eq_getElem_cons->Uh,any_cons->Uj,length_zip->Uk,find?_cons->Ul,map_inj_right->Um,getElem?_replicate->Ur,forIn_nil->Ux,flatten_cons->Uy,drop_eq_nil_of_le->Uz,length_singleton->U0,not_mem_nil->U4,pairwise_append->U7,mem_cons_of_mem->U8
open Nat renaming ne_of_lt->Xz,le_refl->XJ,ne_of_gt->X6,lt_of_lt_of_le->Qp,le_trans->QB,zero_le->QS,le_of_ble_eq_true->JL,eq_of_beq_eq_true->JM,pow_le_pow_right->BV,not_lt_zero->Vp,lt_irrefl->Vw,lt_succ_self->Ub,lt_or_ge->Uc,le_add_right->Ud,lt_trans->UG,blt->UJ
open Ne renaming symm->Vn
open Option renaming bind_some->Xh,map_some->Qj,map_none->Qx,map_eq_some_iff->JQ,some->BK
open Option.some renaming inj->QD
open Or renaming inr->Qt,inl->QG
open Prod renaming fst->Qa
open PyProof.Rows renaming seqObj->QQ,IntsAre->BL,callWith_type1->BP,SortSt->Ve,SortKind->Vj,Keyed->Uo,pairsOf->Uv,pendingOf->UL
open PyProof.Rows.SortSt renaming mk'->Vg
open PySem renaming PyData->Xa,wpAny_bind->Xd,Value->Xf,Shared->Xg,starEach->Xq,sizeLine->Xv,wpAny_pure->Xy,wpAny->XX,FuncData->X3,Program->X5,sizeLine_eq->Qh,model->Qi,bootBuiltins->Qk,mainGlobals->Qm,World->Qu,Around->Qv,wpAny_loadPart'->Q7,wpAny_setField_rec->JF,backTo->JK,wpAny_call_entry->JT,wpAny_field->Ba,assignEach->Bf,compareOp->Bj,mem_of_lookup->Bl,foldedSetIterable->Bv,cellsFrom->Bw,NameKind->BX,wpAny_newObj_type->Va,wpAny_callSpecial?_slot->Vb,wpAny_mono->Vd,IsPair->Vl,pushCells->Vm,wpAny_holding->VD,sysModules->VF,Builtin->VG,wpAny_typeNameOfWhole_itemiter->VH,wpAny_seqItems->VJ,swapsWith->VL,binaryOp->VM,wpAny_Call_Name_kw->VR,Keyword->V0,wpAny_passesOwn->V2,attributeBase->V5,wpAny_truthy_bool->V9,letOwnedTupleGo->Uw,keywordEach->UT,cLine->UV,Scope->UW,wpAny_loadPart_at->U5
open PySem.Builtin.Dict_items renaming ownsTuple->Bu
open PySem.Builtin.Int renaming intBits->Bc
open PySem.Builtin.List renaming listTooLong->V1
open PySem.Builtin.SmallTypes renaming nextOf->Q0,ownedTupleIsFree->By
open PySem.F renaming slot_dict_itemiterator_next->Q5
open PySem.Heap renaming get?_push_of_some->Xk,lt_size->XD,get?_push_size->XN,size_push->JD,SameBut->Vc
open PySem.NameKind renaming free->Q4,cell->Bx
open PySem.Obj renaming mapSeq->QM
open PySem.PassesOwn renaming never->Qe
open PySem.PyData renaming int->Xl,list->QJ,eqv->QT,canLayAll0->Bg,canLay0->BJ
open PySem.SeqAt renaming EqAt->Bk,shaped->Ut,canLay_of_shaped->Uu
open PySem.Value renaming ref->Qq,none->QH
open PySem.W renaming Frag->Xc,kas_item->X8,mg_none_of->QK,nsIn->QW,kia_one->JC,Looks->JV,keepIn->Vf,kitOne->Vu,findIn->Vv,fnOf->V3
open Rat renaming divInt->XR,divInt_eq_div->QZ,div_def->V8
open True renaming intro->V6
noncomputable section
open PySem renaming Addr->YG,Heap->YH,Expr->YJ,Stmt->YK
open Bool renaming true->YD,false->YF
open Option renaming some->YB,none->YC
abbrev YL:=@if_pos
abbrev YM:=@if_neg
abbrev YQ:=@decide_eq_true
abbrev YS:=@decide_eq_false
abbrev YT:=@congrArg
abbrev YW:=@of_decide_eq_true
abbrev YX:=@absurd
abbrev YZ:=@beq_iff_eq
namespace L2
open PySem PySem.Spec PyProof.Rows
abbrev Key:=Sum Int Str
def Zqi:Key->Xf->Bool
 | .inl k,v=>Xf.isInt k v
 | .inr x,v=>Value.isStrOf x v
def Yki(w:Qu):Key->Int
 | .inl k=>hashInt k
 | .inr x=>hashStr w x
theorem Y5:∀{k:Key} {v:Xf},Zqi k v=YD->(∃i t,k=Sum.inl i/\v=Value.int i t)\/(∃x t,k=Sum.inr x/\v=Value.str x t)
 | .inl i,v,h=>by
  obtain⟨t,e⟩:=Value.isInt_shape (k:=i) (v:=v) h;exact .inl ⟨i,t,rfl,e⟩
 | .inr x,v,h=>by
  obtain⟨t,e⟩:=Xf.isStrOf_shape (x:=x) (v:=v) h;exact .inr ⟨x,t,rfl,e⟩
theorem Zsp(i:Int)(t:Tok):Zqi (.inl i) (.int i t)=YD:=by simp[Zqi,Xf.isInt]
theorem Zsy(x:Str)(t:Tok):Zqi (.inr x) (.str x t)=YD:=by simp[Zqi,Value.isStrOf]
theorem Z7r(a b:Int):decide ((Sum.inl a:Key)=Sum.inl b)=(a==b):=by
 by_cases e:a=b
 .subst e;simp
 .have h:¬(Sum.inl a:Key)=Sum.inl b:=λq=>e (Sum.inl.inj q)
  rw[YS h];exact(beq_eq_false_iff_ne.mpr e).symm
theorem Z85(a b:Str):decide ((Sum.inr a:Key)=Sum.inr b)=decide (a=b):=by
 by_cases e:a=b
 .subst e;simp
 .have h:¬(Sum.inr a:Key)=Sum.inr b:=λq=>e (Sum.inr.inj q)
  rw[YS h,YS e]
theorem Ycl(a:Int)(b:Str):decide ((Sum.inl a:Key)=Sum.inr b)=YF:=YS (λq=>nomatch q)
theorem Z8l(a:Str)(b:Int):decide ((Sum.inr a:Key)=Sum.inl b)=YF:=YS (λq=>nomatch q)
def Wj(prog:X5)(w:Qu):PySem.KeyKind prog w Key where
 is:=Zqi
 hash:=Yki w
 inj:=λv a b ha hb=>by
  rcases Y5 ha with⟨i,t,rfl,rfl⟩|⟨x,t,rfl,rfl⟩
  .rcases Y5 hb with⟨j,u,rfl,e⟩|⟨y,u,rfl,e⟩
   .injection e with e1 _;rw[e1]
   .exact nomatch e
  .rcases Y5 hb with⟨j,u,rfl,e⟩|⟨y,u,rfl,e⟩
   .exact nomatch e
   .injection e with e1 _;rw[e1]
 byValue:=λk v h=>by
  rcases Y5 h with⟨i,t,rfl,rfl⟩|⟨x,t,rfl,rfl⟩<;>rfl
 pyHash:=λhv h=>by
  rcases Y5 hv with⟨i,t,rfl,rfl⟩|⟨x,t,rfl,rfl⟩
  .exact wpAny_pyHash_int h
  .exact wpAny_pyHash_str h
 eqBool:=λhu hv h=>by
  rcases Y5 hu with⟨i,t,rfl,rfl⟩|⟨x,t,rfl,rfl⟩
  .rcases Y5 hv with⟨j,u,rfl,rfl⟩|⟨y,u,rfl,rfl⟩
   .rw[Z7r]at h;exact wpAny_eqBool_int h
   .rw[Ycl]at h;exact SeqAt.EqAt.int_str i t y u _ _ _ _ h
  .rcases Y5 hv with⟨j,u,rfl,rfl⟩|⟨y,u,rfl,rfl⟩
   .rw[Z8l]at h;exact SeqAt.EqAt.str_int x t j u _ _ _ _ h
   .rw[Z85]at h;exact wpAny_eqBool_str h
 «strs»:=λk x t v h=>by
  rcases Y5 h with⟨i,u,rfl,e⟩|⟨y,u,rfl,e⟩
  .exact nomatch e
  .injection e with e1 _
   subst e1;cases v<;>rfl
theorem Zmu(prog:X5)(w:Qu)(i:Int)(t:Tok):(Wj prog w).is (.inl i) (.int i t)=YD:=Zsp i t
theorem Zni(prog:X5)(w:Qu)(x:Str)(t:Tok):(Wj prog w).is (.inr x) (.str x t)=YD:=Zsy x t
inductive V where
 | non|bl (b:Bool)|int (i:Int)|str (x:Str)|byt (b:Array UInt8)|flt (b:UInt64)|ref (a:YG)|ty (n:String)
 deriving DecidableEq
def RelV:V->Xf->Prop
 | .non,u=>u=QH
 | .bl b,u=>u=Value.bool b
 | .int i,u=>∃t,u=Value.int i t
 | .str x,u=>∃t,u=Value.str x t
 | .byt b,u=>∃t,u=Xf.bytes b t
 | .flt b,u=>∃t,u=Xf.float b t
 | .ref a,u=>u=Qq a
 | .ty n,u=>u=Value.type n
abbrev Vals:List V->List Xf->Prop:=Paired RelV
theorem Vals.length{xs:List V}{us:List Xf}(r:Vals xs us):xs.length=us.length:=Paired.length r
theorem Vals.get{xs:List V}{us:List Xf}{i:Nat}{x:V}(h:Vals xs us)(e:xs[i]? =YB x):∃u,us[i]? =YB u/\RelV x u:=by
 induction h generalizing i with
 | nil=>exact(Option.some_ne_none _ (e.symm.trans List.getElem?_nil)).elim
 | cons r t ih=>
  cases i with
  | zero=>exact⟨_,rfl,QD e▸r⟩
  | succ i=>exact ih e
theorem Vals.set{x:V}{u:Xf}(r:RelV x u){xs:List V}{us:List Xf}(i:Nat)(h:Vals xs us):Vals (xs.set i x) (us.set i u):=by
 induction h generalizing i with
 | nil=>exact .nil
 | cons q t ih=>
  cases i with
  | zero=>exact .cons r t
  | succ i=>exact .cons q (ih i)
theorem Vals.append{xs ys:List V}{us ws:List Xf}(h:Vals xs us)(s:Vals ys ws):Vals (xs++ys) (us++ws):=by
 induction h with
 | nil=>exact s
 | cons r t ih=>exact .cons r ih
theorem Vals.take{xs:List V}{us:List Xf}(n:Nat)(h:Vals xs us):Vals (xs.take n) (us.take n):=by
 induction h generalizing n with
 | nil=>rw[List.take_nil,List.take_nil];exact .nil
 | cons r t ih=>
  cases n with
  | zero=>exact .nil
  | succ n=>exact .cons r (ih n)
theorem Vals.drop{xs:List V}{us:List Xf}(n:Nat)(h:Vals xs us):Vals (xs.drop n) (us.drop n):=by
 induction h generalizing n with
 | nil=>rw[List.drop_nil,List.drop_nil];exact .nil
 | cons r t ih=>
  cases n with
  | zero=>exact .cons r t
  | succ n=>exact ih n
def RelO:Option V->Option Xf->Prop
 | some v,YB u=>RelV v u
 | none,YC=>True
 | _,_=>False
def KV{κ:Type}:List (κ×V)->List (κ×Xf)->Prop:=Paired λ(p:κ×V) (q:κ×Xf)=>p.1=q.1/\RelV p.2 q.2
def kV:Key->V
 | .inl i=>.int i
 | .inr x=>.str x
inductive HO where
  | lst (xs:List V)
  | tup (xs:List V)
  | dK (kvs:List (Key×V))|dT (kvs:List (List Key×V))
  | set (S:Int->Bool) (n:Nat)
  | ins (C dx:YG) (fs:List (Str×V))
  | own (x:YG)
  | xd (fs:List (Str×V))
  | met (f x:YG)
  | rng (lo hi:Int)
  | frz (o:Obj) (u:HO)
  | tbl (ps:Array Xf)
  | ext (φ:YH->Prop)
abbrev Hp:=YG->Option HO
def upd(H:Hp)(a:YG)(o:HO):Hp:=λb=>if b=a then YB o else H b
theorem Zx{H:Hp}{a:YG}{o:HO}:upd H a o a=YB o:=by unfold upd;rw[YL rfl]
theorem Zu{H:Hp}{a b:YG}{o:HO}(h:b≠a):upd H a o b=H b:=by unfold upd;rw[YM h]
theorem Yd0{H:Hp}{a b:YG}{o u:HO}(h:H a=YB o)(h':H b=YB u)(d:o≠u):a≠b:=by
 intro e;subst e;rw[h]at h';exact d (QD h')
theorem Yx{H:Hp}{a b:YG}{o:HO}(h:H a=YB o)(h':H b=YC):a≠b:=by
 intro e;subst e;rw[h]at h';cases h'
section
variable (P:X5)(w:Qu)
def ObjOk(H:Hp)(h:YH)(a:YG):HO->Prop
 | .lst xs=>xs.length<=Xv/\∃(its:List Xf) (n:Nat),Vals xs its/\h.get? a=YB { cls:=.type "list",data:=.seq its.toArray n }
 | .tup xs=>xs.length<=Xv/\∃its:List Xf,Vals xs its/\IsTup h a its.toArray
 | .dK kvs=>kvs.length<=Xv/\(a==VF)=YF/\∃vs,KV kvs vs/\h.DictOf (Wj P w) a vs
 | .dT kvs=>kvs.length<=Xv/\(a==VF)=YF/\∃xs:List (List Key×YG×Xf),
   Paired (λ(p:List Key×V) (q:List Key×YG×Xf)=>p.1=q.1/\H q.2.1=YB (.tup (p.1.map kV))/\RelV p.2 q.2.2) kvs xs/\
   ∃o es ep,h.get? a=YB o/\o.ExactDict/\o.data= .dict es ep/\es.toList=xs.map (entryOfKey (tupleKind (Wj P w)))/\(xs.map (·.1)).Nodup
 | .set S n=>h.SetOf (intKind P w) a S n
 | .ins C dx fs=>H dx=YB (.own a)/\fs.length<=1000/\dx≠a/\h.get? a=YB (PySem.W.instObj C dx)/\
   ∃mA,h.Ns1 dx mA/\(∀f,RelO (fs.lookup f) (mA f))/\PySem.Within mA (fs.map (·.1))
 | .own _=>∃o,h.get? a=YB o
 | .xd fs=>∃mA,h.Ns1 a mA/\∀f,RelO (fs.lookup f) (mA f)
 | .rng lo hi=>∃t u v,h.get? a=YB { cls:=.type "range",data:=.fields #[.int lo t,.int hi u,.int 1 v] }
 | .frz o u=>h.get? a=YB o/\ObjOk H h a u
 | .tbl ps=>h.get? a=YB { cls:=.none,data:=.fields ps }
 | .met f x=>h.get? a=YB (PySem.W.methodObj (.ref f) (.ref x))
 | .ext φ=>φ h/\(∃o,h.get? a=YB o)/\∀h1 h2:YH,φ h1->(∀o,h1.get? a=YB o->h2.get? a=YB o)->φ h2
def HOk(H:Hp)(h:YH):Prop:=∀a o,H a=YB o->ObjOk P w H h a o
end
section
variable {P:X5}{w:Qu}{H H':Hp}{h h':YH}{a:YG}{o:HO}
theorem ObjOk.lt(x:ObjOk P w H h a o):a<h.objs.size:=by
 cases o with
 | lst xs=>obtain⟨_,_,_,_,e⟩:=x;exact XD e
 | tup xs=>obtain⟨_,_,_,p⟩:=x;exact p.lt
 | dK kvs=>obtain⟨_,_,_,_,o,_,_,e,_⟩:=x;exact XD e
 | dT kvs=>obtain⟨_,_,_,_,o,_,_,e,_⟩:=x;exact XD e
 | set S n=>obtain⟨o,_,_,_,e,_⟩:=x;exact XD e
 | ins C dx fs=>obtain⟨_,_,_,e,_⟩:=x;exact XD e
 | own y=>obtain⟨_,e⟩:=x;exact XD e
 | xd fs=>obtain⟨_,⟨_,_,_,e,_⟩,_⟩:=x;exact XD e
 | rng lo hi=>obtain⟨_,_,_,e⟩:=x;exact XD e
 | frz ob u=>obtain⟨e,_⟩:=x;exact XD e
 | tbl ps=>exact XD (show h.get? a=YB _ from x)
 | met f y=>exact XD (show h.get? a=YB _ from x)
 | ext φ=>obtain⟨_,⟨_,e⟩,_⟩:=x;exact XD e
theorem Paired.mapP{α β:Type}{F G:α->β->Prop}{l₁:List α}{l₂:List β}(h:Paired F l₁ l₂)(f:∀a b,F a b->G a b):Paired G l₁ l₂:=by
 induction h with
 | nil=>exact .nil
 | cons r t ih=>exact .cons (f _ _ r) ih
theorem ObjOk.stay(x:ObjOk P w H h a o)(k:∀b u,(b=a\/H b=YB (.own a))->h.get? b=YB u->h'.get? b=YB u)
  (ho:∀b,H b=YB (.own a)->H' b=YB (.own a)) (ht:∀b xs,H b=YB (.tup xs)->H' b=YB (.tup xs)):ObjOk P w H' h' a o:=by
 induction o with
 | lst xs=>obtain⟨z,its,n,r,e⟩:=x;exact⟨z,its,n,r,k _ _ (.inl rfl) e⟩
 | tup xs=>obtain⟨z,its,r,ob,e,c⟩:=x;exact⟨z,its,r,ob,k _ _ (.inl rfl) e,c⟩
 | dK kvs=>obtain⟨z,y,vs,r,ob,es,ep,e,c⟩:=x;exact⟨z,y,vs,r,ob,es,ep,k _ _ (.inl rfl) e,c⟩
 | dT kvs=>
  obtain⟨z,y,xs,r,ob,es,ep,e,c⟩:=x;exact⟨z,y,xs,Paired.mapP r λp q z=>⟨z.1,ht _ _ z.2.1,z.2.2⟩,ob,es,ep,k _ _ (.inl rfl) e,c⟩
 | set S n=>obtain⟨ob,es,ep,t,e,c⟩:=x;exact⟨ob,es,ep,t,k _ _ (.inl rfl) e,c⟩
 | ins C dx fs=>
  obtain⟨d,z,ne,e,mA,⟨od,es,ep,e2,c⟩,r⟩:=x;exact⟨ho _ d,z,ne,k _ _ (.inl rfl) e,mA,⟨od,es,ep,k _ _ (.inr d) e2,c⟩,r⟩
 | own y=>obtain⟨ob,e⟩:=x;exact⟨ob,k _ _ (.inl rfl) e⟩
 | xd fs=>obtain⟨mA,⟨od,es,ep,e,c⟩,r⟩:=x;exact⟨mA,⟨od,es,ep,k _ _ (.inl rfl) e,c⟩,r⟩
 | rng lo hi=>obtain⟨t,u,v,e⟩:=x;exact⟨t,u,v,k _ _ (.inl rfl) e⟩
 | frz ob u ih=>obtain⟨e,q⟩:=x;exact⟨k _ _ (.inl rfl) e,ih q⟩
 | tbl ps=>
  have e:h.get? a=YB { cls:=.none,data:=.fields ps }:=x;show h'.get? a=YB { cls:=.none,data:=.fields ps };exact k a _ (.inl rfl) e
 | met f y=>
  have e:h.get? a=YB (PySem.W.methodObj (.ref f) (.ref y)):=x;show h'.get? a=YB (PySem.W.methodObj (.ref f) (.ref y));exact k a _ (.inl rfl) e
 | ext φ=>obtain⟨p,⟨o,e⟩,st⟩:=x;exact⟨st _ _ p λo q=>k _ _ (.inl rfl) q,⟨o,k _ _ (.inl rfl) e⟩,st⟩
theorem HOk.lt(x:HOk P w H h)(e:H a=YB o):a<h.objs.size:=(x a o e).lt
theorem HOk.fresh(x:HOk P w H h)(e:h.objs.size<=a):H a=YC:=by
 cases q:H a with
 | none=>rfl
 | some u=>exact YX (Qp (x.lt q) e) (Vw _)
theorem HOk.kept(x:HOk P w H h)(k:∀b u,h.get? b=YB u->h'.get? b=YB u):HOk P w H h':=λa o e=>
 (x a o e).stay (λb u _ q=>k b u q) (λ_ q=>q) λ_ _ q=>q
theorem HOk.laid(x:HOk P w H h)(k:∀b u,h.get? b=YB u->h'.get? b=YB u)(hp:h.objs.size<=a)(new:ObjOk P w (upd H a o) h' a o):HOk P w (upd H a o) h':=λb u e=>by
 have hn:=x.fresh hp
 by_cases hb:b=a
 .subst hb;rw[Zx]at e;cases e;exact new
 .rw[Zu hb]at e
  exact(x b u e).stay (λc v _ q=>k c v q) (λc q=>by rw[Zu (Yx q hn)];exact q) λc xs q=>by rw[Zu (Yx q hn)];exact q
end
def Rd(H:Hp)(a:YG)(u:HO):Prop:=H a=YB u\/∃o,H a=YB (.frz o u)
theorem Rd.ok{P:X5}{w:Qu}{H:Hp}{h:YH}{a:YG}{u:HO}(r:Rd H a u)(x:HOk P w H h):ObjOk P w H h a u:=by
 rcases r with r|⟨o,r⟩
 .exact x a u r
 .obtain⟨_,q⟩:=x a _ r
  exact q
def Mut:Option HO->Prop
 | some (.lst _)=>True
 | some (.dK _)=>True
 | some (.dT _)=>True
 | some (.set _ _)=>True
 | some (.ins _ _ _)=>True
 | some (.ext _)=>True
 | _=>False
section
variable {P:X5}{w:Qu}{H:Hp}{h h':YH}{x e:YG}{o':HO}
theorem HOk.write(ok:HOk P w H h)(mu:Mut (H x))(he:e=x\/H e=YB (.own x))(k:∀b u,b≠e->h.get? b=YB u->h'.get? b=YB u)(heo:∃u,h'.get? e=YB u)
  (new:ObjOk P w (upd H x o') h' x o'):HOk P w (upd H x o') h':=λb u q=>by
 have nown:∀c y,H c=YB (.own y)->c≠x:=λc y r z=>by subst z;rw[r]at mu;exact mu
 have ntup:∀c xs,H c=YB (.tup xs)->c≠x:=λc xs r z=>by subst z;rw[r]at mu;exact mu
 by_cases hb:b=x
 .subst hb;rw[Zx]at q;cases q;exact new
 .rw[Zu hb]at q
  by_cases hbe:b=e
  .have q':H b=YB (.own x):=by
    rcases he with z|z
    .exact YX (hbe.trans z) hb
    .rw[hbe];exact z
   rw[q]at q';cases q';obtain⟨v,hv⟩:=heo;exact⟨v,by rw[hbe];exact hv⟩
  .refine(ok b u q).stay (λc v hc r=>k c v ?_ r) (λc r=>by rw[Zu (nown c b r)];exact r) λc xs r=>by rw[Zu (ntup c xs r)];exact r
   rcases hc with rfl|hc
   .exact hbe
   .rintro rfl
    rcases he with z|z
    .exact nown c b hc z
    .rw[hc]at z;cases z;exact hb rfl
end
structure Un(fs ex:List YG)(H H':Hp)(h h':YH):Prop where
 keep:∀b o,h.get? b=YB o->H b=YC->b∉fs->b∉ex->h'.get? b=YB o
 slot:∀b o,h.get? b=YB o->H b=YC->b∈fs->b∉ex->∃sl,h'.get? b=YB { o with slots:=sl }
 free:∀b o,h.get? b=YB o->H b=YC->b∉ex->H' b=YC
 there:∀b o,h.get? b=YB o->b∉ex->∃o',h'.get? b=YB o'
 tups:∀b xs,H b=YB (.tup xs)->H' b=YB (.tup xs)
 frzs:∀b o u,H b=YB (.frz o u)->H' b=YB (.frz o u)
 tbls:∀b ps,H b=YB (.tbl ps)->∃more,H' b=YB (.tbl (ps++more))
section
variable {fs fs' ex ex':List YG}{H H1 H2:Hp}{h h1 h2 h':YH}{a x e:YG}{o:HO}
theorem Un.any(u:Un fs ex H H1 h h1){b:YG}{ob:Obj}(q:h.get? b=YB ob)(n:H b=YC)(hx:b∉ex):∃sl,h1.get? b=YB { ob with slots:=sl }:=by
 by_cases hb:b∈fs
 .exact u.slot b ob q n hb hx
 .exact⟨ob.slots,u.keep b ob q n hb hx⟩
theorem Un.kept(k:∀b u,h.get? b=YB u->h'.get? b=YB u):Un fs ex H H h h' :=
 ⟨λb ob q _ _ _=>k b ob q,λb ob q _ _ _=>⟨ob.slots,k b ob q⟩,λ_ _ _ n _=>n,λb ob q _=>⟨ob,k b ob q⟩,λ_ _ q=>q,λ_ _ _ q=>q,λ_ ps q=>⟨#[],by rw[q];simp⟩⟩
theorem Un.refl:Un fs ex H H h h:=Un.kept λ_ _ q=>q
theorem Un.laid(k:∀b u,h.get? b=YB u->h'.get? b=YB u)(hp:h.objs.size<=a)(hn:H a=YC):Un fs ex H (upd H a o) h h' where
 keep:=λb u q _ _ _=>k b u q
 slot:=λb u q _ _ _=>⟨u.slots,k b u q⟩
 free:=λb u q n _=>by rw[Zu (Xz (Qp (XD q) hp))];exact n
 there:=λb u q _=>⟨u,k b u q⟩
 tups:=λb xs q=>by rw[Zu (Yx q hn)];exact q
 frzs:=λb u xs q=>by rw[Zu (Yx q hn)];exact q
 tbls:=λb ps q=>⟨#[],by rw[Zu (Yx q hn),q];simp⟩
theorem Un.write(mu:Mut (H x))(he:e=x\/H e=YB (.own x))(k:∀b u,b≠e->h.get? b=YB u->h'.get? b=YB u)(heo:∃u,h'.get? e=YB u):Un fs ex H (upd H x o) h h':=by
 have hx:∀b,H b=YC->b≠x:=λb n z=>by subst z;rw[n]at mu;exact mu
 have hb:∀b,H b=YC->b≠e:=λb n z=>by
  subst z;rcases he with r|r
  .exact hx b n r
  .rw[n]at r;cases r
 have hm:∀b u,H b=YB u->¬Mut (YB u)->b≠x:=λb u q nm z=>by subst z;rw[q]at mu;exact nm mu
 refine⟨λb u q n _ _=>k b u (hb b n) q,λb u q n _ _=>⟨u.slots,k b u (hb b n) q⟩,λb u q n _=>by rw[Zu (hx b n)];exact n,λb u q _=>?_,
  λb xs q=>by rw[Zu (hm b _ q λz=>z)];exact q,λb u xs q=>by rw[Zu (hm b _ q λz=>z)];exact q,λb ps q=>⟨#[],by rw[Zu (hm b _ q λz=>z),q];simp⟩⟩
 by_cases hbe:b=e
 .subst hbe;exact heo
 .exact⟨u,k b u hbe q⟩
end
def trk(h:YH)(H:Hp):List YG:=(Xw h.objs.size).filter λa=>(H a).isSome
def Zzu(h:YH)(H:Hp):YH:=PySem.W.hideAll h (trk h H)
theorem Zvp(h:YH)(H:Hp):(Zzu h H).objs.size=h.objs.size:=PySem.W.hideAll_size _ _
theorem Zzi{h:YH}{H:Hp}{b:YG}{o:Obj}(e:h.get? b=YB o)(n:H b=YC):(Zzu h H).get? b=YB o :=
 PySem.W.hideAll_get _ e λhm=>by
  have q:(H b).isSome=YD:=(Qs.mp hm).2;rw[n]at q;simp at q
theorem Z5e{h:YH}{H:Hp}{b:YG}{o:Obj}(e:(Zzu h H).get? b=YB o):h.get? b=YB o/\H b=YC:=by
 have e':h.get? b=YB o:=PySem.W.of_hideAll (trk h H) e;refine⟨e',?_⟩;cases q:H b with
 | none=>rfl
 | some x=>
  have hm:b∈trk h H:=Qs.mpr ⟨XF.mpr (XD e'),by simp[q]⟩;have z:(Zzu h H).get? b=YC:=PySem.W.hideAll_none (trk h H) hm;rw[z]at e;cases e
def Z56(g h:YH)(L:YG):List (YG×Obj):=(Xw h.objs.size).filterMap λa=>if a=L\/(g.get? a).isSome=YD then YC else(h.get? a).map λo=>(a,o)
def rest(g h:YH)(L d:YG):List (YG×Obj):=(Z56 g h L).filter λp=>decide (p.1≠d)
structure Mod(K:Xc)(mg:Str->Option Xf)(base:YH):Prop where
 kin:K.In base
 glob:base.Ns Qm mg
 blt:∃mb,base.Ns builtinsNs mb/\∀x:Str,x≠"__name__" ->mb x=Qk x
 nolimit:base.NoLimit
set_option genInjectivity false in
structure Cx where
 prog:X5
 w:Qu
 K:Xc
 mg:Str->Option Xf
 base:YH
 A:Qv
 N:List Str
 s₀:Xg
 H₀:Hp
 env:Env
 outer:List Env
 stack:List Env
 ex:List YG
 fn:Str->Bool
 calm:Bool
 pn:List (YG×Obj)
 xe:Xf->Xg->Prop
def frs(l:List Env):List YG:=l.filterMap (·.frame)
abbrev Cx.fs(X:Cx):List YG:=frs X.outer
def Vis(sc:UW)(x:Str):Prop:=sc.names.lookup x=YB .local\/sc.names.lookup x=YB .cell\/sc.names.lookup x=YB .free
def Loc(sc:UW)(x:Str):Prop:=sc.names.lookup x=YB .local\/sc.names.lookup x=YB .cell
def Look(env:Env)(h:YH)(m:Str->Option Xf)(x:Str)(u:Xf):Prop :=
 (env.kindOf x=YB .local/\m x=YB u)\/((env.kindOf x=YB .cell\/env.kindOf x=YB .free)/\∃c,env.cells.lookup x=YB c/\h.IsCell c (YB u))
structure Cx.Ok(X:Cx):Prop where
 mod:Mod X.K X.mg X.base
 kind:X.env.scope.kind= .function
 glob:X.env.globals=Qm
 blt:X.env.builtins=builtinsNs
 above:X.s₀.heap.objs.size<=X.env.locals
 inj:∀x y c,X.env.cells.lookup x=YB c->X.env.cells.lookup y=YB c->x=y
 has:∀x,(X.env.kindOf x=YB .cell\/X.env.kindOf x=YB .free)->∃c,X.env.cells.lookup x=YB c
 cab:∀x c,X.fn x=YD->X.env.cells.lookup x=YB c->X.s₀.heap.objs.size<=c
 hd:X.calm=YD->X.A.handled=YC
 frames:X.A.frames=YB X.stack
 stk:X.stack=X.outer\/(X.stack=X.env::X.outer/\X.env.frame=YB X.env.locals)
 exf:∀b∈X.ex,b≠X.env.locals/\∀x c,X.env.cells.lookup x=YB c->c≠b
 bs:∀b o,X.base.get? b=YB o->X.s₀.heap.get? b=YB o/\X.H₀ b=YC
 bsz:X.base.objs.size<=X.s₀.heap.objs.size
 noex:∀b o,X.base.get? b=YB o->b∉X.ex
 exfs:∀b∈X.ex,b∉X.fs
 funs:X.s₀.heap.FunFrames X.base X.outer
 frf:∀b∈X.fs,X.H₀ b=YC
structure Inv(X:Cx)(pins:List (YG×Obj))(O:List (Option V))(H:Hp)(s:Xg):Prop where
 ok:X.Ok
 os:s.os=X.s₀.os
 bare:AllBare s.gens
 base:Un X.fs X.ex X.H₀ H X.s₀.heap s.heap
 loc:∃m,s.heap.Ns X.env.locals m/\∀(i:Nat) (x:Str) (v:V),X.N[i]? =YB x->O[i]? =YB (YB v)->Vis X.env.scope x->∃u,RelV v u/\Look X.env s.heap m x u
 cell:∀x c,X.env.cells.lookup x=YB c->∃v,s.heap.IsCell c v
 free:H X.env.locals=YC
 freeC:∀x c,X.env.cells.lookup x=YB c->H c=YC
 pin:∀p∈X.pn++pins,s.heap.get? p.1=YB p.2/\H p.1=YC/\p.1≠X.env.locals/\p.1∉X.fs/\∀v,p.2.data≠ .cell v
 hok:HOk X.prog X.w H s.heap
 len:O.length=X.N.length
section
variable {X:Cx}{pins:List (YG×Obj)}{O:List (Option V)}{H H':Hp}{s:Xg}{h':YH}
theorem Cx.Ok.nofr(ok:X.Ok){b:YG}{o:Obj}(e:X.base.get? b=YB o):b∉X.fs:=λhb=>by
 have:=(ok.funs.mem hb).1;rw[e]at this;cases this
theorem Inv.bs(I:Inv X pins O H s):∀b o,X.base.get? b=YB o->s.heap.get? b=YB o/\H b=YC:=λb o e=>
 ⟨I.base.keep b o (I.ok.bs b o e).1 (I.ok.bs b o e).2 (I.ok.nofr e) (I.ok.noex b o e),I.base.free b o (I.ok.bs b o e).1 (I.ok.bs b o e).2 (I.ok.noex b o e)⟩
theorem Inv.bk(I:Inv X pins O H s):∀b o,X.base.get? b=YB o->s.heap.get? b=YB o:=λb o e=>(I.bs b o e).1
theorem Inv.mod(I:Inv X pins O H s):Mod X.K X.mg X.base:=I.ok.mod
theorem Inv.kIn(I:Inv X pins O H s):X.K.In s.heap:=I.ok.mod.kin.keeps I.bk
theorem Inv.lt(I:Inv X pins O H s):X.env.locals<s.heap.objs.size:=let⟨_,hn,_⟩:=I.loc;hn.lt
theorem Inv.sz(I:Inv X pins O H s):X.s₀.heap.objs.size<=s.heap.objs.size:=QB I.ok.above (Nat.le_of_lt I.lt)
theorem Inv.nofs(I:Inv X pins O H s){a:YG}(h:s.heap.objs.size<=a):a∉X.fs:=λhb=>by
 obtain⟨_,o,ho,_⟩:=I.ok.funs.mem hb;exact YX (Qp (XD ho) (QB I.sz h)) (Vw _)
theorem Inv.cne(I:Inv X pins O H s):∀x c,X.env.cells.lookup x=YB c->c≠X.env.locals:=λx c e z=>by
 obtain⟨v,o,ho,hd⟩:=I.cell x c e;obtain⟨m,⟨o',es,ep,ho',hd',_⟩,_⟩:=I.loc;rw[z,ho']at ho;cases ho;rw[hd']at hd;cases hd
theorem Inv.funs(I:Inv X pins O H s):s.heap.FunFrames X.base X.outer:=by
 have all:∀(l:List Env),(∀b∈frs l,b∈X.fs)->X.s₀.heap.FunFrames X.base l->s.heap.FunFrames X.base l:=by
  intro l
  induction l with
  | nil=>intro _ _;trivial
  | cons env r ih=>
   intro hs hl;obtain⟨hk,⟨L,o,hf,hn,ho,hd⟩,hr⟩:=hl;have hL:L∈X.fs:=hs L (by unfold frs;rw[List.filterMap_cons,hf];exact List.mem_cons_self);obtain⟨sl,e⟩:=I.base.slot L o ho (I.ok.frf L hL) hL λz=>I.ok.exfs L z hL;exact⟨hk,⟨L,_,hf,hn,e,hd⟩,ih (λb hb=>hs b (by unfold frs;rw[List.filterMap_cons,hf];exact U8 _ hb)) hr⟩
 exact all X.outer (λ_ hb=>hb) I.ok.funs
theorem Inv.stack(I:Inv X pins O H s):s.heap.FunFrames X.base X.stack:=by
 rcases I.ok.stk with e|⟨e,hf⟩
 .rw[e];exact I.funs
 .rw[e]
  obtain⟨m,hn,_⟩:=I.loc;refine .cons (by rw[I.ok.kind];decide) hf hn ?_ I.funs;exact Heap.get?_none_of_le (QB I.ok.bsz I.ok.above)
theorem Inv.stkSub(I:Inv X pins O H s):∀b∈frs X.stack,b∈X.env.locals::X.fs:=λb hb=>by
 rcases I.ok.stk with e|⟨e,hf⟩
 .rw[e]at hb;exact U8 _ hb
 .rw[e]at hb
  unfold frs at hb;rw[List.filterMap_cons,hf]at hb;exact hb
theorem Inv.stkFree(I:Inv X pins O H s):∀b∈frs X.stack,H b=YC:=λb hb=>by
 rcases Xo.mp (I.stkSub b hb)with e|hb
 .rw[e];exact I.free
 .obtain⟨_,o,ho,_⟩:=I.ok.funs.mem hb
  exact I.base.free b o ho (I.ok.frf b hb) λz=>I.ok.exfs b z hb
theorem Inv.step{g':Array GenState}{t':Nat}{d':Drawn}{ch:List YG}(I:Inv X pins O H s)
  (hch:∀b∈ch,(b∈X.ex\/X.s₀.heap.objs.size<=b)/\b≠X.env.locals/\(∀x c,X.env.cells.lookup x=YB c->c≠b)/\∀p∈X.pn++pins,p.1≠b)
  (keep:∀b o,b≠X.env.locals->b∉X.fs->b∉ch->s.heap.get? b=YB o->H b=YC->h'.get? b=YB o)
  (slot:∀b o,b≠X.env.locals->b∈X.fs->b∉ch->s.heap.get? b=YB o->H b=YC->∃sl,h'.get? b=YB { o with slots:=sl }) (free:∀b o,b∉ch->s.heap.get? b=YB o->H b=YC->H' b=YC)
  (there:∀b o,b∉ch->s.heap.get? b=YB o->∃o',h'.get? b=YB o')
  (tups:∀b xs,H b=YB (.tup xs)->H' b=YB (.tup xs)) (frzs:∀b o u,H b=YB (.frz o u)->H' b=YB (.frz o u)) (tbls:∀b ps,H b=YB (.tbl ps)->∃more,H' b=YB (.tbl (ps++more)))
  (ns:∀m,s.heap.Ns X.env.locals m->h'.Ns X.env.locals m) (hok:HOk X.prog X.w H' h') (hg:AllBare g') :
  Inv X pins O H' { s with heap:=h',gens:=g',drawn:=d',toks:=t' }:=by
 have neL:∀b o,X.s₀.heap.get? b=YB o->b≠X.env.locals:=λb o e=>Xz (Qp (XD e) I.ok.above);have neC:∀b o,X.s₀.heap.get? b=YB o->b∉X.ex->b∉ch:=λb o e hx hb=>by
  rcases(hch b hb).1 with z|z
  .exact hx z
  .exact YX (Qp (XD e) z) (Vw _)
 have cellK:∀x c,X.env.cells.lookup x=YB c->∀v,s.heap.IsCell c v->h'.IsCell c v:=λx c e v ⟨o,ho,hd⟩=>by
  have nch:c∉ch:=λz=>(hch c z).2.2.1 x c e rfl
  by_cases hc:c∈X.fs
  .obtain⟨sl,q⟩:=slot c o (I.cne x c e) hc nch ho (I.freeC x c e)
   exact⟨_,q,hd⟩
  .exact⟨o,keep c o (I.cne x c e) hc nch ho (I.freeC x c e),hd⟩
 refine⟨I.ok,I.os,hg,⟨λb o e n hb hx=>?_,λb o e n hb hx=>?_,λb o e n hx=>?_,λb o e hx=>?_,λb xs e=>tups b xs (I.base.tups b xs e),λb o xs e=>frzs b o xs (I.base.frzs b o xs e),λb ps e=>?_⟩,?_,λx c e=>?_,?_,λx c e=>?_,λp hp=>?_,hok,I.len⟩
 .exact keep b o (neL b o e) hb (neC b o e hx) (I.base.keep b o e n hb hx) (I.base.free b o e n hx)
 .obtain⟨sl,e1⟩:=I.base.slot b o e n hb hx
  obtain⟨sl',e2⟩:=slot b _ (neL b o e) hb (neC b o e hx) e1 (I.base.free b o e n hx);exact⟨sl',e2⟩
 .obtain⟨o',e1⟩:=I.base.there b o e hx
  exact free b o' (neC b o e hx) e1 (I.base.free b o e n hx)
 .obtain⟨o',e1⟩:=I.base.there b o e hx
  exact there b o' (neC b o e hx) e1
 .obtain⟨m1,e1⟩:=I.base.tbls b ps e
  obtain⟨m2,e2⟩:=tbls b _ e1;exact⟨m1++m2,by rw[e2,Array.append_assoc]⟩
 .obtain⟨m,hn,hl⟩:=I.loc
  refine⟨m,ns m hn,λi x v e1 e2 e3=>?_⟩;obtain⟨u,r,l⟩:=hl i x v e1 e2 e3;refine⟨u,r,?_⟩;rcases l with l|⟨k,c,e,z⟩
  .exact .inl l
  .exact .inr ⟨k,c,e,cellK x c e _ z⟩
 .obtain⟨v,z⟩:=I.cell x c e
  exact⟨v,cellK x c e v z⟩
 .obtain⟨m,⟨o,_,_,ho,_⟩,_⟩:=I.loc
  exact free _ o (λz=>(hch _ z).2.1 rfl) ho I.free
 .obtain⟨v,o,ho,hd⟩:=I.cell x c e
  exact free c o (λz=>(hch c z).2.2.1 x c e rfl) ho (I.freeC x c e)
 .obtain⟨e,n,ne,nf,d⟩:=I.pin p hp
  have nch:p.1∉ch:=λz=>(hch p.1 z).2.2.2 p hp rfl;exact⟨keep p.1 p.2 ne nf nch e n,free p.1 p.2 nch e n,ne,nf,d⟩
theorem Inv.un{t':Nat}(I:Inv X pins O H s)(u:Un X.fs [] H H' s.heap h')(hok:HOk X.prog X.w H' h'):Inv X pins O H' { s with heap:=h',toks:=t' }:=by
 obtain⟨m,⟨o,es,ep,ho,r⟩,_⟩:=id I.loc;obtain⟨sl,hL⟩:=u.any ho I.free (by simp);exact I.step (g':=s.gens) (d':=s.drawn) (ch:=[]) (λ_ z=>nomatch z) (λb o _ hb _ e n=>u.keep b o e n hb (by simp)) (λb o _ hb _ e n=>u.slot b o e n hb (by simp)) (λb o _ e n=>u.free b o e n (by simp)) (λb o _ e=>u.there b o e (by simp)) u.tups u.frzs u.tbls (λm' hm=>by
  obtain⟨o',es',ep',ho',r'⟩:=hm;rw[ho]at ho';cases ho';exact⟨_,es',ep',hL,r'⟩) hok I.bare
theorem Inv.call{g':Array GenState}{t':Nat}{d':Drawn}{ch:List YG}(I:Inv X pins O H s)(u:Un (frs X.stack) ch H H' s.heap h')(hok:HOk X.prog X.w H' h')(hg:AllBare g')
  (hch:∀b∈ch,(b∈X.ex\/X.s₀.heap.objs.size<=b)/\b≠X.env.locals/\(∀x c,X.env.cells.lookup x=YB c->c≠b)/\∀p∈X.pn++pins,p.1≠b) :
  Inv X pins O H' { s with heap:=h',gens:=g',drawn:=d',toks:=t' }:=by
 obtain⟨m,⟨o,es,ep,ho,r⟩,_⟩:=id I.loc;obtain⟨sl,hL⟩:=u.any ho I.free λz=>(hch _ z).2.1 rfl;exact I.step (ch:=ch) hch (λb o hL hb hc e n=>u.keep b o e n (λz=>(Xo.mp (I.stkSub b z)).elim hL hb) hc) (λb o _ _ hc e n=>u.any e n hc) (λb o hc e n=>u.free b o e n hc) (λb o hc e=>u.there b o e hc) u.tups u.frzs u.tbls (λm' hm=>by
  obtain⟨o',es',ep',ho',r'⟩:=hm;rw[ho]at ho';cases ho';exact⟨_,es',ep',hL,r'⟩) hok hg
theorem Inv.turned{t':Nat}{it:YG}(I:Inv X pins O H s)(k:∀b o,b≠it->s.heap.get? b=YB o->h'.get? b=YB o)(hn:H it=YC)(hL:it≠X.env.locals)
  (h1:it∈X.ex\/X.s₀.heap.objs.size<=it) (h2:∀x c,X.env.cells.lookup x=YB c->c≠it) (h3:∀p∈X.pn++pins,p.1≠it):Inv X pins O H { s with heap:=h',toks:=t' }:=by
 have nit:∀b u,H b=YB u->b≠it:=λb u e z=>by rw[z,hn]at e;cases e
 refine I.step (g':=s.gens) (d':=s.drawn) (ch:=[it]) (λb hb=>?_) (λb o _ _ hc e _=>k b o (λz=>hc (by simp[z])) e) (λb o _ _ hc e _=>⟨o.slots,k b o (λz=>hc (by simp[z])) e⟩) (λ_ _ _ _ n=>n)
  (λb o hc e=>⟨o,k b o (λz=>hc (by simp[z])) e⟩) (λ_ _ e=>e) (λ_ _ _ e=>e) (λb ps e=>⟨#[],by rw[e];simp⟩) (λm hm=>?_) (λb u e=>?_) I.bare
 .have e:b=it:=by simpa using hb
  subst e;exact⟨h1,hL,h2,h3⟩
 .obtain⟨o,es,ep,ho,r⟩:=hm
  exact⟨o,es,ep,k _ o (Vn hL) ho,r⟩
 .refine(I.hok b u e).stay (λc v hc q=>k c v ?_ q) (λ_ q=>q) λ_ _ q=>q
  rcases hc with z|z
  .rw[z];exact nit b u e
  .exact nit c _ z
theorem Inv.tok(I:Inv X pins O H s)(t:Nat):Inv X pins O H { s with toks:=t }:=I.un (h':=s.heap) (t':=t) Un.refl I.hok
theorem Inv.kept{t':Nat}(I:Inv X pins O H s)(k:∀b u,s.heap.get? b=YB u->h'.get? b=YB u):Inv X pins O H { s with heap:=h',toks:=t' }:=I.un (Un.kept k) (I.hok.kept k)
theorem Inv.laid{a:YG}{o:HO}{t':Nat}(I:Inv X pins O H s)(k:∀b u,s.heap.get? b=YB u->h'.get? b=YB u)(hp:s.heap.objs.size<=a)(new:ObjOk X.prog X.w (upd H a o) h' a o) :
  Inv X pins O (upd H a o) { s with heap:=h',toks:=t' }:=I.un (Un.laid k hp (I.hok.fresh hp)) (I.hok.laid k hp new)
theorem Inv.write{x e:YG}{o:HO}{t':Nat}(I:Inv X pins O H s)(mu:Mut (H x))(he:e=x\/H e=YB (.own x))(k:∀b u,b≠e->s.heap.get? b=YB u->h'.get? b=YB u)(heo:∃u,h'.get? e=YB u)
  (new:ObjOk X.prog X.w (upd H x o) h' x o):Inv X pins O (upd H x o) { s with heap:=h',toks:=t' }:=I.un (Un.write mu he k heo) (I.hok.write mu he k heo new)
theorem Inv.pins_of{pins':List (YG×Obj)}(I:Inv X pins O H s)(h:∀p∈pins',s.heap.get? p.1=YB p.2/\H p.1=YC/\p.1≠X.env.locals/\p.1∉X.fs/\∀v,p.2.data≠ .cell v):Inv X pins' O H s :=
 ⟨I.ok,I.os,I.bare,I.base,I.loc,I.cell,I.free,I.freeC,λp hp=>(Qo.mp hp).elim (λz=>I.pin p (Vq _ z)) (h p),I.hok,I.len⟩
theorem Zo0{N:List Str}(hN:N.Nodup){i j:Nat}{x:Str}(a:N[i]? =YB x)(b:N[j]? =YB x):i=j:=by
 obtain⟨h1,e1⟩:=Xu.mp a;obtain⟨h2,e2⟩:=Xu.mp b;exact(List.getElem_inj hN).mp (e1.trans e2.symm)
theorem Zlg{M:Model}{A:Qv}{E:Xf->Xg->Prop}{i:Nat}{x:Str}{v:V}{u:Xf}{Q:Unit->Xg->Prop}(I:Inv X pins O H s)(hN:X.N.Nodup)(hi:X.N[i]? =YB x)(hx:Loc X.env.scope x)(r:RelV v u)
  (h:∀s',Inv X pins (O.set i (YB v)) H s'->(∃a,Vc a s.heap s'.heap/\(a=X.env.locals\/X.env.cells.lookup x=YB a))->Q () s') (hf:X.fn x=YD\/X.env.scope.names.lookup x=YB .local:=by first|exact .inl rfl|exact .inr rfl|assumption):XX M A (storeName X.env x u) Q E s:=by
 obtain⟨m,hn,hl⟩:=id I.loc;have hcls:(X.env.scope.kind== .class||(X.env.scope.kind== .module&&X.env.locals !=X.env.globals))=YF:=by rw[I.ok.kind];rfl
 have hiσ:i<O.length:=by rw[I.len];exact(Xu.mp hi).1
 have cne:=I.cne;have tracked:∀{a:YG} {h':YH},(∃o,s.heap.get? a=YB o/\H a=YC)->Vc a s.heap h'->HOk X.prog X.w H h':=fun{a h'} ha hs b ob e=>by
  obtain⟨_,_,hfree⟩:=ha;refine(I.hok b ob e).stay (λc w' hc q=>(hs.2 c ?_).trans q) (λ_ q=>q) λ_ _ q=>q;rintro rfl;rcases hc with rfl|hc
  .rw[hfree]at e;cases e
  .rw[hfree]at hc;cases hc
 rcases hx with hk|hk
 .refine wpAny_storeName_local hk hn (λh' hn' hs=>?_) hcls
  obtain⟨oL,_,_,hoL,_⟩:=id hn;refine h _ ⟨I.ok,I.os,I.bare,⟨λb o e n hb hx=>?_,λb o e n hb hx=>?_,I.base.free,λb o e hx=>?_,I.base.tups,I.base.frzs,I.base.tbls⟩,⟨_,hn',λj y v' e1 e2 e3=>?_⟩,λy c e=>?_,I.free,I.freeC,λp hp=>?_,tracked ⟨oL,hoL,I.free⟩ hs,by simpa using I.len⟩ ⟨_,hs,.inl rfl⟩
  .exact(hs.2 b (Xz (Qp (XD e) I.ok.above))).trans (I.base.keep b o e n hb hx)
  .obtain⟨sl,e1⟩:=I.base.slot b o e n hb hx
   exact⟨sl,(hs.2 b (Xz (Qp (XD e) I.ok.above))).trans e1⟩
  .obtain⟨o',e1⟩:=I.base.there b o e hx
   exact⟨o',(hs.2 b (Xz (Qp (XD e) I.ok.above))).trans e1⟩
  .by_cases hj:j=i
   .subst hj
    rw[hi]at e1;cases e1;rw[JB hiσ]at e2;cases e2;exact⟨u,r,.inl ⟨hk,by simp⟩⟩
   .rw[QR (Vn hj)]at e2
    obtain⟨u',r',q⟩:=hl j y v' e1 e2 e3;refine⟨u',r',?_⟩;rcases q with⟨k,e⟩|⟨k,c,e,z⟩
    .refine .inl ⟨k,?_⟩
     have:y≠x:=λe=>hj (Zo0 hN e1 (e▸hi));simp[this,e]
    .exact .inr ⟨k,c,e,z.sameBut hs (cne y c e)⟩
  .obtain⟨w',z⟩:=I.cell y c e
   exact⟨w',z.sameBut hs (cne y c e)⟩
  .obtain⟨e,n,ne,nf,d⟩:=I.pin p hp
   exact⟨(hs.2 p.1 ne).trans e,n,ne,nf,d⟩
 .have hfn:X.fn x=YD:=by
   rcases hf with z|z
   .exact z
   .rw[z]at hk;cases hk
  obtain⟨c,hc⟩:=I.ok.has x (.inl hk);obtain⟨w',z⟩:=I.cell x c hc;refine wpAny_storeName_cell I.ok.kind hk hc z (λh' hc' hs=>?_);obtain⟨oc,hoc,hocd⟩:=id z;refine h { s with heap:=h' } ⟨I.ok,I.os,I.bare,⟨λb o e n hb hx=>?_,λb o e n hb hx=>?_,I.base.free,λb o e hx=>?_,I.base.tups,I.base.frzs,I.base.tbls⟩,⟨m,hn.sameBut hs (Vn (cne x c hc)),λj y v' e1 e2 e3=>?_⟩,λy c' e=>?_,I.free,I.freeC,λp hp=>?_,tracked ⟨oc,hoc,I.freeC x c hc⟩ hs,by simpa using I.len⟩ ⟨c,hs,.inr hc⟩
  .exact(hs.2 b (Xz (Qp (XD e) (I.ok.cab x c hfn hc)))).trans (I.base.keep b o e n hb hx)
  .obtain⟨sl,e1⟩:=I.base.slot b o e n hb hx
   exact⟨sl,(hs.2 b (Xz (Qp (XD e) (I.ok.cab x c hfn hc)))).trans e1⟩
  .obtain⟨o',e1⟩:=I.base.there b o e hx
   exact⟨o',(hs.2 b (Xz (Qp (XD e) (I.ok.cab x c hfn hc)))).trans e1⟩
  .by_cases hj:j=i
   .subst hj
    rw[hi]at e1;cases e1;rw[JB hiσ]at e2;cases e2;exact⟨u,r,.inr ⟨.inl hk,c,hc,hc'⟩⟩
   .rw[QR (Vn hj)]at e2
    obtain⟨u',r',q⟩:=hl j y v' e1 e2 e3;refine⟨u',r',?_⟩;rcases q with q|⟨k,c',e,z'⟩
    .exact .inl q
    .refine .inr ⟨k,c',e,z'.sameBut hs ?_⟩
     rintro rfl;exact hj (Zo0 hN e1 (I.ok.inj _ _ _ e hc▸hi))
  .by_cases hcc:c'=c
   .subst hcc;exact⟨_,hc'⟩
   .obtain⟨w2,z2⟩:=I.cell y c' e
    exact⟨w2,z2.sameBut hs hcc⟩
  .obtain⟨e,n,ne,nf,d⟩:=I.pin p hp
   refine⟨(hs.2 p.1 ?_).trans e,n,ne,nf,d⟩;intro q;rw[q,hoc]at e;have q':oc=p.2:=QD e;exact d w' (by rw[<-q'];exact hocd)
theorem Zpu{M:Model}{A:Qv}{E:Xf->Xg->Prop}{i:Nat}{x:Str}{v:V}{u:Xf}{Q:Unit->Xg->Prop}(I:Inv X pins O H s)(hN:X.N.Nodup)(hi:X.N[i]? =YB x)(hx:Loc X.env.scope x)(r:RelV v u)
  (h:∀s',Inv X pins (O.set i (YB v)) H s'->Q () s') (hf:X.fn x=YD\/X.env.scope.names.lookup x=YB .local:=by first|exact .inl rfl|exact .inr rfl|assumption):XX M A (storeName X.env x u) Q E s :=
 Zlg I hN hi hx r (λs' I' _=>h s' I') hf
theorem Inv.call'{s':Xg}{ch:List YG}(I:Inv X pins O H s)(ho:s'.os=s.os)(u:Un (frs X.stack) ch H H' s.heap s'.heap)(hok:HOk X.prog X.w H' s'.heap)(hg:AllBare s'.gens)
  (hch:∀b∈ch,(b∈X.ex\/X.s₀.heap.objs.size<=b)/\b≠X.env.locals/\(∀x c,X.env.cells.lookup x=YB c->c≠b)/\∀p∈X.pn++pins,p.1≠b):Inv X pins O H' s':=by
 obtain⟨h',g',d',t',o'⟩:=s';have e:o'=s.os:=ho;subst e;exact I.call (g':=g') (t':=t') (d':=d') u hok hg hch
end
abbrev XK:=Xf->Option YG->Hp->Prop
abbrev St:=List (Option V)
abbrev VK:=V->Hp->Prop
abbrev TE:=St->Hp->VK->Prop
abbrev TT:=St->Hp->(Bool->Hp->Prop)->Prop
abbrev TA:=St->Hp->(List V->Hp->Prop)->Prop
set_option genInjectivity false in
structure Ends where
 nx:St->Hp->Prop
 rt:VK
 bk:St->Hp->Prop:=λ_ _=>False
 ct:St->Hp->Prop:=λ_ _=>False
abbrev TS:=Ends->St->Hp->Prop
def EP(X:Cx)(pins:List (YG×Obj))(O:St)(Q:VK)(u:Xf)(s':Xg):Prop:=∃v H',Inv X pins O H' s'/\RelV v u/\Q v H'
def TP(X:Cx)(pins:List (YG×Obj))(O:St)(Q:Bool->Hp->Prop)(b:Bool)(s':Xg):Prop:=∃H',Inv X pins O H' s'/\Q b H'
def AP(X:Cx)(pins:List (YG×Obj))(O:St)(Q:List V->Hp->Prop)(us:List Xf)(s':Xg):Prop:=∃vs H',Inv X pins O H' s'/\Vals vs us/\Q vs H'
def SP(X:Cx)(pins:List (YG×Obj))(D:Ends)(f:Flow)(s':Xg):Prop :=
 match f with
 | .next=>∃O' H',Inv X pins O' H' s'/\D.nx O' H'
 | .brk=>∃O' H',Inv X pins O' H' s'/\D.bk O' H'
 | .cont=>∃O' H',Inv X pins O' H' s'/\D.ct O' H'
 | .ret u=>∃v O' H',Inv X pins O' H' s'/\RelV v u/\D.rt v H'
def PE(X:Cx)(e:YJ)(t:TE):Prop :=
 ∀(pins:List (YG×Obj)) (s:Xg) (O:St) (H:Hp) (Q:VK),Inv X pins O H s->t O H Q->XX (Qi X.prog X.w) X.A (eval e X.env) (EP X pins O Q) X.xe s
def PT(X:Cx)(e:YJ)(t:TT):Prop :=
 ∀(pins:List (YG×Obj)) (s:Xg) (O:St) (H:Hp) (Q:Bool->Hp->Prop),Inv X pins O H s->t O H Q->XX (Qi X.prog X.w) X.A (isTrue e X.env (eval e X.env)) (TP X pins O Q) X.xe s
def PW(X:Cx)(e:YJ)(t:TT):Prop :=
 ∀(whole:Sem Xf) (pins:List (YG×Obj)) (s:Xg) (O:St) (H:Hp) (Q:Bool->Hp->Prop),Inv X pins O H s->t O H Q->XX (Qi X.prog X.w) X.A (isTrue e X.env whole) (TP X pins O Q) X.xe s
theorem PW.pt{X:Cx}{e:YJ}{t:TT}(h:PW X e t):PT X e t:=h _
def PA(X:Cx)(es:List YJ)(t:TA):Prop :=
 ∀(pos:Pos) (pins:List (YG×Obj)) (s:Xg) (O:St) (H:Hp) (Q:List V->Hp->Prop),Inv X pins O H s->t O H Q->XX (Qi X.prog X.w) X.A (spliced (JK pos (Xq es X.env))) (AP X pins O Q) X.xe s
def PS(X:Cx)(st:YK)(t:TS):Prop :=
 ∀(pins:List (YG×Obj)) (s:Xg) (O:St) (H:Hp) (D:Ends),Inv X pins O H s->t D O H->XX (Qi X.prog X.w) X.A (exec st X.env) (SP X pins D) X.xe s
def PSs(X:Cx)(st:List YK)(t:TS):Prop :=
 ∀(pins:List (YG×Obj)) (s:Xg) (O:St) (H:Hp) (D:Ends),Inv X pins O H s->t D O H->XX (Qi X.prog X.w) X.A (execs st X.env) (SP X pins D) X.xe s
theorem thn{α:Type}{t:Sem α}{Q Q':α->Xg->Prop}{M:Model}{A:Qv}{E:Xf->Xg->Prop}{s:Xg}(h:XX M A t Q E s)(hQ:∀a s,Q a s->Q' a s):XX M A t Q' E s:=Vd h hQ λ_ _ x=>x
section
variable {X:Cx}
def Yir(i:Nat):TE:=λO H Q=>∃v,O[i]? =YB (YB v)/\Q v H
def tC(v:V):TE:=λ_ H Q=>Q v H
theorem Z1x{i:Nat}{x:Str}{pos:Pos}(hN:X.N[i]? =YB x)(hv:Vis X.env.scope x)(hd:(x==("__debug__" : Str))=YF:=by decide)(hcd:(x==("__classdict__" : Str))=YF:=by decide):PE X (.Name x pos) (Yir i):=by
 intro pins s O H Q I h;obtain⟨v,e,h⟩:=h;obtain⟨m,hn,hl⟩:=I.loc;obtain⟨u,r,l⟩:=hl i x v hN e hv;have fin:EP X pins O Q u s:=⟨v,H,I,r,h⟩;rcases l with⟨hk,hm⟩|⟨hk,c,hc,hcell⟩
 .exact wpAny_Name (wpAny_loadName_local I.ok.kind hk hn hm fin) hd
 .rcases hk with hk|hk
  .exact wpAny_Name (wpAny_loadName_cell I.ok.kind hk hc hcell fin) hd
  .exact wpAny_Name (wpAny_loadName_free I.ok.kind hk hc hcell fin hcd) hd
theorem Yce{i j pos}:PE X (.Constant (.int i) j pos) (tC (.int i)):=λ_ _ _ H _ I h=>wpAny_Constant_int ⟨.int i,H,I.tok _,⟨_,rfl⟩,h⟩
theorem Ye2{b j pos}:PE X (.Constant (.bool b) j pos) (tC (.bl b)):=λ_ _ _ H _ I h=>Constant_bool ⟨.bl b,H,I,rfl,h⟩
theorem Z94{j pos}:PE X (.Constant .none j pos) (tC .non):=λ_ _ _ H _ I h=>Constant_none ⟨.non,H,I,rfl,h⟩
theorem Z8t{x j pos}:PE X (.Constant (.str x) j pos) (tC (.str x)):=λ_ _ _ H _ I h=>Calls.Constant_str ⟨.str x,H,I.tok _,⟨_,rfl⟩,h⟩
def Gl(X:Cx)(x:Str):Prop:=X.env.kindOf x=YB .globalImplicit
theorem Zt6{E:Xf->Xg->Prop}{pins:List (YG×Obj)}{s:Xg}{O:St}{H:Hp}{x:Str}{u:Xf}{pos:Pos}{Q:Xf->Xg->Prop}(I:Inv X pins O H s)(hg:Gl X x)(hm:X.mg x=YB u)(h:Q u s)
  (hd:(x==("__debug__" : Str))=YF:=by decide):XX (Qi X.prog X.w) X.A (eval (.Name x pos) X.env) Q E s :=
 Calls.Name_function_global I.ok.kind hg (Calls.loadGlobal_global (by rw[I.ok.glob];exact I.mod.glob.keeps I.bk) hm h) hd
theorem Zg5{E:Xf->Xg->Prop}{pins:List (YG×Obj)}{s:Xg}{O:St}{H:Hp}{x:Str}{u:Xf}{pos:Pos}{Q:Xf->Xg->Prop}(I:Inv X pins O H s)(hg:Gl X x)(hm:X.mg x=YC)(hv:Qk x=YB u)(h:Q u s)
  (hn:x≠"__name__" :=by decide) (hd:(x==("__debug__" : Str))=YF:=by decide):XX (Qi X.prog X.w) X.A (eval (.Name x pos) X.env) Q E s:=by
 obtain⟨mb,h1,h2⟩:=I.mod.blt;exact Calls.Name_function_global I.ok.kind hg (Calls.loadGlobal_builtin (by rw[I.ok.glob];exact I.mod.glob.keeps I.bk) hm (by rw[I.ok.blt];exact h1.keeps I.bk) ((h2 x hn).trans hv) h) hd
theorem Z64{x:Str}{v:V}{u:Xf}{pos:Pos}(hg:Gl X x)(hm:X.mg x=YB u)(r:RelV v u)(hd:(x==("__debug__" : Str))=YF:=by decide):PE X (.Name x pos) (tC v) :=
 λ_ _ _ H _ I h=>Zt6 I hg hm ⟨v,H,I,r,h⟩ hd
theorem Z4v{x:Str}{v:V}{u:Xf}{pos:Pos}(hg:Gl X x)(hm:X.mg x=YC)(hv:Qk x=YB u)(r:RelV v u)(hn:x≠"__name__" :=by decide)(hd:(x==("__debug__" : Str))=YF:=by decide):PE X (.Name x pos) (tC v) :=
 λ_ _ _ H _ I h=>Zg5 I hg hm hv ⟨v,H,I,r,h⟩ hn hd
def t2I(ta tb:TE)(k:Int->Int->Hp->Prop):St->Hp->Prop:=λO H=>ta O H λx H1=>tb O H1 λy H2=>∃i j,x= .int i/\y= .int j/\k i j H2
variable {a b:YJ}{ta tb:TE}{pos:Pos}
def Z7o(p:Int->Int->Bool)(ta tb:TE):TE:=λO H Q=>t2I ta tb (λi j H2=>Q (.bl (p i j)) H2) O H
abbrev tLt:TE->TE->TE:=Z7o λi j=>decide (i<j)
abbrev tLe:TE->TE->TE:=Z7o λi j=>decide (i<=j)
abbrev tGt:TE->TE->TE:=Z7o λi j=>decide (j<i)
abbrev tGe:TE->TE->TE:=Z7o λi j=>decide (j<=i)
abbrev Ylv:TE->TE->TE:=Z7o λi j=>decide (i=j)
abbrev Ylt:TE->TE->TE:=Z7o λi j=>!decide (i=j)
def tB(t:TE):TT:=λO H Q=>t O H λx H1=>∃c,x= .bl c/\Q c H1
variable {tA tB':TT}{rest:List YJ}
def Yla(t u:TT):TT:=λO H Q=>t O H λc H1=>if c=YD then u O H1 Q else Q YF H1
def tOr(t u:TT):TT:=λO H Q=>t O H λc H1=>if c=YD then Q YD H1 else u O H1 Q
def Yk3(t:TT):TT:=λO H Q=>t O H λc H1=>Q (!c) H1
theorem Z30(ha:PT X a tA):PW X (.BoolOp .And [a] pos) tA:=by
 intro wh pins s O H Q I h;refine isTrue_and (thn (ha pins s O H Q I h) λc s1 e=>?_);cases c with
 | true=>exact isTrue_and_nil e
 | false=>exact e
theorem Ybs(ha:PT X a tA):PW X (.BoolOp .Or [a] pos) tA:=by
 intro wh pins s O H Q I h;refine isTrue_or (thn (ha pins s O H Q I h) λc s1 e=>?_);cases c with
 | false=>exact isTrue_or_nil e
 | true=>exact e
theorem Z8r(ha:PT X a tA)(hb:PW X (.BoolOp .And (b::rest) pos) tB'):PW X (.BoolOp .And (a::b::rest) pos) (Yla tA tB'):=by
 intro wh pins s O H Q I h;refine isTrue_and (thn (ha pins s O H _ I h) λc s1 qz9=>?_);obtain⟨H1,I1,q1⟩:=qz9;cases c with
 | true=>exact hb wh pins s1 O H1 Q I1 q1
 | false=>exact⟨H1,I1,q1⟩
theorem Ygh(ha:PT X a tA)(hb:PW X (.BoolOp .Or (b::rest) pos) tB'):PW X (.BoolOp .Or (a::b::rest) pos) (tOr tA tB'):=by
 intro wh pins s O H Q I h;refine isTrue_or (thn (ha pins s O H _ I h) λc s1 qz9=>?_);obtain⟨H1,I1,q1⟩:=qz9;cases c with
 | true=>exact⟨H1,I1,q1⟩
 | false=>exact hb wh pins s1 O H1 Q I1 q1
theorem Z9y(ha:PT X a tA):PT X (.UnaryOp .Not a pos) (Yk3 tA):=by
 intro pins s O H Q I h;exact isTrue_not (ha pins s O H (λc H1=>Q (!c) H1) I h)
def Ygd(ta tb:TE):TE:=λO H Q=>ta O H λx H1=>∃c,x= .bl c/\if c=YD then tb O H1 Q else Q (.bl YF) H1
def Yd3(ta:TE):TE:=λO H Q=>ta O H λx H1=>∃c,x= .bl c/\Q (.bl (!c)) H1
theorem Yb1{op}{t:TE}(h:PE X a t):PE X (.BoolOp op [a] pos) t:=λpins s O H Q I hw=>BoolOp_one (h pins s O H Q I hw)
theorem Ycd(ha:PE X a ta)(hb:PE X (.BoolOp .And (b::rest) pos) tb):PE X (.BoolOp .And (a::b::rest) pos) (Ygd ta tb):=by
 intro pins s O H Q I h;refine BoolOp_and (thn (ha pins s O H _ I h) λv s1 qz9=>?_);obtain⟨x,H1,I1,r1,q1⟩:=qz9;obtain⟨c,rfl,q1⟩:=q1;cases r1;refine V9 ?_;cases c with
 | true=>exact hb pins s1 O H1 Q I1 q1
 | false=>exact⟨.bl YF,H1,I1,rfl,q1⟩
theorem Z8d(ha:PE X a ta):PE X (.UnaryOp .Not a pos) (Yd3 ta):=by
 intro pins s O H Q I h;refine UnaryOp_ (thn (ha pins s O H _ I h) λv s1 qz9=>?_);obtain⟨x,H1,I1,r1,q1⟩:=qz9;obtain⟨c,rfl,q1⟩:=q1;cases r1;exact not_of (V9 ⟨.bl (!c),H1,I1,rfl,q1⟩)
def tIf(t:TT)(ta tb:TE):TE:=λO H Q=>t O H λc H1=>if c=YD then ta O H1 Q else tb O H1 Q
theorem Zzj{c:YJ}(hc:PT X c tA)(ha:PE X a ta)(hb:PE X b tb):PE X (.IfExp c a b pos) (tIf tA ta tb):=by
 intro pins s O H Q I h;refine wpAny_IfExp (thn (hc pins s O H _ I h) λd s1 qz9=>?_);obtain⟨H1,I1,q1⟩:=qz9;cases d with
 | true=>exact ha pins s1 O H1 Q I1 q1
 | false=>exact hb pins s1 O H1 Q I1 q1
end
def SqL(K:Xc)(H:Hp)(a:YG)(xs:List V):Prop :=
 Rd H a (.lst xs)\/
  ∃(o:Obj) (its:Array Xf) (n:Nat),K.lookup a=YB o/\o.cls= .type "list"/\o.dict=YC/\o.data= .seq its n/\its.size<=Xv/\Vals xs its.toList
def SqT(K:Xc)(H:Hp)(a:YG)(xs:List V):Prop :=
 Rd H a (.tup xs)\/
  ∃(o:Obj) (its:Array Xf) (n:Nat),K.lookup a=YB o/\o.cls= .type "tuple"/\o.data= .seq its n/\its.size<=Xv/\Vals xs its.toList
def Ylc:Xf->Option V
 | .none=>YB .non
 | .bool b=>YB (.bl b)
 | .int i _=>YB (.int i)
 | .str x _=>YB (.str x)
 | .bytes b _=>YB (.byt b)
 | .float b _=>YB (.flt b)
 | .ref a=>YB (.ref a)
 | .type n=>YB (.ty n)
 | _=>YC
theorem RelV.abs{x:V}{u:Xf}(r:RelV x u):Ylc u=YB x:=by
 cases x with
 | non=>cases r;rfl
 | bl _=>cases r;rfl
 | int _=>obtain⟨t,rfl⟩:=r;rfl
 | str _=>obtain⟨t,rfl⟩:=r;rfl
 | byt _=>obtain⟨t,rfl⟩:=r;rfl
 | flt _=>obtain⟨t,rfl⟩:=r;rfl
 | ref _=>cases r;rfl
 | ty _=>cases r;rfl
theorem RelV.inj{x y:V}{u:Xf}(r:RelV x u)(q:RelV y u):x=y:=QD (r.abs.symm.trans q.abs)
theorem Vals.inj{xs ys:List V}{us:List Xf}(h:Vals xs us)(k:Vals ys us):xs=ys:=by
 induction h generalizing ys with
 | nil=>cases k;rfl
 | cons r t ih=>
  cases k with
  | cons r' t'=>rw[r.inj r',ih t']
section
variable {X:Cx}{pins:List (YG×Obj)}{O:St}{H:Hp}{s:Xg}{a:YG}{xs ys:List V}
theorem Inv.list(I:Inv X pins O H s)(h:SqL X.K H a xs):∃its:List Xf,Vals xs its/\PlainL s.heap a its.toArray/\xs.length<=Xv:=by
 rcases h with h|⟨o,its,n,hk,hc,hd,hs,hz,r⟩
 .obtain⟨z,its,n,r,e⟩:=h.ok I.hok
  exact⟨its,r,⟨_,n,e,rfl,rfl,rfl⟩,z⟩
 .refine⟨its.toList,r,⟨o,n,I.kIn a o hk,hc,hd,by simpa using hs⟩,?_⟩
  have e:=r.length;simp only[BZ]at e;omega
theorem Inv.tuple(I:Inv X pins O H s)(h:SqT X.K H a xs):∃its:List Xf,Vals xs its/\IsTup s.heap a its.toArray/\xs.length<=Xv:=by
 rcases h with h|⟨o,its,n,hk,hc,hs,hz,r⟩
 .obtain⟨z,its,r,p⟩:=h.ok I.hok
  exact⟨its,r,p,z⟩
 .refine⟨its.toList,r,⟨o,I.kIn a o hk,hc,n,by simpa using hs⟩,?_⟩
  have e:=r.length;simp only[BZ]at e;omega
theorem Inv.list_inj(I:Inv X pins O H s)(h:SqL X.K H a xs)(h':SqL X.K H a ys):xs=ys:=by
 obtain⟨its,r,⟨o,n,e,_,_,d⟩,_⟩:=I.list h;obtain⟨its',r',⟨o',n',e',_,_,d'⟩,_⟩:=I.list h';rw[e]at e';cases e';rw[d]at d';injection d' with d1 _;have:its=its':=by simpa using YT Array.toList d1
 subst this;exact r.inj r'
end
abbrev Cx.wish(X:Cx)(E:Xf->Xg->Prop):Cx:={ X with xe:=E }
abbrev Cx.nox(X:Cx):Cx:=X.wish λ_ _=>False
theorem Cx.Ok.wish{X:Cx}(ok:X.Ok)(E:Xf->Xg->Prop):(X.wish E).Ok :=
 ⟨ok.mod,ok.kind,ok.glob,ok.blt,ok.above,ok.inj,ok.has,ok.cab,ok.hd,ok.frames,ok.stk,ok.exf,ok.bs,ok.bsz,ok.noex,ok.exfs,ok.funs,ok.frf⟩
theorem Cx.Ok.unwish{X:Cx}{E:Xf->Xg->Prop}(ok:(X.wish E).Ok):X.Ok :=
 ⟨ok.mod,ok.kind,ok.glob,ok.blt,ok.above,ok.inj,ok.has,ok.cab,ok.hd,ok.frames,ok.stk,ok.exf,ok.bs,ok.bsz,ok.noex,ok.exfs,ok.funs,ok.frf⟩
section
variable {X:Cx}{pins:List (YG×Obj)}{O:St}{H:Hp}{s:Xg}{E:Xf->Xg->Prop}
theorem Inv.wish(I:Inv X pins O H s)(E:Xf->Xg->Prop):Inv (X.wish E) pins O H s:=⟨I.ok.wish E,I.os,I.bare,I.base,I.loc,I.cell,I.free,I.freeC,I.pin,I.hok,I.len⟩
theorem Inv.unwish(I:Inv (X.wish E) pins O H s):Inv X pins O H s:=⟨I.ok.unwish,I.os,I.bare,I.base,I.loc,I.cell,I.free,I.freeC,I.pin,I.hok,I.len⟩
theorem SP.unwish{D:Ends}{f:Flow}{s':Xg}(h:SP (X.wish E) pins D f s'):SP X pins D f s':=by
 cases f with
 | next=>obtain⟨O',H',I,q⟩:=h;exact⟨O',H',I.unwish,q⟩
 | brk=>obtain⟨O',H',I,q⟩:=h;exact⟨O',H',I.unwish,q⟩
 | cont=>obtain⟨O',H',I,q⟩:=h;exact⟨O',H',I.unwish,q⟩
 | ret u=>obtain⟨v,O',H',I,r,q⟩:=h;exact⟨v,O',H',I.unwish,r,q⟩
theorem PSs.nox{st:List YK}{t:TS}(h:PSs X.nox st t):PSs X st t:=λpins s O H D I hw=>
 Vd (h pins s O H D (I.wish _) hw) (λ_ _ q=>q.unwish) λ_ _ z=>V4 z
end
section
variable {X:Cx}{st:YK}{rest:List YK}{t u:TS}{e:YJ}{te:TE}{pos:Pos}
def Yfs:TS:=λD O H=>D.nx O H
def Ykh(t u:TS):TS:=λD O H=>t { D with nx:=u D } O H
theorem Z4q:PSs X [] Yfs:=λ_ _ O H _ I h=>wpAny_execs_nil ⟨O,H,I,h⟩
theorem Zzp(h1:PS X st t)(h2:PSs X rest u):PSs X (st::rest) (Ykh t u):=by
 intro pins s O H D I h;refine wpAny_execs_cons (thn (h1 pins s O H { D with nx:=u D } I h) λf s1 q=>?_);cases f with
 | next=>
  obtain⟨O',H',I',q⟩:=q;exact h2 pins s1 O' H' D I' q
 | ret v=>exact q
 | brk=>exact q
 | cont=>exact q
theorem Z57(h1:PS X st t):PSs X [st] t:=by
 intro pins s O H D I h;refine wpAny_execs_cons (thn (h1 pins s O H D I h) λf s1 q=>?_);cases f with
 | next=>exact wpAny_execs_nil q
 | ret v=>exact q
 | brk=>exact q
 | cont=>exact q
theorem Inv.quiet{pins:List (YG×Obj)}{O:St}{H:Hp}{s:Xg}(I:Inv X pins O H s):interactive X.env=YF:=by simp[interactive,I.ok.kind]
def Yet(te:TE):TS:=λD O H=>te O H λ_ H1=>D.nx O H1
theorem Zsh(he:PE X e te)(hs:VL e YC pos.line X.env=pure YF:=by rfl):PS X (.Expr e pos) (Yet te):=by
 intro pins s O H D I h;refine wpAny_Expr_any (thn (he pins s O H _ I h) λv s1 qz9=>?_) I.quiet hs;obtain⟨x,H1,I1,r1,q1⟩:=qz9;exact⟨O,H1,I1,q1⟩
def Yji(te:TE):TS:=λD O H=>te O H D.rt
theorem Z0l(he:PE X e te):PS X (.Return (YB e) pos) (Yji te):=by
 intro pins s O H D I h;refine wpAny_Return_some (thn (he pins s O H _ I h) λv s1 qz9=>?_);obtain⟨x,H1,I1,r1,q1⟩:=qz9;exact⟨x,O,H1,I1,r1,q1⟩
def Yju(c:TT)(t u:TS):TS:=λD O H=>c O H λb H1=>if b=YD then t D O H1 else u D O H1
theorem Ygp{c:YJ}{a b:List YK}{tc:TT}(hc:PT X c tc)(ha:PSs X a t)(hb:PSs X b u):PS X (.If c a b pos) (Yju tc t u):=by
 intro pins s O H D I h;refine wpAny_If (thn (hc pins s O H _ I h) λd s1 qz9=>?_);obtain⟨H1,I1,q1⟩:=qz9;cases d with
 | true=>exact ha pins s1 O H1 D I1 q1
 | false=>exact hb pins s1 O H1 D I1 q1
def Yb5:TS:=λ_ _ _=>False
theorem Zxu:PS X st Yb5:=λ_ _ _ _ _ _ h=>h.elim
end
abbrev TG:=V->St->Hp->(St->Hp->Prop)->Prop
abbrev TGs:=List V->St->Hp->(St->Hp->Prop)->Prop
def PG(X:Cx)(target:YJ)(t:TG):Prop :=
 ∀(pins:List (YG×Obj)) (s:Xg) (O:St) (H:Hp) (v:V) (u:Xf) (Q:St->Hp->Prop),Inv X pins O H s->RelV v u->t v O H Q ->
  XX (Qi X.prog X.w) X.A (assign target X.env u) (λ_ s'=>∃O' H',Inv X pins O' H' s'/\Q O' H') X.xe s
def PGs(X:Cx)(ts:List YJ)(t:TGs):Prop :=
 ∀(pins:List (YG×Obj)) (s:Xg) (O:St) (H:Hp) (vs:List V) (us:List Xf) (Q:St->Hp->Prop),Inv X pins O H s->Vals vs us->t vs O H Q ->
  XX (Qi X.prog X.w) X.A (assignInOrder ((Bf ts X.env).map (·.2)) us) (λ_ s'=>∃O' H',Inv X pins O' H' s'/\Q O' H') X.xe s
abbrev Ygk:=V->V->V->Hp->(Hp->Prop)->Prop
def Yg6(X:Cx)(t:Ygk):Prop :=
 ∀(pins:List (YG×Obj)) (s:Xg) (O:St) (H:Hp) (o i v:V) (ov iv u:Xf) (Q:Hp->Prop),Inv X pins O H s->RelV o ov->RelV i iv->RelV v u->t o i v H Q ->
  XX (Qi X.prog X.w) X.A (setItem ov iv u) (λ_ s'=>∃H',Inv X pins O H' s'/\Q H') X.xe s
abbrev TIp:=V->V->Hp->VK->Prop
section
variable {X:Cx}{pos:Pos}
def Zuj(i:Nat):TG:=λv O H Q=>Q (O.set i (YB v)) H
theorem Z4g{i:Nat}{x:Str}(hN:X.N.Nodup)(hi:X.N[i]? =YB x)(hx:Loc X.env.scope x)(hf:X.fn x=YD\/X.env.scope.names.lookup x=YB .local:=by first|exact .inl rfl|exact .inr rfl|assumption):PG X (.Name x pos) (Zuj i):=by
 intro pins s O H v u Q I r h;exact wpAny_assign_Name (Zpu I hN hi hx r (λs' I'=>⟨_,H,I',h⟩) hf)
def Yjr:TGs:=λvs O H Q=>vs=[]/\Q O H
def Yex(t:TG)(u:TGs):TGs:=λvs O H Q=>∃v r,vs=v::r/\t v O H λO' H'=>u r O' H' Q
theorem Z42:PGs X [] Yjr:=by
 intro pins s O H vs us Q I r h;obtain⟨e,h⟩:=h;subst e;cases r;exact assignInOrder_nil ⟨O,H,I,h⟩
theorem Zyg{e:YJ}{es:List YJ}{t:TG}{u:TGs}(h1:PG X e t)(h2:PGs X es u)
  (hs:(Bf (e::es) X.env).map (·.2)=assign e X.env::(Bf es X.env).map (·.2):=by rfl):PGs X (e::es) (Yex t u):=by
 intro pins s O H vs us Q I r h;obtain⟨v,vr,e1,h⟩:=h;subst e1;cases r with
 | cons r rr=>
  rw[hs];refine assignInOrder_cons (thn (h1 pins s O H _ _ _ I r h) λ_ s1 qz9=>?_);obtain⟨O1,H1,I1,q1⟩:=qz9;exact h2 pins s1 O1 H1 _ _ Q I1 rr q1
def Ylh(K:Xc)(n:Nat)(t:TGs):TG:=λv O H Q=>∃a xs,v= .ref a/\SqT K H a xs/\xs.length=n/\t xs O H Q
theorem Ybu{es:List YJ}{k:Nat}{t:TGs}{n:Nat}(hc:X.calm=YD)(h:PGs X es t)
  (hn:(Bf es X.env).length=n:=by rfl) (hst:(Bf es X.env).findIdx? (·.1)=YC:=by rfl):PG X (.Tuple es k pos) (Ylh X.K n t):=by
 intro pins s O H v u Q I r hw;obtain⟨a,xs,e1,hq,hl,hw⟩:=hw;subst e1;cases r;obtain⟨its,rv,ht,hz⟩:=I.tuple hq;refine assign_Tuple_tuple (I.ok.hd hc) ht (by simp[hn,<-hl,rv.length]) hst λh' hx=>?_;have I1:Inv X pins O H { s with heap:=h' }:=I.kept (t':=s.toks) λb o e=>hx b o (Xz (XD e)) e;exact h pins _ O H xs _ Q I1 (by simpa using rv) hw
def Yhd(to ti:TE)(t:Ygk):TG:=λv O H Q=>to O H λo H1=>ti O H1 λi H2=>t o i v H2 λH3=>Q O H3
theorem Z8x{o i:YJ}{to ti:TE}{t:Ygk}(ho:PE X o to)(hi:PE X i ti)(hs:Yg6 X t)
  (ha:∀v,assign (.Subscript o i pos) X.env v=(do
   let ov<-holding [v] (eval o X.env)
   let iv<-holding [v,ov] (eval i X.env)
   standAt pos
   holding [v,ov,iv] (setItem ov iv v)
   release [v,ov,iv] []):=by intro _;rfl):PG X (.Subscript o i pos) (Yhd to ti t):=by
 intro pins s O H v u Q I r h;rw[ha];refine Xd (VD (thn (ho pins s O H _ I h) λov s1 qz9=>?_));obtain⟨x,H1,I1,r1,q1⟩:=qz9;refine Xd (VD (thn (hi pins s1 O H1 _ I1 q1) λiv s2 qz9=>?_));obtain⟨y,H2,I2,r2,q2⟩:=qz9;refine Xd (wpAny_standAt (Xd (VD (thn (hs pins s2 O H2 x y v ov iv u _ I2 r1 r2 r q2) λ_ s3 qz9=>?_))));obtain⟨H3,I3,q3⟩:=qz9;exact wpAny_release ⟨O,H3,I3,q3⟩
def Yaz(te:TE)(g:TG):TS:=λD O H=>te O H λx H1=>g x O H1 D.nx
theorem Ya0{tg e:YJ}{te:TE}{g:TG}(he:PE X e te)(hg:PG X tg g)(hs:swapsWithSole [tg] e pos.line X.env=pure YF:=by rfl)(hw:swappedStores [tg] e X.env=pure YC:=by rfl)
  (h1:(Bf [tg] X.env).map (·.2)=[assign tg X.env]:=by rfl):PS X (.Assign [tg] e pos) (Yaz te g):=by
 intro pins s O H D I h;refine wpAny_Assign_stores (thn (he pins s O H _ I h) λv s1 qz9=>?_) hs hw;obtain⟨x,H1,I1,r1,q1⟩:=qz9;rw[h1];exact thn (hg pins s1 O H1 x v _ I1 r1 q1) λ_ s2 q=>q
theorem Z1u{i:Nat}{x:Str}{e:YJ}{te:TE}{pos':Pos}(hN:X.N.Nodup)(hi:X.N[i]? =YB x)(hx:Loc X.env.scope x)(he:PE X e te)(hs:VL e (YB (.Name x pos')) pos.line X.env=pure YF:=by rfl)(hf:X.fn x=YD\/X.env.scope.names.lookup x=YB .local:=by first|exact .inl rfl|exact .inr rfl|assumption) :
  PS X (.Assign [.Name x pos'] e pos) (Yaz te (Zuj i)):=by
 intro pins s O H D I h;refine wpAny_Assign_Name (thn (he pins s O H _ I h) λv s1 qz9=>?_) hs;obtain⟨y,H1,I1,r1,q1⟩:=qz9;exact Zpu I1 hN hi hx r1 (λs2 I2=>⟨_,H1,I2,q1⟩) hf
end
section
variable {X:Cx}{pos:Pos}
def Z86(c:TT)(tb:TS):TS:=λD O H=>∃W:Nat->St->Hp->Prop,(∃m,W m O H)/\∀m O H,W m O H ->
 c O H λb H1=>if b=YD then∃N:St->Hp->Prop,(∀O' H',N O' H'->∃m',m'<m/\W m' O' H')/\tb { D with nx:=N,ct:=N,bk:=D.nx } O H1 else D.nx O H1
theorem Zxc{c:YJ}{body:List YK}{tc:TT}{tb:TS}(hp:PassesOwn (Qi X.prog X.w) X.A X.env X.xe)(hc:PT X c tc)(hb:PSs X body tb):PS X (.While c body [] pos) (Z86 tc tb):=by
 intro pins s O H D I h;obtain⟨W,⟨m0,w0⟩,turn⟩:=h;refine wpAny_While (codeAny_whileLoop (λn s'=>∃O' H',Inv X pins O' H' s'/\W n O' H') ?_ m0 ⟨O,H,I,w0⟩);rintro n s1 ⟨O1,H1,I1,w1⟩;refine V2 hp (thn (hc pins s1 O1 H1 _ I1 (turn n O1 H1 w1)) λb s2 qz9=>?_);obtain⟨H2,I2,q2⟩:=qz9;cases b with
 | true=>
  obtain⟨N,hN,q2⟩:=q2;rw[YL rfl];refine V2 hp (thn (hb pins s2 O1 H2 _ I2 q2) λf s3 q3=>?_);cases f with
  | next=>
   obtain⟨O3,H3,I3,n3⟩:=q3;obtain⟨m',hm,w3⟩:=hN O3 H3 n3;exact⟨m',hm,O3,H3,I3,w3⟩
  | cont=>
   obtain⟨O3,H3,I3,n3⟩:=q3;obtain⟨m',hm,w3⟩:=hN O3 H3 n3;exact⟨m',hm,O3,H3,I3,w3⟩
  | brk=>exact q3
  | ret v=>exact q3
 | false=>
  rw[YM Xn];exact wpAny_execs_nil ⟨O1,H2,I2,q2⟩
end
set_option genInjectivity false in
structure It where
 go:Nat->Hp->Prop
 yld:Nat->Hp->V->Hp->Prop
 stop:Nat->Hp->Prop
def Zjl(X:Cx)(pins:List (YG×Obj))(H:Hp)(b:YG):Prop :=
 H b=YC/\b≠X.env.locals/\b∉X.fs/\(b∈X.ex\/X.s₀.heap.objs.size<=b)/\(∀x c,X.env.cells.lookup x=YB c->c≠b)/\∀p∈X.pn++pins,p.1≠b
theorem Inv.fpOk{X:Cx}{pins:List (YG×Obj)}{O:St}{H H':Hp}{s:Xg}{b:YG}(I:Inv X pins O H s)(hb:s.heap.objs.size<=b)(hn:H' b=YC):Zjl X pins H' b:=by
 refine⟨hn,X6 (Qp I.lt hb),I.nofs hb,.inr (QB I.sz hb),λx c e z=>?_,λp hp z=>?_⟩
 .obtain⟨v,q⟩:=I.cell x c e
  exact YX (Qp q.lt (by rw[z];exact hb)) (Vw _)
 .exact YX (Qp (XD (I.pin p hp).1) (by rw[z];exact hb)) (Vw _)
structure Turn(P:X5)(w:Qu)(K:Xc)(tg:YJ)(J:It)(fp:List YG)(it:YG)(tn:Nat->YH->Prop):Prop where
 mem:it∈fp
 obj:∀i h,tn i h->∀b∈fp,∃o,h.get? b=YB o/\∀v,o.data≠ .cell v
 keep:∀i h h',tn i h->(∀b∈fp,∀o,h.get? b=YB o->h'.get? b=YB o)->tn i h'
 item:∀(X:Cx),X.prog=P->X.w=w->X.K=K->X.calm=YD->∀(i:Nat) (pins:List (YG×Obj)) (s:Xg) (O:St) (H:Hp) (E:Xf->Xg->Prop),Inv X pins O H s->(∀b∈fp,Zjl X pins H b)->tn i s.heap->J.go i H ->
  XX (Qi P w) X.A (pyNext (.ref it)) (λr s1=>∃u,r=YB u/\
   XX (Qi P w) X.A (Uw tg (.ref it) u) (λ_ s2=>∃x H',Inv X pins O H' s2/\RelV x u/\J.yld i H x H'/\tn (i+1) s2.heap/\∀b∈fp,H' b=YC) E s1) E s
 done:∀(X:Cx),X.prog=P->X.w=w->X.K=K->X.calm=YD->∀(i:Nat) (pins:List (YG×Obj)) (s:Xg) (O:St) (H:Hp) (E:Xf->Xg->Prop),Inv X pins O H s->(∀b∈fp,Zjl X pins H b)->tn i s.heap->J.stop i H ->
  XX (Qi P w) X.A (pyNext (.ref it)) (λr s1=>r=YC/\Inv X pins O H s1) E s
 self:∀(A:Qv) (i:Nat) (s:Xg) (Q:Xf->Xg->Prop) (E:Xf->Xg->Prop),tn i s.heap->Q (.ref it) s->XX (Qi P w) A (pyIter (.ref it)) Q E s
abbrev TI:=St->Hp->(It->Hp->Prop)->Prop
def PIE(X:Cx)(pins:List (YG×Obj))(O:St)(tg:YJ)(R:It->Hp->Prop)(itv:Xf)(s2:Xg):Prop :=
 ∃(it:YG) (fp:List YG) (tn:Nat->YH->Prop) (J:It) (H':Hp),itv= .ref it/\Inv X pins O H' s2/\Turn X.prog X.w X.K tg J fp it tn/\tn 0 s2.heap/\(∀b∈fp,Zjl X pins H' b)/\R J H'
def PI(X:Cx)(tg iter:YJ)(wi:TI):Prop :=
 ∀(pins:List (YG×Obj)) (s:Xg) (O:St) (H:Hp) (R:It->Hp->Prop),Inv X pins O H s->wi O H R ->
  XX (Qi X.prog X.w) X.A (eval iter X.env) (λv s1=>XX (Qi X.prog X.w) X.A (pyIter v) (PIE X pins O tg R) X.xe s1) X.xe s
theorem Yby{M:Model}{A:Qv}{E:Xf->Xg->Prop}{s:Xg}{tg:YJ}{it:YG}{u:Xf}{o:Obj}{n:String}{vs:Array Xf}{Q:Unit->Xg->Prop}(ho:s.heap.get? it=YB o)(hc:o.cls= .type n)(hd:o.data= .fields vs)
  (hn:["enumerate","zip","dict_itemiterator","dict_reverseitemiterator","odict_iterator","itertools.zip_longest","itertools.pairwise"].contains n=YF) (hQ:Q () s):XX M A (Uw tg (.ref it) u) Q E s:=by
 unfold Uw;cases tg<;>first
  | exact Xy hQ
  | (cases u<;>first
    | exact Xy hQ
    | (refine Xd (wpAny_load ho ?_)
       rw[hc,hd];show XX M A (if(["enumerate","zip","dict_itemiterator","dict_reverseitemiterator","odict_iterator","itertools.zip_longest","itertools.pairwise"].contains n&&vs[0]? ==YB (rawInt _))=YD then _ else _) Q E s;rw[YM (by intro h;rw[hn,Bool.false_and]at h;cases h)];exact Xy hQ))
def Itl(K:Xc)(a:YG):It :=
 ⟨λi H=>∃xs x,SqL K H a xs/\xs[i]? =YB x,λi H x H'=>H'=H/\∀xs,SqL K H a xs->xs[i]? =YB x,λi H=>∃xs,SqL K H a xs/\xs.length<=i⟩
def Itr(lo:Int)(n:Nat):It:=⟨λi _=>i<n,λi H x H'=>H'=H/\x= .int (lo+i),λi _=>n<=i⟩
theorem Zu6{P:X5}{w:Qu}{K:Xc}{tg:YJ}(a it:YG):Turn P w K tg (Itl K a) [it] it (λi h=>h.IsListIter it a i) where
 mem:=by simp
 obj:=λi h st b hb=>by
  have e:b=it:=by simpa using hb
  subst e;obtain⟨o,e,c,d⟩:=st;exact⟨o,e,λv z=>by rw[d]at z;cases z⟩
 keep:=λi h h' st k=>st.at λo e=>k it (by simp) o e
 item:=by
  intro X hP hw hK hc i pins s O H E I hf st hg;subst hP hw hK;obtain⟨xs,x,hq,hx⟩:=hg;obtain⟨its,rv,p,hz⟩:=I.list hq;obtain⟨u,hu,ru⟩:=rv.get hx;obtain⟨f0,f1,f2,f3,f4,f5⟩:=hf it (by simp);refine wpAny_pyNext_list_item st p.isList (x:=u) (by simpa using hu) λh' st' sb=>?_;have I1:Inv X pins O H { s with heap:=h' }:=I.turned (t':=s.toks) (λb o hb e=>(sb.2 b hb).trans e) f0 f1 f3 f4 f5;obtain⟨o,e,c,d⟩:=id st';exact⟨u,rfl,Yby (s:={ s with heap:=h' }) e c d (by decide) ⟨x,H,I1,ru,⟨rfl,λys hy=>by rw[I.list_inj hy hq];exact hx⟩,st',λb hb=>(hf b hb).1⟩⟩
 done:=by
  intro X hP hw hK hc i pins s O H E I hf st hg;subst hP hw hK;obtain⟨xs,hq,hx⟩:=hg;obtain⟨its,rv,p,hz⟩:=I.list hq;obtain⟨f0,f1,f2,f3,f4,f5⟩:=hf it (by simp);have hl:=rv.length;exact wpAny_pyNext_list_end (I.ok.hd hc) st p.isList (by simp;omega) λh' eb=>⟨rfl,I.turned (t':=s.toks) (λb o hb e=>eb b o hb e) f0 f1 f3 f4 f5⟩
 self:=λ_ _ _ _ _ st h=>wpAny_pyIter_listiter st h
theorem Zqp{P:X5}{w:Qu}{K:Xc}{tg:YJ}(it:YG)(lo:Int)(n:Nat):Turn P w K tg (Itr lo n) [it] it (λi h=>IsRangeIter h it (lo+(i:Nat)*1) ((n:Int)-(i:Nat)) 1) where
 mem:=by simp
 obj:=λi h st b hb=>by
  have e:b=it:=by simpa using hb
  subst e;exact⟨_,st,λv z=>by
   have z':Data.fields _=Data.cell v:=z;cases z'⟩
 keep:=λi h h' st k=>k it (by simp) _ st
 item:=by
  intro X hP hw hK hc i pins s O H E I hf st hg;subst hP hw hK;obtain⟨f0,f1,f2,f3,f4,f5⟩:=hf it (by simp);have W:=Walks.range (prog:=X.prog) (w:=X.w) (I.ok.hd hc) it lo 1 n;refine W.item i s _ _ hg st λv h' tk hv st' kk=>?_;obtain⟨t,rfl⟩:=hv;have I1:Inv X pins O H { s with heap:=h',toks:=tk }:=I.turned (λb o hb e=>kk b o (by simpa using hb) e) f0 f1 f3 f4 f5;refine⟨_,rfl,Yby (s:={ s with heap:=h',toks:=tk }) (n :="range_iterator") st' rfl rfl (by decide) ⟨.int (lo+i),H,I1,⟨t,?_⟩,⟨rfl,rfl⟩,st',λb hb=>(hf b hb).1⟩⟩;rw[Int.mul_one]
 done:=by
  intro X hP hw hK hc i pins s O H E I hf st hg;subst hP hw hK;obtain⟨f0,f1,f2,f3,f4,f5⟩:=hf it (by simp);exact wpAny_pyNext_range_end (I.ok.hd hc) st (by have:n<=i:=hg;omega) λh' eb=>⟨rfl,I.turned (t':=s.toks) (λb o hb e=>eb b o hb e) f0 f1 f3 f4 f5⟩
 self:=λ_ _ _ _ _ st h=>wpAny_pyIter_rangeiter st h
end L2
open PySem PySem.Spec L2
variable {a:YG}{X:Cx}{e tg iter:YJ}{h h':YH}{H H' H1 H2:Hp}{lo:Int}{pins:List (YG×Obj)}{ch:List YG}{es:List YJ}{body:List YK}{N:List Str}{xs ys:List V}{us:List Xf}{M:Model}{i t' j:Nat}{pos pos':Pos}{w:Qu}{A:Qv}{st:YK}{x:Str}{ta tb te to:TE}{α β:Type}{v:V}{P:X5}{K:Xc}{u:Xf}{E Q:Xf->Xg->Prop}{s s':Xg}
namespace L2
open PySem PySem.Spec PyProof.Rows
def Z98(K:Xc)(tl:TE):TI:=λO H R=>tl O H λx H1=>∃a,x= .ref a/\(∃xs,SqL K H1 a xs)/\R (Itl K a) H1
theorem Z6s{l:YJ}{tl:TE}(hl:PE X l tl):PI X tg l (Z98 X.K tl):=by
 intro pins s O H R I h;refine thn (hl pins s O H _ I h) λv s1 qz9=>?_;obtain⟨x,H1,I1,r1,q1⟩:=qz9;obtain⟨a,e,⟨xs,hq⟩,q⟩:=q1;subst e;cases r1;obtain⟨its,rv,p,hz⟩:=I1.list hq;refine wpAny_pyIter_list p.isList ?_;refine⟨s1.heap.objs.size,[s1.heap.objs.size],_,_,H1,rfl,I1.kept (t':=s1.toks) λb o e=>Xk _ e,Zu6 a _,⟨_,XN _ rfl,rfl,rfl⟩,λb hb=>?_,q⟩;have e:b=s1.heap.objs.size:=by simpa using hb
 subst e;exact I1.fpOk (XJ _) (I1.hok.fresh (XJ _))
theorem Zn7{O:St}{R:It->Hp->Prop}{hi:Int}{t u v:Tok}{tk:Nat}(I:Inv X pins O H s)(h1:-(2^62)<=lo)(h2:lo<2^62)(h3:-(2^62)<=hi)(h4:hi<2^62)
  (q:R (Itr lo (hi-lo).toNat) H):XX (Qi X.prog X.w) X.A (pyIter (.ref s.heap.objs.size)) (PIE X pins O tg R) E { s with heap:=s.heap.push { cls:=.type "range",data:=.fields #[.int lo t,.int hi u,.int 1 v] },toks:=tk }:=by
 refine wpAny_pyIter_range (IsRange.new ..) (small_one h1 h2 h3 h4) ?_;have I1:Inv X pins O H { s with heap:=s.heap.push { cls:=.type "range",data:=.fields #[.int lo t,.int hi u,.int 1 v] },toks:=tk }:=I.kept λb o e=>Xk _ e;refine⟨(s.heap.push { cls:=.type "range",data:=.fields #[.int lo t,.int hi u,.int 1 v] }).objs.size,[(s.heap.push { cls:=.type "range",data:=.fields #[.int lo t,.int hi u,.int 1 v] }).objs.size],_,_,H,rfl,
  I1.kept (t':=tk) λb o e=>Xk _ e,Zqp _ lo (hi-lo).toNat,?_,λb hb=>?_,q⟩
 .have e1:lo+((0:Nat):Int)*1=lo:=by simp
  have e2:(((hi-lo).toNat:Nat):Int)-((0:Nat):Int)=Builtin.Range.rangeSize lo hi 1:=by rw[rangeSize_one];split<;>omega
  show IsRangeIter _ _ (lo+((0:Nat):Int)*1) ((((hi-lo).toNat:Nat):Int)-((0:Nat):Int)) 1;rw[e1,e2];exact XN _ rfl
 .have e:b=(s.heap.push { cls:=.type "range",data:=.fields #[.int lo t,.int hi u,.int 1 v] }).objs.size:=by simpa using hb
  subst e;exact I1.fpOk (XJ _) (I1.hok.fresh (XJ _))
def Yfi(ta:TA):TI:=λO H R=>ta O H λvs H1=>∃j:Int,vs=[.int j]/\-(2^62)<=j/\j<2^62/\R (Itr 0 j.toNat) H1
def Ydy(ta:TA):TI:=λO H R=>ta O H λvs H1=>∃i j:Int,vs=[.int i,.int j]/\(-(2^62)<=i/\i<2^62/\-(2^62)<=j/\j<2^62)/\R (Itr i (j-i).toNat) H1
theorem Zta{a:YJ}{ta:TA}{p:Pos}(hg:Gl X "range")(hm:X.mg "range"=YC)(ha:PA X [a] ta)(hs:Xq [a] X.env=[(YF,eval a X.env)]:=by rfl):PI X tg (.Call (.Name "range" p) [a] [] pos) (Yfi ta):=by
 intro pins s O H R I h;refine Call_ (Zg5 I hg hm boot_range (BP (thn (ha pos pins s O H _ I h) λus s1 qz9=>?_) hs rfl));obtain⟨vs,H1,I1,r1,q1⟩:=qz9;obtain⟨j,e,q1,q2,q⟩:=q1;subst e;cases r1 with
 | cons r rr=>
  cases rr;obtain⟨t,rfl⟩:=r;exact call_range_1 (Zn7 I1 (by omega) (by omega) q1 q2 (by simpa using q))
theorem Zvo{a b:YJ}{ta:TA}{p:Pos}(hg:Gl X "range")(hm:X.mg "range"=YC)(ha:PA X [a,b] ta)(hs:Xq [a,b] X.env=[(YF,eval a X.env),(YF,eval b X.env)]:=by rfl)(hs2:Xq [b] X.env=[(YF,eval b X.env)]:=by rfl) :
  PI X tg (.Call (.Name "range" p) [a,b] [] pos) (Ydy ta):=by
 intro pins s O H R I h;refine Call_ (Zg5 I hg hm boot_range (BP (thn (ha pos pins s O H _ I h) λus s1 ⟨vs,H1,I1,r1,q1⟩=>?_) (by rw[hs,hs2]) (by rw[hs2];rfl)));obtain⟨i,j,e,⟨q1,q2,q3,q4⟩,q⟩:=q1;subst e;cases r1 with
 | cons r rr=>
  cases rr with
  | cons r' rr=>
   cases rr;obtain⟨t,rfl⟩:=r;obtain⟨t',rfl⟩:=r';exact call_range_2 (Zn7 I1 q1 q2 q3 q4 q)
def Yko(wi:TI)(g:TG)(tb:TS):TS:=λD O H=>wi O H λJ H1=>∃W:Nat->Nat->St->Hp->Prop,(∃m,W 0 m O H1)/\∀i m O H,W i m O H ->
 (J.stop i H/\D.nx O H)\/(J.go i H/\∃N:St->Hp->Prop,(∀O' H',N O' H'->∃m',m'<m/\W (i+1) m' O' H')/\∀x H',J.yld i H x H'->g x O H' λO2 H2=>tb { D with nx:=N,ct:=N,bk:=D.nx } O2 H2)
def Zl3(fp:List YG)(h:YH):List (YG×Obj):=fp.filterMap λb=>(h.get? b).map λo=>(b,o)
theorem Zdb{fp:List YG}{b:YG}{o:Obj}(hb:b∈fp)(e:h.get? b=YB o):(b,o)∈Zl3 fp h:=List.mem_filterMap.mpr ⟨b,hb,by rw[e];rfl⟩
theorem Zvw{fp:List YG}{p:YG×Obj}(hp:p∈Zl3 fp h):p.1∈fp/\h.get? p.1=YB p.2:=by
 obtain⟨b,hb,e⟩:=List.mem_filterMap.mp hp;cases q:h.get? b with
 | none=>rw[q]at e;cases e
 | some o=>
  rw[q]at e;have e':(b,o)=p:=QD e;subst e';exact⟨hb,q⟩
theorem Inv.pinned{O:St}{fp:List YG}(I:Inv X pins O H s)(hf:∀b∈fp,Zjl X pins H b)(ho:∀b∈fp,∃o,s.heap.get? b=YB o/\∀v,o.data≠ .cell v):Inv X (pins++Zl3 fp s.heap) O H s :=
 I.pins_of λp hp=>(Qo.mp hp).elim (λz=>I.pin p (QF _ z)) λz=>by
  obtain⟨hb,e⟩:=Zvw z;obtain⟨f0,f1,f2,_⟩:=hf p.1 hb;obtain⟨o,e',d⟩:=ho p.1 hb;rw[e]at e';cases e';exact⟨e,f0,f1,f2,d⟩
theorem Inv.unpinned{pl:List (YG×Obj)}{O:St}(I:Inv X (pins++pl) O H s):Inv X pins O H s:=I.pins_of λp hp=>I.pin p (QF _ (Vq _ hp))
theorem Z9w{wi:TI}{g:TG}{tb:TS}(hp:PassesOwn (Qi X.prog X.w) X.A X.env X.xe)(hc:X.calm=YD)(hi:PI X tg iter wi)(hg:PG X tg g)(hb:PSs X body tb)
  (hs:∀x,Bv iter X.env x=pure x:=by intro _;rfl):PS X (.For tg iter body [] pos) (Yko wi g tb):=by
 intro pins s O H D I h;refine wpAny_For (thn (hi pins s O H _ I h) λv s1 h1=>thn h1 λitv s2 h2=>?_) hs;obtain⟨it,fp,tn,J,H2,e,I2,T,st2,f2,W,⟨m0,w0⟩,turn⟩:=h2;subst e
 -- what stays YD of the iterator's objects through the loop
 have stat:∀{H':Hp},(∀b∈fp,H' b=YC)->∀b∈fp,Zjl X pins H' b:=λhn b hb=>⟨hn b hb,(f2 b hb).2⟩;refine codeAny_forLoop_any (λn s'=>∃i O' H',Inv X pins O' H' s'/\tn i s'.heap/\(∀b∈fp,H' b=YC)/\W i n O' H') ?_ m0 ⟨0,O,H2,I2,st2,λb hb=>(f2 b hb).1,w0⟩;rintro n s3 ⟨i,O3,H3,I3,st3,fr3,w3⟩;rcases turn i n O3 H3 w3 with⟨stop,qn⟩|⟨go,N,hN,step⟩
 .refine V2 hp (thn (T.done X rfl rfl rfl hc i pins s3 O3 H3 X.xe I3 (stat fr3) st3 stop) λr s4 qz9=>?_)
  obtain⟨hr,I4⟩:=qz9;subst hr;exact wpAny_execs_nil ⟨O3,H3,I4,qn⟩
 .refine V2 hp (thn (T.item X rfl rfl rfl hc i pins s3 O3 H3 X.xe I3 (stat fr3) st3 go) λr s4 qz9=>?_)
  obtain⟨u,hr,h4⟩:=qz9;subst hr;refine V2 hp (thn h4 λ_ s5 qz9=>?_);obtain⟨x,H5,I5,r5,y5,st5,fr5⟩:=qz9;have I5':=I5.pinned (stat fr5) (T.obj _ _ st5);refine V2 hp (thn (hg _ s5 O3 H5 x u _ I5' r5 (step x H5 y5)) λ_ s6 qz9=>?_);obtain⟨O6,H6,I6,q6⟩:=qz9;refine V2 hp (thn (hb _ s6 O6 H6 _ I6 q6) λf s7 q7=>?_);have again:∀{O7:St} {H7:Hp},Inv X (pins++Zl3 fp s5.heap) O7 H7 s7->N O7 H7->∃m,m<n/\∃i O' H',Inv X pins O' H' s7/\tn i s7.heap/\(∀b∈fp,H' b=YC)/\W i m O' H':=fun{O7 H7} I7 n7=>by
   obtain⟨m',hm,w7⟩:=hN O7 H7 n7;refine⟨m',hm,i+1,O7,H7,I7.unpinned,T.keep _ _ _ st5 λb hb o e=>(I7.pin (b,o) (QF _ (QF _ (Zdb hb e)))).1,λb hb=>?_,w7⟩;obtain⟨o,e,d⟩:=T.obj _ _ st5 b hb;exact(I7.pin (b,o) (QF _ (QF _ (Zdb hb e)))).2.1
  cases f with
  | next=>obtain⟨O7,H7,I7,n7⟩:=q7;exact again I7 n7
  | cont=>obtain⟨O7,H7,I7,n7⟩:=q7;exact again I7 n7
  | brk=>obtain⟨O7,H7,I7,q7⟩:=q7;exact⟨O7,H7,I7.unpinned,q7⟩
  | ret v=>obtain⟨x7,O7,H7,I7,r7,q7⟩:=q7;exact⟨x7,O7,H7,I7.unpinned,r7,q7⟩
abbrev R2:=V->V->Hp->VK->Prop
def OpR(X:Cx)(f:Xf->Xf->Sem Xf)(r:R2):Prop :=
 ∀(pins:List (YG×Obj)) (s:Xg) (O:St) (H:Hp) (x y:V) (v u:Xf) (Q:VK),Inv X pins O H s->RelV x v->RelV y u->r x y H Q ->
  XX (Qi X.prog X.w) X.A (f v u) (EP X pins O Q) X.xe s
def UnR(X:Cx)(f:Xf->Sem Xf)(r:V->Hp->VK->Prop):Prop :=
 ∀(pins:List (YG×Obj)) (s:Xg) (O:St) (H:Hp) (x:V) (v:Xf) (Q:VK),Inv X pins O H s->RelV x v->r x H Q ->
  XX (Qi X.prog X.w) X.A (f v) (EP X pins O Q) X.xe s
def Zar(X:Cx)(f:Xf)(r:List V->Hp->VK->Prop):Prop :=
 ∀(pins:List (YG×Obj)) (s:Xg) (O:St) (H:Hp) (xs:List V) (us:List Xf) (Q:VK),Inv X pins O H s->Vals xs us->r xs H Q ->
  XX (Qi X.prog X.w) X.A (call f us) (EP X pins O Q) X.xe s
def Yj2(X:Cx)(r:V->Hp->(Bool->Hp->Prop)->Prop):Prop :=
 ∀(pins:List (YG×Obj)) (s:Xg) (O:St) (H:Hp) (x:V) (v:Xf) (Q:Bool->Hp->Prop),Inv X pins O H s->RelV x v->r x H Q ->
  XX (Qi X.prog X.w) X.A (truthy v) (TP X pins O Q) X.xe s
def tOp(r:R2)(ta tb:TE):TE:=λO H Q=>ta O H λx H1=>tb O H1 λy H2=>r x y H2 Q
def tUn(r:V->Hp->VK->Prop)(ta:TE):TE:=λO H Q=>ta O H λx H1=>r x H1 Q
def rI(C:Int->Int->Prop)(g:Int->Int->V):R2:=λx y H Q=>∃i j,x= .int i/\y= .int j/\C i j/\Q (g i j) H
def rI0(g:Int->Int->V):R2:=λx y H Q=>∃i j,x= .int i/\y= .int j/\Q (g i j) H
def rU(g:Int->V):V->Hp->VK->Prop:=λx H Q=>∃i,x= .int i/\Q (g i) H
section
variable {a b c:YJ}{tc:TE}
theorem Yew(ha:PE X a ta)(hb:PE X b tb){O:St}{R:V->V->Hp->Prop}(I:Inv X pins O H s)
  (h:ta O H λx H1=>tb O H1 λy H2=>R x y H2)  {f:Xf->Xf->Sem Xf}
  (hf:∀v u s2 x y H2,Inv X pins O H2 s2->RelV x v->RelV y u->R x y H2->XX (Qi X.prog X.w) X.A (f v u) Q X.xe s2) :
  XX (Qi X.prog X.w) X.A (eval a X.env) (λv s₁=>XX (Qi X.prog X.w) X.A (eval b X.env) (λu s₂=>XX (Qi X.prog X.w) X.A (f v u) Q X.xe s₂) X.xe s₁) X.xe s:=by
 refine thn (ha pins s O H _ I h) λv s1 qz9=>?_;obtain⟨x,H1,I1,r1,q1⟩:=qz9;refine thn (hb pins s1 O H1 _ I1 q1) λu s2 qz9=>?_;obtain⟨y,H2,I2,r2,q2⟩:=qz9;exact hf v u s2 x y H2 I2 r1 r2 q2
theorem Z3s{op:Operator}{r:R2}(ho:OpR X (VM op) r)(ha:PE X a ta)(hb:PE X b tb):PE X (.BinOp a op b pos) (tOp r ta tb):=by
 intro pins s O H Q I h;exact wpAny_BinOp (Yew ha hb I h λv u s2 x y H2 I2 rx ry q=>ho pins s2 O H2 x y v u Q I2 rx ry q)
theorem Yez{op:UnaryOp}{r:V->Hp->VK->Prop}(ho:UnR X (unaryOp op) r)(ha:PE X a ta):PE X (.UnaryOp op a pos) (tUn r ta):=by
 intro pins s O H Q I h;refine UnaryOp_ (thn (ha pins s O H _ I h) λv s1 qz9=>?_);obtain⟨x,H1,I1,r1,q1⟩:=qz9;exact ho pins s1 O H1 x v Q I1 r1 q1
theorem opI{f:Xf->Xf->Sem Xf}{C:Int->Int->Prop}{g:Int->Int->Int}
  (rule:∀(i j:Int) (t u:Tok) (s:Xg) (Q:Xf->Xg->Prop) (E:Xf->Xg->Prop),C i j->Q (.int (g i j) s.toks) { s with toks:=s.toks+1 }->XX (Qi X.prog X.w) X.A (f (.int i t) (.int j u)) Q E s) :
  OpR X f (rI C λi j=>.int (g i j)):=by
 intro pins s O H x y v u Q I rx ry h;obtain⟨i,j,rfl,rfl,hc,q⟩:=h;obtain⟨t,rfl⟩:=rx;obtain⟨t',rfl⟩:=ry;exact rule i j t t' s _ _ hc ⟨.int (g i j),H,I.tok _,⟨_,rfl⟩,q⟩
theorem Yhe{f:Xf->Xf->Sem Xf}{g:Int->Int->Int}
  (rule:∀(i j:Int) (t u:Tok) (s:Xg) (Q:Xf->Xg->Prop) (E:Xf->Xg->Prop),Q (.int (g i j) s.toks) { s with toks:=s.toks+1 }->XX (Qi X.prog X.w) X.A (f (.int i t) (.int j u)) Q E s) :
  OpR X f (rI0 λi j=>.int (g i j)):=by
 intro pins s O H x y v u Q I rx ry h;obtain⟨i,j,rfl,rfl,q⟩:=h;obtain⟨t,rfl⟩:=rx;obtain⟨t',rfl⟩:=ry;exact rule i j t t' s _ _ ⟨.int (g i j),H,I.tok _,⟨_,rfl⟩,q⟩
theorem Yc6{f:Xf->Xf->Sem Xf}{g:Int->Int->Bool}
  (rule:∀(i j:Int) (t u:Tok) (s:Xg) (Q:Xf->Xg->Prop) (E:Xf->Xg->Prop),Q (.bool (g i j)) s->XX (Qi X.prog X.w) X.A (f (.int i t) (.int j u)) Q E s) :
  OpR X f (rI0 λi j=>.bl (g i j)):=by
 intro pins s O H x y v u Q I rx ry h;obtain⟨i,j,rfl,rfl,q⟩:=h;obtain⟨t,rfl⟩:=rx;obtain⟨t',rfl⟩:=ry;exact rule i j t t' s _ _ ⟨.bl (g i j),H,I,rfl,q⟩
def Yc3(i j:Int):Prop:=0<=j/\j<=1000000/\i.natAbs<2^64
def CMul(i j:Int):Prop:=(-(2^64)<i/\i<2^64)\/(-(2^64)<j/\j<2^64)
theorem CMul.ok{i j:Int}(h:CMul i j):IntMulOk i j:=by
 rcases h with⟨h1,h2⟩|⟨h1,h2⟩
 .exact .of_left (intBits_le_64 h1 h2)
 .exact .of_right (intBits_le_64 h1 h2)
theorem Ya9:OpR X (VM .Add) (rI0 λi j=>.int (i+j)):=Yhe λ_ _ _ _ _ _ _ q=>add_int q
theorem Ybd:OpR X (VM .Sub) (rI0 λi j=>.int (i-j)):=Yhe λ_ _ _ _ _ _ _ q=>sub_int q
theorem Z4s:OpR X (VM .Mod) (rI (λ_ j=>j≠0) λi j=>.int (i.fmod j)):=opI λ_ _ _ _ _ _ _ hc q=>mod_int' hc q
theorem Z9a:OpR X (VM .Pow) (rI Yc3 λi j=>.int (i^j.toNat)):=opI λ_ _ _ _ _ _ _ hc q=>pow_int_small hc.1 hc.2.1 hc.2.2 q
theorem unI{f:Xf->Sem Xf}{g:Int->Int}
  (rule:∀(i:Int) (t:Tok) (s:Xg) (Q:Xf->Xg->Prop) (E:Xf->Xg->Prop),Q (.int (g i) s.toks) { s with toks:=s.toks+1 }->XX (Qi X.prog X.w) X.A (f (.int i t)) Q E s) :
  UnR X f (rU λi=>.int (g i)):=by
 intro pins s O H x v Q I rx h;obtain⟨i,rfl,q⟩:=h;obtain⟨t,rfl⟩:=rx;exact rule i t s _ _ ⟨.int (g i),H,I.tok _,⟨_,rfl⟩,q⟩
theorem Z8v:UnR X (unaryOp .USub) (rU λi=>.int (-i)):=unI λ_ _ _ _ _ q=>neg_int q
end
section
variable {a b c:YJ}{tc:TE}
theorem Z82{O:St}{Q:VK}{k k':Bool}(I:Inv X pins O H s)(q:Q (.bl k) H)(e:k=k'):EP X pins O Q (.bool k') s:=by
 subst e;exact⟨.bl k,H,I,rfl,q⟩
theorem Z0a:OpR X (Bj .Lt) (rI0 λi j=>.bl (decide (i<j))):=Yc6 λ_ _ _ _ _ _ _ q=>lt_int q
theorem Yaq:OpR X (Bj .LtE) (rI0 λi j=>.bl (decide (i<=j))):=Yc6 λ_ _ _ _ _ _ _ q=>le_int q
theorem Ya5:OpR X (Bj .Gt) (rI0 λi j=>.bl (decide (j<i))):=Yc6 λ_ _ _ _ _ _ _ q=>gt_int q
theorem Yfx:OpR X (Bj .GtE) (rI0 λi j=>.bl (decide (j<=i))):=Yc6 λ_ _ _ _ _ _ _ q=>ge_int q
theorem Zr0:OpR X (Bj .IsNot) (λx y H Q=>y= .non/\Q (.bl (!decide (x= .non))) H):=by
 intro pins s O H x y v u Q I rx ry h;obtain⟨rfl,q⟩:=h;cases ry;refine isnot_none_gen (Z82 I q ?_);cases x<;>first
  | (cases rx;rfl)
  | (obtain⟨t,rfl⟩:=rx;rfl)
theorem Jy(b:YJ){op:CmpOp}(h:op≠ .In:=by decide)(h2:op≠ .NotIn:=by decide):behindInMarks op b=YF:=by
 have e1:(op==CmpOp.In)=YF:=by cases op<;>first|rfl|exact YX rfl h
 have e2:(op==CmpOp.NotIn)=YF:=by cases op<;>first|rfl|exact YX rfl h2
 cases b<;>simp[behindInMarks,e1,e2]
theorem Z68{op:CmpOp}{r:R2}(ho:OpR X (Bj op) r)(ha:PE X a ta)(hb:PE X b tb)(hm:behindInMarks op b=YF):PE X (.Compare a [op] [b] pos) (tOp r ta tb):=by
 intro pins s O H Q I h;exact wpAny_Compare1 (Yew ha hb I h λv u s2 x y H2 I2 rx ry q=>ho pins s2 O H2 x y v u Q I2 rx ry q) hm
def Z78(t:TE):TT:=λO H Q=>t O H λx H'=>∃k,x= .bl k/\Q k H'
theorem Z4m{op:CmpOp}{r:R2}(ho:OpR X (Bj op) r)(ha:PE X a ta)(hb:PE X b tb)(hm:behindInMarks op b=YF):PT X (.Compare a [op] [b] pos) (Z78 (tOp r ta tb)):=by
 intro pins s O H Q I h;refine wpAny_isTrue_Compare1 (thn (ha pins s O H _ I h) λv s1 ⟨x,H1,I1,r1,q1⟩=>thn (hb pins s1 O H1 _ I1 q1) λu s2 ⟨y,H2,I2,r2,q2⟩=>
  thn (ho pins s2 O H2 x y v u _ I2 r1 r2 q2) λc s3 ⟨z,H3,I3,r3,k,e,q3⟩=>?_) hm
 subst e;cases r3;exact V9 ⟨H3,I3,q3⟩
def Z0x(r r':R2)(ta tb tc:TE):TE:=λO H Q=>ta O H λx H1=>tb O H1 λy H2=>r x y H2 λz H3=>∃k,z= .bl k/\
 (if k=YD then tc O H3 λw' H4=>r' y w' H4 Q else Q (.bl YF) H3)
theorem Zyc{op op':CmpOp}{r r':R2}(ho:OpR X (Bj op) r)(ho':OpR X (Bj op') r')(ha:PE X a ta)(hb:PE X b tb)(hc:PE X c tc)
  (hm:lastMarks [op,op'] [b,c]=YF:=by with_unfolding_all rfl):PE X (.Compare a [op,op'] [b,c] pos) (Z0x r r' ta tb tc):=by
 intro pins s O H Q I h;refine Compare_chain (thn (ha pins s O H _ I h) λv s1 ⟨x,H1,I1,r1,q1⟩=>chain_link (thn (hb pins s1 O H1 _ I1 q1) λu s2 ⟨y,H2,I2,r2,q2⟩=>
  thn (ho pins s2 O H2 x y v u _ I2 r1 r2 q2) λd s3 ⟨z,H3,I3,r3,k,e,q3⟩=>?_)) hm
 subst e;cases r3;refine V9 ?_;cases k with
 | false=>exact ite_ff ⟨.bl YF,H3,I3,rfl,q3⟩
 | true=>exact ite_tt (chain_last (thn (hc pins s3 O H3 _ I3 q3) λw' s4 ⟨z',H4,I4,r4,q4⟩=>ho' pins s4 O H4 y z' u w' Q I4 r2 r4 q4))
def Yer(K:Xc)(x:V)(H:Hp)(k:Bool):Prop :=
 match x with
 | .non=>k=YF
 | .bl b=>k=b
 | .int i=>k=(i !=0)
 | .str y=>y.length<=Xv/\k=((y.length:Int) !=0)
 | .byt y=>y.size<=Xv/\k=((y.size:Int) !=0)
 | .ref p=>(∃xs,SqL K H p xs/\k= !xs.isEmpty)\/(∃xs,SqT K H p xs/\k= !xs.isEmpty)\/∃kvs,H p=YB (.dK kvs)/\k= !kvs.isEmpty
 | _=>False
theorem Zq6{κ:Type}{kvs:List (κ×V)}{vs:List (κ×Xf)}(r:KV kvs vs):(!vs.isEmpty)= !kvs.isEmpty:=by
 cases r<;>rfl
theorem Zin{its:List Xf}(r:Vals xs its):(!its.toArray.isEmpty)= !xs.isEmpty:=by
 cases r<;>simp
theorem Zi0:(Xv:Nat)<2^63:=by rw[Qh];decide
theorem Z87:Yj2 X (λx H Q=>∃k,Yer X.K x H k/\Q k H):=by
 intro pins s O H x v Q I rx h;obtain⟨k,e,q⟩:=h;have hl:=Zi0;have hs:Xv=16777216:=Qh;cases x with
 | non=>
  cases rx;have e':k=YF:=e;subst e';exact truthy_none ⟨H,I,q⟩
 | bl b=>
  cases rx;have e':k=b:=e;subst e';exact V9 ⟨H,I,q⟩
 | int i=>
  obtain⟨t,rfl⟩:=rx;have e':k=(i !=0):=e;subst e';exact PySem.P.truthy_int ⟨H,I,q⟩
 | str y=>
  obtain⟨t,rfl⟩:=rx;obtain⟨hy,e'⟩:y.length<=Xv/\k=((y.length:Int) !=0):=e;subst e';exact PySem.P.truthy_str (by omega) ⟨H,I.tok _,q⟩
 | byt y=>
  obtain⟨t,rfl⟩:=rx;obtain⟨hy,e'⟩:y.size<=Xv/\k=((y.size:Int) !=0):=e;subst e';exact PySem.W.truthy_bytes (by omega) ⟨H,I.tok _,q⟩
 | ref p=>
  cases rx;have e':(∃xs,SqL X.K H p xs/\k= !xs.isEmpty)\/(∃xs,SqT X.K H p xs/\k= !xs.isEmpty)\/∃kvs,H p=YB (.dK kvs)/\k= !kvs.isEmpty:=e;rcases e' with⟨xs,hx,e'⟩|⟨xs,hx,e'⟩|⟨kvs,hx,e'⟩
  .subst e'
   obtain⟨its,r,pl,hz⟩:=I.list hx;have hlen:=r.length;exact wpAny_truthy_list pl.isList (by simp only[Xx];omega) ⟨H,I.tok _,by rw[Zin r];exact q⟩
  .subst e'
   obtain⟨its,r,pl,hz⟩:=I.tuple hx;have hlen:=r.length;exact truthy_tuple pl (by simp only[Xx];omega) ⟨H,I.tok _,by rw[Zin r];exact q⟩
  .subst e'
   obtain⟨hz,hS,vs,r,m⟩:kvs.length<=Xv/\(p==VF)=YF/\∃vs,KV kvs vs/\s.heap.DictOf (Wj X.prog X.w) p vs:=I.hok p _ hx;have hlen:kvs.length=vs.length:=Paired.length r;exact wpAny_truthy_dict hS m (by omega) ⟨H,I.tok _,by rw[Zq6 r];exact q⟩
 | _=>exact(show False from e).elim
theorem Zzl(ha:PE X a ta)(he:∀whole,isTrue a X.env whole=(do let v<-whole;standAt a.pos;holding [v] (truthy v))) :
  PT X a (λO H Q=>ta O H λx H'=>∃k,Yer X.K x H' k/\Q k H'):=by
 intro pins s O H Q I h;refine isTrue_plain (thn (ha pins s O H _ I h) λv s1 qz9=>?_) (he _);obtain⟨x,H1,I1,r1,q1⟩:=qz9;exact Z87 pins s1 O H1 x v Q I1 r1 q1
theorem vals1{x:V}{us:List Xf}(r:Vals [x] us):∃u,us=[u]/\RelV x u:=by
 cases r with
 | cons r1 r2=>cases r2;exact⟨_,rfl,r1⟩
theorem vals2{x y:V}(r:Vals [x,y] us):∃u w',us=[u,w']/\RelV x u/\RelV y w':=by
 cases r with
 | cons r1 r2=>
  cases r2 with
  | cons r3 r4=>cases r4;exact⟨_,_,rfl,r1,r3⟩
theorem Zj9:Zar X (.builtin "abs") (λxs H Q=>∃i,xs=[.int i]/\Q (.int (if i<0 then -i else i)) H):=by
 intro pins s O H xs us Q I r h;obtain⟨i,rfl,q⟩:=h;obtain⟨u,rfl,t,rfl⟩:=vals1 r;exact call_abs_int λu tk=>⟨.int (if i<0 then -i else i),H,I.tok _,⟨_,rfl⟩,q⟩
theorem Zk4(hc:X.calm=YD):Zar X (.builtin "min") (λxs H Q=>∃i j,xs=[.int i,.int j]/\Q (.int (if j<i then j else i)) H):=by
 intro pins s O H xs us Q I r h;obtain⟨i,j,rfl,q⟩:=h;obtain⟨u,w',rfl,⟨t,rfl⟩,⟨t',rfl⟩⟩:=vals2 r;refine min_two_ints (I.ok.hd hc) λh' tk k=>⟨_,H,I.kept k,?_,q⟩
 by_cases hj:j<i
 .rw[YL hj,YL hj];exact⟨_,rfl⟩
 .rw[YM hj,YM hj];exact⟨_,rfl⟩
end
structure ObjM(h:YH)(x dx C:YG)(mA:Str->Option Xf):Prop where
 obj:h.get? x=YB (PySem.W.instObj C dx)
 ns:h.Ns1 dx mA
 ne:dx≠x
theorem Ztl{dx:YG}{mA:Str->Option Xf}(n:h.Ns1 dx mA):∃od,h.get? dx=YB od/\∀name,PySem.W.lookIn name od=YB (mA name):=by
 obtain⟨o,es,ep,ho,hd,hk,_,hm⟩:=n;refine⟨o,ho,λname=>?_⟩;have e:=hm name;unfold nsFind findBy at e;rw[<-Array.find?_toList]at e;unfold PySem.W.lookIn;rw[hd];dsimp only;split
 .rename_i y q
  rw[q]at e;exact YT YB e
 .rename_i q
  rw[q]at e;have a:es.toList.any (·.refKey)=YF:=by
   rw[List.any_eq_false];intro y hy;obtain⟨z,t,hkey⟩:=hk y (Array.mem_toList_iff.mp hy);simp[DictEntry.refKey,hkey]
  have a':¬es.toList.any (·.refKey)=YD:=by rw[a];exact Xn
  rw[YM a'];exact YT YB e
theorem ObjM.look{x dx C:YG}{mA:Str->Option Xf}(I:ObjM h x dx C mA):∃od,PySem.W.InstAt h x (PySem.W.instObj C dx) C (YB od)/\∀name,PySem.W.lookIn name od=YB (mA name) :=
 let⟨od,ho,hl⟩:=Ztl I.ns
 ⟨od,⟨I.obj,rfl,rfl,ho⟩,hl⟩
section
variable {prog:X5}{x dx C f:YG}{mA:Str->Option Xf}{name:Str}{v:Xf}
end
section
variable {C dx:YG}{fs fs':List (Str×V)}
theorem Z2v(hok:HOk P w H h)(e:H a=YB (.ins C dx fs)):∃mA,ObjM h a dx C mA/\(∀f,RelO (fs.lookup f) (mA f))/\PySem.Within mA (fs.map (·.1))/\fs.length<=1000/\H dx=YB (.own a):=by
 obtain⟨d,z,ne,ob,mA,n,r,q⟩:=(show ObjOk P w H h a (.ins C dx fs)from hok a _ e);exact⟨mA,⟨ob,n,ne⟩,r,q,z,d⟩
end
structure Cls(K:Xc)(C:YG):Prop where
 pg:PySem.W.plainGet K C Str.empty=YD
 hd:PySem.W.hasDictIn K C=YD
 po:PySem.W.plainOver K C=YD
 sa:Vv K (.ref C) "__setattr__"=YB (YB (.builtin "object.__setattr__"))
theorem Cls.get{C:YG}(c:Cls K C)(f:Str):PySem.W.plainGet K C f=YD:=c.pg
structure Con(K:Xc)(C:YG)(f:Str)(v:V)(u:Xf):Prop where
 at_:Vv K (.ref C) f=YB (YB u)
 rel:RelV v u
 get:PySem.W.specialIn K u "__get__"=YB YC
 cp:PySem.W.copiedNames.contains f=YF
structure Meth(K:Xc)(C:YG)(m:Str)(f:YG):Prop where
 at_:Vv K (.ref C) m=YB (YB (.ref f))
 fn:PySem.W.isFn K (.ref f)=YD
 kp:Vf K (.ref f)=YD
section
variable {O:St}{C dx:YG}{fs:List (Str×V)}{f:Str}
end
section
variable {o value:YJ}{f:Str}{tpos:Pos}{tv:TE}
end
section
variable {O:St}{c:Xf}{b:Bool}
inductive Zru(K:Xc)(H:Hp):V->Xf->Prop where
 | non:Zru K H .non (.type "NoneType")
 | bl (x:Bool):Zru K H (.bl x) (.type "bool")
 | int (i:Int):Zru K H (.int i) (.type "int")
 | str (x:Str):Zru K H (.str x) (.type "str")
 | flt (x:UInt64):Zru K H (.flt x) (.type "float")
 | lst {a:YG} {xs:List V} (e:H a=YB (.lst xs)):Zru K H (.ref a) (.type "list")
 | frz {a:YG} {o:Obj} {xs:List V} (e:H a=YB (.frz o (.lst xs))):Zru K H (.ref a) (.type "list")
 | tup {a:YG} {xs:List V} (e:H a=YB (.tup xs)):Zru K H (.ref a) (.type "tuple")
 | dK {a:YG} {kvs:List (Key×V)} (e:H a=YB (.dK kvs)):Zru K H (.ref a) (.type "dict")
 | dT {a:YG} {kvs:List (List Key×V)} (e:H a=YB (.dT kvs)):Zru K H (.ref a) (.type "dict")
 | ins {a C dx:YG} {fs:List (Str×V)} (e:H a=YB (.ins C dx fs)) (cl:Cls K C) (ha:Vv K (.ref C) "__class__"=YB (YB (.builtin "object.__class__")))
   (hn:PySem.W.specialIn K (.builtin "object.__class__") "__get__"=YB (YB (.builtin "getset_descriptor.__get__"))) (htk:PySem.W.takesIn K (.builtin "object.__class__")=YB YD)
   (hm:PySem.W.mroIn K C (.type "object")=YB YD):Zru K H (.ref a) (.ref C)
theorem Zap{x:V}{t:Xf}(I:Inv X pins O H s)(rx:RelV x u)(ty:Zru X.K H x t)(e:Vu X.K t c=YB b)(h:∀tk,Q (.bool b) { s with toks:=tk }) :
  XX (Qi X.prog X.w) A (call (.builtin "isinstance") [u,c]) Q E s:=by
 cases ty with
 | non=>cases(show u=QH from rx);exact JC PySem.W.kitx_none I.kIn V6 e (λz=>nomatch z) h
 | bl y=>cases(show u=Value.bool y from rx);exact JC PySem.W.kitx_bool I.kIn V6 e (λz=>nomatch z) h
 | int i=>obtain⟨t,q⟩:=(show∃t,u=Value.int i t from rx);cases q;exact JC PySem.W.kitx_int I.kIn V6 e (λz=>nomatch z) h
 | str y=>obtain⟨t,q⟩:=(show∃t,u=Value.str y t from rx);cases q;exact JC PySem.W.kitx_str I.kIn V6 e (λz=>nomatch z) h
 | flt y=>obtain⟨t,q⟩:=(show∃t,u=Xf.float y t from rx);cases q;exact JC PySem.W.kitx_float I.kIn V6 e (λz=>nomatch z) h
 | @lst a xs ea=>
  cases(show u=Qq a from rx);obtain⟨_,_,n,_,h1⟩:=(show ObjOk X.prog X.w H s.heap a (.lst xs)from I.hok a _ ea);exact JC PySem.W.kitx_list I.kIn ⟨_,h1,rfl⟩ e (λz=>nomatch z) h
 | @frz a ob xs ea=>
  cases(show u=Qq a from rx);obtain⟨_,_,_,n,_,h1⟩:=(show ObjOk X.prog X.w H s.heap a (.frz ob (.lst xs))from I.hok a _ ea);exact JC PySem.W.kitx_list I.kIn ⟨_,h1,rfl⟩ e (λz=>nomatch z) h
 | @tup a xs ea=>
  cases(show u=Qq a from rx);obtain⟨_,_,_,p⟩:=(show ObjOk X.prog X.w H s.heap a (.tup xs)from I.hok a _ ea);obtain⟨o,h1,h2,_⟩:=p;exact JC PySem.W.kitx_tuple I.kIn ⟨o,h1,h2⟩ e (λz=>nomatch z) h
 | @dK a kvs ea=>
  cases(show u=Qq a from rx);obtain⟨_,_,vs,_,p⟩:=(show ObjOk X.prog X.w H s.heap a (.dK kvs)from I.hok a _ ea);obtain⟨o,es,ep,h1,h2,_⟩:=p;exact JC PySem.W.kitx_dict I.kIn ⟨o,h1,h2.1⟩ e (λz=>nomatch z) h
 | @dT a kvs ea=>
  cases(show u=Qq a from rx);obtain⟨_,_,xs,_,o,es,ep,h1,h2,_⟩:=(show ObjOk X.prog X.w H s.heap a (.dT kvs)from I.hok a _ ea);exact JC PySem.W.kitx_dict I.kIn ⟨o,h1,h2.1⟩ e (λz=>nomatch z) h
 | @ins a C dx fs ea cl ha hn htk hm=>
  cases(show u=Qq a from rx);obtain⟨mA,Oa,_⟩:=Z2v I.hok ea;obtain⟨od,J,_⟩:=Oa.look;exact JC (PySem.W.kitx_own (cl.get _) cl.hd ha hn htk hm) I.kIn J e (λz=>nomatch z) h
end
structure Room(k:Nat)(A:Qv):Prop where
 hd:A.handled=YC
 dp:A.depth+3*k+5<recursionLimit
 un:A.units+16*k+200<UV
theorem Room.mono{k:Nat}(r:Room k A)(h:j<=k):Room j A:=⟨r.hd,by have:=r.dp;omega,by have:=r.un;omega⟩
theorem Room.deeper{k:Nat}(r:Room (k+1) A)(env:Env):Room k (A.deeper env) :=
 ⟨r.hd,by have:=r.dp;show A.depth+1+3*k+5<_;omega,by have:=r.un;show A.units+3+16*k+200<_;omega⟩
theorem Room.depth{k:Nat}(r:Room k A):A.depth<recursionLimit:=by have:=r.dp;omega
theorem Room.units{k:Nat}(r:Room k A):A.units+64<UV:=by have:=r.un;omega
def Ykk:TA:=λ_ H Q=>Q [] H
def Yd4(ta:TE)(tr:TA):TA:=λO H Q=>ta O H λx H1=>tr O H1 λxs H2=>Q (x::xs) H2
section
variable {t:TA}
theorem Zeu:PA X [] Ykk:=λ_ _ _ _ H Q I h=>Calls.spliced_nil ⟨[],H,I,.nil,h⟩
theorem Za6(ha:PE X e te)(hr:PA X es t)(hs:Xq (e::es) X.env=(YF,eval e X.env)::Xq es X.env:=by rfl):PA X (e::es) (Yd4 te t):=by
 intro pos pins s O H Q I h;rw[hs];show XX _ _ (spliced ((YF,eval e X.env)::JK pos (Xq es X.env))) _ _ s;refine Calls.spliced_cons (thn (ha pins s O H _ I h) λu s1 qz9=>?_);obtain⟨x,H1,I1,r1,q1⟩:=qz9;refine thn (hr pos pins s1 O H1 _ I1 q1) λus s2 qz9=>?_;obtain⟨xs,H2,I2,r2,q2⟩:=qz9;exact⟨x::xs,H2,I2,.cons r1 r2,q2⟩
def Ylk(t:TA):TE:=λO H Q=>t O H λxs H1=>xs.length<=Xv/\∀p,H1 p=YC->Q (.ref p) (upd H1 p (.tup xs))
def Ykg(t:TA):TE:=λO H Q=>t O H λxs H1=>xs.length<=Xv/\∀p,H1 p=YC->Q (.ref p) (upd H1 p (.lst xs))
theorem Z88{x1}(h:PA X es t):PE X (.Tuple es x1 pos) (Ylk t):=by
 intro pins s O H Q I hq;refine wpAny_Tuple_spliced (thn (h pos pins s O H _ I hq) λus s1 ⟨xs,H1,I1,r,z,q⟩=>⟨by rw[<-r.length];exact z,?_⟩);have hf:H1 s1.heap.objs.size=YC:=I1.hok.fresh (XJ _);refine⟨.ref s1.heap.objs.size,upd H1 s1.heap.objs.size (.tup xs),I1.laid (t':=s1.toks) (λb u e=>Xk _ e) (XJ _) ?_,rfl,q _ hf⟩;exact⟨z,us,r,⟨_,XN _ rfl,rfl,_,rfl⟩⟩
theorem Z00(h:PA X es t):PE X (.List es pos) (Ykg t):=by
 intro pins s O H Q I hq;refine wpAny_List_spliced (thn (h pos pins s O H _ I hq) λus s1 ⟨xs,H1,I1,r,z,q⟩=>⟨by rw[<-r.length];exact z,?_⟩);have hf:H1 s1.heap.objs.size=YC:=I1.hok.fresh (XJ _);refine⟨.ref s1.heap.objs.size,upd H1 s1.heap.objs.size (.lst xs),I1.laid (t':=s1.toks) (λb u e=>Xk _ e) (XJ _) ?_,rfl,q _ hf⟩;exact⟨z,us,0,r,XN _ rfl⟩
end
abbrev Sp:=List V->Hp->VK->XK->Prop
abbrev CXT:=List Env->Hp->Xg->XK->Xf->Xg->Prop
structure Ydr(P:X5)(w:Qu)(K:Xc)(mg:Str->Option Xf)(base:YH)(A:Qv)(outer:List Env)(s:Xg)(H:Hp):Prop where
 frames:A.frames=YB outer
 mod:Mod K mg base
 bs:∀b o,base.get? b=YB o->s.heap.get? b=YB o/\H b=YC
 bsz:base.objs.size<=s.heap.objs.size
 funs:s.heap.FunFrames base outer
 frf:∀b∈frs outer,H b=YC
 hok:HOk P w H s.heap
 bare:AllBare s.gens
def CE(outer:List Env)(P:X5)(w:Qu)(H:Hp)(s:Xg)(Q:VK)(u:Xf)(s':Xg):Prop :=
 ∃v H',s'.os=s.os/\AllBare s'.gens/\Un (frs outer) [] H H' s.heap s'.heap/\HOk P w H' s'.heap/\RelV v u/\Q v H'
def CR(CX:CXT)(outer:List Env)(P:X5)(w:Qu)(H:Hp)(s:Xg)(Q:VK)(E:XK)(r:Result)(s':Xg):Prop :=
 match r with
 | .ok (.ret u)=>CE outer P w H s Q u s'
 | .ok _=>False
 | .error e=>CX outer H s E e s'
structure FnOk(P:X5)(w:Qu)(K:Xc)(mg:Str->Option Xf)(base:YH)(CX:CXT)(k:Nat)(f:YG)(fd:X3)(ps:List Str)(sp:Sp):Prop where
 len:∀vs H Q E,sp vs H Q E->vs.length=ps.length
 run:∀(A:Qv) (outer:List Env) (s:Xg) (H:Hp) (args:Args) (us:List Xf) (vs:List V) (Q:VK) (E:XK),Room k A->Ydr P w K mg base A outer s H->BindsTo s fd args (ps.zip us)->Vals vs us->sp vs H Q E ->
  codeAny (Qi P w) A (.call (.ref f) args) (CR CX outer P w H s Q E) s
theorem FnOk.imp{mg:Str->Option Xf}{base:YH}{CX:CXT}{k:Nat}{f:YG}{fd:X3}{ps:List Str}{sp sp':Sp}(F:FnOk P w K mg base CX k f fd ps sp)
  (h:∀vs H Q E,sp' vs H Q E->sp vs H Q E):FnOk P w K mg base CX k f fd ps sp' :=
 ⟨λvs H Q E q=>F.len vs H Q E (h _ _ _ _ q),λA outer s H args us vs Q E hr he hb hv hs=>F.run A outer s H args us vs Q E hr he hb hv (h _ _ _ _ hs)⟩
section
variable {O:St}
theorem Inv.env0(I:Inv X pins O H s):Ydr X.prog X.w X.K X.mg X.base X.A X.stack s H :=
 ⟨I.ok.frames,I.ok.mod,I.bs,QB I.ok.bsz I.sz,I.stack,I.stkFree,I.hok,I.bare⟩
theorem Inv.after{Q:VK}(I:Inv X pins O H s)(h:CE X.stack X.prog X.w H s Q u s'):EP X pins O Q u s':=by
 obtain⟨v,H',os,bare,un,hok,r,q⟩:=h;obtain⟨hh,g,d,t,os'⟩:=s';obtain rfl:os'=s.os:=os;exact⟨v,H',I.call (h':=hh) (g':=g) (d':=d) (t':=t) (ch:=[]) un hok bare (λb z=>YX z (by simp)),r,q⟩
end
def Z2g(sp:Sp)(dvs:List V)(E:XK)(t:TA):TE:=λO H Q=>t O H λvs H1=>sp (vs++dvs) H1 Q E
def Binds(K:Xc)(fd:X3)(ps:List Str)(ds:List Xf):Prop :=
 ∀(s:Xg) (us:List Xf),K.In s.heap->(us++ds).length=ps.length->BindsTo s fd ⟨us,[]⟩ (ps.zip (us++ds))
theorem Binds.all{fd:X3}{ps:List Str}(h:∀us:List Xf,us.length=ps.length->bindArgs fd ⟨us,[]⟩=pure (ps.zip us)):Binds K fd ps []:=λs us _ hl=>by
 rw[JP]at hl|-
 exact .of_eq (h us hl)
def Ziw(CX:CXT)(X:Cx)(E:XK):Prop:=∀(pins:List (YG×Obj)) (O:St) (H:Hp) (s:Xg) (e:Xf) (s':Xg),Inv X pins O H s->CX X.stack H s E e s'->X.xe e s'
section
variable {CX:CXT}{k:Nat}{f C:YG}{fd:X3}{ps:List Str}{sp:Sp}{dvs:List V}{ds:List Xf}{E:XK}{m:Str}{p apos:Pos}{o:YJ}{t:TA}
theorem Z1c{O:St}{Q:VK}{vs:List V}(F:FnOk X.prog X.w X.K X.mg X.base CX k f fd ps sp)(hr:Room k X.A)(hb:Binds X.K fd ps ds)(hd:Vals dvs ds)(hx:Ziw CX X E)
  (I:Inv X pins O H s) (r:Vals vs us) (h:sp (vs++dvs) H Q E):XX (Qi X.prog X.w) X.A (call (.ref f) us) (EP X pins O Q) X.xe s:=by
 have r2:Vals (vs++dvs) (us++ds):=r.append hd;have hl:(us++ds).length=ps.length:=by rw[<-r2.length];exact F.len _ _ _ _ h
 refine wpAny_call (codeAny_mono (F.run X.A X.stack s H ⟨us,[]⟩ (us++ds) (vs++dvs) Q E hr I.env0 (hb s us I.kIn hl) r2 h) λr s' hq=>?_);cases r with
 | error e=>exact hx pins O H s e s' I hq
 | ok fl=>
  cases fl with
  | ret u=>exact I.after hq
  | next=>exact V4 hq
  | brk=>exact V4 hq
  | cont=>exact V4 hq
theorem Z33(F:FnOk X.prog X.w X.K X.mg X.base CX k f fd ps sp)(hr:Room k X.A)(hg:Gl X x)(hm:X.mg x=YB (.ref f))(hk:Vf X.K (.ref f)=YD)(hb:Binds X.K fd ps ds)(hd:Vals dvs ds)(hx:Ziw CX X E)
  (ha:PA X (e::es) t) (hdb:(x==("__debug__" : Str))=YF:=by decide) (he:Xq (e::es) X.env=(YF,eval e X.env)::Xq es X.env:=by rfl) (hpl:(JK pos (Xq es X.env)).any (·.1)=YF:=by rfl) :
  PE X (.Call (.Name x p) (e::es) [] pos) (Z2g sp dvs E t):=by
 intro pins s O H Q I h;refine VR (Zt6 I hg hm ?_ hdb);refine PySem.W.callWith_K (h₀:=X.base) I.ok.mod.kin hk (thn (ha pos pins s O H _ I h) λus s1 qz9=>?_) he hpl;obtain⟨vs,H1,I1,r,q⟩:=qz9;refine⟨I1.kIn,?_⟩;exact Z1c F hr hb hd hx I1 r q
structure Mk(K:Xc)(C f:YG):Prop where
 makes:PySem.W.makesIn K C=YD
 init:Vv K (.ref C) "__init__"=YB (YB (.ref f))
 fn:PySem.W.isFn K (.ref f)=YD
 kp:Vf K (.ref C)=YD
end
section
variable {CX:CXT}{k:Nat}{f C:YG}{fd:X3}{ps ks:List Str}{sp:Sp}{E:XK}{m:Str}{p apos kpos:Pos}{o:YJ}{kws:List V0}{t tk:TA}{nm:Option Str}
structure Yhm(K:Xc)(fd:X3)(ps ks:List Str)(g:List Xf->List Xf->List Xf)(gV:List V->List V->List V):Prop where
 to:∀(s:Xg) (us ws:List Xf),K.In s.heap->(g us ws).length=ps.length->BindsTo s fd ⟨us,ks.zip ws⟩ (ps.zip (g us ws))
 rel:∀{vs:List V} {us:List Xf} {zs:List V} {ws:List Xf},Vals vs us->Vals zs ws->Vals (gV vs zs) (g us ws)
variable {g:List Xf->List Xf->List Xf}{gV:List V->List V->List V}
end
structure Zv(N P:List Str)(sc:UW):Prop where
 kind:sc.kind= .function
 co:sc.isCoroutine=YF
 gen:sc.isGenerator=YF
 nd:N.Nodup
 pre:N.take P.length=P
 par:∀x∈P,sc.names.lookup x=YB .local\/sc.names.lookup x=YB .cell
 nofree:∀y∈sc.names,y.2≠ .free
theorem Zlq{kindOf:Str->Option BX}:∀{binds:List (Str×Xf)} {m:Str->Option Xf},(∀v,(x,v)∉binds)->bindL kindOf binds m x=m x
 | [],_,_=>rfl
 | (n,v)::r,m,h=>by
  unfold bindL;rw[Zlq λw hw=>h w (U8 _ hw)];split
  .have:x≠n:=by rintro rfl;exact h v List.mem_cons_self
   simp[this]
  .rfl
theorem Zlc{kindOf:Str->Option BX}:∀{binds:List (Str×Xf)} {m:Str->Option Xf},(∀v,(x,v)∉binds)->bindC kindOf binds m x=m x
 | [],_,_=>rfl
 | (n,v)::r,m,h=>by
  unfold bindC;rw[Zlc λw hw=>h w (U8 _ hw)];split
  .rfl
  .have:x≠n:=by rintro rfl;exact h v List.mem_cons_self
   simp[this]
theorem Zmq{kindOf:Str->Option BX}{v:Xf}:∀{P:List Str} {vs:List Xf} {i:Nat} {m:Str->Option Xf},P.Nodup->P[i]? =YB x->vs[i]? =YB v->kindOf x=YB .local ->
  bindL kindOf (P.zip vs) m x=YB v
 | [],_,_,_,_,h,_,_=>by simp at h
 | _::_,[],_,_,_,_,h,_=>by simp at h
 | p::P,w::vs,0,m,nd,h1,h2,hk=>by
  simp at h1 h2;subst h1;subst h2;show bindL kindOf ((p,w)::P.zip vs) m p=_;unfold bindL;rw[Zlq λv hv=>(Qn.mp nd).1 (List.of_mem_zip hv).1,YL hk];simp
 | p::P,w::vs,i+1,m,nd,h1,h2,hk=>by
  show bindL kindOf ((p,w)::P.zip vs) m x=_;unfold bindL;exact Zmq (i:=i) (Qn.mp nd).2 (by simpa using h1) (by simpa using h2) hk
theorem Zmh{kindOf:Str->Option BX}{v:Xf}:∀{P:List Str} {vs:List Xf} {i:Nat} {m:Str->Option Xf},P.Nodup->P[i]? =YB x->vs[i]? =YB v->kindOf x≠YB .local ->
  bindC kindOf (P.zip vs) m x=YB v
 | [],_,_,_,_,h,_,_=>by simp at h
 | _::_,[],_,_,_,_,h,_=>by simp at h
 | p::P,w::vs,0,m,nd,h1,h2,hk=>by
  simp at h1 h2;subst h1;subst h2;show bindC kindOf ((p,w)::P.zip vs) m p=_;unfold bindC;rw[Zlc λv hv=>(Qn.mp nd).1 (List.of_mem_zip hv).1,YM hk];simp
 | p::P,w::vs,i+1,m,nd,h1,h2,hk=>by
  show bindC kindOf ((p,w)::P.zip vs) m x=_;unfold bindC;exact Zmh (i:=i) (Qn.mp nd).2 (by simpa using h1) (by simpa using h2) hk
def start(N:List Str)(vs:List V):St:=vs.map YB++X7 (N.length-vs.length) YC
def Z1v(CX:CXT)(P:X5)(w:Qu)(K:Xc)(mg:Str->Option Xf)(base:YH)(N:List Str)(qual:Str)(scope:UW)(f:YG)(cd:Xf)(A:Qv)(outer:List Env)(s:Xg)(H:Hp)(E:XK):Cx where
 prog:=P
 w:=w
 K:=K
 mg:=mg
 base:=base
 A:=A.deeper (envOfC qual scope s.heap.objs.size f cd)
 N:=N
 s₀:=s
 H₀:=H
 env:=envOfC qual scope s.heap.objs.size f cd
 outer:=outer
 stack:=envOfC qual scope s.heap.objs.size f cd::outer
 ex:=[]
 calm:=YD
 fn:=λ_=>YD
 pn:=[]
 xe:=λe s'=>XX (Qi P w) (A.deeper (envOfC qual scope s.heap.objs.size f cd)) (leaving (envOfC qual scope s.heap.objs.size f cd) e) (λ_ s''=>CX outer H s E e s'') (λe' s''=>CX outer H s E e' s'') s'
theorem Zpm{sc:UW}{n:Nat}(h:sc.names.lookup x=YB .cell):∃c,(Bw n sc.names []).lookup x=YB c:=by
 have q:=PySem.W.cellsFrom_some sc.names n [] (.inl h);exact Option.isSome_iff_exists.mp q
theorem Zwg{CX:CXT}{mg:Str->Option Xf}{base:YH}{ps:List Str}{qual:Str}{scope:UW}{f:YG}{cd:Xf}{outer:List Env}{s1:Xg}{E:XK}{vs:List V}
  (S:Zv N ps scope) (hd:A.handled=YC) (e0:Ydr P w K mg base A outer s H) (hl:vs.length=ps.length) (r:Vals vs us)
  (x:InCallC s s.heap.objs.size (bindL (envOfC qual scope s.heap.objs.size f cd).kindOf (ps.zip us) λ_=>YC) (Bw (s.heap.objs.size+1) scope.names []) (bindC (envOfC qual scope s.heap.objs.size f cd).kindOf (ps.zip us) λ_=>YC) s1) :
  Inv (Z1v CX P w K mg base N qual scope f cd A outer s H E) [] (start N vs) H s1:=by
 have hpl:ps.length<=N.length:=by have:=YT List.length S.pre;rw[Vy]at this;omega
 obtain⟨h1,tk,rfl,hk⟩:=x.done;have noA:∀b:YG,b∉(Z1v CX P w K mg base N qual scope f cd A outer s H E).ex:=λb z=>YX (show b∈([]:List YG)from z) (by simp);refine⟨⟨e0.mod,S.kind,rfl,rfl,XJ _,λy z c h1 h2=>?_,λy hy=>?_,λy c _ h=>?_,λ_=>hd,Qv.frames_deeper e0.frames,.inr ⟨rfl,rfl⟩,λb z=>YX z (noA b),e0.bs,e0.bsz,λb _ _=>noA b,λb z=>YX z (noA b),e0.funs,e0.frf⟩,
  rfl,e0.bare,Un.kept hk,⟨_,x.toInCall.ns,λi y v h1 h2 h3=>?_⟩,λy c h=>⟨_,x.cell y c h⟩,e0.hok.fresh (XJ _),λy c h=>?_,λp hp=>YX (show p∈([]:List (YG×Obj))from hp) (by simp),e0.hok.kept hk,?_⟩
 .exact name_of_addr x.apart (Bl h1) (Bl h2)
 .have hy:scope.names.lookup y=YB .cell\/scope.names.lookup y=YB .free:=hy
  rcases hy with hy|hy
  .exact Zpm hy
  .exact YX rfl (S.nofree _ (Bl hy))
 .exact Nat.le_of_lt (x.above y c (Bl h))
 .have hi:i<vs.length:=by
   unfold start at h2
   by_cases hi:i<vs.length
   .exact hi
   .rw[JN (by simpa using hi)]at h2
    rw[Ur]at h2;split at h2<;>cases h2
  have ha:vs[i]? =YB v:=by
   unfold start at h2;rw[Ug (by simpa using hi),Xm]at h2;cases e:vs[i]? with
   | none=>rw[e]at h2;cases h2
   | some a=>rw[e]at h2;cases h2;rfl
  obtain⟨u,hu,rv⟩:=r.get ha;have hp:ps[i]? =YB y:=by
   rw[<-S.pre,List.getElem?_take_of_lt (by omega)];exact h1
  have ndP:ps.Nodup:=by rw[<-S.pre];exact S.nd.sublist (List.take_sublist _ _)
  refine⟨u,rv,?_⟩;rcases S.par y (Qy hp)with k|k
  .exact .inl ⟨k,Zmq ndP hp hu k⟩
  .obtain⟨c,e⟩:=Zpm (n:=s.heap.objs.size+1) k
   refine .inr ⟨.inl k,c,e,?_⟩;have q:=x.cell y c e;rw[Zmh ndP hp hu (by show scope.names.lookup y≠_;rw[k];decide)]at q;exact q
 .exact e0.hok.fresh (Nat.le_of_lt (x.above y c (Bl h)))
 .unfold start
  show _=N.length;rw[XH,Xe,VP];omega
theorem Yee{CX:CXT}{mg:Str->Option Xf}{base:YH}{k:Nat}{f:YG}{name qual:Str}{params:Arguments}{scope:UW}{dV kV doc pm cdv ct oc:Xf}{an od:Option YG}
  {osl:Array (Option Xf)} {ps:List Str} {sp:Sp} (lk:K.lookup f=YB ⟨oc,od,.func (V3 name qual params body scope dV kV doc pm an cdv ct),osl⟩) (hcd:PySem.W.codeIn K cdv qual=YD) (S:Zv N ps scope)
  (len:∀vs H Q E,sp vs H Q E->vs.length=ps.length)
  (hbody:∀(A:Qv) (outer:List Env) (s:Xg) (H:Hp) (vs:List V) (Q:VK) (E:XK),Room k (A.deeper (envOfC qual scope s.heap.objs.size f cdv))->sp vs H Q E ->
   ∃t,PSs (Z1v CX P w K mg base N qual scope f cdv A outer s H E) body t/\t { nx:=λ_ H'=>Q .non H',rt:=Q } (start N vs) H) :
  FnOk P w K mg base CX (k+1) f (V3 name qual params body scope dV kV doc pm an cdv ct) ps sp:=by
 refine⟨len,λA outer s H args us vs Q E hr e0 hb r hsp=>?_⟩;have hl:=len _ _ _ _ hsp;have KX:K.In s.heap:=e0.mod.kin.keeps λb o e=>(e0.bs b o e).1;have lim:s.heap.NoLimit:=e0.mod.nolimit.keeps λb o e=>(e0.bs b o e).1;have hkind:∀y∈ps.zip us,scope.names.lookup y.1=YB .local\/(scope.names.lookup y.1=YB .cell/\((Bw (s.heap.objs.size+1) scope.names []).lookup y.1).isSome=YD):=λ⟨n,v⟩ hy=>by
  rcases S.par n (List.of_mem_zip hy).1 with q|q
  .exact .inl q
  .exact .inr ⟨q,PySem.W.cellsFrom_some _ _ _ (.inl q)⟩
 refine codeAny_call_function hr.depth (KX _ _ lk) rfl S.co S.gen rfl (PySem.W.codeRec_of KX hcd) (hb _ _ _ _ ?_);refine wpAny_newFunctionEnv_cells S.kind hkind λenv he s1 x=>?_;subst he;refine⟨lim.keeps x.toInCall.keep,codeAny_func ?_⟩;obtain⟨t,ht,hq⟩:=hbody A outer s H vs Q E (hr.deeper _) hsp;have I:Inv (Z1v CX P w K mg base N qual scope f cdv A outer s H E) [] (start N vs) H s1:=Zwg S hr.hd e0 hl r x;refine Vd (ht [] s1 (start N vs) H _ I hq) (λfl s' hs=>?_) λe s' hs=>hs;have fin:∀{O':St} {H':Hp} {v:V} {u:Xf},Inv (Z1v CX P w K mg base N qual scope f cdv A outer s H E) [] O' H' s'->RelV v u->Q v H'->CE outer P w H s Q u s' :=
  fun{O' H' v u} J rv q=>⟨v,H',J.os,J.bare,J.base,J.hok,rv,q⟩
 cases fl with
 | ret u=>
  obtain⟨v,O',H',J,rv,q⟩:=hs;exact fin J rv q
 | next=>
  obtain⟨O',H',J,q⟩:=hs;exact fin (v:=V.non) (u:=QH) J rfl q
 | brk=>
  obtain⟨_,_,_,q⟩:=hs;exact V4 q
 | cont=>
  obtain⟨_,_,_,q⟩:=hs;exact V4 q
section
variable {p:Pos}{t:TA}{id T:String}{r:List V->Hp->VK->Prop}
def tCB(r:List V->Hp->VK->Prop)(t:TA):TE:=λO H Q=>t O H λvs H1=>r vs H1 Q
theorem Zgg(hc:Zar X (.builtin id) r)(hg:Gl X x)(hm:X.mg x=YC)(hv:Qk x=YB (.builtin id))(ha:PA X (e::es) t)(hn:x≠"__name__" :=by decide)(hdb:(x==("__debug__" : Str))=YF:=by decide)
  (he:Xq (e::es) X.env=(YF,eval e X.env)::Xq es X.env:=by rfl) (hpl:(JK pos (Xq es X.env)).any (·.1)=YF:=by rfl):PE X (.Call (.Name x p) (e::es) [] pos) (tCB r t):=by
 intro pins s O H Q I h;refine VR (Zg5 I hg hm hv ?_ hn hdb);refine PyProof.Rows.callWith_builtin1 (thn (ha pos pins s O H _ I h) λus s1 qz9=>?_) he hpl;obtain⟨vs,H1,I1,r1,q1⟩:=qz9;exact hc pins s1 O H1 vs us Q I1 r1 q1
theorem Zc1(hc:Zar X (.type T) r)(hg:Gl X x)(hm:X.mg x=YC)(hv:Qk x=YB (.type T))(ha:PA X (e::es) t)(hn:x≠"__name__" :=by decide)(hdb:(x==("__debug__" : Str))=YF:=by decide)
  (he:Xq (e::es) X.env=(YF,eval e X.env)::Xq es X.env:=by rfl) (hpl:(JK pos (Xq es X.env)).any (·.1)=YF:=by rfl):PE X (.Call (.Name x p) (e::es) [] pos) (tCB r t):=by
 intro pins s O H Q I h;refine VR (Zg5 I hg hm hv ?_ hn hdb);refine BP (thn (ha pos pins s O H _ I h) λus s1 qz9=>?_) he hpl;obtain⟨vs,H1,I1,r1,q1⟩:=qz9;exact hc pins s1 O H1 vs us Q I1 r1 q1
end
end L2
namespace HT
open PySem PyProof.Rows
section
open PySem.SeqAt
open PySem.AutoSeq1 (wpAny_loadPart')
open PySem.MeetsSeq PySem.MeetsSeq2 PySem.MeetsSeq3
end
section
variable {prog:X5}
theorem cat_tup{t b:YG}{vs ws:List Xf}(ht:IsTup s.heap t vs.toArray)(hb:IsTup s.heap b ws.toArray)(hv:vs≠[])
  (h1:ws=[]->Q (.ref t) s) (h2:ws≠[]->Q (.ref s.heap.objs.size) { s with heap:=s.heap.push { cls:=.type "tuple",data:=.seq (vs++ws).toArray } })
  (hsz:vs.length+ws.length<=Xv):XX (Qi prog w) A (VM .Add (.ref t) (.ref b)) Q E s:=by
 obtain⟨⟨cls,dd,data,sl⟩,ho,hc,n,hd⟩:=id ht;obtain⟨⟨cls2,dd2,data2,sl2⟩,ho2,hc2,n2,hd2⟩:=id hb;simp only at hc hd hc2 hd2;subst hc hd hc2 hd2;have e:vs.toArray++ws.toArray=(vs++ws).toArray:=by simp
 by_cases hw:ws=[]
 .exact concat_meets ⟨_,ho,rfl⟩ ⟨_,ho2,rfl⟩ noFill_tuple_add seq_tuple_add PySem.F.slot_tuple_add PySem.F.entry_tuple_add (PySem.F.args_tuple_add_2 _ _)
   (tuple_addW1 t b vs.toArray ws.toArray n n2 dd dd2 sl sl2 (by simpa using hv) (by simp[hw])) ⟨ho,ho2,h1 hw⟩
 .refine concat_meets ⟨_,ho,rfl⟩ ⟨_,ho2,rfl⟩ noFill_tuple_add seq_tuple_add PySem.F.slot_tuple_add PySem.F.entry_tuple_add (PySem.F.args_tuple_add_2 _ _)
   (tuple_addW2 t b vs.toArray ws.toArray n n2 dd dd2 sl sl2 (by simpa using hv) (by simpa using hw) (by rw[Xx,Xx];exact hsz)) ⟨ho,ho2,?_⟩
  rw[e];exact h2 hw
def sIx(n d:Nat):Option Int->Nat
 | none=>d
 | some v=>if v<0 then(v+(n:Int)).toNat else min v.toNat n
theorem sIx_none(n d:Nat):sIx n d YC=d:=rfl
theorem sIx_nat(n d k:Nat):sIx n d (YB (k:Int))=min k n:=by
 show(if(k:Int)<0 then((k:Int)+(n:Int)).toNat else min (k:Int).toNat n)=min k n;rw[YM (by omega),QV]
end
end HT
namespace L2
open PySem PySem.Spec PyProof.Rows
abbrev TO:=St->Hp->(Option Int->Hp->Prop)->Prop
def PO(X:Cx)(e:Option YJ)(t:TO):Prop :=
 ∀(pins:List (YG×Obj)) (s:Xg) (O:St) (H:Hp) (Q:Option Int->Hp->Prop),Inv X pins O H s->t O H Q ->
  XX (Qi X.prog X.w) X.A (evalPart e X.env) (λu s'=>∃o H',Inv X pins O H' s'/\IsPart u o/\Q o H') X.xe s
def Z3m:TO:=λ_ H Q=>Q YC H
def Yf9(t:TE):TO:=λO H Q=>t O H λx H1=>∃i,x= .int i/\Q (YB i) H1
section
variable {lo hi:Option YJ}{tl th:TO}{p2:Pos}
theorem Z3e:PO X YC Z3m:=by
 intro pins s O H Q I h;rw[evalPart_none];exact Xy ⟨YC,H,I,.none,h⟩
theorem Z39(h:PE X e te):PO X (YB e) (Yf9 te):=by
 intro pins s O H Q I hw;rw[evalPart_some];refine thn (h pins s O H _ I hw) λu s1 qz9=>?_;obtain⟨x,H1,I1,r1,q1⟩:=qz9;obtain⟨i,rfl,q⟩:=q1;obtain⟨t,rfl⟩:=r1;exact⟨YB i,H1,I1,.int i t,q⟩
def SlR(X:Cx)(r:V->Option Int->Option Int->Hp->VK->Prop):Prop :=
 ∀(pins:List (YG×Obj)) (s:Xg) (O:St) (H:Hp) (x:V) (v vl vu:Xf) (lo hi:Option Int) (sl:YG) (Q:VK),Inv X pins O H s->RelV x v->s.heap.IsSliceOf sl vl vu .none->IsPart vl lo->IsPart vu hi->r x lo hi H Q ->
  ∃T id,typeLookup (.type T) "__getitem__"=pure (YB (.builtin id))/\s.TypeIs v T/\XX (Qi X.prog X.w) X.A (getItem v (.ref sl)) (EP X pins O Q) X.xe s
def tSl(r:V->Option Int->Option Int->Hp->VK->Prop)(te:TE)(tl th:TO):TE:=λO H Q=>te O H λx H1=>tl O H1 λl H2=>th O H2 λu H3=>r x l u H3 Q
theorem Zxz{r:V->Option Int->Option Int->Hp->VK->Prop}(hr:SlR X r)(he:PE X e te)(hl:PO X lo tl)(hu:PO X hi th):PE X (.Subscript e (.Slice lo hi YC p2) pos) (tSl r te tl th):=by
 intro pins s O H Q I h;refine Subscript_ (thn (he pins s O H _ I h) λv s1 qz9=>?_);obtain⟨x,H1,I1,r1,q1⟩:=qz9;refine wpAny_Slice (thn (hl pins s1 O H1 _ I1 q1) λvl s2 qz9=>?_);obtain⟨l,H2,I2,pl,q2⟩:=qz9;refine thn (hu pins s2 O H2 _ I2 q2) λvu s3 qz9=>?_;obtain⟨u,H3,I3,pu,q3⟩:=qz9;rw[evalPart_none];refine Xy ?_;have I4:Inv X pins O H3 { s3 with heap:=s3.heap.push { cls:=.type "slice",data:=.fields #[vl,vu,.none] } }:=I3.kept (t':=s3.toks) λb ob q=>Xk _ q;obtain⟨T,id,hT,ht,hg⟩:=hr pins { s3 with heap:=s3.heap.push { cls:=.type "slice",data:=.fields #[vl,vu,.none] } } O H3 x v vl vu l u s3.heap.objs.size Q I4 r1 (Heap.IsSliceOf.new ..) pl pu q3;show XX (Qi X.prog X.w) X.A (subscriptTail e (.Slice lo hi YC p2) v (.ref s3.heap.objs.size)) (EP X pins O Q) X.xe { s3 with heap:=s3.heap.push { cls:=.type "slice",data:=.fields #[vl,vu,.none] } };exact tail_any (ops:=[.ref s3.heap.objs.size,v]) ht hT hg (by with_unfolding_all rfl)
def Z7i(xs:List V)(lo hi:Option Int):List V:=(xs.drop (HT.sIx xs.length 0 lo)).take (HT.sIx xs.length xs.length hi-HT.sIx xs.length 0 lo)
theorem Zm6(xs:List V)(lo hi:Option Int):(Z7i xs lo hi).length<=xs.length:=by
 unfold Z7i;rw[Vy,JG];omega
def Ybw(K:Xc):R2:=λx y H Q=>∃a b xs ys,x= .ref a/\y= .ref b/\SqT K H a xs/\SqT K H b ys/\xs≠[]/\xs.length+ys.length<=Xv/\
 (ys=[]->Q (.ref a) H)/\(ys≠[]->∀p,H p=YC->Q (.ref p) (upd H p (.tup (xs++ys))))
theorem Vals.nil_iff(r:Vals xs us):us=[]↔xs=[]:=by
 cases r with
 | nil=>simp
 | cons _ _=>simp
theorem Z2d:OpR X (VM .Add) (Ybw X.K):=by
 intro pins s O H x y v u Q I rx ry h;obtain⟨a,b,xs,ys,rfl,rfl,ha,hb,hx,hz,q1,q2⟩:=h;cases rx;cases ry;obtain⟨its,r1,p1,_⟩:=I.tuple ha;obtain⟨its2,r2,p2,_⟩:=I.tuple hb;refine HT.cat_tup p1 p2 (λz=>hx (r1.nil_iff.mp z)) (λz=>⟨.ref a,H,I,rfl,q1 (r2.nil_iff.mp z)⟩) (λz=>?_) (by rw[<-r1.length,<-r2.length];exact hz);refine⟨.ref s.heap.objs.size,_,I.laid (t':=s.toks) (o:=.tup (xs++ys)) (λb ob q=>Xk _ q) (XJ _) ?_,rfl,q2 (λw=>z (r2.nil_iff.mpr w)) _ (I.hok.fresh (XJ _))⟩;exact⟨by rw[XH];exact hz,_,r1.append r2,IsTup.new _ _⟩
end
def ixN(n:Nat)(i:Int):Option Nat:=if 0<=i then(if i<n then YB i.toNat else YC)else if -(n:Int)<=i then YB (i+n).toNat else YC
def atI(xs:List α)(i:Int):Option α:=(ixN xs.length i).bind λj=>xs[j]?
theorem Zmy{n:Nat}{i:Int}(h:ixN n i=YB j):seqIndex? i n=YB j/\j<n/\-(n:Int)<=i/\i<n:=by
 unfold ixN at h
 by_cases h0:0<=i
 .rw[YL h0]at h
  by_cases h1:i<n
  .rw[YL h1]at h
   have e:i.toNat=j:=QD h;exact⟨by rw[seqIndex_of h0 h1,e],by omega,by omega,h1⟩
  .rw[YM h1]at h;cases h
 .rw[YM h0]at h
  by_cases h1:-(n:Int)<=i
  .rw[YL h1]at h
   have e:(i+n).toNat=j:=QD h;exact⟨by rw[seqIndex_neg (by omega) h1,e],by omega,h1,by omega⟩
  .rw[YM h1]at h;cases h
theorem Zn1{xs:List α}{i:Int}{v:α}(h:atI xs i=YB v):∃j,seqIndex? i xs.length=YB j/\xs[j]? =YB v/\j<xs.length/\-(xs.length:Int)<=i/\i<xs.length:=by
 unfold atI at h;cases e:ixN xs.length i with
 | none=>rw[e]at h;cases h
 | some j=>
  rw[e]at h;obtain⟨h1,h2,h3,h4⟩:=Zmy e;exact⟨j,h1,h,h2,h3,h4⟩
theorem Z6n{xs:List α}{v:α}(h:xs[j]? =YB v):atI xs (j:Int)=YB v:=by
 have hj:j<xs.length:=(Xu.mp h).1;have e:ixN xs.length (j:Int)=YB j:=by
  unfold ixN;rw[YL (by omega),YL (by omega)];simp
 unfold atI;rw[e];exact h
theorem Zx7{α:Type}(xs:List α)(v:α):atI (xs++[v]) (-1)=YB v:=by
 have hl:(xs++[v]).length=xs.length+1:=by simp
 have e:ixN (xs++[v]).length (-1)=YB xs.length:=by
  unfold ixN;rw[hl,YM (by decide),YL (by omega)];congr 1;omega
 unfold atI;rw[e];show(xs++[v])[xs.length]? =YB v;simp
def Zgr(b:YJ):Prop:=∀o i,subscripted b YF o i=operate [o,i] (getItem o i)
def IxR(X:Cx)(r:R2):Prop :=
 ∀(value slice:YJ) (pins:List (YG×Obj)) (s:Xg) (O:St) (H:Hp) (x y:V) (v u:Xf) (Q:VK),Inv X pins O H s->RelV x v->RelV y u->r x y H Q ->
  subscripted slice YF v u=operate [v,u] (getItem v u)->XX (Qi X.prog X.w) X.A (subscriptTail value slice v u) (EP X pins O Q) X.xe s
def MtR(X:Cx)(id:String)(r:V->List V->Hp->VK->Prop):Prop :=
 ∀(pins:List (YG×Obj)) (s:Xg) (O:St) (H:Hp) (x:V) (xs:List V) (v:Xf) (us:List Xf) (Q:VK),Inv X pins O H s->RelV x v->Vals xs us->r x xs H Q ->
  XX (Qi X.prog X.w) X.A (call (.builtin id) (v::us)) (EP X pins O Q) X.xe s
section
variable {a b:YJ}
theorem IxR.or{r r':R2}(h:IxR X r)(h':IxR X r'):IxR X (λx y H Q=>r x y H Q\/r' x y H Q):=by
 intro value slice pins s O H x y v u Q I rx ry q hs;rcases q with q|q
 .exact h value slice pins s O H x y v u Q I rx ry q hs
 .exact h' value slice pins s O H x y v u Q I rx ry q hs
theorem Z5x{r:R2}(hr:IxR X r)(ha:PE X a ta)(hb:PE X b tb)(hs:Zgr b):PE X (.Subscript a b pos) (tOp r ta tb):=by
 intro pins s O H Q I h;exact Subscript_ (Yew ha hb I h λv u s2 x y H2 I2 rx ry q=>hr a b pins s2 O H2 x y v u Q I2 rx ry q (hs _ _))
def Ye1(K:Xc):R2:=λx y H Q=>∃p xs i v,x= .ref p/\y= .int i/\SqL K H p xs/\atI xs i=YB v/\Q v H
def Yhy(K:Xc):R2:=λx y H Q=>∃p xs i v,x= .ref p/\y= .int i/\SqT K H p xs/\atI xs i=YB v/\Q v H
def Yib:R2:=λx y H Q=>∃z i c,x= .str z/\y= .int i/\z.length<=Xv/\atI z.cps.toList i=YB c/\Q (.str ⟨#[c]⟩) H
theorem Zsa:IxR X (Ye1 X.K):=by
 intro value slice pins s O H x y v u Q I rx ry h hs;obtain⟨p,xs,i,z,rfl,rfl,hq,he,q⟩:=h;cases rx;obtain⟨t,rfl⟩:=ry;obtain⟨its,r,pl,hz⟩:=I.list hq;obtain⟨j,h1,h2,h3,h4,h5⟩:=Zn1 he;obtain⟨w,ew,rw'⟩:=r.get h2;have hl:=r.length;have hn:=Zi0;have fin:EP X pins O Q w s:=⟨z,H,I,rw',q⟩
 by_cases h0:0<=i
 .have hj:i.toNat=j:=by
   rw[seqIndex_of h0 h5]at h1;exact QD h1
  exact item_listR pl.isList h0 (by omega) (by rw[hj];simpa using ew) fin hs
 .have hj:(i+(its.toArray.size:Int)).toNat=j:=by
   rw[seqIndex_neg (by omega) h4]at h1;rw[Xx,<-hl];exact QD h1
  exact subscriptTail_builtinR (x:=w) pl.isList.typeIs slot_list_getitem.lookup
   (wpAny_getItem_list_neg (Q:=λr s'=>r=w/\EP X pins O Q r s') pl.isList (by omega) (by rw[Xx]<;>omega) (by omega) (by rw[hj];simpa using ew) ⟨rfl,fin⟩) hs
theorem Z9h:IxR X (Yhy X.K):=by
 intro value slice pins s O H x y v u Q I rx ry h hs;obtain⟨p,xs,i,z,rfl,rfl,hq,he,q⟩:=h;cases rx;obtain⟨t,rfl⟩:=ry;obtain⟨its,r,pl,hz⟩:=I.tuple hq;obtain⟨j,h1,h2,h3,h4,h5⟩:=Zn1 he;obtain⟨w,ew,rw'⟩:=r.get h2;have hl:=r.length;have hn:=Zi0;have fin:EP X pins O Q w s:=⟨z,H,I,rw',q⟩;exact subscriptTail_builtinR (x:=w) pl.typeIs slot_tuple_getitem.lookup
  (getItem_tuple (j:=j) (Q:=λr s'=>r=w/\EP X pins O Q r s') pl (by omega) (by omega) (by rw[Xx,<-hl];exact h1) (by simpa using ew) ⟨rfl,fin⟩) hs
theorem Yaf:IxR X Yib:=by
 intro value slice pins s O H x y v u Q I rx ry h hs;obtain⟨z,i,c,rfl,rfl,hz,he,q⟩:=h;obtain⟨t,rfl⟩:=rx;obtain⟨t',rfl⟩:=ry;obtain⟨j,h1,h2,h3,h4,h5⟩:=Zn1 he;have hl:z.cps.toList.length=z.length:=by simp[Str.length]
 rw[hl]at h1 h4 h5;have hn:=Zi0;exact tail_any (typeIs_str s z t) slot_str_getitem.lookup (getItem_str (c:=c) (by
  have e1:decide (i< -(2^63:Int))=YF:=YS (by omega);have e2:decide (i>=2^63)=YF:=YS (by omega);rw[e1,e2,Bool.or_false]) (by rw[h1];simpa using h2) ⟨.str ⟨#[c]⟩,H,I.tok _,⟨_,rfl⟩,q⟩) hs
def rIx(K:Xc):R2:=λx y H Q=>Ye1 K x y H Q\/Yhy K x y H Q\/Yib x y H Q
theorem Z99:IxR X (rIx X.K):=Zsa.or (Z9h.or Yaf)
theorem Zro(its:List Xf)(n j:Nat)(u:Xf):QM (·.setIfInBounds j u) { cls:=.type "list",data:=.seq its.toArray n }={ cls:=.type "list",data:=.seq (its.set j u).toArray n }:=by
 simp[QM]
theorem Inv.lst{O:St}{p:YG}(I:Inv X pins O H s)(h:H p=YB (.lst xs)) :
  ∃(its:List Xf) (n:Nat),Vals xs its/\s.heap.get? p=YB { cls:=.type "list",data:=.seq its.toArray n }/\xs.length<=Xv:=by
 obtain⟨z,its,n,r,e⟩:=I.hok p _ h;exact⟨its,n,r,e,z⟩
theorem Inv.lstUpd{O:St}{p:YG}{its its':List Xf}{n n':Nat}{f:Obj->Obj}(I:Inv X pins O H s)(h:H p=YB (.lst xs))
  (ho:s.heap.get? p=YB { cls:=.type "list",data:=.seq its.toArray n }) (hf:f { cls:=.type "list",data:=.seq its.toArray n }={ cls:=.type "list",data:=.seq its'.toArray n' }) (r:Vals ys its') (hz:ys.length<=Xv) (t:Nat) :
  Inv X pins O (upd H p (.lst ys)) { s with heap:=s.heap.update p f,toks:=t }:=by
 have e:(s.heap.update p f).get? p=YB { cls:=.type "list",data:=.seq its'.toArray n' }:=by
  rw[Heap.get?_update_self f ho (by rw[hf]<;>rfl),hf]
 refine I.write (x:=p) (e:=p) (by rw[h];trivial) (.inl rfl) (λb u hb q=>(Heap.get?_update_other _ _ (Vn hb)).trans q) ⟨_,e⟩ ?_;exact⟨hz,its',n',r,e⟩
def Z8b:V->V->V->Hp->(Hp->Prop)->Prop:=λo i v H Q=>∃p xs k j,o= .ref p/\i= .int k/\H p=YB (.lst xs)/\ixN xs.length k=YB j/\Q (upd H p (.lst (xs.set j v)))
theorem set_list:Yg6 X Z8b:=by
 intro pins s O H o i v ov iv u Q I ro ri rv h;obtain⟨p,xs,k,j,rfl,rfl,hp,hj,q⟩:=h;cases ro;obtain⟨t,rfl⟩:=ri;obtain⟨its,n,r,ho,hz⟩:=I.lst hp;obtain⟨h1,h2,h3,h4⟩:=Zmy hj;have hl:=r.length;have hn:=Zi0;have I':Inv X pins O (upd H p (.lst (xs.set j v))) { s with heap:=s.heap.update p (QM (·.setIfInBounds j u)) } :=
  I.lstUpd hp ho (Zro its n j u) (r.set rv j) (by rw[Vo];exact hz) s.toks
 by_cases h0:0<=k
 .have hk:k.toNat=j:=by
   rw[seqIndex_of h0 h4]at h1;exact QD h1
  exact PySem.W.ki_setAt ho h0 (by omega) (by rw[Xx,<-hl];exact h4) (by rw[hk];exact⟨_,I',q⟩)
 .have hk:(k+(its.toArray.size:Int)).toNat=j:=by
   rw[seqIndex_neg (by omega) h3]at h1;rw[Xx,<-hl];exact QD h1
  exact PySem.W.ki_setBack ho (by omega) (by rw[Xx,<-hl];exact h3) (by omega) (by rw[hk];exact⟨_,I',q⟩)
theorem Zl1(lo hi:Option Int)(n:Nat):(sliceBounds lo hi YC n).1=((HT.sIx n 0 lo:Nat):Int)/\(sliceBounds lo hi YC n).2.1=((HT.sIx n n hi:Nat):Int)/\(sliceBounds lo hi YC n).2.2=1:=by
 refine⟨?_,?_,rfl⟩
 .cases lo with
  | none=>simp[sliceBounds,HT.sIx]
  | some i=>
   simp only[sliceBounds,HT.sIx,Option.getD_none,show(1:Int)>0 by decide,if_true]
   by_cases h:i<0
   .simp only[h,if_true]<;>omega
   .simp only[h,if_false]<;>omega
 .cases hi with
  | none=>simp[sliceBounds,HT.sIx]
  | some i=>
   simp only[sliceBounds,HT.sIx,Option.getD_none,show(1:Int)>0 by decide,if_true]
   by_cases h:i<0
   .simp only[h,if_true]<;>omega
   .simp only[h,if_false]<;>omega
theorem Zi8(its:List Xf)(lo hi:Option Int):slicePick its.toArray lo hi YC=((its.drop (HT.sIx its.length 0 lo)).take (HT.sIx its.length its.length hi-HT.sIx its.length 0 lo)).toArray:=by
 obtain⟨h1,h2,h3⟩:=Zl1 lo hi its.toArray.size;unfold slicePick;rw[h1,h2,h3];simp only[sliceRange_one,pick_run,Xx]<;>rfl
def Yjb(K:Xc):V->Option Int->Option Int->Hp->VK->Prop:=λx lo hi H Q=>∃a xs,x= .ref a/\SqL K H a xs/\∀p,H p=YC->Q (.ref p) (upd H p (.lst (Z7i xs lo hi)))
theorem Z2i:SlR X (Yjb X.K):=by
 intro pins s O H x v vl vu lo hi sl Q I rx hs pl pu h;obtain⟨a,xs,rfl,hx,q⟩:=h;cases rx;obtain⟨its,r,ht,hz⟩:=I.list hx;have hlen:=r.length;refine⟨"list",_,slot_list_getitem.lookup,ht.isList.typeIs,?_⟩;refine wpAny_getItem_list_slice ht.isList hs pl pu .none (by simp) ?_ (by rw[Xx]<;>omega);rw[Zi8,<-hlen];refine⟨.ref s.heap.objs.size,_,I.laid (t':=s.toks) (o:=.lst (Z7i xs lo hi)) (λb ob q=>Xk _ q) (XJ _) ?_,rfl,q _ (I.hok.fresh (XJ _))⟩;exact⟨QB (Zm6 xs lo hi) hz,_,0,(r.drop (HT.sIx xs.length 0 lo)).take (HT.sIx xs.length xs.length hi-HT.sIx xs.length 0 lo),XN _ rfl⟩
def Zhm:V->Bool
 | .non=>YD
 | .bl _=>YD
 | .int _=>YD
 | .str _=>YD
 | _=>YF
def eqV:V->V->Bool
 | .non,.non=>YD
 | .bl a,.bl b=>a==b
 | .bl a,.int b=>(if a then 1 else 0)==b
 | .int a,.bl b=>a==(if b then 1 else 0)
 | .int a,.int b=>a==b
 | .str a,.str b=>a==b
 | _,_=>YF
theorem Ycg{y x:V}{v:Xf}(ry:RelV y u)(rx:RelV x v)(fy:Zhm y=YD)(fx:Zhm x=YD):Bk A s u v (eqV y x):=by
 cases y with
 | non=>
  cases ry;cases x with
  | non=>cases rx;exact Bk.same _
  | bl b=>cases rx;exact Bk.none_bool b
  | int b=>obtain⟨t,rfl⟩:=rx;exact Bk.none_int b t
  | str b=>obtain⟨t,rfl⟩:=rx;exact Bk.none_str b t
  | _=>exact YX (show YF=YD from fx) Xn
 | bl a=>
  cases ry;cases x with
  | non=>cases rx;exact Bk.bool_none a
  | bl b=>cases rx;exact Bk.bool_bool a b
  | int b=>obtain⟨t,rfl⟩:=rx;exact Bk.bool_int a b t
  | str b=>obtain⟨t,rfl⟩:=rx;exact Bk.bool_str a b t
  | _=>exact YX (show YF=YD from fx) Xn
 | int a=>
  obtain⟨t',rfl⟩:=ry;cases x with
  | non=>cases rx;exact Bk.int_none a t'
  | bl b=>cases rx;exact Bk.int_bool a t' b
  | int b=>obtain⟨t,rfl⟩:=rx;exact Bk.int_int a t' b t
  | str b=>obtain⟨t,rfl⟩:=rx;exact SeqAt.EqAt.int_str a t' b t
  | _=>exact YX (show YF=YD from fx) Xn
 | str a=>
  obtain⟨t',rfl⟩:=ry;cases x with
  | non=>cases rx;exact Bk.str_none a t'
  | bl b=>cases rx;exact Bk.str_bool a t' b
  | int b=>obtain⟨t,rfl⟩:=rx;exact SeqAt.EqAt.str_int a t' b t
  | str b=>obtain⟨t,rfl⟩:=rx;exact Bk.str_str a t' b t
  | _=>exact YX (show YF=YD from fx) Xn
 | _=>exact YX (show YF=YD from fy) Xn
def eqU(x:V)(u:Xf):Bool:=match u with
 | .none=>eqV .non x
 | .bool b=>eqV (.bl b) x
 | .int i _=>eqV (.int i) x
 | .str z _=>eqV (.str z) x
 | _=>YF
theorem Z0c{x y:V}(r:RelV y u)(f:Zhm y=YD):eqU x u=eqV y x:=by
 cases y with
 | non=>cases r;rfl
 | bl b=>cases r;rfl
 | int i=>obtain⟨t,rfl⟩:=r;rfl
 | str z=>obtain⟨t,rfl⟩:=r;rfl
 | _=>exact YX (show YF=YD from f) Xn
theorem Zki{x:V}(h:Vals xs us)(f:xs.all Zhm=YD):us.any (eqU x)=xs.any λy=>eqV y x:=by
 induction h with
 | nil=>rfl
 | cons r t ih=>
  rw[List.all_cons,Xp]at f;rw[Uj,Uj,Z0c r f.1,ih f.2]
theorem Zgf{x:V}{v:Xf}(rx:RelV x v)(fx:Zhm x=YD)(h:Vals xs us)(f:xs.all Zhm=YD):∀u∈us,Bk A s u v (eqU x u):=by
 induction h with
 | nil=>intro u hu;cases hu
 | cons r t ih=>
  intro u' hu;rw[List.all_cons,Xp]at f;rcases Xo.mp hu with rfl|hu
  .rw[Z0c r f.1];exact Ycg r rx f.1 fx
  .exact ih f.2 u' hu
def inV(x:V)(xs:List V):Bool:=xs.any λy=>eqV y x
def rIn(K:Xc)(neg:Bool):R2:=λx y H Q=>∃p xs,y= .ref p/\(SqL K H p xs\/SqT K H p xs)/\Zhm x=YD/\xs.all Zhm=YD/\Q (.bl (if neg then !inV x xs else inV x xs)) H
theorem Zvi:OpR X (Bj .In) (rIn X.K YF):=by
 intro pins s O H x y v u Q I rx ry h;obtain⟨p,xs,rfl,hq,fx,fs,q⟩:=h;cases ry;rcases hq with hq|hq
 .obtain⟨its,r,pl,hz⟩:=I.list hq
  refine SeqAt.in_listAt (eqU x) pl.isList (λw hw=>Zgf rx fx r fs w (by simpa using hw)) ⟨.bl _,H,I,rfl,?_⟩;rw[show its.toArray.any (eqU x)=its.any (eqU x) by simp,Zki r fs];exact q
 .obtain⟨its,r,pl,hz⟩:=I.tuple hq
  refine SeqAt.in_tupleAt (eqU x) pl (λw hw=>Zgf rx fx r fs w (by simpa using hw)) ⟨.bl _,H,I,rfl,?_⟩;rw[show its.toArray.any (eqU x)=its.any (eqU x) by simp,Zki r fs];exact q
theorem Zli:OpR X (Bj .NotIn) (rIn X.K YD):=by
 intro pins s O H x y v u Q I rx ry h;obtain⟨p,xs,rfl,hq,fx,fs,q⟩:=h;cases ry;rcases hq with hq|hq
 .obtain⟨its,r,pl,hz⟩:=I.list hq
  refine SeqAt.notIn_listAt (eqU x) pl.isList (λw hw=>Zgf rx fx r fs w (by simpa using hw)) ⟨.bl _,H,I,rfl,?_⟩;rw[show its.toArray.any (eqU x)=its.any (eqU x) by simp,Zki r fs];exact q
 .obtain⟨its,r,pl,hz⟩:=I.tuple hq
  refine SeqAt.notIn_tupleAt (eqU x) pl (λw hw=>Zgf rx fx r fs w (by simpa using hw)) ⟨.bl _,H,I,rfl,?_⟩;rw[show its.toArray.any (eqU x)=its.any (eqU x) by simp,Zki r fs];exact q
theorem Zkz:Zar X (.builtin "len") (λxs H Q=>∃p ys,xs=[.ref p]/\(SqL X.K H p ys\/SqT X.K H p ys)/\Q (.int ys.length) H):=by
 intro pins s O H xs us Q I r h;obtain⟨p,ys,rfl,hq,q⟩:=h;obtain⟨u,rfl,rx⟩:=vals1 r;cases rx;have hn:=Zi0;rcases hq with hq|hq
 .obtain⟨its,r',pl,hz⟩:=I.list hq
  have hlen:=r'.length;exact Calls.call_len_list pl.isList (by simp only[Xx]<;>omega) ⟨.int ys.length,H,I.tok _,⟨s.toks+1,by rw[Xx,hlen]⟩,q⟩
 .obtain⟨its,r',pl,hz⟩:=I.tuple hq
  have hlen:=r'.length;exact len_tuple pl (by simp only[Xx]<;>omega) ⟨.int ys.length,H,I.tok _,⟨s.toks+1,by rw[Xx,hlen]⟩,q⟩
theorem Zmp:Zar X (.type "list") (λxs H Q=>∃p ys,xs=[.ref p]/\(SqL X.K H p ys\/SqT X.K H p ys)/\∀l,H l=YC->Q (.ref l) (upd H l (.lst ys))):=by
 intro pins s O H xs us Q I r h;obtain⟨p,ys,rfl,hq,q⟩:=h;obtain⟨u,rfl,rx⟩:=vals1 r;cases rx;have fin:∀(its:List Xf),Vals ys its->ys.length<=Xv->∀(h':YH) (c':Nat),(∀b o',s.heap.get? b=YB o'->h'.get? b=YB o') ->
   h'.get? s.heap.objs.size=YB { cls:=.type "list",dict:=YC,data:=.seq its.toArray c',slots:=#[] }->EP X pins O Q (.ref s.heap.objs.size) { s with heap:=h' }:=λits r' hz h' c' kp e=>
  ⟨.ref s.heap.objs.size,_,I.laid (t':=s.toks) kp (XJ _) (show ObjOk X.prog X.w _ h' _ (.lst ys)from⟨hz,its,c',r',e⟩),rfl,q _ (I.hok.fresh (XJ _))⟩
 rcases hq with hq|hq
 .obtain⟨its,r',pl,hz⟩:=I.list hq
  have hlen:=r'.length;obtain⟨o,ho,hc,n,hd⟩:=pl.isList;exact call_list_seq p (.inl rfl) ho hc hd (λh' c' kp e=>fin its r' hz h' c' kp e) (by simp only[Xx]<;>omega)
 .obtain⟨its,r',pl,hz⟩:=I.tuple hq
  have hlen:=r'.length;obtain⟨o,ho,hc,n,hd⟩:=pl;exact call_list_seq p (.inr rfl) ho hc hd (λh' c' kp e=>fin its r' hz h' c' kp e) (by simp only[Xx]<;>omega)
theorem Zkq:Zar X (.type "tuple") (λxs H Q=>∃p ys,xs=[.ref p]/\((SqL X.K H p ys/\∀l,H l=YC->Q (.ref l) (upd H l (.tup ys)))\/(SqT X.K H p ys/\Q (.ref p) H))):=by
 intro pins s O H xs us Q I r h;obtain⟨p,ys,rfl,h⟩:=h;obtain⟨u,rfl,rx⟩:=vals1 r;cases rx;rcases h with⟨hq,q⟩|⟨hq,q⟩
 .obtain⟨its,r',pl,hz⟩:=I.list hq
  have hlen:=r'.length;refine call_tuple_list pl.isList (λh' kp=>?_) (by simp only[Xx]<;>omega);have I1:Inv X pins O H { s with heap:=h' }:=I.kept (t':=s.toks) kp;have I2:Inv X pins O (upd H h'.objs.size (.tup ys)) { s with heap:=h'.push { cls:=.type "tuple",data:=.seq its.toArray } } :=
   I1.laid (t':=s.toks) (λb o e=>Xk _ e) (XJ _) (show ObjOk X.prog X.w _ _ _ (.tup ys)from⟨hz,its,r',IsTup.new _ _⟩)
  exact⟨.ref h'.objs.size,_,I2,rfl,q _ (I1.hok.fresh (XJ _))⟩
 .obtain⟨its,r',pl,hz⟩:=I.tuple hq
  exact call_tuple_same pl ⟨.ref p,H,I,rfl,q⟩
def tyV(K:Xc)(T:String)(x:V)(H:Hp):Prop:=match x with
 | .str _=>T="str"
 | .int _=>T="int"
 | .ref p=>(T="list"/\∃xs,SqL K H p xs)\/(T="tuple"/\∃o,K.lookup p=YB o/\o.cls= .type "tuple"/\o.dict=YC)\/
   (T="dict"/\((∃kvs,H p=YB (.dK kvs))\/∃kvs,H p=YB (.dT kvs)))\/(T="set"/\∃S n,H p=YB (.set S n))
 | _=>False
theorem Z9v{O:St}{T:String}{x:V}{v:Xf}(I:Inv X pins O H s)(r:RelV x v)(ty:tyV X.K T x H) :
  s.TypeIs v T/\∀a,v= .ref a->∃ob,s.heap.get? a=YB ob/\ob.dict=YC:=by
 cases x with
 | str z=>
  obtain⟨t,rfl⟩:=r;cases(show T="str"from ty);exact⟨typeIs_str s z t,λ_ e=>nomatch e⟩
 | int i=>
  obtain⟨t,rfl⟩:=r;cases(show T="int"from ty);exact⟨typeIs_int s i t,λ_ e=>nomatch e⟩
 | ref p=>
  cases r;rcases ty with⟨rfl,xs,hq⟩|⟨rfl,o,hk,hc,hd⟩|⟨rfl,hk⟩|⟨rfl,S,n,hk⟩
  .obtain⟨its,_,pl,_⟩:=I.list hq
   refine⟨pl.isList.typeIs,λa e=>?_⟩;cases e;obtain⟨o,n,e,c,hd,_⟩:=pl;exact⟨o,e,hd⟩
  .refine⟨⟨o,I.kIn p o hk,hc⟩,λa e=>?_⟩
   cases e;exact⟨o,I.kIn _ o hk,hd⟩
  .have z:∃o,s.heap.get? p=YB o/\o.ExactDict:=by
    rcases hk with⟨kvs,hk⟩|⟨kvs,hk⟩
    .obtain⟨_,_,_,_,o,_,_,e,ex,_⟩:=I.hok p _ hk
     exact⟨o,e,ex⟩
    .obtain⟨_,_,_,_,o,_,_,e,ex,_⟩:=I.hok p _ hk
     exact⟨o,e,ex⟩
   obtain⟨o,e,ex⟩:=z;refine⟨⟨o,e,ex.1⟩,λa e2=>?_⟩;cases e2;exact⟨o,e,ex.2.1⟩
  .obtain⟨o,_,_,_,e,ex,_⟩:=I.hok p _ hk
   refine⟨⟨o,e,ex.1⟩,λa e2=>?_⟩;cases e2;exact⟨o,e,ex.2.1⟩
 | _=>exact V4 ty
def tBM(K:Xc)(T:String)(r:V->List V->Hp->VK->Prop)(to:TE)(t:TA):TE:=λO H Q=>to O H λx H1=>tyV K T x H1/\t O H1 λxs H2=>r x xs H2 Q
variable {o:YJ}{t:TA}{name:Str}{apos cpos:Pos}{T id:String}{r:V->List V->Hp->VK->Prop}
theorem Z22(pa:PlainAttrs T)(slot:Slot T name id)(hty:typeOf (.builtin id)=pure (.type "method_descriptor"))(hm:MtR X id r)(ho:PE X o to)(ha:PA X (e::es) t)
  (hbase:V5 o name X.env (eval o X.env)=eval o X.env:=by rfl)
  (hfew:((JK cpos (Xq (e::es) X.env)).all (λx=>!x.1)&&(backToKw cpos (UT [] X.env)).all (λx=>x.1.isSome)
   &&decide ((e::es).length+([]:List V0).length+(if([]:List V0).isEmpty then 0 else 1)<30))=YD:=by rfl)
  (hline:(apos.endLine==cpos.line)=YD:=by rfl) (hs:Xq (e::es) X.env=(YF,eval e X.env)::Xq es X.env:=by rfl) (hplain:(JK cpos (Xq es X.env)).any (·.1)=YF:=by rfl) :
  PE X (.Call (.Attribute o name apos) (e::es) [] cpos) (tBM X.K T r to t):=by
 intro pins s O H Q I h;refine wpAny_Call_method_late hbase hfew hline rfl (thn (ho pins s O H _ I h) λv s1 qz9=>?_);obtain⟨x,H1,I1,r1,ty,q1⟩:=qz9;obtain⟨h1,h2⟩:=Z9v I1 r1 ty;refine⟨T,id,pa,slot,hty,h1,h2,?_⟩;have hA:=ha cpos pins s1 O H1 _ I1 q1;rw[hs]at hA|-
 refine Calls.callWith_builtin (by show(YF||(JK cpos (Xq es X.env)).any (·.1))=YF;rw[hplain]<;>rfl) (Calls.evalArgs_plain ?_);refine thn hA λus s2 qz9=>?_;obtain⟨vs,H2,I2,r2,q2⟩:=qz9;exact hm pins s2 O H2 x vs v us Q I2 r1 r2 q2
end
def MtM(X:Cx)(id:String)(r:V->List V->Hp->VK->Prop):Prop :=
 ∀(pins:List (YG×Obj)) (s:Xg) (O:St) (H:Hp) (x:V) (xs:List V) (v:Xf) (us:List Xf) (Q:VK),Inv X pins O H s->RelV x v->Vals xs us->r x xs H Q ->
  XX (Qi X.prog X.w) X.A (call (.builtin id) (v::us)) (EP X pins O Q) X.xe s
theorem Vals.one{x:V}(h:Vals [x] us):∃u,us=[u]/\RelV x u:=by
 cases h with
 | cons r t=>cases t;exact⟨_,rfl,r⟩
theorem Vals.zero:∀{us:List Xf},Vals [] us->us=[]
 | _,.nil=>rfl
theorem Vals.eraseIdx:∀{xs:List V} {us:List Xf} (i:Nat),Vals xs us->Vals (xs.eraseIdx i) (us.eraseIdx i)
 | _,_,_,.nil=>.nil
 | _,_,0,.cons _ t=>t
 | _,_,i+1,.cons r t=>.cons r (Vals.eraseIdx i t)
theorem Vals.rep(h:Vals xs us):∀k:Nat,Vals (X7 k xs).flatten (X7 k us).flatten
 | 0=>.nil
 | k+1=>by
  rw[Vx,Vx,Uy,Uy];exact Vals.append h (Vals.rep h k)
theorem Zk7:∀(l:List α) (i:Nat),(l.eraseIdx i).length<=l.length
 | [],_=>XJ _
 | _::_,0=>Nat.le_succ _
 | _::r,i+1=>Nat.succ_le_succ (Zk7 r i)
theorem foldl_rep(its:List Xf):∀(k:Nat) (acc:List Xf),
  List.foldl (λx1 x2=>x1++x2) acc.toArray (X7 k its.toArray)=(acc++(X7 k its).flatten).toArray
 | 0,acc=>by simp
 | k+1,acc=>by
  have e:acc.toArray++its.toArray=(acc++its).toArray:=by simp
  have e2:(acc++its)++(X7 k its).flatten=acc++(X7 (k+1) its).flatten:=by
   rw[Vx,Uy,BW]
  rw[<-e2,<-foldl_rep its k (acc++its),<-e,Vx,List.foldl_cons]
end L2
variable {dx C l:YG}{CX:CXT}{op:CmpOp}{ps:List Str}{vs:List Xf}{apos p2 cpos:Pos}{r:R2}{sp:Sp}{name qual:Str}{kindOf:Str->Option BX}{mA mg:Str->Option Xf}{id:String}{tc:TE}{scope:UW}{prog:X5}
namespace L2
open PySem PySem.Spec PyProof.Rows
section
variable {O:St}{b:YG}{zs:List V}
theorem Inv.lset{its its':List Xf}{n:Nat}{f:Array Xf->Array Xf}(I:Inv X pins O H s)(hH:H l=YB (.lst xs))
  (e:s.heap.get? l=YB { cls:=.type "list",data:=.seq its.toArray n }) (hf:f its.toArray=its'.toArray) (hv:Vals ys its') (hz:ys.length<=Xv) :
  Inv X pins O (upd H l (.lst ys)) { s with heap:=s.heap.update l (QM f),toks:=t' }:=by
 have q:=PySem.IsL.update e f;rw[hf]at q;refine I.write (x:=l) (e:=l) (by rw[hH];exact trivial) (.inl rfl) (λb' u hb hu=>(Heap.get?_update_other s.heap (QM f) (Vn hb)).trans hu) ⟨_,q⟩ ?_;exact⟨hz,its',_,hv,q⟩
theorem Inv.lnew{its:List Xf}(I:Inv X pins O H s)(hv:Vals ys its)(hz:ys.length<=Xv) :
  Inv X pins O (upd H s.heap.objs.size (.lst ys)) { s with heap:=s.heap.push { cls:=.type "list",data:=.seq its.toArray },toks:=t' } :=
 I.laid (λ_ _ q=>Xk _ q) (XJ _) ⟨hz,its,0,hv,XN _ rfl⟩
theorem Inv.fresh(I:Inv X pins O H s):H s.heap.objs.size=YC:=I.hok.fresh (XJ _)
theorem Inv.lstM(I:Inv X pins O H s)(hH:H l=YB (.lst xs)):xs.length<=Xv/\∃(its:List Xf) (n:Nat),Vals xs its/\xs.length=its.length/\s.heap.get? l=YB { cls:=.type "list",data:=.seq its.toArray n }:=by
 obtain⟨z,its,n,r,e⟩:=I.hok l _ hH;exact⟨z,its,n,r,r.length,e⟩
theorem Zo2{n:Nat}(h:n<=Xv):V1 n=YF:=by
 unfold V1;exact YS (by omega)
end
def Z44:V->List V->Hp->VK->Prop:=λx vs H Q=>∃l xs y,x= .ref l/\vs=[y]/\H l=YB (.lst xs)/\xs.length<Xv/\Q .non (upd H l (.lst (xs++[y])))
theorem Zk3:MtM X "list.append" Z44:=by
 intro pins s O H x vs v us Q I rx rv h;obtain⟨l,xs,y,rfl,rfl,hH,hz,q⟩:=h;cases rx;obtain⟨u,rfl,ru⟩:=rv.one;obtain⟨z,its,n,r,hl,e⟩:=I.lstM hH;refine call_meets F.slot_list_append ⟨_,e,rfl⟩ F.entry_list_append (F.args_list_append_2 _ _) (PySem.list_append l its.toArray n u (by rw[Xx];omega)) ⟨e,?_⟩;refine⟨.non,_,I.lset (its':=its++[u]) hH e (by simp) (r.append (.cons ru .nil)) ?_,rfl,q⟩;rw[XH,U0];omega
def Z6t:V->List V->Hp->VK->Prop:=λx vs H Q=>∃l b xs zs,x= .ref l/\vs=[.ref b]/\H l=YB (.lst xs)/\H b=YB (.lst zs)/\xs.length+zs.length<=Xv/\Q .non (upd H l (.lst (xs++zs)))
theorem Zwv:MtM X "list.extend" Z6t:=by
 intro pins s O H x vs v us Q I rx rv h;obtain⟨l,b,xs,zs,rfl,rfl,hH,hB,hz,q⟩:=h;cases rx;obtain⟨u,rfl,ru⟩:=rv.one;cases ru;obtain⟨z,its,n,r,hl,e⟩:=I.lstM hH;obtain⟨z2,its2,n2,r2,hl2,e2⟩:=I.lstM hB;have hsz:its.toArray.size+its2.toArray.size<=Xv:=by rw[Xx,Xx];omega
 have hlong:¬(!its.toArray.isEmpty&&V1 (its.toArray.size+its2.toArray.size))=YD:=by
  rw[Zo2 hsz,Bool.and_false];exact Xn
 refine call_meets F.slot_list_extend ⟨_,e,rfl⟩ F.entry_list_extend (F.args_list_extend_2 _ _)
  (AutoSeq1.list_extend_list_list_0 l its.toArray n b its2.toArray n2 hlong (by rw[Xx];omega) (by omega)) ⟨e,e2,?_⟩
 refine⟨.non,_,I.lset (its':=its++its2) hH e (by simp) (r.append r2) ?_,rfl,q⟩;rw[XH];omega
def Yb9:V->List V->Hp->VK->Prop:=λx vs H Q=>∃l xs i k y,x= .ref l/\vs=[.int i]/\H l=YB (.lst xs)/\-(2^63)<=i/\i<2^63/\seqIndex? i xs.length=YB k/\xs[k]? =YB y/\Q y (upd H l (.lst (xs.eraseIdx k)))
theorem Zy1:MtM X "list.pop" Yb9:=by
 intro pins s O H x vs v us Q I rx rv h;obtain⟨l,xs,i,k,y,rfl,rfl,hH,h1,h2,hk,hy,q⟩:=h;cases rx;obtain⟨u,rfl,ru⟩:=rv.one;obtain⟨t,rfl⟩:=ru;obtain⟨z,its,n,r,hl,e⟩:=I.lstM hH;obtain⟨w,hw,rw'⟩:=r.get hy;refine call_meets F.slot_list_pop ⟨_,e,rfl⟩ F.entry_list_pop (F.args_list_pop_2 _ _)
  (MeetsSeq.list_pop_at l its.toArray n i t k w (fitsIndex_both h1 h2) (by rw[Xx,<-hl];exact hk) (by rw[<-Q3];exact hw) (by rw[Xx];omega)) ⟨e,?_⟩
 refine⟨y,_,I.lset (its':=its.eraseIdx k) hH e ?_ (r.eraseIdx k) ?_,rw',q⟩
 .show its.toArray.eraseIdxIfInBounds k=(its.eraseIdx k).toArray
  rw[List.eraseIdxIfInBounds_toArray]
 .have:=Zk7 xs k
  omega
def Yk2:R2:=λx y H Q=>∃l k xs,x= .ref l/\y= .int k/\H l=YB (.lst xs)/\-(2^63)<=k/\k<2^63/\xs.length*k.toNat<=Xv/\
 ∀p,H p=YC->Q (.ref p) (upd H p (.lst (X7 k.toNat xs).flatten))
theorem len_rep(xs:List α)(k:Nat):(X7 k xs).flatten.length=k*xs.length:=by
 induction k with
 | zero=>simp
 | succ k ih=>rw[Vx,Uy,XH,ih,Nat.succ_mul,Nat.add_comm]
theorem Ybx:OpR X (VM .Mult) Yk2:=by
 intro pins s O H x y v u Q I rx ry h;obtain⟨l,k,xs,rfl,rfl,hH,h1,h2,hz,q⟩:=h;cases rx;obtain⟨t,rfl⟩:=ry;obtain⟨z,its,n,r,hl,e⟩:=I.lstM hH;have hlen:its.toArray.size*k.toNat<=Xv:=by rw[Xx,<-hl];exact hz
 have hcap:¬its.toArray.size*k.toNat>(2^63-1)/8:=by
  have:(Xv:Nat)<=(2^63-1)/8:=by decide
  omega
 have hfit:¬(!VG.List.listFitsIndex k)=YD:=by
  rw[fitsIndex_both h1 h2];exact Xn
 have hlong:¬V1 (its.toArray.size*k.toNat)=YD:=by
  rw[Zo2 hlen];exact Xn
 have hnew:List.foldl (λx1 x2=>x1++x2) #[] (X7 (if its.toArray.isEmpty=YD then 0 else k.toNat) its.toArray)=(X7 k.toNat its).flatten.toArray:=by
  have f0:∀m:Nat,List.foldl (λx1 x2=>x1++x2) #[] (X7 m its.toArray)=(X7 m its).flatten.toArray:=λm=>by
   have:=foldl_rep its m [];rw[List.nil_append]at this;exact this
  rw[f0];cases its with
  | nil=>simp
  | cons a r'=>rw[YM (by simp)]
 refine wpAny_binaryOp_repeat_ref (T :="list") (U :="int") (by decide) ⟨_,e,rfl⟩ (λs'=>typeIs_int s' k t) noFill_list_mul F.fills_int_mul F.slot_int_rmul repeat_list F.slot_int_index.lookup
  (call_meets F.slot_int_rmul (typeIs_int s k t) F.entry_int_rmul (F.args_int_rmul_2 _ _) (int___rmul___int_list k t l its.toArray n)
   ⟨e,rfl,⟨_,e,rfl⟩,call_meets F.slot_list_mul ⟨_,e,rfl⟩ F.entry_list_mul (F.args_list_mul_2 _ _) (AutoListH.list___mul___list_int_3 l its.toArray n k t hfit hcap hlong) ⟨e,?_⟩⟩)
 rw[hnew];exact⟨.ref _,_,I.lnew (t':=s.toks) (r.rep k.toNat) (by rw[len_rep,Nat.mul_comm];exact hz),rfl,q _ I.fresh⟩
end L2
namespace Att
open PySem PySem.W PySem.Calls PyProof.Rows
theorem Zho{P:Params}:∀(ns:List Int) (vs:List Xf),WellAll P h vs (ns.map WData.int)->BL vs ns:=by
 intro ns
 induction ns with
 | nil=>
  intro vs w;rw[List.map_nil]at w;cases w;exact .nil
 | cons n ns ih=>
  intro vs w;rw[XC]at w;cases w with
  | cons a b=>
   cases a;exact .cons _ _ (ih _ b)
theorem Zwb{l:OpenLaw}{n:Nat}(hn:l.most=YB n){P:Params}{args:List WData}{vals:List Xf}
  (hpre:l.row.toRowW.claim.pre args=YD) (hwl:WellAll P h vals args) :
  ∃a vs ns,vals=[Qq a]/\args=[WData.list (ns.map WData.int)]/\h.get? a=YB { cls:=.type "list",data:=.seq vs.toArray }/\BL vs ns/\ns.length<=n:=by
 have hsh:WShape.hasAll [] args [.list .int]=YD:=(pre_splitW hpre).1;have hc:l.pre.holds [] { args:=args }=YD:=(pre_splitW hpre).2;obtain⟨d,r,rfl,h1,h2⟩:=hasAllW_cons hsh;obtain rfl:=hasAllW_nil h2;obtain⟨xs,rfl,h3⟩:=hasW_list h1;obtain⟨ns,rfl⟩:=items_int h3;have hlen:ns.length<=n:=by
  unfold OpenLaw.pre at hc;have h4:(WTm.not (.lt (.lit (.int (n:Int))) (.len (.arg 0)))).holds [] { args:=[.list (ns.map .int)] }=YD:=by
   have h4:=(holds_andW hc).1;rw[hn]at h4;exact h4
  have h5:=condW_of h4 (w_not (w_lt w_lit (w_len_list (w_arg rfl))));rw[Xe]at h5;refine Nat.le_of_not_lt λq=>?_;have q':(n:Int)<((ns.length:Nat):Int):=by omega
  first
   | (rw[YQ q']at h5;exact YX h5 (by decide))
   | (simp at h5;omega)
 cases hwl with
 | cons w1 w2=>
  cases w2;cases w1 with
  | list ho hall=>exact⟨_,_,ns,rfl,rfl,ho,Zho ns _ hall,hlen⟩
theorem Zvd(l:OpenLaw)(args:List WData):l.row.toRowW.claim.post args (.bool YD) args=YD :=
 postW_of (r:=l.row.toRowW) (X:=(YD==YD))
  (show WShape.has [] (.bool YD) .bool=YD by first|rfl|decide|simp[WShape.has,WShape.arms,WShape.armsAll])
  (show(WTm.eq .res (.lit (.bool YD))).value [] { args:=args,res:=YB (.bool YD),after:=args }=YB (.bool (YD==YD))from w_eq_bool (w_res rfl) w_lit) rfl
theorem attach_call{l:OpenLaw}{n:Nat}{q:X5}{loose:List Str}{XP:(Str->Option Xf)->YH->Prop}{YP:Qu->YH->Prop}{d:DefRec}
  (hn:l.most=YB n) (hdf:d.params.defaults=[])
  (call:∀(w:Qu) (s₀ s₁:Xg) (mg mb:Str->Option Xf) (fa:YG) (o:Obj) (pm cd doc:Xf) (a:YG) (vs:List Xf) (ns:List Int),
   Ground q loose [] XP w s₀ mg mb s₁.heap->YP w s₁.heap ->
   s₁.heap.get? fa=YB o->o.data= .func (docDef d.name d.params d.body d.scope pm cd doc)->s₁.heap.CodeRec cd d.name->mg d.name=YB (.ref fa) ->
   s₁.heap.get? a=YB { cls:=.type "list",data:=.seq vs.toArray }->BL vs ns->ns.length<=n->s₁.gens=#[] ->
   codeAny (Qi l.prog w) callerA (.call (.ref fa) ⟨[.ref a],[]⟩) (λr s'=>r= .ok (.ret (.bool YD))/\OldK s₁.heap s'.heap/\s'.os=s₁.os/\AllBare s'.gens) s₁) :
  WalkO q loose XP YP l.row.toRowW d [] (λf vs=>PySem.call f vs):=by
 intro w s₀ s₁ mg mb G Y fa o pm cd doc dV kV ho hd hcd hD hmg hg args vals as hpre hlay hrd hwl hlo;obtain rfl:dV= .none:=Dflts.none hD hdf;obtain rfl:kV= .none:=Dflts.noKw hD;obtain⟨a,vs,ns,rfl,rfl,hobj,hints,hlen⟩:=Zwb hn hpre hwl;refine enter_call (codeAny_mono (call w s₀ s₁ mg mb fa o pm cd doc a vs ns G Y ho (fd_plain hd) hcd hmg hobj hints hlen hg) λr s' hq=>?_);obtain⟨rfl,h2,h3,h4⟩:=hq;exact⟨.inl ⟨.bool YD,.bool YD,[],rfl,λ_=>rfl,.bool YD,Zvd l _,λ_=>⟨List.Pairwise.nil,λ_ hm=>(nomatch hm)⟩⟩,h2,h3,h4⟩
section
variable {K:Frag}
end
end Att
namespace L2
open PySem PySem.Spec PyProof.Rows
theorem Zwc{ns:List Int}(h:BL vs ns):Vals (ns.map V.int) vs:=by
 induction h with
 | nil=>exact .nil
 | cons n t h ih=>exact .cons ⟨t,rfl⟩ ih
def Only(H:Hp):Prop:=∀b,H b=YC\/∃o xs,H b=YB (.frz o (.lst xs))
theorem Zyn{mb:Str->Option Xf}{k:Nat}{fa:YG}{fd:X3}{s₁:Xg}{ns:List Int}
  (KX:K.In s₁.heap) (hns:s₁.heap.Ns Qm mg) (hb:s₁.heap.Ns builtinsNs mb) (hbb:∀x:Str,x≠"__name__" ->mb x=Qk x) (hlim:s₁.heap.NoLimit) (hg:s₁.gens=#[])
  (ha:s₁.heap.get? a=YB { cls:=.type "list",data:=.seq vs.toArray }) (hi:BL vs ns) (hl:ns.length<=Xv) (hr:Room k callerA)
  (F:∀base:YH,K.In base->base.Ns Qm mg->FnOk P w K mg base CX k fa fd [x] sp) (hbind:∀(s:Xg) (u:Xf),BindsTo s fd ⟨[u],[]⟩ [(x,u)])
  (hsp:∀H:Hp,Only H->SqL K H a (ns.map V.int)->sp [.ref a] H (λv _=>v= .bl YD) λ_ _ _=>False)
  (hCX:∀H e s',CX [] H s₁ (λ_ _ _=>False) e s'->False) :
  codeAny (Qi P w) callerA (.call (.ref fa) ⟨[.ref a],[]⟩) (λr s'=>r= .ok (.ret (.bool YD))/\OldK s₁.heap s'.heap/\s'.os=s₁.os/\AllBare s'.gens) s₁:=by
 have rv:=Zwc hi;have lenV:=hi.length
 -- from an abstract heap in which nothing but the script may be tracked
 have core:∀H:Hp,Only H->SqL K H a (ns.map V.int)->HOk P w H s₁.heap->(∀b,H b≠YC->b=a)->(H a≠YC->K.lookup a=YC) ->
   codeAny (Qi P w) callerA (.call (.ref fa) ⟨[.ref a],[]⟩) (λr s'=>r= .ok (.ret (.bool YD))/\OldK s₁.heap s'.heap/\s'.os=s₁.os/\AllBare s'.gens) s₁:=by
  intro H hO hS hok hA hK;have base_of:∀{b:YG} {o:Obj},s₁.heap.get? b=YB o->H b=YC->(Zzu s₁.heap H).get? b=YB o:=λe n=>Zzi e n;have noA:∀{b:YG} {o:Obj} {es:Array DictEntry} {ep:Nat},s₁.heap.get? b=YB o->o.data= .dict es ep->H b=YC:=fun{b o es ep} e d=>by
   cases q:H b with
   | none=>rfl
   | some u=>
    have e':b=a:=hA b (by rw[q];simp);subst e';rw[ha]at e;cases e;have d':Data.seq vs.toArray _=Data.dict es ep:=d;cases d'
  have nsK:∀{b:YG} {m:Str->Option Xf},s₁.heap.Ns b m->(Zzu s₁.heap H).Ns b m:=fun{b m} ⟨o,es,ep,e,d,r⟩=>⟨o,es,ep,base_of e (noA e d),d,r⟩;have hKb:K.In (Zzu s₁.heap H):=λb o e=>base_of (KX b o e) (by
   cases q:H b with
   | none=>rfl
   | some u=>
    have e':b=a:=hA b (by rw[q];simp);subst e';rw[hK (by rw[q];simp)]at e;cases e)
  have hM:Mod K mg (Zzu s₁.heap H):=⟨hKb,nsK hns,⟨mb,nsK hb,hbb⟩,let⟨mc,h1,h2⟩:=hlim;⟨mc,nsK h1,h2⟩⟩;have e0:Ydr P w K mg (Zzu s₁.heap H) callerA [] s₁ H:=⟨rfl,hM,λb o e=>Z5e e,Nat.le_of_eq (Zvp _ _),trivial,λb hb=>YX (show b∈([]:List YG)from hb) (by simp),hok,.of_eq hg⟩;refine codeAny_mono ((F _ hKb (nsK hns)).run callerA [] s₁ H ⟨[.ref a],[]⟩ [.ref a] [.ref a] _ _ hr e0 (hbind s₁ (.ref a)) (.cons rfl .nil) (hsp H hO hS)) λr s' h=>?_;cases r with
  | error e=>exact(hCX H e s' h).elim
  | ok fl=>
   cases fl with
   | next=>exact V4 h
   | brk=>exact V4 h
   | cont=>exact V4 h
   | ret u=>
    obtain⟨v,H',os,bare,un,hok',r',q⟩:=h;have q':v= .bl YD:=q;subst q';obtain rfl:u=Value.bool YD:=r';refine⟨rfl,OldK.of_keep λb o e=>?_,os,bare⟩;cases q:H b with
    | none=>exact un.keep b o e q (by intro z;exact YX (show b∈([]:List YG)from z) (by simp)) (by simp)
    | some u=>
     rcases hO b with z|⟨ob,xs,z⟩
     .rw[q]at z;cases z
     .have z2:=un.frzs b ob _ z
      obtain⟨e1,_⟩:=hok b _ z;obtain⟨e2,_⟩:=hok' b _ z2;rw[e]at e1;cases e1;exact e2
 cases hk:K.lookup a with
 | some o=>
  -- the script is one of the module's own objects
  have e:=KX a o hk;rw[ha]at e;cases e;refine core (λ_=>YC) (λ_=>.inl rfl) (.inr ⟨_,vs.toArray,_,hk,rfl,rfl,rfl,by rw[Xx,lenV];exact hl,by simpa using rv⟩) (λb u z=>by have z':(YC:Option HO)=YB u:=z;cases z') (λb z=>YX rfl z) λz=>YX rfl z
 | none=>
  refine core (λb=>if b=a then YB (.frz { cls:=.type "list",data:=.seq vs.toArray } (.lst (ns.map V.int)))else YC) (λb=>?_) (.inl (.inr ⟨{ cls:=.type "list",data:=.seq vs.toArray },YL rfl⟩)) (λb u z=>?_) (λb z=>?_) λ_=>hk
  .by_cases hb:b=a
   .exact .inr ⟨_,_,YL hb⟩
   .exact .inl (YM hb)
  .by_cases hb:b=a
   .have z':=(YL hb).symm.trans z
    cases z';subst hb;exact⟨ha,by rw[Xe];exact hl,vs,_,rv,ha⟩
   .have z':=(YM hb).symm.trans z
    cases z'
  .by_cases hb:b=a
   .exact hb
   .exact YX (YM hb) z
abbrev KOf(_:K.In h):Xc:=K
theorem Z32{l:PySem.W.OpenLaw}{n k:Nat}{q:X5}{loose:List Str}{XP:(Str->Option Xf)->YH->Prop}{YP:Qu->YH->Prop}{d:DefRec}{K:Params->Xc}{CX:Qu->CXT}{sp:Qu->Sp}
  (hn:l.most=YB n) (hn2:n<=Xv) (hdf:d.params.defaults=[]) (hr:Room k callerA)
  (hY:∀(w:Qu) (h:YH),YP w h->(K w.params).In h)
  (F:∀(w:Qu) (mg:Str->Option Xf) (fa:YG) (h:YH),(K w.params).In h->h.Ns Qm mg->mg d.name=YB (.ref fa) ->
   ∃fd:X3,(∀(s:Xg) (u:Xf),BindsTo s fd ⟨[u],[]⟩ [(x,u)])/\
    ∀base:YH,(K w.params).In base->base.Ns Qm mg->FnOk l.prog w (K w.params) mg base (CX w) k fa fd [x] (sp w))
  (hsp:∀(w:Qu) (H:Hp) (a:YG) (ns:List Int),ns.length<=n->Only H->SqL (K w.params) H a (ns.map V.int)->sp w [.ref a] H (λv _=>v= .bl YD) λ_ _ _=>False)
  (hCX:∀(w:Qu) (H:Hp) (s:Xg) (e:Xf) (s':Xg),CX w [] H s (λ_ _ _=>False) e s'->False) :
  PySem.W.WalkO q loose XP YP l.row.toRowW d [] (λf vs=>PySem.call f vs):=by
 refine Att.attach_call hn hdf λw s₀ s₁ mg mb fa o pm cd doc a vs ns G Y ho hd hcd hmg hobj hints hlen hg=>?_;have KX:=hY w _ Y;obtain⟨fd,hb,hF⟩:=F w mg fa _ KX G.T.g hmg;exact Zyn KX G.T.g G.T.b G.T.builtins G.T.nolimit hg hobj hints (QB hlen hn2) hr hF hb (λH hO hS=>hsp w H a ns hlen hO hS) λH e s'=>hCX w H s₁ e s'
def Ze4(s:YK):Arguments:=match s with
 | .FunctionDef _ a _ _ _ _ _ _ _ _=>a
 | _=>{ posonlyargs:=[],args:=[],vararg:=YC,kwonlyargs:=[],kw_defaults:=[],kwarg:=YC,defaults:=[] }
def Zbq(s:YK):List YK:=match s with
 | .FunctionDef _ _ b _ _ _ _ _ _ _=>b
 | _=>[]
def Zn(s:YK):UW:=match s with
 | .FunctionDef _ _ _ _ _ _ sc _ _ _=>sc
 | _=>{ kind:=.function,names:=[],isGenerator:=YF,isCoroutine:=YF }
abbrev CX0:CXT:=λ_ _ _ _ _ _=>False
abbrev E0:XK:=λ_ _ _=>False
theorem Zzn:Ziw CX0 X E0:=λ_ _ _ _ _ _ _ h=>h.elim
structure Fun(K:Xc)(x qual:Str)(st:YK)(f:YG)(fd:X3):Prop where
 ex:∃(oc:Xf) (od:Option YG) (kV doc pm:Xf) (an:Option YG) (cdv ct:Xf) (osl:Array (Option Xf)),
  fd=V3 x qual (Ze4 st) (Zbq st) (Zn st) .none kV doc pm an cdv ct/\K.lookup f=YB ⟨oc,od,.func fd,osl⟩/\PySem.W.codeIn K cdv qual=YD
 kp:Vf K (.ref f)=YD
section
variable {base:YH}
theorem Fun.ok{x qual:Str}{st:YK}{f:YG}{fd:X3}{N ps:List Str}{k:Nat}{sp:Sp}(F:Fun K x qual st f fd)(S:Zv N ps (Zn st))(len:∀vs H Q E,sp vs H Q E->vs.length=ps.length)
  (hbody:∀(cdv:Xf) (A:Qv) (outer:List Env) (s:Xg) (H:Hp) (vs:List V) (Q:VK) (E:XK),Room k (A.deeper (envOfC qual (Zn st) s.heap.objs.size f cdv))->sp vs H Q E ->
   ∃t,PSs (Z1v CX0 P w K mg base N qual (Zn st) f cdv A outer s H E).nox (Zbq st) t/\t { nx:=λ_ H'=>Q .non H',rt:=Q } (start N vs) H):FnOk P w K mg base CX0 (k+1) f fd ps sp:=by
 obtain⟨oc,od,kV,doc,pm,an,cdv,ct,osl,rfl,lk,hcd⟩:=F.ex;refine Yee lk hcd S len λA outer s H vs Q E hr hsp=>?_;obtain⟨t,h,q⟩:=hbody cdv A outer s H vs Q E hr hsp;exact⟨t,h.nox,q⟩
theorem Fun.binds{f:YG}{fd:X3}(F:Fun K x qual st f fd)
  (h:∀(kV doc pm:Xf) (an:Option YG) (cdv ct:Xf) (us:List Xf),us.length=ps.length->bindArgs (V3 x qual (Ze4 st) (Zbq st) (Zn st) .none kV doc pm an cdv ct) ⟨us,[]⟩=pure (ps.zip us)):Binds K fd ps []:=by
 obtain⟨oc,od,kV,doc,pm,an,cdv,ct,osl,rfl,lk,hcd⟩:=F.ex;exact .all (h kV doc pm an cdv ct)
theorem Ya2{f:YG}{oc:Xf}{od an:Option YG}{osl:Array (Option Xf)}{kV doc pm cdv ct:Xf}(l:K.lookup f=YB ⟨oc,od,.func (V3 x qual (Ze4 st) (Zbq st) (Zn st) .none kV doc pm an cdv ct),osl⟩)
  (c:PySem.W.codeIn K cdv qual=YD) (k:Vf K (.ref f)=YD):Fun K x qual st f (V3 x qual (Ze4 st) (Zbq st) (Zn st) .none kV doc pm an cdv ct):=⟨⟨oc,od,kV,doc,pm,an,cdv,ct,osl,rfl,l,c⟩,k⟩
end
theorem pv(i:Nat)(hN:X.N[i]? =YB x:=by rfl)(hv:Vis X.env.scope x:=by first|exact QG rfl|exact Qt (QG rfl)|exact Qt (Qt rfl))(hd:(x==("__debug__" : Str))=YF:=by decide)
  (hcd:(x==("__classdict__" : Str))=YF:=by decide):PE X (.Name x pos) (Yir i):=Z1x hN hv hd hcd
def Same(H H':Hp):Prop:=∀b o,H b=YB o->H' b=YB o
theorem Same.refl(H:Hp):Same H H:=λ_ _ h=>h
theorem Same.trans(a:Same H H1)(b:Same H1 H2):Same H H2:=λc o h=>b c o (a c o h)
theorem Same.free(e:Same H H')(h:H' l=Option.none):H l=Option.none:=by
 cases q:H l with
 | none=>rfl
 | some o=>
  rw[e l o q]at h;cases h
end L2
set_option maxHeartbeats 4000000
namespace L2
open PySem PySem.Spec PyProof.Rows
def Bt(n:Nat)(x:Int):Prop:=x.natAbs<2^n
theorem Bt.mono{m n:Nat}{x:Int}(h:Bt m x)(hn:m<=n):Bt n x:=Qp h (BV (by decide) hn)
theorem Bt.mul{m n:Nat}{x y:Int}(h:Bt m x)(k:Bt n y):Bt (m+n) (x*y):=by
 unfold Bt at*
 rw[Int.natAbs_mul,Nat.pow_add];exact Nat.mul_lt_mul'' h k
theorem Bt.neg{m:Nat}{x:Int}(h:Bt m x):Bt m (-x):=by
 unfold Bt at*
 rw[Int.natAbs_neg];exact h
theorem Bt.add{m n:Nat}{x y:Int}(h:Bt m x)(k:Bt n y):Bt (m+n+1) (x+y):=by
 unfold Bt at*
 have h1:2^m<=2^(m+n):=BV (by decide) (by omega);have h2:2^n<=2^(m+n):=BV (by decide) (by omega);have h3:2^(m+n+1)=2*2^(m+n):=by rw[Nat.pow_succ];omega
 have h4:=Int.natAbs_add_le x y;omega
theorem Bt.of_le{m:Nat}{x y:Int}(h:Bt m x)(k:y.natAbs<=x.natAbs):Bt m y:=Nat.lt_of_le_of_lt k h
theorem Bt.of_lt{m:Nat}{x:Int}(h1:-(2^m)<x)(h2:x<2^m):Bt m x:=by
 unfold Bt;have e:((2^m:Nat):Int)=2^m:=by simp
 omega
theorem Bt.bits{m:Nat}{x:Int}(h:Bt m x):Bc x<=m:=by
 unfold Bc;split
 .exact QS _
 .rename_i hx
  have hp:x.natAbs≠0:=by
   intro e;apply hx;have:x=0:=by omega
   subst this;rfl
  have:=(Nat.log2_lt hp).mpr h;omega
theorem Bt.mulOk{m n:Nat}{x y:Int}(h:Bt m x)(k:Bt n y)(hmn:m+n<=100000000:=by decide):IntMulOk x y:=by
 have h1:=h.bits;have h2:=k.bits;have h3:Builtin.Int.intTooBig (Bc x+Bc y)=YF:=by
  unfold Builtin.Int.intTooBig bitsLine;exact YS (by omega)
 unfold IntMulOk;rw[h3];simp
def DivOk(_ j:Int):Prop:=j≠0/\j.natAbs.log2<9000
theorem DivOk.of{i j:Int}{n:Nat}(h0:j≠0)(h:Bt n j)(hn:n<=9000:=by decide):DivOk i j:=by
 refine⟨h0,?_⟩;have hp:j.natAbs≠0:=by omega
 have:=(Nat.log2_lt hp).mpr h;omega
theorem Z7g:OpR X (VM .Mult) (rI IntMulOk λi j=>.int (i*j)):=opI λ_ _ _ _ _ _ _ hc q=>mul_int q hc
theorem Zz6:OpR X (VM .FloorDiv) (rI DivOk λi j=>.int (i.fdiv j)):=opI λ_ _ _ _ _ _ _ hc q=>floordiv_int hc.1 q (.inl (PyProof.noPylong_of_log2 hc.2))
theorem Z2t:OpR X (VM .Pow) (rI Yc3 λi j=>.int (i^j.toNat)):=Z9a
theorem Zh6(elt target iter:YJ)(ifs:List YJ)(scope:UW)(pos:Pos)(it acc:Xf)(env:Env) :
  compTurn (.ListComp elt [⟨target,iter,ifs,0⟩] scope pos) 0 it acc env=(standAt iter.pos>>= λ_=>pyNext it>>= λr=>match r with
   | none=>pure (.done .next)
   | some v=>Uw target it v>>= λ_=>assign target env v>>= λ_=>
    (forIn ifs YD λc r=>if r=YD then do let ok<-isTrue c env (eval c env);pure (Bh ok)else pure (Bh r))>>= λok=>
     if ok=YD then((eval elt env>>= λx=>call (.builtin "list.append") [acc,x]>>= λ_=>pure ())>>= λ_=>
      again (.compLoop (.ListComp elt [⟨target,iter,ifs,0⟩] scope pos) 0 it acc env))
     else again (.compLoop (.ListComp elt [⟨target,iter,ifs,0⟩] scope pos) 0 it acc env)):=by rfl
theorem Zlx{R:Result->Xg->Prop}{elt target:YJ}{ifs:List YJ}{it acc:Xf}{env:Env}(I:Nat->Xg->Prop)
  (turn:∀n s,I n s->XX (Qi prog w) A (pyNext it) (λr s₁=>match r with
   | none=>R (.ok .next) s₁
   | some v=>XX (Qi prog w) A (Uw target it v) (λ_ s₁=>XX (Qi prog w) A (assign target env v) (λ_ s₂=>
     XX (Qi prog w) A (forIn ifs YD λc r=>if r=YD then do let ok<-isTrue c env (eval c env);pure (Bh ok)else pure (Bh r)) (λok s₃=>
      if ok=YD then XX (Qi prog w) A (eval elt env) (λx s₄=>
       XX (Qi prog w) A (call (.builtin "list.append") [acc,x]) (λ_ s₅=>∃m,m<n/\I m s₅) (notedBy (Qi prog w) A env λe s'=>R (.error e) s') s₄) (notedBy (Qi prog w) A env λe s'=>R (.error e) s') s₃
      else∃m,m<n/\I m s₃) (notedBy (Qi prog w) A env λe s'=>R (.error e) s') s₂) (notedBy (Qi prog w) A env λe s'=>R (.error e) s') s₁) (notedBy (Qi prog w) A env λe s'=>R (.error e) s') s₁) (notedBy (Qi prog w) A env λe s'=>R (.error e) s') s)
  (n:Nat) (h:I n s) :
  codeAny (Qi prog w) A (.compLoop (.ListComp elt [⟨target,iter,ifs,0⟩] scope pos) 0 it acc env) R s:=by
 refine codeAny_loop rfl I (λn s hI=>?_) n h;show XX _ A ((compTurn (.ListComp elt [⟨target,iter,ifs,0⟩] scope pos) 0 it acc env).onRaise (λx=>do noteFrame x env;theTreesLotGoes x)) _ _ s;refine wpAny_noted ?_;rw[Zh6];refine Xd (wpAny_standAt (Xd (Vd (turn n s hI) (λr s₁ h₁=>?_) λ_ _ h'=>h')));cases r with
 | none=>exact Xy h₁
 | some v=>
  refine Xd (Vd h₁ (λ_ s₂ h₂=>?_) λ_ _ h'=>h');refine Xd (Vd h₂ (λ_ s₂ h₂=>Xd (Vd h₂ (λok s₃ h₃=>?_) λ_ _ h'=>h')) λ_ _ h'=>h');cases ok with
  | false=>exact Xy ⟨rfl,h₃⟩
  | true=>
   exact Xd (Xd (Vd h₃ (λx s₄ h₄=>Xd (Vd h₄ (λ_ s₅ h₅=>Xy (Xy ⟨rfl,h₅⟩)) λ_ _ h'=>h')) λ_ _ h'=>h'))
def Zhw(env:Env):List (Str×BX)->List (Str×YG)->List (Str×YG)
 | [],acc=>acc
 | (n,k)::r,acc=>if k== .free then Zhw env r ((n,(env.cells.lookup n).getD 0)::acc)else Zhw env r acc
theorem Zjg{env:Env}:∀(names:List (Str×BX)) (acc:List (Str×YG)),(∀y∈names,y.2= .free->∃c,env.cells.lookup y.1=YB c) ->
  (forIn names acc (λ(y:Str×BX) cs=>(if y.2== .free then(cellOf env y.1>>= λc=>pure (Bh ((y.1,c)::cs)))else pure (Bh cs):Sem (ForInStep (List (Str×YG))))))=pure (Zhw env names acc)
 | [],acc,_=>by rw[Ux];rfl
 | (n,k)::r,acc,h=>by
  by_cases hk:k= .free
  .subst hk
   obtain⟨c,hc⟩:=h (n,.free) (.head _) rfl;have hc':env.cells.lookup n=YB c:=hc;have e:=Zjg (env:=env) r ((n,c)::acc) λy hy=>h y (.tail _ hy);have ec:cellOf env n=pure c:=by
    unfold cellOf;rw[hc']
   rw[List.forIn_cons];simp only[beq_self_eq_true,if_true];rw[ec];simp only[Zhw,beq_self_eq_true,if_true,hc',Option.getD_some];exact e
  .have e:=Zjg (env:=env) r acc λy hy=>h y (.tail _ hy)
   have hb:(k==Q4)=YF:=by simpa using hk
   rw[List.forIn_cons];simp only[Zhw,hb,Vk,if_false];exact e
theorem Zdi{env:Env}(h:∀y∈scope.names,y.2= .free->∃c,env.cells.lookup y.1=YB c):closureFor scope env=pure (Zhw env scope.names []):=by
 have e:=Zjg scope.names [] h;have e':(forIn scope.names ([]:List (Str×YG)) (λ(y:Str×BX) cs=>(match y with|(name,kind)=>do
   if kind== .free then do let a<-cellOf env name;pure (Bh ((name,a)::cs))else pure (Bh cs):Sem (ForInStep (List (Str×YG))))))=pure (Zhw env scope.names []):=e
 exact YT (λ(m:Sem (List (Str×YG)))=>m>>= λx=>pure x) e'
theorem Zkh{env:Env}:∀(names:List (Str×BX)) (acc:List (Str×YG)),(∀y∈names,y.2= .free->∃c,env.cells.lookup y.1=YB c) ->
  ∀n c,(n,c)∈Zhw env names acc->(n,c)∈acc\/((n,Q4)∈names/\env.cells.lookup n=YB c)
 | [],acc,_,n,c,h=>.inl h
 | (m,k)::r,acc,h,n,c,hm=>by
  by_cases hk:k= .free
  .subst hk
   obtain⟨d,hd⟩:=h (m,.free) (.head _) rfl;have hd':env.cells.lookup m=YB d:=hd;simp only[Zhw,beq_self_eq_true,if_true,hd',Option.getD_some]at hm;rcases Zkh r _ (λy hy=>h y (.tail _ hy)) n c hm with z|⟨z1,z2⟩
   .rcases Xo.mp z with z|z
    .cases z;exact .inr ⟨.head _,hd'⟩
    .exact .inl z
   .exact .inr ⟨.tail _ z1,z2⟩
  .have hb:(k==Q4)=YF:=by simpa using hk
   simp only[Zhw,hb,Vk,if_false]at hm;refine(Zkh r _ (λy hy=>h y (.tail _ hy)) n c hm).imp id λqz9=>?_;obtain⟨z1,z2⟩:=qz9;exact⟨.tail _ z1,z2⟩
theorem Zkm{env:Env}:∀(names:List (Str×BX)) (acc:List (Str×YG)),∀p∈acc,p∈Zhw env names acc
 | [],_,_,h=>h
 | (m,k)::r,acc,p,h=>by
  unfold Zhw;split
  .exact Zkm r _ p (.tail _ h)
  .exact Zkm r _ p h
theorem Zjb{env:Env}:∀(names:List (Str×BX)) (acc:List (Str×YG)) (n:Str),(n,Q4)∈names->∃c,(n,c)∈Zhw env names acc
 | [],_,_,h=>nomatch h
 | (m,k)::r,acc,n,h=>by
  rcases Xo.mp h with z|z
  .cases z
   exact⟨_,by
    simp only[Zhw,beq_self_eq_true,if_true];exact Zkm _ _ _ (.head _)⟩
  .unfold Zhw
   split
   .exact Zjb r _ n z
   .exact Zjb r _ n z
theorem Ze6{env:Env}(inj:∀x y c,env.cells.lookup x=YB c->env.cells.lookup y=YB c->x=y):∀(names:List (Str×BX)) (acc:List (Str×YG)),
  (∀ y∈names,y.2= .free->∃c,env.cells.lookup y.1=YB c)->(names.map (·.1)).Nodup->(∀p∈acc,env.cells.lookup p.1=YB p.2)->(∀p∈acc,p.1∉names.map (·.1))->(acc.Pairwise λx y=>x.2≠y.2) ->
  (Zhw env names acc).Pairwise λx y=>x.2≠y.2
 | [],_,_,_,_,_,h=>h
 | (m,k)::r,acc,hf,hn,ha,hd,hp=>by
  rw[XC,Qn]at hn;have hf':∀y∈r,y.2= .free->∃c,env.cells.lookup y.1=YB c:=λy hy=>hf y (.tail _ hy);have hd':∀p∈acc,p.1∉r.map (·.1):=λp hp z=>hd p hp (by rw[XC];exact .tail _ z)
  by_cases hk:k= .free
  .subst hk
   obtain⟨d,hd0⟩:=hf (m,.free) (.head _) rfl;have hd1:env.cells.lookup m=YB d:=hd0;simp only[Zhw,beq_self_eq_true,if_true,hd1,Option.getD_some];refine Ze6 inj r _ hf' hn.2 (λp hp'=>?_) (λp hp'=>?_) (List.pairwise_cons.mpr ⟨λp hp' z=>?_,hp⟩)
   .rcases Xo.mp hp' with rfl|hp'
    .exact hd1
    .exact ha p hp'
   .rcases Xo.mp hp' with rfl|hp'
    .exact hn.1
    .exact hd' p hp'
   .have e:m=p.1:=inj m p.1 d hd1 (by rw[ha p hp',<-z])
    exact hd p hp' (by rw[XC,<-e];exact .head _)
  .have hb:(k==Q4)=YF:=by simpa using hk
   simp only[Zhw,hb,Vk,if_false];exact Ze6 inj r _ hf' hn.2 ha hd' hp
structure Zp8(h:YH)(lo:Nat)(names:List (Str×BX))(acc cs:List (Str×YG)):Prop where
 mem:∀n c,(n,c)∈cs->(n,c)∈acc\/(h.IsCell c YC/\lo<=c/\(n,Bx)∈names)
 has:∀n,(n,Bx)∈names->∃c,(n,c)∈cs
 old:∀p∈acc,p∈cs
theorem Zfe:∀(names:List (Str×BX)) (h:YH) (lo:Nat) (acc:List (Str×YG)),lo<=h.objs.size->Zp8 (Vm h names) lo names acc (Bw h.objs.size names acc)
 | [],_,_,_,_=>⟨λ_ _ m=>.inl m,(λ_ m=>nomatch m),λ_ m=>m⟩
 | (name,kind)::r,h,lo,acc,hlo=>by
  by_cases hk:(kind==Bx)=YD
  .have ek:kind= .cell:=by simpa using hk
   subst ek;have ih:=Zfe r (h.push { cls:=.type "cell",data:=.cell YC }) lo ((name,h.objs.size)::acc) (by rw[JD];omega);rw[JD]at ih;have e1:Bw h.objs.size ((name,.cell)::r) acc=Bw (h.objs.size+1) r ((name,h.objs.size)::acc):=by
    rw[Bw,YL hk]
   have e2:Vm h ((name,.cell)::r)=Vm (h.push { cls:=.type "cell",data:=.cell YC }) r:=by
    rw[Vm,YL hk]
   rw[e1,e2];refine⟨λn c m=>?_,λn m=>?_,λp m=>ih.old p (.tail _ m)⟩
   .rcases ih.mem n c m with z|⟨z1,z2,z3⟩
    .rcases Xo.mp z with z|z
     .cases z
      exact .inr ⟨⟨_,pushCells_keeps _ _ _ _ (XN _ rfl),rfl⟩,hlo,.head _⟩
     .exact .inl z
    .exact .inr ⟨z1,z2,.tail _ z3⟩
   .rcases Xo.mp m with z|z
    .cases z
     exact⟨_,ih.old _ (.head _)⟩
    .exact ih.has n z
  .have ih:=Zfe r h lo acc hlo
   have e1:Bw h.objs.size ((name,kind)::r) acc=Bw h.objs.size r acc:=by
    rw[Bw,YM hk]
   have e2:Vm h ((name,kind)::r)=Vm h r:=by
    rw[Vm,YM hk]
   rw[e1,e2];refine⟨λn c m=>(ih.mem n c m).imp id λ⟨z1,z2,z3⟩=>⟨z1,z2,.tail _ z3⟩,λn m=>?_,ih.old⟩;rcases Xo.mp m with z|z
   .cases z
    exact YX rfl hk
   .exact ih.has n z
theorem Zgu(names:List (Str×BX)):∀(h:YH) (acc:List (Str×YG)),(acc.Pairwise λx y=>x.2≠y.2)->(∀p∈acc,p.2<h.objs.size)->(Bw h.objs.size names acc).Pairwise λx y=>x.2≠y.2:=by
 induction names with
 | nil=>intro h acc ha _;exact ha
 | cons y r ih=>
  intro h acc ha hb;obtain⟨name,kind⟩:=y;unfold Bw;split
  .have:=ih (h.push { cls:=.type "cell",data:=.cell YC }) ((name,h.objs.size)::acc) (List.pairwise_cons.mpr ⟨λp hp=>X6 (hb p hp),ha⟩) (λp hp=>by
    rw[JD];rcases Xo.mp hp with rfl|hp
    .exact Ub _
    .exact Nat.lt_succ_of_lt (hb p hp))
   rwa[JD]at this
  .exact ih h acc ha hb
theorem Zh2{globals:YG}{cl:List (Str×YG)}{env:Env}{Q:Env->Xg->Prop}
  (hQ:Q (newEnv scope s.heap.objs.size globals (Bw (s.heap.objs.size+1) scope.names cl) qual YC .none (YB env) builtinsNs)
   { s with heap:=Vm (s.heap.push { cls:=.type "dict",data:=.dict #[] }) scope.names }) :
  XX M A (newFunctionEnv scope globals cl [] qual YC .none (YB env)) Q E s:=by
 simp only[newFunctionEnv,Option.isSome_some,if_true];refine Xd (wpAny_alloc ?_);refine Xd (wpAny_layCells _ (λname kind cells=>by cases hkc:kind==Bx<;>simp[hkc]) _ _ _ _ ?_);rw[show({ s with heap:=s.heap.push { cls:=.type "dict",data:=.dict #[] } }:Xg).heap.objs.size=s.heap.objs.size+1 from JD ..];rw[Ux];exact Xd (Xy (Xy hQ))
def Yt(X:Cx)(N':List Str)(sc:UW)(C:YG)(cells:List (Str×YG))(s₂:Xg)(H₂:Hp)(fp:List YG):Cx :=
 { X with N:=N',s₀:=s₂,H₀:=H₂,env:=compEnvC sc cells C X.env,outer:=X.stack,stack:=X.stack,ex:=fp,fn:=λx=>sc.names.lookup x==YB .cell,pn:=[],xe:=λ_ _=>False }
theorem Zdp{env:Env}:∀{names:List (Str×BX)} {x:Str} {k:BX},names.lookup x=YB k ->
  (names.map λ(n,k)=>if(k==Q4&&env.scope.kind== .function&&env.kindOf n==YB .cell)then(n,Bx)else(n,k)).lookup x=
   YB (if(k==Q4&&env.scope.kind== .function&&env.kindOf x==YB .cell)then Bx else k)
 | [],_,_,h=>by simp at h
 | (n,k')::r,x,k,h=>by
  have ih:=@Zdp env r x k;show List.lookup x ((if(k'==Q4&&env.scope.kind== .function&&env.kindOf n==YB .cell)=YD then(n,Bx)else(n,k'))::_)=_;cases hx:x==n with
  | true=>
   simp only[Q6,hx]at h;cases h;have e:=YZ.mp hx;subst e;split<;>simp[Q6]
  | false=>
   simp only[Q6,hx]at h;split
   .simp only[Q6,hx];exact ih h
   .simp only[Q6,hx];exact ih h
theorem Zfu{env:Env}:∀{names:List (Str×BX)} {x:Str},names.lookup x=YC ->
  (names.map λ(n,k)=>if(k==Q4&&env.scope.kind== .function&&env.kindOf n==YB .cell)then(n,Bx)else(n,k)).lookup x=YC
 | [],_,_=>rfl
 | (n,k')::r,x,h=>by
  have ih:=@Zfu env r x;show List.lookup x ((if(k'==Q4&&env.scope.kind== .function&&env.kindOf n==YB .cell)=YD then(n,Bx)else(n,k'))::_)=_;cases hx:x==n with
  | true=>
   simp only[Q6,hx]at h;cases h
  | false=>
   simp only[Q6,hx]at h;split
   .simp only[Q6,hx];exact ih h
   .simp only[Q6,hx];exact ih h
theorem Zey:∀{l:List (Str×α)} {n:Str} {c:α},(l.map (·.1)).Nodup->(n,c)∈l->l.lookup n=YB c
 | (k,v)::r,n,c,hd,h=>by
  rw[XC,Qn]at hd;rcases Xo.mp h with e|hr
  .cases e
   simp[Q6]
  .have hne:(n==k)=YF:=by
    refine Vt.mpr λz=>hd.1 ?_;have e:n=k:=YZ.mp z;rw[<-e];exact XM.mpr ⟨(n,c),hr,rfl⟩
   rw[Q6,hne];exact Zey hd.2 hr
theorem Yo:∀{l:List (Str×α)} {n:Str} {c:α},(n,c)∈l->∃d,l.lookup n=YB d/\(n,d)∈l
 | (k,v)::r,n,c,h=>by
  by_cases e:n=k
  .subst e
   exact⟨v,by simp[Q6],List.mem_cons_self⟩
  .have hne:(n==k)=YF:=by simpa using e
   rcases Xo.mp h with z|z
   .cases z;exact YX rfl e
   .obtain⟨d,h1,h2⟩:=Yo z
    exact⟨d,by rw[Q6,hne];exact h1,.tail _ h2⟩
structure CompScope(X:Cx)(own:List Str)(caps:List Nat)(N':List Str)(sc:UW):Prop where
 kind:sc.kind= .function
 nd:N'.Nodup
 names:N'=own++caps.map λi=>X.N.getD i Str.empty
 nn:(sc.names.map (·.1)).Nodup
 free:(sc.names.all λy=>y.2 != .free||(X.env.kindOf y.1==YB .cell||X.env.kindOf y.1==YB .free))=YD
 caps:(caps.all λi=>sc.names.lookup (X.N.getD i Str.empty)==YB .free)=YD
def J7(own:List Str)(caps:List Nat)(O:St):St:=own.map (λ_=>YC)++caps.map λi=>(O[i]?).getD YC
section
variable {own:List Str}{caps:List Nat}{N':List Str}{sc:UW}
theorem CompScope.lk(S:CompScope X own caps N' sc){n:Str}{k:BX}(h:(n,k)∈sc.names):sc.names.lookup n=YB k:=Zey S.nn h
theorem CompScope.fr(S:CompScope X own caps N' sc){n:Str}(h:(n,Q4)∈sc.names):X.env.kindOf n=YB .cell\/X.env.kindOf n=YB .free:=by
 have:=Vi.mp S.free _ h;simpa using this
theorem Zqr{O:St}{fp:List YG}{cl:List (Str×YG)}(S:CompScope X own caps N' sc)(I:Inv X pins O H s)
  (f:∀b∈fp,Zjl X pins H b) (fo:∀b∈fp,∃o,s.heap.get? b=YB o)
  (hcl:∀n c,(n,c)∈cl->(n,Q4)∈sc.names/\X.env.cells.lookup n=YB c) (hcl2:∀n,(n,Q4)∈sc.names->∃c,(n,c)∈cl) (hapart:cl.Pairwise λx y=>x.2≠y.2) :
  Inv (Yt X N' sc (s.heap.objs.size+1) (Bw (s.heap.objs.size+2) sc.names cl) s H fp) [] (J7 own caps O) (upd H s.heap.objs.size (.lst []))
   { s with heap:=Vm ((s.heap.push { cls:=.type "list",data:=.seq #[] }).push { cls:=.type "dict",data:=.dict #[] }) sc.names }:=by
 generalize hh1:s.heap.push { cls:=.type "list",data:=.seq #[] }=h1;have z1:h1.objs.size=s.heap.objs.size+1:=by rw[<-hh1,JD]
 generalize hh2:h1.push { cls:=.type "dict",data:=.dict #[] }=h2;have z2:h2.objs.size=s.heap.objs.size+2:=by rw[<-hh2,JD,z1]
 have BC:=Zfe sc.names h2 (s.heap.objs.size+2) cl (by omega);have AP:=Zgu sc.names h2 cl hapart (λp hp=>by
  obtain⟨v,hv⟩:=I.cell p.1 p.2 (hcl p.1 p.2 hp).2;exact Qp hv.lt (by omega))
 rw[z2]at BC AP;have keep:∀b o,s.heap.get? b=YB o->(Vm h2 sc.names).get? b=YB o:=λb o e=>pushCells_keeps _ _ _ _ (by
  rw[<-hh2];refine Xk _ ?_;rw[<-hh1];exact Xk _ e)
 have hD:(Vm h2 sc.names).get? s.heap.objs.size=YB { cls:=.type "list",data:=.seq #[] }:=pushCells_keeps _ _ _ _ (by
  rw[<-hh2];refine Xk _ ?_;rw[<-hh1];exact XN _ rfl)
 have hC:(Vm h2 sc.names).Ns (s.heap.objs.size+1) (λ_=>YC):=by
  refine Heap.Ns.keeps ?_ (pushCells_keeps _ _);have:=Heap.Ns.new h1 (.type "dict");rw[hh2,z1]at this;exact this
 have cellOld:∀n c,X.env.cells.lookup n=YB c->c<s.heap.objs.size:=λn c e=>by
  obtain⟨v,hv⟩:=I.cell n c e;exact hv.lt
 have lk':∀n c,(Bw (s.heap.objs.size+2) sc.names cl).lookup n=YB c->(n,c)∈Bw (s.heap.objs.size+2) sc.names cl:=λn c e=>Bl e;have hnD:H s.heap.objs.size=YC:=I.fresh;have fresh:∀c,s.heap.objs.size<c->upd H s.heap.objs.size (.lst []) c=YC:=λc hc=>by
  rw[Zu (X6 hc)];exact I.hok.fresh (Nat.le_of_lt hc)
 have isc:∀n c,(n,c)∈Bw (s.heap.objs.size+2) sc.names cl->∃v,(Vm h2 sc.names).IsCell c v:=λn c m=>by
  rcases BC.mem n c m with z|⟨z,_⟩
  .obtain⟨v,hv⟩:=I.cell n c (hcl n c z).2
   exact⟨v,hv.keeps keep⟩
  .exact⟨YC,z⟩
 have okH:HOk X.prog X.w (upd H s.heap.objs.size (.lst [])) (Vm h2 sc.names):=by
  refine I.hok.laid keep (XJ _) ?_;exact⟨QS _,[],0,.nil,hD⟩
 have kinds:∀x k,sc.names.lookup x=YB k->(relabel sc X.env).names.lookup x=YB (if(k==Q4&&X.env.scope.kind== .function&&X.env.kindOf x==YB .cell)then Bx else k):=λx k e=>Zdp e;have kindsR:∀x k,(relabel sc X.env).names.lookup x=YB k->∃k',(x,k')∈sc.names/\k=(if(k'==Q4&&X.env.scope.kind== .function&&X.env.kindOf x==YB .cell)then Bx else k'):=λx k e=>by
  cases q:sc.names.lookup x with
  | none=>
   have:=Zfu (env:=X.env) q;rw[show(relabel sc X.env).names.lookup x=_ from this]at e;cases e
  | some k'=>
   refine⟨k',Bl q,?_⟩;rw[kinds x k' q]at e;exact(QD e).symm
 refine⟨⟨I.ok.mod,S.kind,I.ok.glob,I.ok.blt,?_,?_,?_,?_,I.ok.hd,I.ok.frames,.inl rfl,?_,?_,?_,?_,?_,?_,?_⟩,rfl,I.bare,?_,?_,?_,?_,?_,(λp hp=>nomatch hp),okH,?_⟩
 .show s.heap.objs.size<=s.heap.objs.size+1;omega
 .intro x y c e1 e2
  exact name_of_addr AP (lk' x c e1) (lk' y c e2)
 .intro x hx
  rcases hx with hx|hx
  .obtain⟨k',hm,hk'⟩:=kindsR x _ hx
   cases k' with
   | cell=>
    obtain⟨c,hc⟩:=BC.has x hm;obtain⟨d,h1,_⟩:=Yo hc;exact⟨d,h1⟩
   | free=>
    obtain⟨c,hc⟩:=hcl2 _ hm;obtain⟨d,h1,_⟩:=Yo (BC.old _ hc);exact⟨d,h1⟩
   | _=>simp at hk'
  .obtain⟨k',hm,hk'⟩:=kindsR x _ hx
   cases k' with
   | free=>
    obtain⟨c,hc⟩:=hcl2 _ hm;obtain⟨d,h1,_⟩:=Yo (BC.old _ hc);exact⟨d,h1⟩
   | _=>simp at hk'
 .intro x c hf e
  have hf':sc.names.lookup x=YB .cell:=by simpa [Yt]using hf
  rcases BC.mem x c (lk' x c e)with z|⟨_,z,_⟩
  .-- a free one and a cell at once: the name stands once
   exfalso;have q:=S.lk (hcl x c z).1;rw[hf']at q;cases q
  .show s.heap.objs.size<=c;omega
 .intro b hb
  obtain⟨o,ho⟩:=fo b hb;have hlt:=XD ho;refine⟨Xz (UG hlt (Ub _)),λx c e z=>?_⟩;rcases BC.mem x c (lk' x c e)with q|⟨_,q,_⟩
  .exact(f b hb).2.2.2.2.1 x c (hcl x c q).2 z
  .subst z
   exact YX hlt (Nat.not_lt.mpr (QB (Ud _ 2) q))
 .exact I.bs
 .exact QB I.ok.bsz I.sz
 .intro b o e hb
  rcases(f b hb).2.2.2.1 with z|z
  .exact I.ok.noex b o e z
  .exact YX (Qp (XD e) I.ok.bsz) (Nat.not_lt.mpr z)
 .intro b hb z
  rcases Xo.mp (I.stkSub b z)with q|q
  .exact(f b hb).2.1 q
  .exact(f b hb).2.2.1 q
 .exact I.stack
 .exact I.stkFree
 .exact Un.laid keep (XJ _) hnD
 .refine⟨_,hC,λi x v e1 e2 e3=>?_⟩
  have e1':(own++caps.map λi=>X.N.getD i Str.empty)[i]? =YB x:=by rw[<-S.names];exact e1
  have e2':(own.map (λ_=>(YC:Option V))++caps.map λi=>(O[i]?).getD YC)[i]? =YB (YB v):=e2
  by_cases hi:i<own.length
  .rw[Ug (by simpa using hi),Xm]at e2'
   cases q:own[i]? with
   | none=>rw[q]at e2';cases e2'
   | some y=>rw[q]at e2';cases e2'
  .rw[JN (by simpa using hi),Xm]at e2'
   rw[JN (by omega),Xm]at e1';rw[Xe]at e2';cases q:caps[i-own.length]? with
   | none=>rw[q]at e2';cases e2'
   | some j=>
    rw[q]at e1' e2';have e1:X.N.getD j Str.empty=x:=QD e1';have e2:(O[j]?).getD YC=YB v:=QD e2';have e4:O[j]? =YB (YB v):=by
     cases r:O[j]? with
     | none=>rw[r]at e2;cases e2
     | some o=>rw[r]at e2;exact YT YB e2
    have hj:j<X.N.length:=by rw[<-I.len];exact(Xu.mp e4).1
    have e5:X.N[j]? =YB x:=by rw[<-e1];simp[Xb,hj]
    have hc:=Vi.mp S.caps j (Qy q);have e6:sc.names.lookup x=YB .free:=by rw[<-e1];simpa using hc
    have hm:=Bl e6;have kx:=S.fr hm;obtain⟨m,hn,hl⟩:=I.loc;obtain⟨u,ru,lo⟩:=hl j x v e5 e4 (by rcases kx with z|z;exact .inr (.inl z);exact .inr (.inr z));refine⟨u,ru,.inr ⟨?_,?_⟩⟩
    .have:=kinds x _ e6
     show(relabel sc X.env).names.lookup x=_\/(relabel sc X.env).names.lookup x=_;rw[this];split
     .exact .inl rfl
     .exact .inr rfl
    .rcases lo with⟨z,_⟩|⟨_,c,hc1,hc2⟩
     .rcases kx with w|w<;>(rw[w]at z;cases z)
     .obtain⟨d,hd⟩:=hcl2 x hm
      obtain⟨d',h1,h2⟩:=Yo (BC.old _ hd);refine⟨d',h1,?_⟩;rcases BC.mem x d' h2 with w|⟨_,_,w⟩
      .have w':=(hcl x d' w).2
       rw[hc1]at w';cases w';exact hc2.keeps keep
      .have:=S.lk w
       rw[e6]at this;cases this
 .intro x c e
  exact isc x c (lk' x c e)
 .exact fresh _ (Ub _)
 .intro x c e
  rcases BC.mem x c (lk' x c e)with z|⟨_,z,_⟩
  .have e':=(hcl x c z).2
   have hlt:=cellOld x c e';rw[Zu (Xz hlt)];exact I.freeC x c e'
  .exact fresh c (by omega)
 .show(J7 own caps O).length=N'.length
  rw[S.names];unfold J7;simp
end
def Z54(J:It)(g:TG)(tt:TT)(te:TE)(O0:St)(D:YG)(Q:Hp->Prop)(H1:Hp):Prop :=
 ∃W:Nat->Nat->St->Hp->Prop,(∃m,W 0 m O0 (upd H1 D (.lst [])))/\∀i m O' H',W i m O' H' ->
  (J.stop i H'/\Q H')\/(J.go i H'/\∀x H2,J.yld i H' x H2->g x O' H2 λO2 H3=>tt O2 H3 λb H4=>
   if b=YD then te O2 H4 λy H5=>∃ys,H5 D=YB (.lst ys)/\ys.length<Xv/\∃m',m'<m/\W (i+1) m' O2 (upd H5 D (.lst (ys++[y])))
   else∃m',m'<m/\W (i+1) m' O2 H4)
def Z2j(own:List Str)(caps:List Nat)(wi:TI)(g:TG)(tt:TT)(te:TE):TE:=λO H Q=>wi O H λJ H1=>∀D,H1 D=YC->Z54 J g tt te (J7 own caps O) D (Q (.ref D)) H1
def Ye7:TT:=λ_ H Q=>Q YD H
def Z2o(X:Cx)(ifs:List YJ)(t:TT):Prop :=
 ∀(pins:List (YG×Obj)) (s:Xg) (O:St) (H:Hp) (Q:Bool->Hp->Prop),Inv X pins O H s->t O H Q ->
  XX (Qi X.prog X.w) X.A (forIn ifs YD λc r=>if r=YD then do let ok<-isTrue c X.env (eval c X.env);pure (Bh ok)else pure (Bh r)) (TP X pins O Q) X.xe s
theorem Z46:Z2o X [] Ye7:=λpins s O H Q I h=>by
 rw[Ux];exact Xy ⟨H,I,h⟩
theorem Z18{c:YJ}{t:TT}(h:PT X c t):Z2o X [c] t:=λpins s O H Q I q=>wpAny_tests_one (h pins s O H Q I q)
theorem Z2e{t:Sem α}{Q Q':α->Xg->Prop}(h:XX M A t Q (λ_ _=>False) s)(hQ:∀a s,Q a s->Q' a s):XX M A t Q' E s :=
 Vd h hQ λ_ _ z=>z.elim
section
variable {own:List Str}{caps:List Nat}{N':List Str}{sc:UW}{elt:YJ}{ifs:List YJ}{wi:TI}{g:TG}{tt:TT}
theorem Zok{p':List (YG×Obj)}{O O':St}{fp:List YG}{cells:List (Str×YG)}(I:Inv X pins O H s)(f:∀b∈fp,Zjl X pins H b)
  (I':Inv (Yt X N' sc C cells s H fp) p' O' H' s') (hs:Vc C s'.heap h'):Inv X pins O H' { s' with heap:=h' }:=by
 have hC:s.heap.objs.size<=C:=I'.ok.above;have B:=I'.base;have ne:∀b o,s.heap.get? b=YB o->b≠C:=λb o e=>Xz (Qp (XD e) hC);obtain⟨m,⟨oC,_,_,hoC,_⟩,_⟩:=I'.loc;refine I.call' (ch:=fp) (s':={ s' with heap:=h' }) I'.os ⟨λb o e n hb hx=>?_,λb o e n hb hx=>?_,B.free,λb o e hx=>?_,B.tups,B.frzs,B.tbls⟩ (λb ob e=>?_) I'.bare λb hb=>?_
 .exact(hs.2 b (ne b o e)).trans (B.keep b o e n hb hx)
 .obtain⟨sl,q⟩:=B.slot b o e n hb hx
  exact⟨sl,(hs.2 b (ne b o e)).trans q⟩
 .obtain⟨o',q⟩:=B.there b o e hx
  exact⟨o',(hs.2 b (ne b o e)).trans q⟩
 .have hfree:H' C=YC:=I'.free
  refine(I'.hok b ob e).stay (λc w' hc q=>(hs.2 c ?_).trans q) (λ_ q=>q) λ_ _ q=>q;rintro rfl;rcases hc with rfl|hc
  .rw[hfree]at e;cases e
  .rw[hfree]at hc;cases hc
 .obtain⟨_,f1,_,f3,f4,f5⟩:=f b hb
  exact⟨f3,f1,f4,f5⟩
theorem Zio{Qf:Result->Xg->Prop}(S:CompScope X own caps N' sc)(hc:X.calm=YD)
  (hg:∀C cells s₂ H₂ fp,PG (Yt X N' sc C cells s₂ H₂ fp) tg g) (ht:∀C cells s₂ H₂ fp,Z2o (Yt X N' sc C cells s₂ H₂ fp) ifs tt) (he:∀C cells s₂ H₂ fp,PE (Yt X N' sc C cells s₂ H₂ fp) elt te)
   {O:St}   {fp:List YG} {it:YG} {tn:Nat->YH->Prop} {J:It} {Q:Hp->Prop} (I:Inv X pins O H s) (T:Turn X.prog X.w X.K tg J fp it tn) (st:tn 0 s.heap) (f:∀b∈fp,Zjl X pins H b)
  (h:Z54 J g tt te (J7 own caps O) s.heap.objs.size Q H)
  (fin:∀s' O' H' p' C cells,Inv (Yt X N' sc C cells s H fp) p' O' H' s'->C=s.heap.objs.size+1->Q H'->Qf (.ok .next) s') :
  XX (Qi X.prog X.w) X.A (newFunctionEnv sc X.env.globals (Zhw X.env sc.names []) [] X.env.qual YC .none (YB X.env)) (λcenv s₄=>
   cenv.locals=s.heap.objs.size+1/\codeAny (Qi X.prog X.w) X.A (.compStart (.ListComp elt [⟨tg,iter,ifs,0⟩] sc pos) 0 (.ref it) (.ref s.heap.objs.size) { cenv with scope:=relabel sc X.env }) Qf s₄) X.xe
    { s with heap:=s.heap.push { cls:=.type "list",data:=.seq #[] } }:=by
 have hf:∀y∈sc.names,y.2= .free->∃c,X.env.cells.lookup y.1=YB c:=λy hy e=>by
  obtain⟨n,k⟩:=y;have e':k= .free:=e;subst e';exact I.ok.has n (S.fr hy)
 have hcl:∀n c,(n,c)∈Zhw X.env sc.names []->(n,Q4)∈sc.names/\X.env.cells.lookup n=YB c:=λn c m=>(Zkh sc.names [] hf n c m).elim (λz=>nomatch z) id;have hap:=Ze6 I.ok.inj sc.names [] hf S.nn (λ_ z=>nomatch z) (λ_ z=>nomatch z) .nil;have I0:=Zqr (cl:=Zhw X.env sc.names []) S I f (λb hb=>let⟨o,e,_⟩:=T.obj _ _ st b hb;⟨o,e⟩) hcl (λn m=>Zjb sc.names [] n m) hap;refine Zh2 ?_;rw[show({ s with heap:=s.heap.push { cls:=.type "list",data:=.seq #[] } }:Xg).heap.objs.size=s.heap.objs.size+1 from JD ..];refine⟨rfl,?_⟩;dsimp only;generalize hs0:({ s with heap:=Vm ((s.heap.push { cls:=.type "list",data:=.seq #[] }).push { cls:=.type "dict",data:=.dict #[] }) sc.names }:Xg)=s0 at I0|-
 have st0:tn 0 s0.heap:=T.keep _ _ _ st λb hb o e=>by
  rw[<-hs0];exact pushCells_keeps _ _ _ _ (Xk _ (Xk _ e))
 generalize hcells:Bw (s.heap.objs.size+1+1) sc.names (Zhw X.env sc.names [])=cells at I0|-
 -- the loop
 obtain⟨W,⟨m0,w0⟩,turn⟩:=h;have loop:codeAny (Qi X.prog X.w) X.A (.compLoop (.ListComp elt [⟨tg,iter,ifs,0⟩] sc pos) 0 (.ref it) (.ref s.heap.objs.size) (Yt X N' sc (s.heap.objs.size+1) cells s H fp).env) Qf s0:=by
  generalize hX':Yt X N' sc (s.heap.objs.size+1) cells s H fp=X' at I0|-
  have hg':=hg (s.heap.objs.size+1) cells s H fp;have ht':=ht (s.heap.objs.size+1) cells s H fp;have he':=he (s.heap.objs.size+1) cells s H fp;have fin':=λs' O' H' p' (z:Inv (Yt X N' sc (s.heap.objs.size+1) cells s H fp) p' O' H' s')=>fin s' O' H' p' _ _ z rfl;rw[hX']at hg' ht' he' fin';have hxe:X'.xe= λ_ _=>False:=by rw[<-hX'];rfl
  have hpr:X'.prog=X.prog:=by rw[<-hX'];rfl
  have hw:X'.w=X.w:=by rw[<-hX'];rfl
  have hK:X'.K=X.K:=by rw[<-hX'];rfl
  have hA:X'.A=X.A:=by rw[<-hX'];rfl
  have hcm:X'.calm=YD:=by rw[<-hX'];exact hc
  have hex:X'.ex=fp:=by rw[<-hX'];rfl
  have hpn:X'.pn=[]:=by rw[<-hX'];rfl
  have stat:∀{H':Hp},(∀b∈fp,H' b=YC)->∀b∈fp,Zjl X' [] H' b:=λhn b hb=>by
   have e1:=I0.ok.exf b (by rw[hex];exact hb);have e2:=I0.ok.exfs b (by rw[hex];exact hb);exact⟨hn b hb,e1.1,e2,.inl (by rw[hex];exact hb),e1.2,λp hp=>by rw[hpn]at hp;exact nomatch hp⟩
  have frD:∀b∈fp,(upd H s.heap.objs.size (.lst [])) b=YC:=λb hb=>by
   obtain⟨o,e,_⟩:=T.obj _ _ st b hb;rw[Zu (Xz (XD e))];exact(f b hb).1
  have T':Turn X'.prog X'.w X'.K tg J fp it tn:=by rw[hpr,hw,hK];exact T
  rw[<-hpr,<-hw,<-hA];refine Zlx (λn s'=>∃i O' H',Inv X' [] O' H' s'/\tn i s'.heap/\(∀b∈fp,H' b=YC)/\W i n O' H') ?_ m0 ⟨0,_,_,I0,st0,frD,w0⟩;rintro n s3 ⟨i,O3,H3,I3,st3,fr3,w3⟩;rcases turn i n O3 H3 w3 with⟨stop,qn⟩|⟨go,step⟩
  .refine Z2e (T'.done X' rfl rfl rfl hcm i [] s3 O3 H3 _ I3 (stat fr3) st3 stop) λr s4 qz9=>?_
   obtain⟨hr,I4⟩:=qz9;subst hr;exact fin' s4 O3 H3 [] I4 qn
  .refine Z2e (T'.item X' rfl rfl rfl hcm i [] s3 O3 H3 _ I3 (stat fr3) st3 go) λr s4 qz9=>?_
   obtain⟨u,hr,h4⟩:=qz9;subst hr;refine Z2e h4 λ_ s5 qz9=>?_;obtain⟨x,H5,I5,r5,y5,st5,fr5⟩:=qz9;have I5':=I5.pinned (stat fr5) (T.obj _ _ st5);have hgg:=hg' _ s5 O3 H5 x u _ I5' r5 (step x H5 y5);rw[hxe]at hgg;refine Z2e hgg λ_ s6 qz9=>?_;obtain⟨O6,H6,I6,q6⟩:=qz9;have htt:=ht' _ s6 O6 H6 _ I6 q6;rw[hxe]at htt;refine Z2e htt λok s7 qz9=>?_;obtain⟨H7,I7,q7⟩:=qz9;have again:∀{O7:St} {H7:Hp} {s7:Xg} {m:Nat},Inv X' ([]++Zl3 fp s5.heap) O7 H7 s7->W (i+1) m O7 H7->m<n->∃m,m<n/\∃i O' H',Inv X' [] O' H' s7/\tn i s7.heap/\(∀b∈fp,H' b=YC)/\W i m O' H':=fun{O7 H7 s7 m} I7 w7 hm=>by
    refine⟨m,hm,i+1,O7,H7,I7.unpinned,T.keep _ _ _ st5 λb hb o e=>(I7.pin (b,o) (QF _ (QF _ (Zdb hb e)))).1,λb hb=>?_,w7⟩;obtain⟨o,e,d⟩:=T.obj _ _ st5 b hb;exact(I7.pin (b,o) (QF _ (QF _ (Zdb hb e)))).2.1
   cases ok with
   | false=>
    obtain⟨m',hm,w7⟩:=q7;rw[YM Xn];exact again I7 w7 hm
   | true=>
    rw[YL rfl];have hee:=he' _ s7 O6 H7 _ I7 q7;rw[hxe]at hee;refine Z2e hee λy s8 qz9=>?_;obtain⟨vy,H8,I8,r8,ys,hD,hlen,m',hm,w8⟩:=qz9;have hap:=Zk3 (X:=X') _ s8 O6 H8 (.ref s.heap.objs.size) [vy] (.ref s.heap.objs.size) [y] (λ_ H'=>W (i+1) m' O6 H') I8 rfl (.cons r8 .nil) ⟨_,ys,vy,rfl,rfl,hD,hlen,w8⟩;rw[hxe]at hap;refine Z2e hap λz s9 qz9=>?_;obtain⟨_,H9,I9,_,w9⟩:=qz9;exact again I9 w9 hm
 exact codeAny_compStart_list loop (T.self _ 0 _ _ _ st0 loop)
theorem Z6m(S:CompScope X own caps N' sc)(hc:X.calm=YD)(hi:PI X tg iter wi)
  (hg:∀C cells s₂ H₂ fp,PG (Yt X N' sc C cells s₂ H₂ fp) tg g) (ht:∀C cells s₂ H₂ fp,Z2o (Yt X N' sc C cells s₂ H₂ fp) ifs tt) (he:∀C cells s₂ H₂ fp,PE (Yt X N' sc C cells s₂ H₂ fp) elt te)
  (hs:∀x,Bv iter X.env x=pure x:=by intro _;rfl):PE X (.ListComp elt [⟨tg,iter,ifs,0⟩] sc pos) (Z2j own caps wi g tt te):=by
 intro pins s O H Q I h;rw[eval_ListComp];have hf:∀y∈sc.names,y.2= .free->∃c,X.env.cells.lookup y.1=YB c:=λy hy e=>by
  obtain⟨n,k⟩:=y;have e':k= .free:=e;subst e';exact I.ok.has n (S.fr hy)
 refine wpAny_comprehension_free (use:=YC) rfl hs (Zdi hf) S.kind (λy hy e=>by obtain⟨n,k⟩:=y;have e':k= .local:=e;subst e';exact S.lk hy) ?_;refine thn (hi pins s O H _ I h) λv s1 h1=>thn h1 λitv s2 h2=>?_;obtain⟨it,fp,tn,J,H2,e,I2,T,st2,f2,q⟩:=h2;subst e;refine Va ?_;refine thn (Zio (iter:=iter) (pos:=pos) (Qf:=compPost (Qi X.prog X.w) X.A X.xe YC (EP X pins O Q) (.ref s2.heap.objs.size) (s2.heap.objs.size+1)) S hc hg ht he I2 T st2 f2 (q s2.heap.objs.size I2.fresh) ?_) λcenv s4 ⟨hl,hr⟩=>?_
 .intro s' O' H' p' C cells I' eC q'
  subst eC;obtain⟨m,hn,_⟩:=id I'.loc;exact⟨m,hn,λh' hs'=>⟨.ref s2.heap.objs.size,H',Zok I2 f2 I' hs',rfl,q'⟩⟩
 .rw[<-hl]at hr
  exact hr
end
section
variable {own:List Str}{caps:List Nat}{N':List Str}{sc:UW}{elt:YJ}{ifs:List YJ}{wi:TI}{g:TG}{tt:TT}
theorem Zi5{y:Str}{py spos:Pos}(hN:X.N.Nodup)(hy:X.N[i]? =YB y)(hx:Loc X.env.scope y)(S:CompScope X own caps N' sc)(hc:X.calm=YD)(hi:PI X tg iter wi)
  (hg:∀C cells s₂ H₂ fp,PG (Yt X N' sc C cells s₂ H₂ fp) tg g) (ht:∀C cells s₂ H₂ fp,Z2o (Yt X N' sc C cells s₂ H₂ fp) ifs tt) (he:∀C cells s₂ H₂ fp,PE (Yt X N' sc C cells s₂ H₂ fp) elt te)
  (hsw:VL (.ListComp elt [⟨tg,iter,ifs,0⟩] sc pos) (YB (.Name y py)) spos.line X.env=pure YD:=by rfl)
  (hs:∀x,Bv iter X.env x=pure x:=by intro _;rfl) (hf:X.fn y=YD\/X.env.scope.names.lookup y=YB .local:=by first|exact .inl rfl|exact .inr rfl|assumption) :
  PS X (.Assign [.Name y py] (.ListComp elt [⟨tg,iter,ifs,0⟩] sc pos) spos) (Yaz (Z2j own caps wi g tt te) (Zuj i)):=by
 intro pins s O H D I h;have hfr:∀y∈sc.names,y.2= .free->∃c,X.env.cells.lookup y.1=YB c:=λy hy e=>by
  obtain⟨n,k⟩:=y;have e':k= .free:=e;subst e';exact I.ok.has n (S.fr hy)
 rw[exec_Assign_Name_used _ _ _ _ hsw];refine Xd (wpAny_standAt (Xd ?_));show XX _ X.A (do let _<-comprehension (.ListComp elt [⟨tg,iter,ifs,0⟩] sc pos) sc X.env _ (newList []) YF (eval iter X.env) (YB (assign (.Name y py) X.env))) _ _ s;refine Xd (Vd (wpAny_comprehension_free (use:=YB (assign (.Name y py) X.env)) (Q:=λ_ s'=>SP X pins D .next s') rfl hs (Zdi hfr) S.kind (λy hy e=>by obtain⟨n,k⟩:=y;have e':k= .local:=e;subst e';exact S.lk hy) ?_) (λ_ s' hq=>Xy (Xy hq)) λ_ _ e=>e);refine thn (hi pins s O H _ I h) λv s1 h1=>thn h1 λitv s2 h2=>?_;obtain⟨it,fp,tn,J,H2,e,I2,T,st2,f2,q⟩:=h2;subst e;refine Va ?_;refine thn (Zio (iter:=iter) (pos:=pos) (Qf:=compPost (Qi X.prog X.w) X.A X.xe (YB (assign (.Name y py) X.env)) (λ_ s'=>SP X pins D .next s') (.ref s2.heap.objs.size) (s2.heap.objs.size+1)) S hc hg ht he I2 T st2 f2 (q s2.heap.objs.size I2.fresh) ?_) λcenv s4 ⟨hl,hr⟩=>?_
 .intro s' O' H' p' C cells I' eC q'
  subst eC;obtain⟨m,hn,_⟩:=id I'.loc;have I3:Inv X pins O H' s':=Zok I2 f2 I' (.refl ..);show XX _ X.A (assign (.Name y py) X.env (.ref s2.heap.objs.size)) _ _ s';refine wpAny_assign_Name (Zlg (v:=.ref s2.heap.objs.size) I3 hN hy hx rfl (λs5 I5 hsb=>?_) hf);have hC:s2.heap.objs.size<s2.heap.objs.size+1:=Ub _;have ltL:X.env.locals<s2.heap.objs.size:=I2.lt;have ltC:∀x c,X.env.cells.lookup x=YB c->c<s2.heap.objs.size:=λx c e=>by
   obtain⟨w',z⟩:=I2.cell x c e;exact z.lt
  refine⟨m,?_,λh' hs'=>⟨O.set i (YB (.ref s2.heap.objs.size)),H',?_,q'⟩⟩
  .obtain⟨a,hsa,ha⟩:=hsb
   refine hn.sameBut hsa ?_;rcases ha with ha|ha
   .rw[ha];exact X6 (UG ltL hC)
   .exact X6 (UG (ltC _ _ ha) hC)
  .refine I5.turned (t':=s5.toks) (it:=s2.heap.objs.size+1) (λb o hb e=>(hs'.2 b hb).trans e) I'.free (X6 (UG ltL hC)) (.inr (QB I2.sz (Nat.le_of_lt hC))) (λx c e=>Xz (UG (ltC x c e) hC)) λp hp=>?_
   obtain⟨e,_⟩:=I2.pin p hp;exact Xz (UG (XD e) hC)
 .rw[<-hl]at hr
  exact hr
end
section
variable (n:Nat)(D:YG)(Pv:Nat->List V->St->Hp->Prop)
variable {n D Pv}
end
mutual
inductive Is(H:Hp)(L:YG->Prop):V->Xa->Prop where
 | non:Is H L .non .none
 | bl (b:Bool):Is H L (.bl b) (.bool b)
 | int (i:Int):Is H L (.int i) (.int i)
 | str (x:Str):Is H L (.str x) (.str x)
 | lst {a:YG} {xs:List V} {ds:List Xa}:L a->H a=YB (.lst xs)->IsAll H L xs ds->Is H L (.ref a) (.list ds)
 | tup {a:YG} {xs:List V} {ds:List Xa}:H a=YB (.tup xs)->IsAll H L xs ds->Is H L (.ref a) (.tuple ds)
inductive IsAll(H:Hp)(L:YG->Prop):List V->List Xa->Prop where
 | nil:IsAll H L [] []
 | cons {x:V} {xs:List V} {d:Xa} {ds:List Xa}:Is H L x d->IsAll H L xs ds->IsAll H L (x::xs) (d::ds)
end
section
variable {L L':YG->Prop}
theorem IsAll.ind{Q:List V->List Xa->Prop}(n:Q [] [])(c:∀{x:V} {xs:List V} {d:Xa} {ds:List Xa},Is H L x d->IsAll H L xs ds->Q xs ds->Q (x::xs) (d::ds)):∀{xs ds},IsAll H L xs ds->Q xs ds:=λh=>
 IsAll.rec (motive_1:=λ_ _ _=>True) (motive_2:=λxs ds _=>Q xs ds) trivial (λ_=>trivial) (λ_=>trivial) (λ_=>trivial) (λ_ _ _ _=>trivial) (λ_ _ _=>trivial) n (λp q _ r=>c p q r) h
theorem IsAll.length{xs:List V}{ds:List Xa}(h:IsAll H L xs ds):xs.length=ds.length:=IsAll.ind (Q:=λxs ds=>xs.length=ds.length) rfl (λ_ _ r=>YT (·+1) r) h
theorem IsAll.set{xs:List V}{ds:List Xa}{x:V}{d:Xa}(i:Nat)(h:IsAll H L xs ds)(k:Is H L x d):IsAll H L (xs.set i x) (ds.set i d) :=
 IsAll.ind (Q:=λxs ds=>∀i,IsAll H L (xs.set i x) (ds.set i d)) (λ_=>.nil) (λh q r i=>Nat.casesOn i (.cons k q) λi=>.cons h (r i)) h i
end
section
variable {O:St}{L L':YG->Prop}
end
abbrev Shp(d:Xa):Prop:=Ut d=YD
mutual
def Y4:Xa->Bool
 | .none=>YD
 | .int _=>YD
 | .str _=>YD
 | .list ds=>Zd3 ds
 | .tuple ds=>Zd3 ds
 | _=>YF
def Zd3:List Xa->Bool
 | []=>YD
 | d::ds=>Y4 d&&Zd3 ds
end
mutual
theorem Zju:∀(d e:Xa),Y4 d=YD->Y4 e=YD->(QT d e=YD↔d=e)
 | .none,e,_,he=>by cases e<;>simp_all [QT,Y4]
 | .int i,e,_,he=>by cases e<;>simp_all [QT,Y4]
 | .str i,e,_,he=>by cases e<;>simp_all [QT,Y4]
 | .list ds,e,hd,he=>by
  cases e with
  | list es=>
   rw[Y4]at hd he;rw[QT,QJ.injEq];exact Zfh ds es hd he
  | _=>simp_all [QT,Y4]
 | .tuple ds,e,hd,he=>by
  cases e with
  | tuple es=>
   rw[Y4]at hd he;rw[QT,PyData.tuple.injEq];exact Zfh ds es hd he
  | _=>simp_all [QT,Y4]
 | .bool b,e,hd,_=>by simp[Y4]at hd
 | .dict b,e,hd,_=>by simp[Y4]at hd
theorem Zfh:∀(ds es:List Xa),Zd3 ds=YD->Zd3 es=YD->(PyData.eqvAll ds es=YD↔ds=es)
 | [],[],_,_=>by simp[PyData.eqvAll]
 | [],_::_,_,_=>by simp[PyData.eqvAll]
 | _::_,[],_,_=>by simp[PyData.eqvAll]
 | d::ds,e::es,hd,he=>by
  rw[Zd3,Xp]at hd he;rw[PyData.eqvAll,Xp,Zju d e hd.1 he.1,Zfh ds es hd.2 he.2,List.cons.injEq]
end
theorem Z0m{d e:Xa}(h:Y4 d=YD)(k:Y4 e=YD)(q:d=e):QT d e=YD:=(Zju d e h k).mpr q
theorem Z79{d e:Xa}(h:Y4 d=YD)(k:Y4 e=YD)(q:d≠e):QT d e=YF:=Vt.mpr λz=>q ((Zju d e h k).mp z)
def fr(a b:Int):Xa:=.tuple [.int a,.int b]
theorem Zes{t b:Int}(hb:b≠0):0<(Bs t b:Int):=by
 have:=Int.gcd_pos_of_ne_zero_right t hb;omega
theorem Jj{t g:Int}(hg:0<g):t.fdiv g=t/g:=Int.fdiv_eq_ediv_of_nonneg t (by omega)
theorem Zc6{t g:Int}(hg:0<g)(h:g∣t):t.fdiv (-g)= -(t/g):=by
 obtain⟨k,rfl⟩:=h;rw[Int.mul_ediv_cancel_left _ (by omega)];have e:g*k=(-k)*(-g):=by rw[Int.neg_mul_neg,Int.mul_comm]
 rw[e,Int.mul_fdiv_cancel _ (by omega)]
def shr(t b:Int):Int:=if b<0 then -(Bs t b:Int)else(Bs t b:Int)
theorem Z3g{t b:Int}(hb:b≠0):t.fdiv (shr t b)=(XR t b).num:=by
 have hg:=Zes (t:=t) hb;have hd:(Bs t b:Int)∣t:=Int.gcd_dvd_left ..;rw[Rat.num_divInt,Int.gcd_comm b t];unfold shr
 by_cases h:b<0
 .rw[YL h,Zc6 hg hd,Int.sign_eq_neg_one_of_neg h,Int.neg_one_mul,Int.neg_ediv_of_dvd hd]
 .rw[YM h,Jj hg,Int.sign_eq_one_of_pos (by omega),Int.one_mul]
theorem Z3k{t b:Int}(hb:b≠0):b.fdiv (shr t b)=((XR t b).den:Int):=by
 have hg:=Zes (t:=t) hb;have hd:(Bs t b:Int)∣b:=Int.gcd_dvd_right ..;rw[Rat.den_divInt,YM hb,Int.gcd_comm b t];unfold shr
 by_cases h:b<0
 .have e:(b.natAbs:Int)= -b:=by omega
  rw[YL h,Zc6 hg hd,Int.natCast_ediv,e,Int.neg_ediv_of_dvd hd]
 .have e:(b.natAbs:Int)=b:=by omega
  rw[YM h,Jj hg,Int.natCast_ediv,e]
theorem Z15{t b:Int}(hb:b≠0):shr t b≠0:=by
 have hg:=Zes (t:=t) hb;unfold shr;split<;>omega
theorem Z1h{n:Nat}{t b:Int}(hb:b≠0)(h:Bt n b):Bt n (shr t b):=by
 have h1:Bt n (Bs t b:Int):=by
  refine Bt.of_le h ?_;have:=Int.gcd_le_natAbs_right t hb;omega
 unfold shr;split
 .exact h1.neg
 .exact h1
theorem Zvg{n:Nat}{t b:Int}(hb:b≠0)(h:Bt n t):Bt n (XR t b).num:=by
 rw[Rat.num_divInt];refine Bt.of_le h ?_;refine QB (Int.natAbs_ediv_le_natAbs _ _) ?_;rw[Int.natAbs_mul];have:b.sign.natAbs<=1:=by
  rw[Int.natAbs_sign];split<;>omega
 calc b.sign.natAbs*t.natAbs<=1*t.natAbs:=Nat.mul_le_mul_right _ this
  _=t.natAbs:=Nat.one_mul _
theorem Z07{n:Nat}{t b:Int}(hb:b≠0)(h:Bt n b):Bt n ((XR t b).den:Int):=by
 rw[Rat.den_divInt,YM hb];refine Bt.of_le h ?_;show((b.natAbs/b.gcd t:Nat):Int).natAbs<=_;rw[Int.natAbs_natCast];exact Nat.div_le_self _ _
theorem Zwh(q:Rat):(q.den:Int)≠0:=by
 have:=q.den_pos;omega
theorem Zb3(q:Rat):(0:Int)<(q.den:Int):=by
 have:=q.den_pos;omega
theorem Zpw(q r:Rat):XR (q.num*(r.den:Int)+r.num*(q.den:Int)) ((q.den:Int)*(r.den:Int))=q+r:=by
 rw[Rat.add_def',<-Int.natCast_mul,Rat.divInt_ofNat]
theorem Zu1(q r:Rat):q.num*(r.den:Int)<r.num*(q.den:Int)↔q<r:=(Rat.lt_iff q r).symm
def frD(q:Rat):Xa:=fr q.num (q.den:Int)
def BQ(n:Nat)(q:Rat):Prop:=Bt n q.num/\Bt n (q.den:Int)
theorem BQ.zero:BQ 1 0:=⟨by unfold Bt;decide,by unfold Bt;decide⟩
section
variable {a b o:YJ}{tl:TE}
theorem Zx8(hK:X.K=K):IxR X (Ye1 K):=hK▸Zsa
theorem Ztz(hK:X.K=K):IxR X (rIx K):=hK▸Z99
theorem Zzf(hK:X.K=K):SlR X (Yjb K):=hK▸Z2i
def Yht(K:Xc):List V->Hp->VK->Prop:=λxs H Q=>∃p ys,xs=[.ref p]/\(SqL K H p ys\/SqT K H p ys)/\Q (.int ys.length) H
theorem Zhs(hK:X.K=K):Zar X (.builtin "len") (Yht K):=by subst hK;exact Zkz
def Zso(K:Xc):List V->Hp->VK->Prop:=λxs H Q=>∃p ys,xs=[.ref p]/\(SqL K H p ys\/SqT K H p ys)/\∀l,H l=YC->Q (.ref l) (upd H l (.lst ys))
theorem Zid(hK:X.K=K):Zar X (.type "list") (Zso K):=by subst hK;exact Zmp
def Z0n(K:Xc):List V->Hp->VK->Prop:=λxs H Q=>∃p ys,xs=[.ref p]/\((SqL K H p ys/\∀l,H l=YC->Q (.ref l) (upd H l (.tup ys)))\/(SqT K H p ys/\Q (.ref p) H))
theorem Zhv(hK:X.K=K):Zar X (.type "tuple") (Z0n K):=by subst hK;exact Zkq
def Yls(K:Xc)(ta:TE):TT:=λO H Q=>ta O H λx H'=>∃k,Yer K x H' k/\Q k H'
theorem Z19(hK:X.K=K)(ha:PE X a ta)(he:∀whole,isTrue a X.env whole=(do let v<-whole;standAt a.pos;holding [v] (truthy v))):PT X a (Yls K ta):=by subst hK;exact Zzl ha he
theorem Zxj{l:YJ}(hK:X.K=K)(hl:PE X l tl):PI X tg l (Z98 K tl):=by subst hK;exact Z6s hl
theorem Zpl(hK:X.K=K):OpR X (Bj .In) (rIn K YF):=by subst hK;exact Zvi
theorem Zkv(hK:X.K=K):OpR X (Bj .NotIn) (rIn K YD):=by subst hK;exact Zli
end
theorem Zz{p:YG}(h:H p=YC)(o:HO):Same H (upd H p o):=λb u q=>by rw[Zu (Yx q h)];exact q
def But(p:YG)(H H':Hp):Prop:=∀b o,b≠p->H b=YB o->H' b=YB o
theorem But.upd(p:YG)(H:Hp)(o:HO):But p H (upd H p o):=λb u n e=>by rw[Zu n];exact e
def Pl(H:Hp)(p:YG)(n:Nat):Prop:=∃a b c:Int,H p=YB (.lst [.int a,.int b,.int c])/\0<=c/\c<=n
theorem Pl.at{H:Hp}{p:YG}{n:Nat}(h:Pl H p n):∃xs,H p=YB (.lst xs):=by
 obtain⟨a,b,c,e,h1,h2⟩:=h;exact⟨_,e⟩
namespace B
theorem boot_abs:Qk "abs"=YB (.builtin "abs"):=by decide +kernel
theorem boot_len:Qk "len"=YB (.builtin "len"):=by decide +kernel
theorem boot_min:Qk "min"=YB (.builtin "min"):=by decide +kernel
theorem boot_isinstance:Qk "isinstance"=YB (.builtin "isinstance"):=by decide +kernel
theorem boot_sorted:Qk "sorted"=YB (.builtin "sorted"):=by decide +kernel
theorem boot_int:Qk "int"=YB (.type "int"):=by decide +kernel
theorem boot_bool:Qk "bool"=YB (.type "bool"):=by decide +kernel
theorem boot_str:Qk "str"=YB (.type "str"):=by decide +kernel
theorem boot_list:Qk "list"=YB (.type "list"):=by decide +kernel
theorem boot_tuple:Qk "tuple"=YB (.type "tuple"):=by decide +kernel
theorem boot_range:Qk "range"=YB (.type "range"):=by decide +kernel
theorem boot_zip:Qk "zip"=YB (.type "zip"):=by decide +kernel
theorem boot_enumerate:Qk "enumerate"=YB (.type "enumerate"):=by decide +kernel
theorem boot_set:Qk "set"=YB (.type "set"):=by decide +kernel
end B
theorem Zgl{a b:Int}(hb:0<b):a.fmod b=a%b:=Int.fmod_eq_emod_of_nonneg a (by omega)
theorem Zyz{x y:Int}(hx:0<=x)(hy:0<y):Bs y (x.fmod y)=Bs x y:=by
 rw[Zgl hy,Int.gcd_comm x y];have e:=Int.emod_add_mul_ediv x y
 conv=>rhs;rw[<-e]
 rw[Int.gcd_add_mul_left_right]
theorem Zuk:(2:Nat)<=Xv:=by decide
theorem Zxf(q:Rat):XR q.num (q.den:Int)=q:=Rat.num_divInt_den q
theorem BQ.n{n:Nat}{q:Rat}(h:BQ n q):Bt n q.num:=h.1
theorem BQ.d{n:Nat}{q:Rat}(h:BQ n q):Bt n (q.den:Int):=h.2
theorem Yjq(q:Rat):(((q.den:Int)):Rat)≠0:=by
 intro z;exact Zwh q (Rat.intCast_eq_zero_iff.mp z)
theorem Yjt(q:Rat):((q.num:Int):Rat)=q*(((q.den:Int)):Rat):=by
 have h:=Zxf q;rw[QZ]at h;have d:=Yjq q
 conv=>rhs;lhs;rw[<-h]
 grind
variable {XP:(Str->Option Xf)->YH->Prop}{L L':YG->Prop}{env:Env}{elt:YJ}{y b:Int}{J:It}{ifs:List YJ}{ns:List Int}{caps:List Nat}{loose own N':List Str}{ds:List Xa}{py spos:Pos}{YP:Qu->YH->Prop}{G:Xc}
def KS(G:Xc)(a:YG)(ns:List Int):Prop:=∃(o:Obj) (its:Array Xf) (n:Nat),G.lookup a=YB o/\o.cls= .type "list"/\o.dict=YC/\o.data= .seq its n/\its.size<=Xv/\Vals (ns.map V.int) its.toList
theorem KS.sq(h:KS G a ns):SqL G H a (ns.map V.int):=.inr h
def exD(x:Str):Xa:=.dict [(.str x,.none)]
def fnD(x:Str):Xa:=.dict [(.str x,.bool YD)]
def Zgq:Xa->Bool| .dict ((_,.bool _)::_)=>YD|_=>YF
def ClsAt(G:Xc)(x:Str)(C:YG):Prop:=QW G Qm x=YB (YB (.ref C))
structure Ze0(G:Xc)(C:YG):Prop where
 ga:Vv G (.ref C) "__getattribute__"=YB (YB (.builtin "BaseException.__getattribute__"))
 gt:Vv G (.ref C) "__getattr__"=YB YC
 cl:Vv G (.ref C) "__class__"=YB (YB (.builtin "object.__class__"))
 isB:PySem.W.subIn G (.ref C) (.type "BaseException")=YB YD
 isO:PySem.W.subIn G (.ref C) (.type "object")=YB YD
 isC:(PySem.W.clsIn G C).isSome=YD
 k1:Vu G (.ref C) (.type "int")=YB YF
 k2:Vu G (.ref C) (.type "bool")=YB YF
 k3:Vu G (.ref C) (.type "str")=YB YF
 k4:Vu G (.ref C) (.type "list")=YB YF
 k5:Vu G (.ref C) (.type "tuple")=YB YF
def ExO(C a:YG)(h:YH):Prop:=∃o vs,h.get? a=YB o/\o.cls= .ref C/\o.data= .fields vs
inductive ImO where
 | tup (xs:List V)
 | ext (φ:YH->Prop)
def ImO.ho:ImO->HO
 | .tup xs=>.tup xs
 | .ext φ=>.ext φ
inductive MuO where
 | lst (xs:List V)
 | dK (kvs:List (Key×V))
 | dT (kvs:List (List Key×V))
def MuO.ho:MuO->HO
 | .lst xs=>.lst xs
 | .dK kvs=>.dK kvs
 | .dT kvs=>.dT kvs
def Z3h:Key->Xa
 | .inl i=>.int i
 | .inr x=>.str x
def keyT(ks:List Key):Xa:=.tuple (ks.map Z3h)
abbrev KY:=Sum Key (List Key)
def kyD:KY->Xa
 | .inl k=>Z3h k
 | .inr ks=>keyT ks
def MuO.dic(t:Bool)(ks:List KY)(xs:List V):MuO->Prop
 | .lst _=>False
 | .dK kvs=>t=YF/\ks=kvs.map (λp=>.inl p.1)/\xs=kvs.map (·.2)
 | .dT kvs=>t=YD/\ks=kvs.map (λp=>.inr p.1)/\xs=kvs.map (·.2)
def dcD(t:Bool)(ks:List KY)(ds:List Xa):Xa:=.dict ((.none,.bool t)::(ks.map kyD).zip ds)
theorem ImO.nm{H:Hp}{a:YG}{x:ImO}{y:MuO}(h:H a=YB x.ho)(h':H a=YB y.ho):False:=by
 rw[h]at h';cases x<;>cases y<;>cases h'
theorem ImO.nl{x:ImO}(h:H a=YB x.ho)(h':H a=YB (.lst ys)):False:=by
 rw[h]at h';cases x<;>cases h'
mutual
inductive Da(G:Xc)(H:Hp)(L:YG->Prop):V->Xa->Prop where
 | non:Da G H L .non .none
 | bl (b:Bool):Da G H L (.bl b) (.bool b)
 | int (i:Int):Da G H L (.int i) (.int i)
 | str (x:Str):Da G H L (.str x) (.str x)
 | lst {a:YG} {xs:List V} {ds:List Xa}:L a->Rd H a (.lst xs)->Das G H L xs ds->Da G H L (.ref a) (.list ds)
 | tup {a:YG} {xs:List V} {ds:List Xa}:H a=YB (.tup xs)->Das G H L xs ds->Da G H L (.ref a) (.tuple ds)
 | scr {a:YG} {ns:List Int}:KS G a ns->Da G H L (.ref a) (.list (ns.map Xl))
 | exc {a C:YG} {x:Str}:Ze0 G C->ClsAt G x C->H a=YB (.ext (ExO C a))->Da G H L (.ref a) (exD x)
 | fn {a:YG} {x:Str}:ClsAt G x a->Da G H L (.ref a) (fnD x)
 | dic {a:YG} {o:MuO} {t:Bool} {ks:List KY} {xs:List V} {ds:List Xa}:L a->Rd H a o.ho->o.dic t ks xs->Das G H L xs ds->Da G H L (.ref a) (dcD t ks ds)
inductive Das(G:Xc)(H:Hp)(L:YG->Prop):List V->List Xa->Prop where
 | nil:Das G H L [] []
 | cons {x:V} {xs:List V} {d:Xa} {ds:List Xa}:Da G H L x d->Das G H L xs ds->Das G H L (x::xs) (d::ds)
end
theorem Da.both{P:V->Xa->Prop}{Q:List V->List Xa->Prop}(c1:P .non .none)(c2:∀b,P (.bl b) (.bool b))(c3:∀i,P (.int i) (.int i))(c4:∀x,P (.str x) (.str x))
  (c5:∀{a:YG} {xs:List V} {ds:List Xa},L a->Rd H a (.lst xs)->Q xs ds->P (.ref a) (.list ds)) (c6:∀{a:YG} {xs:List V} {ds:List Xa},H a=YB (.tup xs)->Q xs ds->P (.ref a) (.tuple ds))
  (c7:∀{a:YG} {ns:List Int},KS G a ns->P (.ref a) (.list (ns.map Xl))) (c8:∀{a C:YG} {x:Str},Ze0 G C->ClsAt G x C->H a=YB (.ext (ExO C a))->P (.ref a) (exD x)) (c9:∀{a:YG} {x:Str},ClsAt G x a->P (.ref a) (fnD x))
  (c10:∀{a:YG} {o:MuO} {t:Bool} {ks:List KY} {xs:List V} {ds:List Xa},L a->Rd H a o.ho->o.dic t ks xs->Q xs ds->P (.ref a) (dcD t ks ds)) (n:Q [] []) (c:∀{x:V} {xs:List V} {d:Xa} {ds:List Xa},P x d->Q xs ds->Q (x::xs) (d::ds)):(∀{v d},Da G H L v d->P v d)/\∀{xs ds},Das G H L xs ds->Q xs ds :=
 ⟨λh=>Da.rec (motive_1:=λv d _=>P v d) (motive_2:=λxs ds _=>Q xs ds) c1 c2 c3 c4 (λp e _ r=>c5 p e r) (λe _ r=>c6 e r) (λk=>c7 k) (λk l m=>c8 k l m) (λk=>c9 k) (λp e k _ r=>c10 p e k r) n (λ_ _ p q=>c p q) h,
   λh=>Das.rec (motive_1:=λv d _=>P v d) (motive_2:=λxs ds _=>Q xs ds) c1 c2 c3 c4 (λp e _ r=>c5 p e r) (λe _ r=>c6 e r) (λk=>c7 k) (λk l m=>c8 k l m) (λk=>c9 k) (λp e k _ r=>c10 p e k r) n (λ_ _ p q=>c p q) h⟩
theorem Das.ind{Q:List V->List Xa->Prop}(n:Q [] [])(c:∀{x:V} {xs:List V} {d:Xa} {ds:List Xa},Da G H L x d->Das G H L xs ds->Q xs ds->Q (x::xs) (d::ds)):∀{xs ds},Das G H L xs ds->Q xs ds:=λh=>
 Das.rec (motive_1:=λ_ _ _=>True) (motive_2:=λxs ds _=>Q xs ds) trivial (λ_=>trivial) (λ_=>trivial) (λ_=>trivial) (λ_ _ _ _=>trivial) (λ_ _ _=>trivial) (λ_=>trivial) (λ_ _ _=>trivial) (λ_=>trivial) (λ_ _ _ _ _=>trivial) n (λp q _ r=>c p q r) h
theorem Da.frame2(hl:∀a (xs:MuO),L a->Rd H a xs.ho->L' a/\Rd H' a xs.ho)(ht:∀a (xs:ImO),H a=YB xs.ho->H' a=YB xs.ho):(∀{v:V} {d:Xa},Da G H L v d->Da G H' L' v d)/\∀{xs:List V} {ds:List Xa},Das G H L xs ds->Das G H' L' xs ds :=
 Da.both .non .bl .int .str (fun{_ xs _} p e r=>.lst (hl _ (.lst xs) p e).1 (hl _ (.lst xs) p e).2 r) (fun{_ xs _} e r=>.tup (ht _ (.tup xs) e) r) .scr (λc n e=>.exc c n (ht _ (.ext _) e)) .fn (λp e k r=>.dic (hl _ _ p e).1 (hl _ _ p e).2 k r) .nil .cons
theorem Da.frame(hl:∀a (xs:MuO),L a->Rd H a xs.ho->L' a/\Rd H' a xs.ho)(ht:∀a (xs:ImO),H a=YB xs.ho->H' a=YB xs.ho){v:V}{d:Xa}(h:Da G H L v d):Da G H' L' v d:=(Da.frame2 hl ht).1 h
theorem Das.frame(hl:∀a (xs:MuO),L a->Rd H a xs.ho->L' a/\Rd H' a xs.ho)(ht:∀a (xs:ImO),H a=YB xs.ho->H' a=YB xs.ho){xs:List V}{ds:List Xa}(h:Das G H L xs ds):Das G H' L' xs ds:=(Da.frame2 hl ht).2 h
theorem Rd.same{u:HO}(s:Same H H')(h:Rd H a u):Rd H' a u:=h.imp (s _ _) λ⟨o,h⟩=>⟨o,s _ _ h⟩
theorem Rd.some{a:YG}{u:HO}(h:Rd H a u):H a≠Option.none:=by
 rcases h with h|⟨o,h⟩<;>rw[h]<;>intro z<;>cases z
theorem Da.same(h:Same H H'){d:Xa}(x:Da G H L v d):Da G H' L v d:=x.frame (λa xs p e=>⟨p,e.same h⟩) λa xs e=>h _ _ e
theorem Das.same(h:Same H H'){v:List V}{d:List Xa}(x:Das G H L v d):Das G H' L v d:=x.frame (λa xs p e=>⟨p,e.same h⟩) λa xs e=>h _ _ e
theorem Da.wide(h:∀a,L a->H a≠YC->L' a){d:Xa}(x:Da G H L v d):Da G H L' v d:=x.frame (λa xs p e=>⟨h a p e.some,e⟩) λa xs e=>e
theorem Das.wide(h:∀a,L a->H a≠YC->L' a){v:List V}{d:List Xa}(x:Das G H L v d):Das G H L' v d:=x.frame (λa xs p e=>⟨h a p e.some,e⟩) λa xs e=>e
theorem Das.length{xs:List V}{ds:List Xa}(h:Das G H L xs ds):xs.length=ds.length:=Das.ind (Q:=λxs ds=>xs.length=ds.length) rfl (λ_ _ r=>YT (·+1) r) h
theorem Das.append{es:List Xa}(h:Das G H L xs ds)(k:Das G H L ys es):Das G H L (xs++ys) (ds++es):=Das.ind (Q:=λxs ds=>Das G H L (xs++ys) (ds++es)) k (λh _ r=>.cons h r) h
theorem Das.snoc{x:V}{d:Xa}(h:Das G H L xs ds)(k:Da G H L x d):Das G H L (xs++[x]) (ds++[d]):=h.append (.cons k .nil)
theorem Das.get{d:Xa}(h:Das G H L xs ds):ds[i]? =YB d->∃x,xs[i]? =YB x/\Da G H L x d :=
 Das.ind (Q:=λxs ds=>∀i,ds[i]? =YB d->∃x,xs[i]? =YB x/\Da G H L x d) (λ_ e=>(Option.some_ne_none _ (e.symm.trans List.getElem?_nil)).elim) (fun{x _ _ _} h _ r i=>Nat.casesOn i (λe=>⟨x,rfl,QD e▸h⟩) λi e=>r i e) h i
theorem Das.get'{x:V}(h:Das G H L xs ds):xs[i]? =YB x->∃d,ds[i]? =YB d/\Da G H L x d :=
 Das.ind (Q:=λxs ds=>∀i,xs[i]? =YB x->∃d,ds[i]? =YB d/\Da G H L x d) (λ_ e=>(Option.some_ne_none _ (e.symm.trans List.getElem?_nil)).elim) (fun{_ _ d _} h _ r i=>Nat.casesOn i (λe=>⟨d,rfl,QD e▸h⟩) λi e=>r i e) h i
theorem Das.take(n:Nat)(h:Das G H L xs ds):Das G H L (xs.take n) (ds.take n) :=
 Das.ind (Q:=λxs ds=>∀n,Das G H L (xs.take n) (ds.take n)) (λn=>by rw[List.take_nil,List.take_nil];exact .nil) (λh _ r n=>Nat.casesOn n .nil λn=>.cons h (r n)) h n
theorem Das.drop{xs:List V}{ds:List Xa}(n:Nat)(h:Das G H L xs ds):Das G H L (xs.drop n) (ds.drop n) :=
 Das.ind (Q:=λxs ds=>∀n,Das G H L (xs.drop n) (ds.drop n)) (λn=>by rw[List.drop_nil,List.drop_nil];exact .nil) (λh q r n=>Nat.casesOn n (.cons h q) λn=>r n) h n
theorem Das.ints(ns:List Int):Das G H L (ns.map V.int) (ns.map Xl):=by
 induction ns with
 | nil=>exact .nil
 | cons n ns ih=>exact .cons (.int n) ih
theorem Das.int_inv(h:Das G H L xs (ns.map Xl)):xs=ns.map V.int:=by
 induction ns generalizing xs with
 | nil=>cases h;rfl
 | cons n ns ih=>
  rw[XC]at h;cases h with
  | cons h r=>cases h;rw[ih r];rfl
theorem Zri(ns:List Int)(v:Vals (ns.map V.int) us):∃as,ReadsAll h us (ns.map Xl) as:=by
 induction ns generalizing us with
 | nil=>cases v;exact⟨_,.nil⟩
 | cons n ns ih=>
  rw[XC]at v;cases v with
  | cons r rs=>
   obtain⟨t,e⟩:=(show∃t,_=Value.int n t from r);subst e;obtain⟨bs,k'⟩:=ih rs;exact⟨_,.cons (.int n t) k'⟩
section
variable {O:St}
theorem Da.reads2(hG:X.K=G)(I:Inv X pins O H s):(∀{v:V} {d:Xa},Da G H L v d->∀u,RelV v u->d.canLay0=YD->∃as,Reads s.heap u d as)/\∀{xs:List V} {ds:List Xa},Das G H L xs ds->∀us,Vals xs us->Bg ds=YD->∃as,ReadsAll s.heap us ds as:=by
 refine Da.both ?_ ?_ ?_ ?_ ?_ ?_ ?_ ?_ ?_ ?_ ?_ ?_
 .intro u r _
  cases(show _=QH from r);exact⟨_,.none⟩
 .intro b u r _
  cases(show _=Value.bool b from r);exact⟨_,.bool b⟩
 .intro i u r _
  obtain⟨t,e⟩:=(show∃t,_=Value.int i t from r);subst e;exact⟨_,.int i t⟩
 .intro x u r _
  obtain⟨t,e⟩:=(show∃t,_=Value.str x t from r);subst e;exact⟨_,.str x t⟩
 .intro a xs ds _ e q u r hcl
  cases(show _=Qq a from r);obtain⟨_,its,n,vs,h1⟩:=(show ObjOk X.prog X.w H s.heap a (.lst xs)from e.ok I.hok);rw[BJ]at hcl;obtain⟨as,k⟩:=q _ vs hcl;exact⟨_,Reads.list h1 rfl rfl k⟩
 .intro a xs ds e q u r hcl
  cases(show _=Qq a from r);obtain⟨_,its,vs,o,ho,hc,n,hd⟩:=(show ObjOk X.prog X.w H s.heap a (.tup xs)from I.hok a _ e);rw[BJ]at hcl;obtain⟨as,k⟩:=q _ vs hcl;exact⟨_,Reads.tuple ho hc hd k⟩
 .intro a ns k u r _
  cases(show _=Qq a from r);subst hG;obtain⟨its,vs,⟨o,n,ho,hc,hd,hs⟩,_⟩:=I.list (k.sq (H:=H));obtain⟨as,q⟩:=Zri ns vs;exact⟨_,Reads.list ho hc hs q⟩
 .intro a C x _ _ e u r hc
  rw[exD,BJ]at hc;cases hc
 .intro a x _ u r hc
  rw[fnD,BJ]at hc;cases hc
 .intro a o t ks xs ds _ _ _ _ u r hc
  rw[dcD,BJ]at hc;cases hc
 .intro us v _
  cases v;exact⟨_,.nil⟩
 .intro x xs d ds h q us v hc
  cases v with
  | cons r rs=>
   rw[Bg,Xp]at hc;obtain⟨as,k⟩:=h _ r hc.1;obtain⟨bs,k'⟩:=q _ rs hc.2;exact⟨_,.cons k k'⟩
theorem Da.reads(hG:X.K=G)(I:Inv X pins O H s){d:Xa}(h:Da G H L v d)(r:RelV v u)(c:d.canLay0=YD):∃as,Reads s.heap u d as:=(Da.reads2 hG I).1 h u r c
theorem Das.reads(hG:X.K=G)(I:Inv X pins O H s)(h:Das G H L xs ds)(r:Vals xs us)(c:Bg ds=YD):∃as,ReadsAll s.heap us ds as:=(Da.reads2 hG I).2 h us r c
end
inductive OT where
 | fz (d:Xa)
 | nd (ts:List OT)
 | tp (ts:List OT)
 | dc (t:Bool) (ks:List KY) (ds:List Xa)
mutual
def OT.data:OT->Xa
 | .fz d=>d
 | .nd ts=>.list (OT.datas ts)
 | .tp ts=>.tuple (OT.datas ts)
 | .dc t ks ds=>dcD t ks ds
def OT.datas:List OT->List Xa
 | []=>[]
 | t::ts=>t.data::OT.datas ts
end
theorem OT.datas_map:∀(ts:List OT),OT.datas ts=ts.map OT.data
 | []=>rfl
 | t::ts=>by rw[OT.datas,OT.datas_map ts];rfl
@[simp] theorem OT.data_fz(d:Xa):(OT.fz d).data=d:=by rw[OT.data]
@[simp] theorem OT.data_nd(ts:List OT):(OT.nd ts).data= .list (ts.map OT.data):=by rw[OT.data,OT.datas_map]
@[simp] theorem OT.data_tp(ts:List OT):(OT.tp ts).data= .tuple (ts.map OT.data):=by rw[OT.data,OT.datas_map]
theorem OT.data_dc(t:Bool)(ks:List KY)(ds:List Xa):(OT.dc t ks ds).data=dcD t ks ds:=by rw[OT.data]
@[simp] theorem OT.map_fz(ds:List Xa):(ds.map OT.fz).map OT.data=ds:=by
 rw[XQ];exact(Xr λd _=>OT.data_fz d).trans (List.map_id _)
mutual
inductive Own(G:Xc)(H:Hp)(L:YG->Prop):V->OT->List YG->Prop where
 | fz {v:V} {d:Xa}:Da G H L v d->Own G H L v (.fz d) []
 | nd {a:YG} {xs:List V} {ts:List OT} {bs:List YG}:H a=YB (.lst xs)->Owns G H L xs ts bs->Own G H L (.ref a) (.nd ts) (a::bs)
 | tp {a:YG} {xs:List V} {ts:List OT} {bs:List YG}:H a=YB (.tup xs)->Owns G H L xs ts bs->Own G H L (.ref a) (.tp ts) bs
 | dc {a:YG} {o:MuO} {t:Bool} {ks:List KY} {xs:List V} {ds:List Xa}:H a=YB o.ho->o.dic t ks xs->Das G H L xs ds->Own G H L (.ref a) (.dc t ks ds) [a]
inductive Owns(G:Xc)(H:Hp)(L:YG->Prop):List V->List OT->List YG->Prop where
 | nil:Owns G H L [] [] []
 | cons {x:V} {xs:List V} {t:OT} {ts:List OT} {as bs:List YG}:Own G H L x t as->Owns G H L xs ts bs->Owns G H L (x::xs) (t::ts) (as++bs)
end
theorem Own.both{P:V->OT->List YG->Prop}{Q:List V->List OT->List YG->Prop}(c1:∀{v:V} {d:Xa},Da G H L v d->P v (.fz d) [])(c2:∀{a:YG} {xs:List V} {ts:List OT} {bs:List YG},H a=YB (.lst xs)->Q xs ts bs->P (.ref a) (.nd ts) (a::bs))
  (c3:∀{a:YG} {xs:List V} {ts:List OT} {bs:List YG},H a=YB (.tup xs)->Q xs ts bs->P (.ref a) (.tp ts) bs) (c4:∀{a:YG} {o:MuO} {t:Bool} {ks:List KY} {xs:List V} {ds:List Xa},H a=YB o.ho->o.dic t ks xs->Das G H L xs ds->P (.ref a) (.dc t ks ds) [a]) (n:Q [] [] []) (c:∀{x:V} {xs:List V} {t:OT} {ts:List OT} {as bs:List YG},P x t as->Q xs ts bs->Q (x::xs) (t::ts) (as++bs)) :
  (∀ {v t as},Own G H L v t as->P v t as)/\∀{xs ts as},Owns G H L xs ts as->Q xs ts as :=
 ⟨λh=>Own.rec (motive_1:=λv t as _=>P v t as) (motive_2:=λxs ts as _=>Q xs ts as) c1 (λe _ r=>c2 e r) (λe _ r=>c3 e r) (λe k r=>c4 e k r) n (λ_ _ p q=>c p q) h,
   λh=>Owns.rec (motive_1:=λv t as _=>P v t as) (motive_2:=λxs ts as _=>Q xs ts as) c1 (λe _ r=>c2 e r) (λe _ r=>c3 e r) (λe k r=>c4 e k r) n (λ_ _ p q=>c p q) h⟩
theorem Own.frame2(hl:∀a (xs:MuO),L a->Rd H a xs.ho->L' a/\Rd H' a xs.ho)(ht:∀a (xs:ImO),H a=YB xs.ho->H' a=YB xs.ho) :
  (∀ {v:V} {t:OT} {as:List YG},Own G H L v t as->(∀a∈as,∀xs:MuO,H a=YB xs.ho->H' a=YB xs.ho)->Own G H' L' v t as)/\∀{xs:List V} {ts:List OT} {as:List YG},Owns G H L xs ts as->(∀a∈as,∀xs:MuO,H a=YB xs.ho->H' a=YB xs.ho)->Owns G H' L' xs ts as :=
 Own.both (λh _=>.fz (h.frame hl ht)) (fun{_ xs _ _} e r ha=>.nd (ha _ (.head _) (.lst xs) e) (r λa m=>ha a (.tail _ m))) (fun{_ xs _ _} e r ha=>.tp (ht _ (.tup xs) e) (r ha)) (λe k r ha=>.dc (ha _ (.head _) _ e) k (r.frame hl ht)) (λ_=>.nil) (λh r ha=>.cons (h λa m=>ha a (Vq _ m)) (r λa m=>ha a (QF _ m)))
theorem Own.frame(hl:∀a (xs:MuO),L a->Rd H a xs.ho->L' a/\Rd H' a xs.ho)(ht:∀a (xs:ImO),H a=YB xs.ho->H' a=YB xs.ho){v:V}{t:OT}{as:List YG}(ha:∀a∈as,∀xs:MuO,H a=YB xs.ho->H' a=YB xs.ho)(h:Own G H L v t as):Own G H' L' v t as:=(Own.frame2 hl ht).1 h ha
theorem Owns.frame(hl:∀a (xs:MuO),L a->Rd H a xs.ho->L' a/\Rd H' a xs.ho)(ht:∀a (xs:ImO),H a=YB xs.ho->H' a=YB xs.ho){xs:List V}{ts:List OT}{as:List YG}(ha:∀a∈as,∀xs:MuO,H a=YB xs.ho->H' a=YB xs.ho)(h:Owns G H L xs ts as):Owns G H' L' xs ts as:=(Own.frame2 hl ht).2 h ha
theorem Own.same(h:Same H H'){t:OT}{as:List YG}(x:Own G H L v t as):Own G H' L v t as:=x.frame (λa xs p e=>⟨p,e.same h⟩) (λa xs e=>h _ _ e) λa _ xs e=>h _ _ e
theorem Own.wide(h:∀a,L a->H a≠YC->L' a){t:OT}{as:List YG}(x:Own G H L v t as):Own G H L' v t as:=x.frame (λa xs p e=>⟨h a p e.some,e⟩) (λa xs e=>e) λa _ xs e=>e
theorem Owns.wide(h:∀a,L a->H a≠YC->L' a){v:List V}{t:List OT}{as:List YG}(x:Owns G H L v t as):Owns G H L' v t as:=x.frame (λa xs p e=>⟨h a p e.some,e⟩) (λa xs e=>e) λa _ xs e=>e
theorem Owns.same(h:Same H H'){v:List V}{t:List OT}{as:List YG}(x:Owns G H L v t as):Owns G H' L v t as:=x.frame (λa xs p e=>⟨p,e.same h⟩) (λa xs e=>h _ _ e) λa _ xs e=>h _ _ e
theorem Own.da2(h:∀a,L a->H a≠YC->L' a):(∀{v:V} {t:OT} {as:List YG},Own G H L v t as->(∀a∈as,L' a)->Da G H L' v t.data)/\∀{v:List V} {t:List OT} {as:List YG},Owns G H L v t as->(∀a∈as,L' a)->Das G H L' v (OT.datas t) :=
 Own.both (λk _=>by rw[OT.data_fz];exact k.wide h) (λe r ha=>by rw[OT.data];exact .lst (ha _ (.head _)) (.inl e) (r λa m=>ha a (.tail _ m))) (λe r ha=>by rw[OT.data];exact .tup e (r ha)) (λe k r ha=>by rw[OT.data];exact .dic (ha _ (.head _)) (.inl e) k (r.wide h)) (λ_=>.nil) (λk r ha=>.cons (k λa m=>ha a (Vq _ m)) (r λa m=>ha a (QF _ m)))
theorem Own.da(h:∀a,L a->H a≠YC->L' a){t:OT}{as:List YG}(ha:∀a∈as,L' a)(k:Own G H L v t as):Da G H L' v t.data:=(Own.da2 h).1 k ha
theorem Owns.das(h:∀a,L a->H a≠YC->L' a){v:List V}{t:List OT}{as:List YG}(ha:∀a∈as,L' a)(k:Owns G H L v t as):Das G H L' v (OT.datas t):=(Own.da2 h).2 k ha
theorem Own.some2:(∀{v:V} {t:OT} {as:List YG},Own G H L v t as->∀a∈as,∃xs:MuO,H a=YB xs.ho)/\∀{v:List V} {t:List OT} {as:List YG},Owns G H L v t as->∀a∈as,∃xs:MuO,H a=YB xs.ho :=
 Own.both (λ_ _ m=>nomatch m) (fun{_ xs _ _} e r a m=>(Xo.mp m).elim (λq=>⟨.lst xs,q▸e⟩) (r a)) (λ_ r=>r) (fun{_ o _ _ _ _} e _ _ a m=>⟨o,Xj.mp m▸e⟩) (λ_ m=>nomatch m) (λk r a m=>(Qo.mp m).elim (k a) (r a))
theorem Own.some{v:V}{t:OT}{as:List YG}(h:Own G H L v t as):∀a∈as,∃xs:MuO,H a=YB xs.ho:=Own.some2.1 h
theorem Owns.some{v:List V}{t:List OT}{as:List YG}(h:Owns G H L v t as):∀a∈as,∃xs:MuO,H a=YB xs.ho:=Own.some2.2 h
theorem Owns.length{xs:List V}{ts:List OT}{as:List YG}(h:Owns G H L xs ts as):xs.length=ts.length:=(Own.both (P:=λ_ _ _=>True) (Q:=λxs ts _=>xs.length=ts.length) (λ_=>trivial) (λ_ _=>trivial) (λ_ _=>trivial) (λ_ _ _=>trivial) rfl (λ_ r=>YT (·+1) r)).2 h
theorem Das.owns(h:Das G H L xs ds):Owns G H L xs (ds.map OT.fz) []:=Das.ind (Q:=λxs ds=>Owns G H L xs (ds.map OT.fz) []) .nil (λh _ r=>.cons (.fz h) r) h
abbrev Zi:=List (Option OT)
abbrev Fp:=Nat->List YG
set_option genInjectivity false in
structure MC(G:Xc) where
 H₀:Hp
 as₀:YG->Prop
 L:YG->Prop
 O₀:St
def Foot(fp:Fp)(a:YG):Prop:=∃i,a∈fp i
def Lf(C:MC G)(fp:Fp)(ex:YG->Prop)(a:YG):Prop:=¬Foot fp a/\¬ex a/\(C.L a\/C.H₀ a=YC)
structure Rel(C:MC G)(io:List Nat)(H:Hp)(O:St)(δ:Zi)(fp:Fp)(ex:YG->Prop):Prop where
 len:O.length=δ.length
 own:∀(i:Nat) (t:OT),δ[i]? =YB (YB t)->∃v,O[i]? =YB (YB v)/\Own G H (Lf C fp ex) v t (fp i)
 emp:∀i:Nat,(∀t,δ[i]? ≠YB (YB t))->fp i=[]
 nd:∀i,(fp i).Nodup
 dj:∀i j a,a∈fp i->a∈fp j->i=j
 dx:∀i a,a∈fp i->¬ex a
 xa:∀a,ex a->H a≠YC
 fr:∀b o,C.H₀ b=YB o->¬C.as₀ b->H b=YB o
 al:∀b,H b=YC->C.H₀ b=YC
 new:∀i a,a∈fp i->(i∈io/\C.as₀ a)\/C.H₀ a=YC
 io:∀i∈io,O[i]? =C.O₀[i]?
structure Stp(p:Bool)(H:Hp)(δ:Zi)(fp:Fp)(H':Hp)(δ':Zi)(fp':Fp):Prop where
 keep:∀b o,H b=YB o->(p=YD\/¬Foot fp b)->H' b=YB o
 env:p=YD->δ'=δ/\fp'=fp
 grow:∀a,Foot fp' a->Foot fp a\/H a=YC
 al:∀b,H' b=YC->H b=YC
section
variable {C:MC G}{io:List Nat}{H'':Hp}{O:St}{δ δ' δ'':Zi}{fp fp' fp'':Fp}{ex ex':YG->Prop}{p p' c:Bool}{d:Xa}{r:OT}{new:List YG}
theorem Rel.foot(R:Rel C io H O δ fp ex)(h:Foot fp a):∃xs:MuO,H a=YB xs.ho:=by
 obtain⟨i,h⟩:=h
 by_cases q:∃t,δ[i]? =YB (YB t)
 .obtain⟨t,q⟩:=q
  obtain⟨v,_,o⟩:=R.own i t q;exact o.some a h
 .rw[R.emp i (λt z=>q ⟨t,z⟩)]at h
  exact nomatch h
theorem Rel.footSome(R:Rel C io H O δ fp ex)(h:H a=YC):¬Foot fp a:=λz=>by
 obtain⟨xs,e⟩:=R.foot z;rw[h]at e;cases e
theorem Stp.refl(p:Bool)(H:Hp)(δ:Zi)(fp:Fp):Stp p H δ fp H δ fp:=⟨λ_ _ h _=>h,λ_=>⟨rfl,rfl⟩,λ_ h=>.inl h,λ_ h=>h⟩
theorem Stp.same(h:Same H H')(hn:∀b,H' b=YC->H b=YC):Stp p H δ fp H' δ fp:=⟨λ_ _ q _=>h _ _ q,λ_=>⟨rfl,rfl⟩,λ_ h=>.inl h,hn⟩
theorem Same.al(h:Same H H'):∀b,H' b=YC->H b=YC:=λ_ q=>h.free q
theorem Stp.trans(a:Stp p H δ fp H' δ' fp')(b:Stp p' H' δ' fp' H'' δ'' fp''):Stp (p&&p') H δ fp H'' δ'' fp'' where
 keep:=λx o e h=>by
  rcases h with h|h
  .rw[Xp]at h
   exact b.keep x o (a.keep x o e (.inl h.1)) (.inl h.2)
  .refine b.keep x o (a.keep x o e (.inr h)) (.inr λz=>?_)
   rcases a.grow x z with z|z
   .exact h z
   .rw[e]at z;cases z
 env:=λh=>by
  rw[Xp]at h;obtain⟨e1,e2⟩:=a.env h.1;obtain⟨e3,e4⟩:=b.env h.2;exact⟨e3.trans e1,e4.trans e2⟩
 grow:=λx h=>by
  rcases b.grow x h with h|h
  .exact a.grow x h
  .exact .inr (a.al x h)
 al:=λx h=>a.al x (b.al x h)
theorem Rel.frameL(R:Rel C io H O δ fp ex)(S:Stp p H δ fp H' δ' fp')(hc:p=YD\/c=YD)(hx:∀a,ex' a->ex a\/H a=YC) :
  (∀ a (xs:MuO),(c=YD->Lf C fp ex a)->Rd H a xs.ho->(c=YD->Lf C fp' ex' a)/\Rd H' a xs.ho)/\(∀a (xs:ImO),H a=YB xs.ho->H' a=YB xs.ho):=by
 have nf:∀a,Foot fp a->∃xs:MuO,H a=YB xs.ho:=λa h=>R.foot h;refine⟨λa xs l q=>⟨λhc'=>?_,?_⟩,λa xs q=>S.keep a _ q (.inr λz=>?_)⟩
 .obtain⟨l1,l2,l3⟩:=l hc'
  refine⟨λz=>?_,λz=>?_,l3⟩
  .rcases S.grow a z with z|z
   .exact l1 z
   .exact q.some z
  .rcases hx a z with z|z
   .exact l2 z
   .exact q.some z
 .have hk:p=YD\/¬Foot fp a:=by
   rcases hc with h|h
   .exact .inl h
   .exact .inr (l h).1
  rcases q with q|⟨o,q⟩
  .exact .inl (S.keep a _ q hk)
  .exact .inr ⟨o,S.keep a _ q hk⟩
 .obtain⟨ys,e⟩:=nf a z
  exact ImO.nm q e
theorem Rel.own_step(R:Rel C io H O δ fp ex)(S:Stp p H δ fp H' δ' fp')(hc:p=YD\/c=YD)(hx:∀a,ex' a->ex a\/H a=YC)(hn:∀a∈new,ex a)
  (x:Own G H (λa=>c=YD->Lf C fp ex a) v r new):Own G H' (λa=>c=YD->Lf C fp' ex' a) v r new :=
 x.frame (R.frameL S hc hx).1 (R.frameL S hc hx).2 λa m xs e=>S.keep a _ e (.inr λ⟨i,z⟩=>R.dx i a z (hn a m))
theorem Rel.owns_step(R:Rel C io H O δ fp ex)(S:Stp p H δ fp H' δ' fp')(hc:p=YD\/c=YD)(hx:∀a,ex' a->ex a\/H a=YC)(hn:∀a∈new,ex a){vs:List V}{rs:List OT}
  (x:Owns G H (λa=>c=YD->Lf C fp ex a) vs rs new):Owns G H' (λa=>c=YD->Lf C fp' ex' a) vs rs new :=
 x.frame (R.frameL S hc hx).1 (R.frameL S hc hx).2 λa m xs e=>S.keep a _ e (.inr λ⟨i,z⟩=>R.dx i a z (hn a m))
theorem Rel.drop(R:Rel C io H O δ fp ex)(h:∀a,ex' a->ex a):Rel C io H O δ fp ex' :=
 ⟨R.len,λi t e=>by
  obtain⟨v,e1,o⟩:=R.own i t e;exact⟨v,e1,o.wide λa l _=>⟨l.1,λz=>l.2.1 (h a z),l.2.2⟩⟩,R.emp,R.nd,R.dj,λi a m z=>R.dx i a m (h a z),λa z=>R.xa a (h a z),R.fr,R.al,R.new,R.io⟩
theorem Rel.made(R:Rel C io H O δ fp ex)(s:Same H H')(hn:∀a∈new,H a=YC/\H' a≠YC):Rel C io H' O δ fp (λa=>ex a\/a∈new) :=
 ⟨R.len,λi t e=>by
  obtain⟨v,e1,o⟩:=R.own i t e;refine⟨v,e1,(o.wide λa l q=>⟨l.1,λz=>?_,l.2.2⟩).same s⟩;rcases z with z|z
  .exact l.2.1 z
  .exact q (hn a z).1,R.emp,R.nd,R.dj,λi a m z=>by
   rcases z with z|z
   .exact R.dx i a m z
   .exact R.footSome (hn a z).1 ⟨i,m⟩,λa z=>by
   rcases z with z|z
   .intro q;exact R.xa a z (s.free q)
   .exact(hn a z).2,λb o e n=>s _ _ (R.fr b o e n),λb q=>R.al b (s.free q),R.new,R.io⟩
end
abbrev MEt:=Zi->(OT->Zi->Prop)->Prop
abbrev MAt:=Zi->(List OT->Zi->Prop)->Prop
abbrev MTt:=Zi->(Bool->Zi->Prop)->Prop
abbrev exu(ex:YG->Prop)(new:List YG):YG->Prop:=λa=>ex a\/a∈new
structure RE(C:MC G)(io:List Nat)(p c:Bool)(H:Hp)(O:St)(δ:Zi)(fp:Fp)(ex:YG->Prop)(H':Hp)(v:V)(r:OT)(δ':Zi)(fp':Fp)(new:List YG):Prop where
 rel:Rel C io H' O δ' fp' (exu ex new)
 stp:Stp p H δ fp H' δ' fp'
 own:Own G H' (λa=>c=YD->Lf C fp' (exu ex new) a) v r new
 nd:new.Nodup
 fresh:∀a∈new,H a=YC
structure RA(C:MC G)(io:List Nat)(p c:Bool)(H:Hp)(O:St)(δ:Zi)(fp:Fp)(ex:YG->Prop)(H':Hp)(v:List V)(r:List OT)(δ':Zi)(fp':Fp)(new:List YG):Prop where
 rel:Rel C io H' O δ' fp' (exu ex new)
 stp:Stp p H δ fp H' δ' fp'
 own:Owns G H' (λa=>c=YD->Lf C fp' (exu ex new) a) v r new
 nd:new.Nodup
 fresh:∀a∈new,H a=YC
def SE(G:Xc)(io:List Nat)(p c:Bool)(t:TE)(m:MEt):Prop:=∀(C:MC G) (H:Hp) (O:St) (δ:Zi) (fp:Fp) (ex:YG->Prop) (K:OT->Zi->Prop) (Q:VK),Rel C io H O δ fp ex->m δ K ->
 (∀ H' v r δ' fp' new,RE C io p c H O δ fp ex H' v r δ' fp' new->K r δ'->Q v H')->t O H Q
def SA(G:Xc)(io:List Nat)(p c:Bool)(t:TA)(m:MAt):Prop:=∀(C:MC G) (H:Hp) (O:St) (δ:Zi) (fp:Fp) (ex:YG->Prop) (K:List OT->Zi->Prop) (Q:List V->Hp->Prop),Rel C io H O δ fp ex->m δ K ->
 (∀ H' v r δ' fp' new,RA C io p c H O δ fp ex H' v r δ' fp' new->K r δ'->Q v H')->t O H Q
def STt(G:Xc)(io:List Nat)(p:Bool)(t:TT)(m:MTt):Prop:=∀(C:MC G) (H:Hp) (O:St) (δ:Zi) (fp:Fp) (ex:YG->Prop) (K:Bool->Zi->Prop) (Q:Bool->Hp->Prop),Rel C io H O δ fp ex->m δ K ->
 (∀ H' b δ' fp',Rel C io H' O δ' fp' ex->Stp p H δ fp H' δ' fp'->K b δ'->Q b H')->t O H Q
def ME(X:Cx)(io:List Nat)(p c:Bool)(e:YJ)(m:MEt):Prop:=∃t,PE X e t/\SE X.K io p c t m
def MA(X:Cx)(io:List Nat)(p c:Bool)(e:List YJ)(m:MAt):Prop:=∃t,PA X e t/\SA X.K io p c t m
def MT(X:Cx)(io:List Nat)(p:Bool)(e:YJ)(m:MTt):Prop:=∃t,PT X e t/\STt X.K io p t m
def MW(X:Cx)(io:List Nat)(p:Bool)(e:YJ)(m:MTt):Prop:=∃t,PW X e t/\STt X.K io p t m
section
variable {C:MC G}{io:List Nat}{H'':Hp}{O:St}{δ δ' δ'':Zi}{fp fp' fp'':Fp}{ex ex':YG->Prop}{p p' c:Bool}{d:Xa}{r:OT}{vs:List V}{rs:List OT}{new:List YG}
theorem Rel.newOk(R:Rel C io H O δ fp ex)(h:H a=YC):¬Foot fp a/\¬ex a/\C.H₀ a=YC:=⟨R.footSome h,λz=>R.xa a z h,R.al a h⟩
theorem RE.da(R:RE C io p c H O δ fp ex H' v r δ' fp' new)(R0:Rel C io H O δ fp ex):Da G H' (λa=>c=YD->Lf C fp' ex a) v r.data:=by
 refine R.own.da (λa l _ h=>?_) (λa m _=>?_)
 .exact⟨(l h).1,λz=>(l h).2.1 (.inl z),(l h).2.2⟩
 .refine⟨λqz9=>?_,(R0.newOk (R.fresh a m)).2.1,.inr (R0.newOk (R.fresh a m)).2.2⟩
  obtain⟨i,z⟩:=qz9;exact R.rel.dx i a z (.inr m)
theorem RA.das(R:RA C io p c H O δ fp ex H' vs rs δ' fp' new)(R0:Rel C io H O δ fp ex):Das G H' (λa=>c=YD->Lf C fp' ex a) vs (OT.datas rs):=by
 refine R.own.das (λa l _ h=>?_) (λa m _=>?_)
 .exact⟨(l h).1,λz=>(l h).2.1 (.inl z),(l h).2.2⟩
 .refine⟨λqz9=>?_,(R0.newOk (R.fresh a m)).2.1,.inr (R0.newOk (R.fresh a m)).2.2⟩
  obtain⟨i,z⟩:=qz9;exact R.rel.dx i a z (.inr m)
theorem RE.base(R:RE C io p c H O δ fp ex H' v r δ' fp' new):Rel C io H' O δ' fp' ex:=R.rel.drop λa z=>.inl z
theorem RA.base(R:RA C io p c H O δ fp ex H' vs rs δ' fp' new):Rel C io H' O δ' fp' ex:=R.rel.drop λa z=>.inl z
theorem J2{a:YG}:exu ex [] a↔ex a:=by simp[exu]
theorem RE.fz(R:Rel C io H' O δ' fp' ex)(S:Stp p H δ fp H' δ' fp')(h:Da G H' (λa=>c=YD->Lf C fp' ex a) v d):RE C io p c H O δ fp ex H' v (.fz d) δ' fp' [] :=
 ⟨R.drop λa z=>J2.mp z,S,.fz (h.wide λa l _ hc=>⟨(l hc).1,λz=>(l hc).2.1 (J2.mp z),(l hc).2.2⟩),.nil,λa m=>nomatch m⟩
theorem RE.tree(R0:Rel C io H O δ fp ex)(R:Rel C io H1 O δ' fp' ex)(S:Stp p H δ fp H1 δ' fp')(s:Same H1 H')(hn:∀a∈new,H1 a=YC)(nd:new.Nodup)
  (o:Own G H' (λa=>((c=YD->Lf C fp' ex a)\/H1 a=YC)/\a∉new) v r new):RE C io p c H O δ fp ex H' v r δ' fp' new:=by
 refine⟨R.made s λa m=>⟨hn a m,λz=>?_⟩,?_,o.wide λa l q hc=>?_,nd,λa m=>S.al a (hn a m)⟩
 .obtain⟨xs,e⟩:=o.some a m
  rw[z]at e;cases e
 .have:=S.trans (p':=YD) (Stp.same (p:=YD) (δ:=δ') (fp:=fp') s s.al)
  rwa[U6]at this
 .rcases l.1 with l1|l1
  .exact⟨(l1 hc).1,λz=>z.elim (l1 hc).2.1 l.2,(l1 hc).2.2⟩
  .exact⟨R.footSome l1,λz=>z.elim (λz=>R.xa a z l1) l.2,.inr (R.al a l1)⟩
end
inductive ScD:V->Xa->Prop where
 | non:ScD .non .none
 | bl (b:Bool):ScD (.bl b) (.bool b)
 | int (i:Int):ScD (.int i) (.int i)
 | str (x:Str):ScD (.str x) (.str x)
theorem ScD.da{d:Xa}(h:ScD v d):Da G H L v d:=by
 cases h
 .exact .non
 .exact .bl _
 .exact .int _
 .exact .str _
section
variable {io:List Nat}{p p' c c':Bool}{a b:YJ}{m ma mb:MEt}
def Ydg(i:Nat):MEt:=λδ K=>match δ[i]? with|some (YB (.fz d))=>K (.fz d) δ|_=>False
def Ydo(i:Nat):MEt:=λδ K=>match δ[i]? with|some (YB t)=>K (.fz t.data) δ|_=>False
def mC(d:Xa):MEt:=λδ K=>K (.fz d) δ
theorem mv(i:Nat)(hN:X.N[i]? =YB x:=by rfl)(hv:Vis X.env.scope x:=by first|exact QG rfl|exact Qt (QG rfl)|exact Qt (Qt rfl))(hd:(x==("__debug__" : Str))=YF:=by decide)
  (hcd:(x==("__classdict__" : Str))=YF:=by decide):ME X io YD YD (.Name x pos) (Ydg i):=by
 refine⟨_,pv i hN hv hd hcd,λC H O δ fp ex K Q R h k=>?_⟩;unfold Ydg at h;split at h
 .rename_i d hd
  obtain⟨v,e,o⟩:=R.own i _ hd;refine⟨v,e,k H v _ δ fp [] (.fz R (.refl _ _ _ _) ?_) h⟩;generalize fp i=as at o;cases o with
  | fz q=>exact q.wide λa l _ _=>l
 .exact h.elim
theorem mo(i:Nat)(hN:X.N[i]? =YB x:=by rfl)(hv:Vis X.env.scope x:=by first|exact QG rfl|exact Qt (QG rfl)|exact Qt (Qt rfl))(hd:(x==("__debug__" : Str))=YF:=by decide)
  (hcd:(x==("__classdict__" : Str))=YF:=by decide):ME X io YD YF (.Name x pos) (Ydo i):=by
 refine⟨_,pv i hN hv hd hcd,λC H O δ fp ex K Q R h k=>?_⟩;unfold Ydo at h;split at h
 .rename_i d hd
  obtain⟨v,e,o⟩:=R.own i _ hd;exact⟨v,e,k H v _ δ fp [] (.fz R (.refl _ _ _ _) (o.da (λa _ _ z=>(nomatch z)) λa _ z=>(nomatch z))) h⟩
 .exact h.elim
theorem Zjc{t:V}{d:Xa}(h:PE X e (tC t))(s:ScD t d):ME X io YD YD e (mC d) :=
 ⟨_,h,λC H O δ fp ex K Q R h k=>k H t _ δ fp [] (.fz R (.refl _ _ _ _) s.da) h⟩
theorem Z8w{i j pos}:ME X io YD YD (.Constant (.int i) j pos) (mC (.int i)):=Zjc Yce (.int i)
theorem Zwo{b j pos}:ME X io YD YD (.Constant (.bool b) j pos) (mC (.bool b)):=Zjc Ye2 (.bl b)
theorem Zou{j pos}:ME X io YD YD (.Constant .none j pos) (mC .none):=Zjc Z94 .non
theorem Zt2{x j pos}:ME X io YD YD (.Constant (.str x) j pos) (mC (.str x)):=Zjc Z8t (.str x)
theorem SE.two(ha:SE G io p c ta ma)(hb:SE G io p' c' tb mb)(hc:p'=YD\/c=YD){C:MC G}{O:St}{δ:Zi}{fp:Fp}{ex:YG->Prop}{K:OT->OT->Zi->Prop}{Q:V->V->Hp->Prop}
  (R:Rel C io H O δ fp ex) (h:ma δ λx δ1=>mb δ1 λy δ2=>K x y δ2)
  (k:∀H' x y u v δ' fp',Rel C io H' O δ' fp' ex->Stp (p&&p') H δ fp H' δ' fp'->Da G H' (λa=>(c&&c')=YD->Lf C fp' ex a) x u.data->Da G H' (λa=>(c&&c')=YD->Lf C fp' ex a) y v.data->K u v δ'->Q x y H') :
  ta O H λx H1=>tb O H1 λy H2=>Q x y H2:=by
 refine ha C H O δ fp ex _ _ R h λH1 x u δ1 fp1 new1 r1 h1=>?_;refine hb C H1 O δ1 fp1 (exu ex new1) _ _ r1.rel h1 λH2 y v δ2 fp2 new2 r2 h2=>?_;have o1:=r1.rel.own_step (ex':=exu (exu ex new1) new2) r2.stp (c:=c) hc (λa z=>z.imp id λz=>r2.fresh a z) (λa m=>.inr m) r1.own;have R2:Rel C io H2 O δ2 fp2 ex:=r2.rel.drop λa z=>.inl (.inl z);have q1:Da G H2 (λa=>c=YD->Lf C fp2 ex a) x u.data:=by
  refine o1.da (λa l _ z=>?_) (λa m z=>?_)
  .exact⟨(l z).1,λw=>(l z).2.1 (.inl (.inl w)),(l z).2.2⟩
  .have:=R.newOk (r1.fresh a m)
   refine⟨λqz9=>?_,this.2.1,.inr this.2.2⟩;obtain⟨i,w⟩:=qz9;exact r2.rel.dx i a w (.inl (.inr m))
 have q2:=r2.da r1.rel;refine k H2 x y u v δ2 fp2 R2 (r1.stp.trans r2.stp) (q1.wide λa l _ z=>l (by rw[Xp]at z;exact z.1)) (q2.wide λa l _ z=>?_) h2;have l:=l (by rw[Xp]at z;exact z.2);exact⟨l.1,λw=>l.2.1 (.inl w),l.2.2⟩
def P2s(G:Xc)(r:R2)(rp:Xa->Xa->(Xa->Prop)->Prop):Prop:=∀(H:Hp) (L:YG->Prop) (x y:V) (d e:Xa) (k:Xa->Prop) (Q:VK),Da G H L x d->Da G H L y e->rp d e k->(∀v d',ScD v d'->k d'->Q v H)->r x y H Q
def P2(G:Xc)(r:R2)(rp:Xa->Xa->(OT->Prop)->Prop):Prop:=∀(H:Hp) (L:YG->Prop) (x y:V) (d e:Xa) (k:OT->Prop) (Q:VK),Da G H L x d->Da G H L y e->rp d e k ->
 (∀ H' v o new,Same H H'->Own G H' (λa=>(L a\/H a=YC)/\a∉new) v o new->new.Nodup->(∀a∈new,H a=YC)->k o->Q v H')->r x y H Q
def Znn(rp:Xa->Xa->(Xa->Prop)->Prop)(ma mb:MEt):MEt:=λδ K=>ma δ λx δ1=>mb δ1 λy δ2=>rp x.data y.data λd=>K (.fz d) δ2
def Ydn(rp:Xa->Xa->(OT->Prop)->Prop)(ma mb:MEt):MEt:=λδ K=>ma δ λx δ1=>mb δ1 λy δ2=>rp x.data y.data λd=>K d δ2
theorem Z2y{rp}(P:P2s G r rp)(ha:SE G io p c ta ma)(hb:SE G io p' c' tb mb)(hc:p'=YD\/c=YD):SE G io (p&&p') YD (tOp r ta tb) (Znn rp ma mb):=by
 intro C H O δ fp ex K Q R h k;refine SE.two (K:=λx y δ2=>rp x.data y.data λd=>K (.fz d) δ2) (Q:=λx y H2=>r x y H2 Q) ha hb hc R h λH' x y u v δ' fp' R' S q1 q2 h'=>?_;exact P H' _ x y _ _ _ _ q1 q2 h' λw d' sc h''=>k H' w _ δ' fp' [] (.fz R' S sc.da) h''
theorem Yhn{rp}(P:P2 G r rp)(ha:SE G io p c ta ma)(hb:SE G io p' c' tb mb)(hc:p'=YD\/c=YD):SE G io (p&&p') (c&&c') (tOp r ta tb) (Ydn rp ma mb):=by
 intro C H O δ fp ex K Q R h k;refine SE.two (K:=λx y δ2=>rp x.data y.data λd=>K d δ2) (Q:=λx y H2=>r x y H2 Q) ha hb hc R h λH' x y u v δ' fp' R' S q1 q2 h'=>?_;exact P H' _ x y _ _ _ _ q1 q2 h' λH2 w o new s ow nd hn h''=>k H2 w o δ' fp' new (RE.tree R R' S s hn nd ow) h''
theorem Zq5{op:Operator}{rp}(ho:OpR X (VM op) r)(P:P2s X.K r rp)(ha:ME X io p c a ma)(hb:ME X io p' c' b mb)(hc:p'=YD\/c=YD:=by first|exact QG rfl|exact Qt rfl):ME X io (p&&p') YD (.BinOp a op b pos) (Znn rp ma mb):=by
 obtain⟨_,A,sa⟩:=ha;obtain⟨_,B,sb⟩:=hb;exact⟨_,Z3s ho A B,Z2y P sa sb hc⟩
theorem Z73{op:Operator}{rp}(ho:OpR X (VM op) r)(P:P2 X.K r rp)(ha:ME X io p c a ma)(hb:ME X io p' c' b mb)(hc:p'=YD\/c=YD:=by first|exact QG rfl|exact Qt rfl):ME X io (p&&p') (c&&c') (.BinOp a op b pos) (Ydn rp ma mb):=by
 obtain⟨_,A,sa⟩:=ha;obtain⟨_,B,sb⟩:=hb;exact⟨_,Z3s ho A B,Yhn P sa sb hc⟩
theorem Zk8{rp}(ho:OpR X (Bj op) r)(P:P2s X.K r rp)(ha:ME X io p c a ma)(hb:ME X io p' c' b mb)(hc:p'=YD\/c=YD:=by first|exact QG rfl|exact Qt rfl)(hm:behindInMarks op b=YF):ME X io (p&&p') YD (.Compare a [op] [b] pos) (Znn rp ma mb):=by
 obtain⟨_,A,sa⟩:=ha;obtain⟨_,B,sb⟩:=hb;exact⟨_,Z68 ho A B hm,Z2y P sa sb hc⟩
theorem Yjj{rp}(ho:IxR X r)(P:P2 X.K r rp)(ha:ME X io p c a ma)(hb:ME X io p' c' b mb)(hc:p'=YD\/c=YD:=by first|exact QG rfl|exact Qt rfl)(hs:Zgr b):ME X io (p&&p') (c&&c') (.Subscript a b pos) (Ydn rp ma mb):=by
 obtain⟨_,A,sa⟩:=ha;obtain⟨_,B,sb⟩:=hb;exact⟨_,Z5x ho A B hs,Yhn P sa sb hc⟩
def kB(K:Bool->Zi->Prop):OT->Zi->Prop:=λo δ=>match o with| .fz (.bool b)=>K b δ|_=>False
theorem Yes{t:TE}(h:SE G io p c t m):STt G io p (Z78 t) (λδ K=>m δ (kB K)):=by
 intro C H O δ fp ex K Q R h' k;refine h C H O δ fp ex _ _ R h' λH' v r δ' fp' new r1 h1=>?_;cases r with
 | nd ts=>exact h1.elim
 | tp ts=>exact h1.elim
 | dc _ _ _=>exact h1.elim
 | fz d=>
  cases d with
  | bool b=>
   cases r1.own with
   | fz q=>
    cases q;exact⟨b,rfl,k H' b δ' fp' r1.base r1.stp h1⟩
  | _=>exact h1.elim
theorem Zah{rp}(ho:OpR X (Bj op) r)(P:P2s X.K r rp)(ha:ME X io p c a ma)(hb:ME X io p' c' b mb)(hc:p'=YD\/c=YD:=by first|exact QG rfl|exact Qt rfl)(hm:behindInMarks op b=YF) :
  MT X io (p&&p') (.Compare a [op] [b] pos) (λδ K=>Znn rp ma mb δ (kB K)):=by
 obtain⟨_,A,sa⟩:=ha;obtain⟨_,B,sb⟩:=hb;exact⟨_,Z4m ho A B hm,Yes (Z2y P sa sb hc)⟩
end
section
variable {io:List Nat}{p p' p'' c c':Bool}{a b:YJ}{m ma mb:MEt}{rest:List YJ}{ta tb:MTt}
def Yii(t:MTt):MTt:=λδ K=>t δ λb δ'=>K (!b) δ'
def Yhb(t u:MTt):MTt:=λδ K=>t δ λb δ'=>if b=YD then u δ' K else K YF δ'
def mOr(t u:MTt):MTt:=λδ K=>t δ λb δ'=>if b=YD then K YD δ' else u δ' K
theorem Z14(h:MT X io p a ta):MT X io p (.UnaryOp .Not a pos) (Yii ta):=by
 obtain⟨_,A,sa⟩:=h;exact⟨_,Z9y A,λC H O δ fp ex K Q R h k=>sa C H O δ fp ex _ _ R h λH' b δ' fp' R' S h'=>k H' (!b) δ' fp' R' S h'⟩
theorem Z2r(h:MT X io p a ta):MW X io p (.BoolOp .And [a] pos) ta:=by
 obtain⟨_,A,sa⟩:=h;exact⟨_,Z30 A,sa⟩
theorem Z10(h:MT X io p a ta):MW X io p (.BoolOp .Or [a] pos) ta:=by
 obtain⟨_,A,sa⟩:=h;exact⟨_,Ybs A,sa⟩
theorem Stp.andL{δ δ':Zi}{fp fp':Fp}(S:Stp p H δ fp H' δ' fp'):Stp (p&&p') H δ fp H' δ' fp':=by
 have:=S.trans (Stp.refl p' H' δ' fp');exact this
theorem Z8j(h:MT X io p a ta)(g:MW X io p' (.BoolOp .And (b::rest) pos) tb):MW X io (p&&p') (.BoolOp .And (a::b::rest) pos) (Yhb ta tb):=by
 obtain⟨_,A,sa⟩:=h;obtain⟨_,B,sb⟩:=g;exact⟨_,Z8r A B,λC H O δ fp ex K Q R h k=>sa C H O δ fp ex _ _ R h λH' b δ' fp' R' S h'=>by
  cases b with
  | true=>
   rw[YL rfl]at h'|-
   exact sb C H' O δ' fp' ex _ _ R' h' λH2 b2 δ2 fp2 R2 S2 h2=>k H2 b2 δ2 fp2 R2 (S.trans S2) h2
  | false=>
   rw[YM Xn]at h'|-
   exact k H' YF δ' fp' R' S.andL h'⟩
theorem Z6w(h:MT X io p a ta)(g:MW X io p' (.BoolOp .Or (b::rest) pos) tb):MW X io (p&&p') (.BoolOp .Or (a::b::rest) pos) (mOr ta tb):=by
 obtain⟨_,A,sa⟩:=h;obtain⟨_,B,sb⟩:=g;exact⟨_,Ygh A B,λC H O δ fp ex K Q R h k=>sa C H O δ fp ex _ _ R h λH' b δ' fp' R' S h'=>by
  cases b with
  | true=>
   rw[YL rfl]at h'|-
   exact k H' YD δ' fp' R' S.andL h'
  | false=>
   rw[YM Xn]at h'|-
   exact sb C H' O δ' fp' ex _ _ R' h' λH2 b2 δ2 fp2 R2 S2 h2=>k H2 b2 δ2 fp2 R2 (S.trans S2) h2⟩
theorem MW.mt(h:MW X io p e ta):MT X io p e ta:=by
 obtain⟨_,A,sa⟩:=h;exact⟨_,A.pt,sa⟩
def Zxe:Xa->Option Bool
 | .none=>YB YF
 | .bool b=>YB b
 | .int i=>YB (i !=0)
 | .list ds=>YB (!ds.isEmpty)
 | .tuple ds=>YB (!ds.isEmpty)
 | _=>YC
def Yg4(m:MEt):MTt:=λδ K=>m δ λr δ'=>match Zxe r.data with|some b=>K b δ'|none=>False
theorem Das.isEmpty(h:Das G H L xs ds):xs.isEmpty=ds.isEmpty:=by cases h<;>rfl
theorem Zem(ha:ME X io p c a ma)(he:∀whole,isTrue a X.env whole=(do let v<-whole;standAt a.pos;holding [v] (truthy v))):MT X io p a (Yg4 ma):=by
 obtain⟨_,A,sa⟩:=ha;exact⟨_,Z19 rfl A he,λC H O δ fp ex K' Q R h k=>sa C H O δ fp ex _ _ R h λH' v r δ' fp' new r1 h1=>by
  have q:=r1.da R;generalize r.data=d at q h1;cases q with
  | non=>exact⟨_,rfl,k H' _ δ' fp' r1.base r1.stp h1⟩
  | bl b=>exact⟨_,rfl,k H' _ δ' fp' r1.base r1.stp h1⟩
  | int b=>exact⟨_,rfl,k H' _ δ' fp' r1.base r1.stp h1⟩
  | str x=>exact h1.elim
  | lst _ e q=>exact⟨_,.inl ⟨_,.inl e,rfl⟩,k H' _ δ' fp' r1.base r1.stp (by rw[q.isEmpty];exact h1)⟩
  | tup e q=>exact⟨_,.inr (.inl ⟨_,.inl (.inl e),rfl⟩),k H' _ δ' fp' r1.base r1.stp (by rw[q.isEmpty];exact h1)⟩
  | scr q=>exact⟨_,.inl ⟨_,q.sq,rfl⟩,k H' _ δ' fp' r1.base r1.stp (by simpa [Zxe]using h1)⟩
  | exc _ _ _=>exact h1.elim
  | fn _=>exact h1.elim
  | dic _ _ _ _=>exact h1.elim⟩
def asB(d:Xa)(k:Bool->Prop):Prop:=match d with| .bool b=>k b|_=>False
def Z8g(a b:MEt):MEt:=λδ K=>a δ λx δ1=>asB x.data λc=>if c=YD then b δ1 K else K (.fz (.bool YF)) δ1
def Z93(a:MEt):MEt:=λδ K=>a δ λx δ1=>asB x.data λc=>K (.fz (.bool (!c))) δ1
def mIf(t:MTt)(a b:MEt):MEt:=λδ K=>t δ λc δ1=>if c=YD then a δ1 K else b δ1 K
theorem Da.boolInv{d:Xa}{k:Bool->Prop}(q:Da G H L v d)(h:asB d k):∃b,v= .bl b/\k b:=by
 cases q with
 | bl b=>exact⟨b,rfl,h⟩
 | _=>exact h.elim
theorem RE.step{C:MC G}{O:St}{δ δ1 δ2:Zi}{fp fp1 fp2:Fp}{ex:YG->Prop}{r:OT}{new:List YG}(S:Stp p H δ fp H1 δ1 fp1)(R:RE C io p' c H1 O δ1 fp1 ex H2 v r δ2 fp2 new) :
  RE C io (p&&p') c H O δ fp ex H2 v r δ2 fp2 new:=⟨R.rel,S.trans R.stp,R.own,R.nd,λa m=>S.al a (R.fresh a m)⟩
theorem Zzq{op}(h:ME X io p c a ma):ME X io p c (.BoolOp op [a] pos) ma:=by
 obtain⟨_,A,sa⟩:=h;exact⟨_,Yb1 A,sa⟩
theorem Zt7(ha:ME X io p c a ma)(hb:ME X io p' c' (.BoolOp .And (b::rest) pos) mb):ME X io (p&&p') c' (.BoolOp .And (a::b::rest) pos) (Z8g ma mb):=by
 obtain⟨_,A,sa⟩:=ha;obtain⟨_,B,sb⟩:=hb;exact⟨_,Ycd A B,λC H O δ fp ex K Q R h k=>sa C H O δ fp ex _ _ R h λH' v r δ' fp' new r1 h1=>by
  obtain⟨b,rfl,h1⟩:=(r1.da R).boolInv h1;refine⟨b,rfl,?_⟩;cases b with
  | true=>
   rw[YL rfl]at h1|-
   exact sb C H' O δ' fp' ex _ _ r1.base h1 λH2 w r2 δ2 fp2 new2 R2 h2=>k H2 w r2 δ2 fp2 new2 (R2.step r1.stp) h2
  | false=>
   rw[YM Xn]at h1|-
   exact k H' _ _ δ' fp' [] (RE.fz r1.base r1.stp.andL (.bl YF)) h1⟩
theorem Ycr(ha:ME X io p c a ma):ME X io p YD (.UnaryOp .Not a pos) (Z93 ma):=by
 obtain⟨_,A,sa⟩:=ha;exact⟨_,Z8d A,λC H O δ fp ex K Q R h k=>sa C H O δ fp ex _ _ R h λH' v r δ' fp' new r1 h1=>by
  obtain⟨b,rfl,h1⟩:=(r1.da R).boolInv h1;exact⟨b,rfl,k H' _ _ δ' fp' [] (RE.fz r1.base r1.stp (.bl _)) h1⟩⟩
theorem Stp.cast{p p':Bool}{δ δ':Zi}{fp fp':Fp}(h:p'=YD->p=YD)(S:Stp p H δ fp H' δ' fp'):Stp p' H δ fp H' δ' fp' :=
 ⟨λb o e q=>S.keep b o e (q.imp h id),λq=>S.env (h q),S.grow,S.al⟩
theorem RE.cast{C:MC G}{O:St}{δ δ1:Zi}{fp fp1:Fp}{ex:YG->Prop}{r:OT}{new:List YG}(hp:p'=YD->p=YD)(hc:c'=YD->c=YD)(R:RE C io p c H O δ fp ex H1 v r δ1 fp1 new) :
  RE C io p' c' H O δ fp ex H1 v r δ1 fp1 new:=⟨R.rel,R.stp.cast hp,R.own.wide λa l _ z=>l (hc z),R.nd,R.fresh⟩
theorem Yjx{t:YJ}(ht:MT X io p t ta)(ha:ME X io p' c a ma)(hb:ME X io p'' c' b mb):ME X io (p&&(p'&&p'')) (c&&c') (.IfExp t a b pos) (mIf ta ma mb):=by
 obtain⟨_,T,st⟩:=ht;obtain⟨_,A,sa⟩:=ha;obtain⟨_,B,sb⟩:=hb;exact⟨_,Zzj T A B,λC H O δ fp ex K Q R h k=>st C H O δ fp ex _ _ R h λH' b δ' fp' R' S h'=>by
  cases b with
  | true=>
   rw[YL rfl]at h'|-
   exact sa C H' O δ' fp' ex _ _ R' h' λH2 w r2 δ2 fp2 new2 R2 h2=>k H2 w r2 δ2 fp2 new2 ((R2.step S).cast (λz=>by simp at z;simp[z]) (λz=>by simp at z;exact z.1)) h2
  | false=>
   rw[YM Xn]at h'|-
   exact sb C H' O δ' fp' ex _ _ R' h' λH2 w r2 δ2 fp2 new2 R2 h2=>k H2 w r2 δ2 fp2 new2 ((R2.step S).cast (λz=>by simp at z;simp[z]) (λz=>by simp at z;exact z.2)) h2⟩
end
section
variable {io:List Nat}{p p' p'' c c':Bool}{a b:YJ}{m ma mb:MEt}{rest:List YJ}{mr:MAt}
def Yid:MAt:=λδ K=>K [] δ
def Z9s(m:MEt)(mr:MAt):MAt:=λδ K=>m δ λr δ1=>mr δ1 λrs δ2=>K (r::rs) δ2
theorem Zlv:MA X io YD YD [] Yid:=⟨_,Zeu,λC H O δ fp ex K Q R h k=>k H [] [] δ fp [] ⟨R.drop λa z=>J2.mp z,.refl _ _ _ _,.nil,.nil,λa m=>nomatch m⟩ h⟩
theorem Z5j(ha:ME X io p c e m)(hr:MA X io p' c' es mr)(hc:p'=YD\/c=YD)(hs:Xq (e::es) X.env=(YF,eval e X.env)::Xq es X.env:=by rfl):MA X io (p&&p') (c&&c') (e::es) (Z9s m mr):=by
 obtain⟨tA,A,sa⟩:=ha;obtain⟨tB,B,sb⟩:=hr;refine⟨_,Za6 A B hs,λC H O δ fp ex K Q R h k=>?_⟩;refine sa C H O δ fp ex _ _ R h λH1 x u δ1 fp1 new1 r1 h1=>?_;refine sb C H1 O δ1 fp1 (exu ex new1) _ _ r1.rel h1 λH2 ys us δ2 fp2 new2 r2 h2=>?_;have o1:=r1.rel.own_step (ex':=exu (exu ex new1) new2) r2.stp (c:=c) hc (λa z=>z.imp id λz=>r2.fresh a z) (λa m=>.inr m) r1.own;have eqx:∀a,exu ex (new1++new2) a->exu (exu ex new1) new2 a:=λa z=>by
  rcases z with z|z
  .exact .inl (.inl z)
  .rcases Qo.mp z with z|z
   .exact .inl (.inr z)
   .exact .inr z
 refine k H2 (x::ys) (u::us) δ2 fp2 (new1++new2) ⟨r2.rel.drop eqx,r1.stp.trans r2.stp,.cons (o1.wide λa l _ z=>?_) (r2.own.wide λa l _ z=>?_),?_,?_⟩ h2
 .have l:=l (by rw[Xp]at z;exact z.1)
  exact⟨l.1,λw=>l.2.1 (eqx a w),l.2.2⟩
 .have l:=l (by rw[Xp]at z;exact z.2)
  exact⟨l.1,λw=>l.2.1 (eqx a w),l.2.2⟩
 .refine JW.mpr ⟨r1.nd,r2.nd,λa m b m' z=>?_⟩
  subst z;obtain⟨xs,e⟩:=r1.own.some a m;rw[r2.fresh a m']at e;cases e
 .intro a m
  rcases Qo.mp m with m|m
  .exact r1.fresh a m
  .exact r1.stp.al a (r2.fresh a m)
def Ygx(m:MAt):MEt:=λδ K=>m δ λrs δ'=>rs.length<=Xv/\K (.fz (.tuple (OT.datas rs))) δ'
def Yis(m:MAt):MEt:=λδ K=>m δ λrs δ'=>rs.length<=Xv/\K (.nd rs) δ'
theorem Yf0{x1}(h:MA X io p c es mr):ME X io p c (.Tuple es x1 pos) (Ygx mr):=by
 obtain⟨tA,A,sa⟩:=h;refine⟨_,Z88 A,λC H O δ fp ex K Q R h k=>?_⟩;refine sa C H O δ fp ex _ _ R h λH1 vs rs δ1 fp1 new1 r1 h1=>⟨by rw[r1.own.length];exact h1.1,λq hq=>?_⟩;have s:=Zz hq (.tup vs);have R1:=r1.base;have S:=r1.stp.trans (p':=YD) (Stp.same (p:=YD) (δ:=δ1) (fp:=fp1) s s.al);rw[U6]at S;refine k _ _ _ δ1 fp1 [] (.fz ?_ S (.tup Zx ((r1.das R).same s))) h1.2;exact(R1.made (new:=[]) s λa m=>nomatch m).drop λa z=>.inl z
theorem Ygn(h:MA X io p c es mr):ME X io p c (.List es pos) (Yis mr):=by
 obtain⟨tA,A,sa⟩:=h;refine⟨_,Z00 A,λC H O δ fp ex K Q R h k=>?_⟩;refine sa C H O δ fp ex _ _ R h λH1 vs rs δ1 fp1 new1 r1 h1=>⟨by rw[r1.own.length];exact h1.1,λq hq=>?_⟩;have s:=Zz hq (.lst vs);have S:=r1.stp.trans (p':=YD) (Stp.same (p:=YD) (δ:=δ1) (fp:=fp1) s s.al);rw[U6]at S;have hqn:q∉new1:=λm=>by
  obtain⟨xs,e⟩:=r1.own.some q m;rw[hq]at e;cases e
 have R2:=(r1.rel.made (new:=[q]) s λa m=>by
  rcases Xj.mp m with rfl;exact⟨hq,by rw[Zx];intro z;cases z⟩)
 have eqx:∀a,exu ex (q::new1) a->exu (exu ex new1) [q] a:=λa z=>by
  rcases z with z|z
  .exact .inl (.inl z)
  .rcases Xo.mp z with z|z
   .exact .inr (Xj.mpr z)
   .exact .inl (.inr z)
 refine k _ _ _ δ1 fp1 (q::new1) ⟨R2.drop eqx,S,.nd Zx ((r1.own.wide λa l w z=>?_).same s),Qn.mpr ⟨hqn,r1.nd⟩,λa m=>?_⟩ h1.2
 .have l:=l z
  refine⟨l.1,λy=>?_,l.2.2⟩;rcases eqx a y with y|y
  .exact l.2.1 y
  .rcases Xj.mp y with rfl
   exact w hq
 .rcases Xo.mp m with rfl|m
  .exact r1.stp.al _ hq
  .exact r1.fresh a m
end
def spD(G:Xc)(S:List Xa->(OT->Prop)->Prop):Sp:=λvs H Q _=>∃L ds k,Das G H L vs ds/\S ds k/\
 ∀r v H' new,k r->Same H H'->Own G H' (λa=>(L a\/H a=YC)/\a∉new) v r new->new.Nodup->(∀a∈new,H a=YC)->Q v H'
section
variable {io:List Nat}{p p' p'' c c':Bool}{a b:YJ}{m ma mb:MEt}{rest:List YJ}{mr:MAt}
variable {k:Nat}{f:YG}{fd:X3}{E:XK}{pp:Pos}
def Zy6(S:List Xa->(OT->Prop)->Prop)(mr:MAt):MEt:=λδ K=>mr δ λrs δ1=>S (OT.datas rs) λr=>K r δ1
theorem Ych{S}{t:TA}(sa:SA G io p c t mr):SE G io p c (Z2g (spD G S) [] E t) (Zy6 S mr):=by
 intro C H O δ fp ex K Q R h kk;refine sa C H O δ fp ex _ _ R h λH1 vs rs δ1 fp1 new1 r1 h1=>?_;rw[JP];refine⟨_,_,_,r1.das R,h1,λr v H' new kr s o nd hn=>?_⟩;exact kk H' v r δ1 fp1 new (RE.tree R r1.base r1.stp s hn nd o) kr
theorem Z03{S}(F:FnOk X.prog X.w X.K X.mg X.base CX k f fd ps (spD X.K S))(hr:Room k X.A)(hg:Gl X x)(hm:X.mg x=YB (.ref f))(hk:Vf X.K (.ref f)=YD)(hb:Binds X.K fd ps [])(hx:Ziw CX X E)
  (ha:MA X io p c (e::es) mr) (hdb:(x==("__debug__" : Str))=YF:=by decide) (he:Xq (e::es) X.env=(YF,eval e X.env)::Xq es X.env:=by rfl) (hpl:(JK pos (Xq es X.env)).any (·.1)=YF:=by rfl) :
  ME X io p c (.Call (.Name x pp) (e::es) [] pos) (Zy6 S mr):=by
 obtain⟨_,A,sa⟩:=ha;exact⟨_,Z33 F hr hg hm hk hb .nil hx A hdb he hpl,Ych sa⟩
theorem Yj9(hg:Gl X x)(hm:X.mg x=YB (.ref f))(hc:ClsAt X.K x f)(hdb:(x==("__debug__" : Str))=YF:=by decide):ME X io YD YD (.Name x pos) (mC (fnD x)) :=
 ⟨_,Z64 (v:=.ref f) hg hm rfl hdb,λC H O δ fp ex K Q R h k=>k H (.ref f) _ δ fp [] (.fz R (.refl _ _ _ _) (.fn hc)) h⟩
def Ya3(i:Nat)(f:YG)(sp:Sp)(E:XK)(t:TA):TE:=λO H Q=>O[i]? =YB (YB (.ref f))/\Z2g sp [] E t O H Q
theorem Zz2{t:TA}(F:FnOk X.prog X.w X.K X.mg X.base CX k f fd ps sp)(hr:Room k X.A)(hN:X.N[i]? =YB x)(hv:Vis X.env.scope x)(hk:Vf X.K (.ref f)=YD)(hb:Binds X.K fd ps [])(hx:Ziw CX X E)
  (ha:PA X (e::es) t) (hdb:(x==("__debug__" : Str))=YF:=by decide) (hcd:(x==("__classdict__" : Str))=YF:=by decide) (he:Xq (e::es) X.env=(YF,eval e X.env)::Xq es X.env:=by rfl) (hpl:(JK pos (Xq es X.env)).any (·.1)=YF:=by rfl) :
  PE X (.Call (.Name x pp) (e::es) [] pos) (Ya3 i f sp E t):=by
 intro pins s O H Q I h;obtain⟨e0,h⟩:=h;refine VR (thn (Z1x hN hv hdb hcd pins s O H (λv H'=>v= .ref f/\H'=H) I ⟨_,e0,rfl,rfl⟩) λu s0 q=>?_);obtain⟨v,H0,I0,r0,e1,e2⟩:=q;subst e1 e2;cases(show u=Qq f from r0);refine PySem.W.callWith_K (h₀:=X.base) I0.ok.mod.kin hk (thn (ha pos pins s0 O H0 _ I0 h) λus s1 q=>?_) he hpl;obtain⟨vs,H1,I1,r,q⟩:=q;exact⟨I1.kIn,Z1c F hr hb .nil hx I1 r q⟩
def Z1g(i:Nat)(y:Str)(S:List Xa->(OT->Prop)->Prop)(mr:MAt):MEt:=λδ K=>δ[i]? =YB (YB (.fz (fnD y)))/\Zy6 S mr δ K
theorem Da.fnInv{y:Str}{f:YG}(q:Da G H L v (fnD y))(hf:ClsAt G y f):v= .ref f:=by
 generalize ed:fnD y=d at q;cases q with
 | fn h=>
  unfold fnD at ed;injection ed with ed;injection ed with ed _;injection ed with ed _;injection ed with ed;subst ed;have:=h.symm.trans hf;injection this with this;injection this with this;injection this with this;rw[this]
 | exc _ _ _=>unfold fnD exD at ed;cases ed
 | _=>unfold fnD at ed;cases ed
theorem Zvv{S}{y:Str}(F:FnOk X.prog X.w X.K X.mg X.base CX k f fd ps (spD X.K S))(hr:Room k X.A)(hc:ClsAt X.K y f)(hk:Vf X.K (.ref f)=YD)(hb:Binds X.K fd ps [])(hx:Ziw CX X E)
  (ha:MA X io p c (e::es) mr) (hN:X.N[i]? =YB x:=by rfl) (hv:Vis X.env.scope x:=by first|exact QG rfl|exact Qt (QG rfl)|exact Qt (Qt rfl)) (hdb:(x==("__debug__" : Str))=YF:=by decide) (hcd:(x==("__classdict__" : Str))=YF:=by decide)
  (he:Xq (e::es) X.env=(YF,eval e X.env)::Xq es X.env:=by rfl) (hpl:(JK pos (Xq es X.env)).any (·.1)=YF:=by rfl):ME X io p c (.Call (.Name x pp) (e::es) [] pos) (Z1g i y S mr):=by
 obtain⟨_,A,sa⟩:=ha;refine⟨_,Zz2 F hr hN hv hk hb hx A hdb hcd he hpl,λC H O δ fp ex K Q R h kk=>?_⟩;obtain⟨h0,h⟩:=h;obtain⟨v,e1,o⟩:=R.own i _ h0;generalize fp i=as at o;cases o with
 | fz q=>
  rw[q.fnInv hc]at e1;exact⟨e1,Ych sa C H O δ fp ex K Q R h kk⟩
def fpu(fp:Fp)(i:Nat)(as:List YG):Fp:=λj=>if j=i then as else fp j
theorem Yc{fp:Fp}{as:List YG}:fpu fp i as i=as:=YL rfl
theorem Yy{fp:Fp}{as:List YG}(h:j≠i):fpu fp i as j=fp j:=YM h
theorem Foot.of_u{fp:Fp}{i:Nat}{as:List YG}{a:YG}(h:Foot (fpu fp i as) a):a∈as\/∃j,j≠i/\a∈fp j:=by
 obtain⟨j,h⟩:=h
 by_cases e:j=i
 .subst e;rw[Yc]at h;exact .inl h
 .rw[Yy e]at h;exact .inr ⟨j,e,h⟩
theorem Rel.change{C:MC G}{H H':Hp}{O:St}{δ:Zi}{fp:Fp}{ex:YG->Prop}{i:Nat}{t t':OT}{v:V}{as' new:List YG}(R:Rel C io H O δ fp ex)(hi:δ[i]? =YB (YB t))(hv:O[i]? =YB (YB v))
  (keep:∀b o,H b=YB o->b∉fp i->H' b=YB o) (al:∀b,H' b=YC->H b=YC) (o:Own G H' (Lf C (fpu fp i as') (exu ex new)) v t' as') (nd:as'.Nodup) (new':∀a∈as',a∈fp i\/H a=YC)
  (hn:∀a∈new,H a=YC/\H' a≠YC/\a∉as') :
  Rel C io H' O (δ.set i (YB t')) (fpu fp i as') (exu ex new)/\Stp YF H δ fp H' (δ.set i (YB t')) (fpu fp i as'):=by
 have hil:i<δ.length:=(Xu.mp hi).1;have apart:∀j a,j≠i->a∈fp j->a∉as':=λj a e m z=>by
  rcases new' a z with z|z
  .exact e (R.dj j i a m z)
  .exact R.footSome z ⟨j,m⟩
 constructor
 .refine⟨by rw[Vo];exact R.len,λj t'' e=>?_,λj h=>?_,λj=>?_,λj k a h1 h2=>?_,λj a h z=>?_,λa z w=>z.elim (λz=>R.xa a z (al a w)) (λz=>(hn a z).2.1 w),λb ob e n=>?_,λb z=>R.al b (al b z),λj a h=>?_,R.io⟩
  .by_cases ej:j=i
   .subst ej
    rw[JB hil]at e;cases e;exact⟨v,hv,by rw[Yc];exact o⟩
   .rw[QR (Vn ej)]at e
    obtain⟨w,e1,o1⟩:=R.own j t'' e;refine⟨w,e1,?_⟩;rw[Yy ej];refine o1.frame (λa xs l q=>?_) (λa xs q=>keep a _ q λz=>?_) λa m xs q=>keep a _ q λz=>ej (R.dj j i a m z)
    .have na:a∉fp i:=λz=>l.1 ⟨i,z⟩
     refine⟨⟨λz=>?_,λz=>z.elim l.2.1 λz=>q.some (hn a z).1,l.2.2⟩,?_⟩
     .rcases z.of_u with z|⟨k,_,z⟩
      .rcases new' a z with z|z
       .exact na z
       .exact q.some z
      .exact l.1 ⟨k,z⟩
     .rcases q with q|⟨u,q⟩
      .exact .inl (keep a _ q na)
      .exact .inr ⟨u,keep a _ q na⟩
    .obtain⟨ys,e⟩:=R.foot ⟨i,z⟩
     exact ImO.nm q e
  .by_cases ej:j=i
   .subst ej
    exact YX (JB hil) (h t')
   .rw[Yy ej]
    refine R.emp j λt'' z=>h t'' ?_;rw[QR (Vn ej)];exact z
  .by_cases ej:j=i
   .subst ej;rw[Yc];exact nd
   .rw[Yy ej];exact R.nd j
  .by_cases ej:j=i
   .subst ej
    rw[Yc]at h1
    by_cases ek:k=j
    .exact ek.symm
    .rw[Yy ek]at h2
     exact YX h1 (apart k a ek h2)
   .rw[Yy ej]at h1
    by_cases ek:k=i
    .subst ek
     rw[Yc]at h2;exact YX h2 (apart j a ej h1)
    .rw[Yy ek]at h2
     exact R.dj j k a h1 h2
  .by_cases ej:j=i
   .subst ej
    rw[Yc]at h;rcases z with z|z
    .rcases new' a h with w|w
     .exact R.dx _ a w z
     .exact R.xa a z w
    .exact(hn a z).2.2 h
   .rw[Yy ej]at h
    rcases z with z|z
    .exact R.dx j a h z
    .exact R.footSome (hn a z).1 ⟨j,h⟩
  .refine keep b ob (R.fr b ob e n) λz=>?_
   rcases R.new i b z with w|w
   .exact n w.2
   .rw[e]at w;cases w
  .by_cases ej:j=i
   .subst ej
    rw[Yc]at h;rcases new' a h with w|w
    .exact R.new _ a w
    .exact .inr (R.al a w)
   .rw[Yy ej]at h
    exact R.new j a h
 .refine⟨λb ob e q=>keep b ob e λz=>(q.resolve_left (by decide)) ⟨i,z⟩,λz=>(nomatch z),λa z=>?_,al⟩
  rcases z.of_u with z|⟨j,_,z⟩
  .exact(new' a z).imp (λw=>⟨i,w⟩) id
  .exact .inl ⟨j,z⟩
def PNs(G:Xc)(r:List V->Hp->VK->Prop)(rp:List Xa->(Xa->Prop)->Prop):Prop:=∀(H:Hp) (L:YG->Prop) (xs:List V) (ds:List Xa) (k:Xa->Prop) (Q:VK),Das G H L xs ds->rp ds k->(∀v d',ScD v d'->k d'->Q v H)->r xs H Q
def PN(G:Xc)(r:List V->Hp->VK->Prop)(rp:List Xa->(OT->Prop)->Prop):Prop:=∀(H:Hp) (L:YG->Prop) (xs:List V) (ds:List Xa) (k:OT->Prop) (Q:VK),Das G H L xs ds->rp ds k ->
 (∀ H' v o new,Same H H'->Own G H' (λa=>(L a\/H a=YC)/\a∉new) v o new->new.Nodup->(∀a∈new,H a=YC)->k o->Q v H')->r xs H Q
def Yec(rp:List Xa->(Xa->Prop)->Prop)(mr:MAt):MEt:=λδ K=>mr δ λrs δ1=>rp (OT.datas rs) λd=>K (.fz d) δ1
def mBl(rp:List Xa->(OT->Prop)->Prop)(mr:MAt):MEt:=λδ K=>mr δ λrs δ1=>rp (OT.datas rs) λo=>K o δ1
theorem Yj7{r rp}{t:TA}(P:PNs G r rp)(sa:SA G io p c t mr):SE G io p YD (tCB r t) (Yec rp mr):=λC H O δ fp ex K Q R h kk=>
 sa C H O δ fp ex _ _ R h λH1 vs rs δ1 fp1 new1 r1 h1=>P H1 _ vs _ _ _ (r1.das R) h1 λv d' sc h2=>kk H1 v _ δ1 fp1 [] (.fz r1.base r1.stp sc.da) h2
theorem sBl{r rp}{t:TA}(P:PN G r rp)(sa:SA G io p c t mr):SE G io p c (tCB r t) (mBl rp mr):=λC H O δ fp ex K Q R h kk=>
 sa C H O δ fp ex _ _ R h λH1 vs rs δ1 fp1 new1 r1 h1=>P H1 _ vs _ _ _ (r1.das R) h1 λH' v o new s ow nd hn h2=>kk H' v o δ1 fp1 new (RE.tree R r1.base r1.stp s hn nd ow) h2
variable {T:String}{r:List V->Hp->VK->Prop}
theorem Zml{rp}(P:PNs X.K r rp)(hc:Zar X (.builtin id) r)(hg:Gl X x)(hm:X.mg x=YC)(hv:Qk x=YB (.builtin id))(ha:MA X io p c (e::es) mr)(hn:x≠"__name__" :=by decide)(hdb:(x==("__debug__" : Str))=YF:=by decide)
  (he:Xq (e::es) X.env=(YF,eval e X.env)::Xq es X.env:=by rfl) (hpl:(JK pos (Xq es X.env)).any (·.1)=YF:=by rfl):ME X io p YD (.Call (.Name x pp) (e::es) [] pos) (Yec rp mr):=by
 obtain⟨_,A,sa⟩:=ha;exact⟨_,Zgg hc hg hm hv A hn hdb he hpl,Yj7 P sa⟩
theorem Ydk{rp}(P:PN X.K r rp)(hc:Zar X (.builtin id) r)(hg:Gl X x)(hm:X.mg x=YC)(hv:Qk x=YB (.builtin id))(ha:MA X io p c (e::es) mr)(hn:x≠"__name__" :=by decide)(hdb:(x==("__debug__" : Str))=YF:=by decide)
  (he:Xq (e::es) X.env=(YF,eval e X.env)::Xq es X.env:=by rfl) (hpl:(JK pos (Xq es X.env)).any (·.1)=YF:=by rfl):ME X io p c (.Call (.Name x pp) (e::es) [] pos) (mBl rp mr):=by
 obtain⟨_,A,sa⟩:=ha;exact⟨_,Zgg hc hg hm hv A hn hdb he hpl,sBl P sa⟩
theorem Yd1{rp}(P:PN X.K r rp)(hc:Zar X (.type T) r)(hg:Gl X x)(hm:X.mg x=YC)(hv:Qk x=YB (.type T))(ha:MA X io p c (e::es) mr)(hn:x≠"__name__" :=by decide)(hdb:(x==("__debug__" : Str))=YF:=by decide)
  (he:Xq (e::es) X.env=(YF,eval e X.env)::Xq es X.env:=by rfl) (hpl:(JK pos (Xq es X.env)).any (·.1)=YF:=by rfl):ME X io p c (.Call (.Name x pp) (e::es) [] pos) (mBl rp mr):=by
 obtain⟨_,A,sa⟩:=ha;exact⟨_,Zc1 hc hg hm hv A hn hdb he hpl,sBl P sa⟩
end
mutual
def Zf5:Xa->Bool
 | .none=>YD
 | .bool _=>YD
 | .int _=>YD
 | .str _=>YD
 | .tuple ds=>Zry ds
 | .list _=>YF
 | .dict _=>YF
def Zry:List Xa->Bool
 | []=>YD
 | d::ds=>Zf5 d&&Zry ds
end
set_option genInjectivity false in
structure Zh9 where
 nx:Zi->Prop
 rt:OT->Zi->Prop
 bk:Zi->Prop:=λ_=>False
 ct:Zi->Prop:=λ_=>False
abbrev MSt:=Zh9->Zi->Prop
abbrev Kp(H:Hp)(fp:Fp)(H':Hp)(fp':Fp):Prop:=Stp YF H [] fp H' [] fp'
theorem Stp.kp{p:Bool}{H H':Hp}{δ δ':Zi}{fp fp':Fp}(S:Stp p H δ fp H' δ' fp'):Kp H fp H' fp':=⟨λb o e q=>S.keep b o e (.inr (q.resolve_left (by decide))),λz=>(nomatch z),S.grow,S.al⟩
theorem Kp.trans{fp fp1 fp2:Fp}(a:Kp H fp H1 fp1)(b:Kp H1 fp1 H2 fp2):Kp H fp H2 fp2:=Stp.trans a b
theorem Kp.refl(H:Hp)(fp:Fp):Kp H fp H fp:=Stp.refl _ _ _ _
structure RelEnds(C:MC G)(io:List Nat)(ex:YG->Prop)(H:Hp)(fp:Fp)(D:Zh9)(D':Ends):Prop where
 nx:∀H' O' δ' fp',Rel C io H' O' δ' fp' ex->Kp H fp H' fp'->D.nx δ'->D'.nx O' H'
 bk:∀H' O' δ' fp',Rel C io H' O' δ' fp' ex->Kp H fp H' fp'->D.bk δ'->D'.bk O' H'
 ct:∀H' O' δ' fp',Rel C io H' O' δ' fp' ex->Kp H fp H' fp'->D.ct δ'->D'.ct O' H'
 rt:∀H' O' v r δ' fp' new,Rel C io H' O' δ' fp' (exu ex new)->Own G H' (Lf C fp' (exu ex new)) v r new->new.Nodup->(∀a∈new,C.H₀ a=YC)->D.rt r δ'->D'.rt v H'
theorem RelEnds.shift{C:MC G}{io:List Nat}{ex:YG->Prop}{fp fp1:Fp}{D:Zh9}{D':Ends}(E:RelEnds C io ex H fp D D')(k:Kp H fp H1 fp1):RelEnds C io ex H1 fp1 D D' :=
 ⟨λH' O' δ' fp' R q=>E.nx H' O' δ' fp' R (k.trans q),λH' O' δ' fp' R q=>E.bk H' O' δ' fp' R (k.trans q),λH' O' δ' fp' R q=>E.ct H' O' δ' fp' R (k.trans q),E.rt⟩
def SS(G:Xc)(io:List Nat)(t:TS)(m:MSt):Prop:=∀(C:MC G) (H:Hp) (O:St) (δ:Zi) (fp:Fp) (ex:YG->Prop) (D:Zh9) (D':Ends),Rel C io H O δ fp ex->m D δ->RelEnds C io ex H fp D D'->t D' O H
def MS(X:Cx)(io:List Nat)(st:YK)(m:MSt):Prop:=∃t,PS X st t/\SS X.K io t m
def MSs(X:Cx)(io:List Nat)(st:List YK)(m:MSt):Prop:=∃t,PSs X st t/\SS X.K io t m
section
variable {io:List Nat}{p p' p'' c c':Bool}{a b:YJ}{m ma mb:MEt}{rest:List YJ}{mr:MAt}{sts:List YK}{u w:MSt}{mt:MTt}
def Z9l:MSt:=λD δ=>D.nx δ
def Yk9(w:MSt)(D:Zh9)(δ:Zi):Prop:=w D δ
def Yd6(u w:MSt):MSt:=λD δ=>u { D with nx:=Yk9 w D } δ
theorem Zfc:MSs X io [] Z9l:=⟨_,Z4q,λC H O δ fp ex D D' R h E=>E.nx H O δ fp R (.refl _ _) h⟩
theorem Zk(h:MS X io st u):MSs X io [st] u:=by
 obtain⟨_,A,s⟩:=h;exact⟨_,Z57 A,s⟩
theorem Zdd(h:MS X io st u)(g:MSs X io sts w):MSs X io (st::sts) (Yd6 u w):=by
 obtain⟨_,A,s⟩:=h;obtain⟨tb,B,s'⟩:=g;exact⟨_,Zzp A B,λC H O δ fp ex D D' R h E=>s C H O δ fp ex _ _ R h ⟨λH1 O1 δ1 fp1 R1 k1 h1=>s' C H1 O1 δ1 fp1 ex D D' R1 h1 (E.shift k1),E.bk,E.ct,E.rt⟩⟩
def Z75:MSt:=λ_ _=>False
theorem Zz8:MS X io st Z75:=⟨_,Zxu,λC H O δ fp ex D D' R h E=>h.elim⟩
def Yg2(m:MEt):MSt:=λD δ=>m δ λr δ'=>D.rt r δ'
theorem Zgp(he:ME X io p YD e m):MS X io (.Return (YB e) pos) (Yg2 m):=by
 obtain⟨_,A,s⟩:=he;exact⟨_,Z0l A,λC H O δ fp ex D D' R h E=>s C H O δ fp ex _ _ R h λH' v r δ' fp' new r1 h1=>E.rt H' O v r δ' fp' new r1.rel (r1.own.wide λa l _=>l rfl) r1.nd (λa m=>(R.newOk (r1.fresh a m)).2.2) h1⟩
def Zyh(i:Nat):MSt:=λD δ=>match δ[i]? with|some (YB t)=>D.rt t (δ.set i YC)|_=>False
theorem Rel.take{C:MC G}{O:St}{δ:Zi}{fp:Fp}{ex:YG->Prop}{t:OT}(R:Rel C io H O δ fp ex)(hi:δ[i]? =YB (YB t)):Rel C io H O (δ.set i YC) (fpu fp i []) (exu ex (fp i)):=by
 have hil:i<δ.length:=(Xu.mp hi).1;have get:∀j (t':OT),(δ.set i YC)[j]? =YB (YB t')->j≠i/\δ[j]? =YB (YB t'):=λj t' e=>by
  by_cases ej:j=i
  .subst ej;rw[JB hil]at e;cases e
  .rw[QR (Vn ej)]at e;exact⟨ej,e⟩
 have sub:∀j a,a∈fpu fp i [] j->j≠i/\a∈fp j:=λj a m=>by
  by_cases ej:j=i
  .subst ej;rw[Yc]at m;exact nomatch m
  .rw[Yy ej]at m;exact⟨ej,m⟩
 have lw:∀a,Lf C fp ex a->Lf C (fpu fp i []) (exu ex (fp i)) a:=λa l=>⟨λ⟨j,z⟩=>l.1 ⟨j,(sub j a z).2⟩,λz=>z.elim l.2.1 λz=>l.1 ⟨i,z⟩,l.2.2⟩;refine⟨by rw[Vo];exact R.len,λj t' e=>?_,λj h=>?_,λj=>?_,λj k a h1 h2=>R.dj j k a (sub j a h1).2 (sub k a h2).2,λj a h z=>?_,λa z w=>?_,R.fr,R.al,λj a h=>R.new j a (sub j a h).2,R.io⟩
 .obtain⟨ej,e⟩:=get j t' e
  obtain⟨w,e1,o⟩:=R.own j t' e;exact⟨w,e1,by rw[Yy ej];exact o.wide λa l _=>lw a l⟩
 .by_cases ej:j=i
  .subst ej;rw[Yc]
  .rw[Yy ej]
   exact R.emp j λt' z=>h t' (by rw[QR (Vn ej)];exact z)
 .by_cases ej:j=i
  .subst ej;rw[Yc];exact .nil
  .rw[Yy ej];exact R.nd j
 .obtain⟨ej,h⟩:=sub j a h
  rcases z with z|z
  .exact R.dx j a h z
  .exact ej (R.dj j i a h z)
 .rcases z with z|z
  .exact R.xa a z w
  .exact R.footSome w ⟨i,z⟩
theorem Zcw(i:Nat){px:Pos}(hio:i∉io:=by decide)(hN:X.N[i]? =YB x:=by rfl)(hv:Vis X.env.scope x:=by first|exact QG rfl|exact Qt (QG rfl)|exact Qt (Qt rfl))(hd:(x==("__debug__" : Str))=YF:=by decide)
  (hcd:(x==("__classdict__" : Str))=YF:=by decide):MS X io (.Return (YB (.Name x px)) pos) (Zyh i):=by
 refine⟨_,Z0l (pv i hN hv hd hcd),λC H O δ fp ex D D' R h E=>?_⟩;unfold Zyh at h;split at h
 case h_2=>exact h.elim
 rename_i t hi;obtain⟨v,e,o⟩:=R.own i t hi;have lw:∀a,Lf C fp ex a->H a≠YC->Lf C (fpu fp i []) (exu ex (fp i)) a:=λa l _=>⟨λz=>by
  rcases z.of_u with z|⟨j,_,z⟩
  .exact nomatch z
  .exact l.1 ⟨j,z⟩,λz=>z.elim l.2.1 λz=>l.1 ⟨i,z⟩,l.2.2⟩
 have hn:∀a∈fp i,C.H₀ a=YC:=λa m=>by
  rcases R.new i a m with z|z
  .exact YX z.1 hio
  .exact z
 exact⟨v,e,E.rt H O v t _ _ (fp i) (R.take hi) (o.wide lw) (R.nd i) hn h⟩
def Yhz(t:MTt)(u w:MSt):MSt:=λD δ=>t δ λb δ'=>if b=YD then u D δ' else w D δ'
theorem Zrn{cnd:YJ}{ss ss':List YK}(hc:MT X io p cnd mt)(ha:MSs X io ss u)(hb:MSs X io ss' w):MS X io (.If cnd ss ss' pos) (Yhz mt u w):=by
 obtain⟨_,T,s⟩:=hc;obtain⟨_,A,sa⟩:=ha;obtain⟨_,B,sb⟩:=hb;exact⟨_,Ygp T A B,λC H O δ fp ex D D' R h E=>s C H O δ fp ex _ _ R h λH' b δ' fp' R' S h'=>by
  cases b with
  | true=>
   rw[YL rfl]at h'|-
   exact sa C H' O δ' fp' ex D D' R' h' (E.shift S.kp)
  | false=>
   rw[YM Xn]at h'|-
   exact sb C H' O δ' fp' ex D D' R' h' (E.shift S.kp)⟩
theorem Rel.put{C:MC G}{O:St}{δ:Zi}{fp:Fp}{ex:YG->Prop}{r:OT}{new:List YG}(R:Rel C io H O δ fp (exu ex new))(hio:i∉io)(o:Own G H (Lf C fp (exu ex new)) v r new)(nd:new.Nodup)
  (hn:∀a∈new,C.H₀ a=YC/\¬ex a):∃fp',Rel C io H (O.set i (YB v)) (δ.set i (YB r)) fp' ex/\∀a,Foot fp' a->Foot fp a\/a∈new:=by
 by_cases hil:i<δ.length
 case neg=>
  refine⟨fp,?_,λa h=>.inl h⟩;have hl:=R.len;rw[List.set_eq_of_length_le (show δ.length<=i by omega),List.set_eq_of_length_le (show O.length<=i by omega)];exact R.drop λa z=>.inl z
 have hsl:i<O.length:=by rw[R.len];exact hil
 have sub:∀a,Foot (fpu fp i new) a->Foot fp a\/a∈new:=λa z=>by
  rcases z.of_u with z|⟨j,_,z⟩
  .exact .inr z
  .exact .inl ⟨j,z⟩
 have lw:∀a,Lf C fp (exu ex new) a->Lf C (fpu fp i new) ex a:=λa l=>⟨λz=>(sub a z).elim l.1 λz=>l.2.1 (.inr z),λz=>l.2.1 (.inl z),l.2.2⟩;refine⟨fpu fp i new,⟨by rw[Vo,Vo];exact R.len,λj t' e=>?_,λj h=>?_,λj=>?_,λj k a h1 h2=>?_,λj a h z=>?_,λa z=>R.xa a (.inl z),R.fr,R.al,λj a h=>?_,λj hj=>?_⟩,sub⟩
 .by_cases ej:j=i
  .subst ej
   rw[JB hil]at e;cases e;exact⟨v,JB hsl,by rw[Yc];exact o.wide λa l _=>lw a l⟩
  .rw[QR (Vn ej)]at e
   obtain⟨w,e1,o1⟩:=R.own j t' e;exact⟨w,by rw[QR (Vn ej)];exact e1,by rw[Yy ej];exact o1.wide λa l _=>lw a l⟩
 .by_cases ej:j=i
  .subst ej;exact YX (JB hil) (h r)
  .rw[Yy ej]
   exact R.emp j λt' z=>h t' (by rw[QR (Vn ej)];exact z)
 .by_cases ej:j=i
  .subst ej;rw[Yc];exact nd
  .rw[Yy ej];exact R.nd j
 .by_cases ej:j=i
  .subst ej
   rw[Yc]at h1
   by_cases ek:k=j
   .exact ek.symm
   .rw[Yy ek]at h2
    exact YX (.inr h1) (R.dx k a h2)
  .rw[Yy ej]at h1
   by_cases ek:k=i
   .subst ek
    rw[Yc]at h2;exact YX (.inr h2) (R.dx j a h1)
   .rw[Yy ek]at h2
    exact R.dj j k a h1 h2
 .by_cases ej:j=i
  .subst ej
   rw[Yc]at h;exact(hn a h).2 z
  .rw[Yy ej]at h
   exact R.dx j a h (.inl z)
 .by_cases ej:j=i
  .subst ej
   rw[Yc]at h;exact .inr (hn a h).1
  .rw[Yy ej]at h
   exact R.new j a h
 .have ej:j≠i:=λz=>hio (z▸hj)
  rw[QR (Vn ej)];exact R.io j hj
theorem RE.put{C:MC G}{O:St}{δ δ':Zi}{fp fp':Fp}{ex:YG->Prop}{r:OT}{new:List YG}(R:RE C io p YD H O δ fp ex H' v r δ' fp' new)(R0:Rel C io H O δ fp ex)(hio:i∉io) :
  ∃fp2,Rel C io H' (O.set i (YB v)) (δ'.set i (YB r)) fp2 ex/\Kp H fp H' fp2:=by
 obtain⟨fp2,R2,g⟩:=R.rel.put hio (R.own.wide λa l _=>l rfl) R.nd λa m=>⟨(R0.newOk (R.fresh a m)).2.2,(R0.newOk (R.fresh a m)).2.1⟩;refine⟨fp2,R2,λb o e q=>R.stp.keep b o e (.inr (q.resolve_left (by decide))),λz=>(nomatch z),λa z=>?_,R.stp.al⟩;rcases g a z with z|z
 .exact R.stp.grow a z
 .exact .inr (R.fresh a z)
theorem RE.fzc{C:MC G}{O:St}{δ δ':Zi}{fp fp':Fp}{ex:YG->Prop}{r:OT}{new:List YG}(R:RE C io p c H O δ fp ex H' v r δ' fp' new)(R0:Rel C io H O δ fp ex) :
  RE C io p c H O δ fp ex H' v (.fz r.data) δ' fp' []:=.fz R.base R.stp (R.da R0)
def Z7h(i:Nat)(m:MEt):MSt:=λD δ=>m δ λr δ'=>D.nx (δ'.set i (YB (.fz r.data)))
def Zmi(i:Nat)(m:MEt):MSt:=λD δ=>m δ λr δ'=>D.nx (δ'.set i (YB r))
section
variable {px:Pos}
theorem Yif{t:TE}(s:SE G io p YD t m)(hio:i∉io):SS G io (Yaz t (Zuj i)) (Z7h i m):=λC H O δ fp ex D D' R h E=>s C H O δ fp ex _ _ R h λH' v r δ' fp' new r1 h1=>by
 obtain⟨fp2,R2,k2⟩:=(r1.fzc R).put R hio;exact E.nx H' _ _ fp2 R2 k2 h1
theorem Z5m{t:TE}(s:SE G io p YD t m)(hio:i∉io):SS G io (Yaz t (Zuj i)) (Zmi i m):=λC H O δ fp ex D D' R h E=>s C H O δ fp ex _ _ R h λH' v r δ' fp' new r1 h1=>by
 obtain⟨fp2,R2,k2⟩:=r1.put R hio;exact E.nx H' _ _ fp2 R2 k2 h1
theorem Z7x(hN:X.N.Nodup)(hi:X.N[i]? =YB x)(hx:Loc X.env.scope x)(he:ME X io p YD e m)(hio:i∉io:=by decide)(hs:VL e (YB (.Name x px)) pos.line X.env=pure YF:=by rfl)(hf:X.fn x=YD\/X.env.scope.names.lookup x=YB .local:=by first|exact .inl rfl|exact .inr rfl|assumption) :
  MS X io (.Assign [.Name x px] e pos) (Z7h i m):=by
 obtain⟨_,A,s⟩:=he;exact⟨_,Z1u hN hi hx A hs hf,Yif s hio⟩
theorem Z2s(hN:X.N.Nodup)(hi:X.N[i]? =YB x)(hx:Loc X.env.scope x)(he:ME X io p YD e m)(hio:i∉io:=by decide)(hs:VL e (YB (.Name x px)) pos.line X.env=pure YF:=by rfl)(hf:X.fn x=YD\/X.env.scope.names.lookup x=YB .local:=by first|exact .inl rfl|exact .inr rfl|assumption) :
  MS X io (.Assign [.Name x px] e pos) (Zmi i m):=by
 obtain⟨_,A,s⟩:=he;exact⟨_,Z1u hN hi hx A hs hf,Z5m s hio⟩
end
def Z0r(t:MTt)(u:MSt):MSt:=λD δ=>∃W:Nat->Zi->Prop,(∃n,W n δ)/\∀n δ,W n δ->t δ λb δ'=>if b=YD then∃N:Zi->Prop,(∀δ',N δ'->∃n',n'<n/\W n' δ')/\u { D with nx:=N,ct:=N,bk:=D.nx } δ' else D.nx δ'
theorem Zn8{cnd:YJ}{ss:List YK}(hp:PassesOwn (Qi X.prog X.w) X.A X.env X.xe)(hc:MT X io p cnd mt)(ha:MSs X io ss u):MS X io (.While cnd ss [] pos) (Z0r mt u):=by
 obtain⟨_,T,s⟩:=hc;obtain⟨_,A,sa⟩:=ha;refine⟨_,Zxc hp T A,λC H O δ fp ex D D' R h E=>?_⟩;obtain⟨W,⟨n0,w0⟩,turn⟩:=h;refine⟨λn O' H'=>∃δ' fp',Rel C io H' O' δ' fp' ex/\Kp H fp H' fp'/\W n δ',⟨n0,δ,fp,R,.refl _ _,w0⟩,?_⟩;rintro n O1 H1 ⟨δ1,fp1,R1,k1,w1⟩;refine s C H1 O1 δ1 fp1 ex _ _ R1 (turn n δ1 w1) λH2 b δ2 fp2 R2 S2 h2=>?_;have k2:=k1.trans S2.kp;cases b with
 | true=>
  rw[YL rfl]at h2|-
  obtain⟨N,hN,h2⟩:=h2;refine⟨λO' H'=>∃δ' fp',Rel C io H' O' δ' fp' ex/\Kp H fp H' fp'/\N δ',λO' H' ⟨δ',fp',R',k',n'⟩=>?_,?_⟩
  .obtain⟨n1,hn1,w1⟩:=hN δ' n'
   exact⟨n1,hn1,δ',fp',R',k',w1⟩
  .refine sa C H2 O1 δ2 fp2 ex _ _ R2 h2 ⟨λH' O' δ' fp' R' k' n'=>⟨δ',fp',R',k2.trans k',n'⟩,λH' O' δ' fp' R' k' n'=>E.nx H' O' δ' fp' R' (k2.trans k') n',λH' O' δ' fp' R' k' n'=>⟨δ',fp',R',k2.trans k',n'⟩,E.rt⟩
 | false=>
  rw[YM Xn]at h2|-
  exact E.nx H2 O1 δ2 fp2 R2 k2 h2
end
def Ztc(N:List Str)(ds:List Xa):Zi:=ds.map (λd=>YB (.fz d))++X7 (N.length-ds.length) YC
section
variable {vs:List V}
theorem Zwq{t:OT}{n:Nat}(h:(ds.map (λd=>YB (.fz d))++X7 n YC:Zi)[i]? =YB (YB t)):∃d,ds[i]? =YB d/\t= .fz d:=by
 rw[V7]at h;split at h
 .rw[Xm]at h
  cases e:ds[i]? with
  | none=>rw[e]at h;cases h
  | some d=>rw[e]at h;cases h;exact⟨d,rfl,rfl⟩
 .rw[Ur]at h
  split at h
  .cases h
  .cases h
theorem Rel.entry(h:Das G H L vs ds):Rel (G:=G) ⟨H,λ_=>False,L,start N vs⟩ [] H (start N vs) (Ztc N ds) (λ_=>[]) (λ_=>False):=by
 refine⟨?_,λi t e=>?_,λ_ _=>rfl,λ_=>.nil,λi j a m=>(nomatch m),λi a m=>(nomatch m),λa z=>z.elim,λb o e _=>e,λb e=>e,λi a m=>(nomatch m),λi m=>nomatch m⟩
 .unfold start Ztc
  simp[h.length]
 .obtain⟨d,e',rfl⟩:=Zwq e
  obtain⟨x,e1,q⟩:=h.get e';refine⟨x,?_,.fz (q.wide λa l _=>⟨λ⟨j,z⟩=>(nomatch z),λz=>z,.inl l⟩)⟩;unfold L2.start;rw[Ug (by rw[Xe];exact(Xu.mp e1).1),Xm,e1];rfl
variable {base:YH}
def Z3z(k:OT->Prop):Zh9:={ nx:=λ_=>k (.fz .none),rt:=λr _=>k r }
theorem Fun.okD{f:YG}{fd:X3}{n:Nat}{S:List Xa->(OT->Prop)->Prop}(F:Fun K x qual st f fd)(Sc:Zv N ps (Zn st))(len:∀ds k,S ds k->ds.length=ps.length)
  (hbody:∀(cdv:Xf) (A:Qv) (outer:List Env) (s:Xg) (H:Hp) (E:XK),Room n (A.deeper (envOfC qual (Zn st) s.heap.objs.size f cdv)) ->
   ∃m,MSs (Z1v CX0 P w K mg base N qual (Zn st) f cdv A outer s H E).nox [] (Zbq st) m/\∀ds k,S ds k->m (Z3z k) (Ztc N ds)):FnOk P w K mg base CX0 (n+1) f fd ps (spD K S):=by
 refine F.ok Sc (λvs H Q E h=>?_) (λcdv A outer s H vs Q E hr h=>?_)
 .obtain⟨L,ds,k,h1,h2,_⟩:=h
  rw[h1.length];exact len ds k h2
 .obtain⟨L,ds,k,h1,h2,h3⟩:=h
  obtain⟨m,⟨t,A1,s1⟩,q⟩:=hbody cdv A outer s H E hr;refine⟨t,A1,s1 ⟨H,λ_=>False,L,start N vs⟩ H _ _ _ _ (Z3z k) _ (Rel.entry h1) (q ds k h2) ⟨λH' O' δ' fp' R _ hk=>?_,λ_ _ _ _ _ _ z=>z.elim,λ_ _ _ _ _ _ z=>z.elim,λH' O' v r δ' fp' new R o nd hn hk=>?_⟩⟩
  .exact h3 _ .non H' [] hk (λb o e=>R.fr b o e id) (.fz .non) .nil λa m=>nomatch m
  .refine h3 r v H' new hk (λb o e=>R.fr b o e id) (o.wide λa l _=>⟨?_,λz=>l.2.1 (.inr z)⟩) nd hn
   exact l.2.2
end
abbrev MGt:=Xa->Zi->(Zi->Prop)->Prop
abbrev Zww:=List Xa->Zi->(Zi->Prop)->Prop
def SG(G:Xc)(io:List Nat)(c:Bool)(t:TG)(g:MGt):Prop:=∀(C:MC G) (H:Hp) (O:St) (δ:Zi) (fp:Fp) (ex:YG->Prop) (v:V) (d:Xa) (k:Zi->Prop) (Q:St->Hp->Prop),Rel C io H O δ fp ex->Da G H (λa=>c=YD->Lf C fp ex a) v d->g d δ k ->
 (∀ O' δ' fp',Rel C io H O' δ' fp' ex->Kp H fp H fp'->k δ'->Q O' H)->t v O H Q
def SGs(G:Xc)(io:List Nat)(c:Bool)(t:TGs)(g:Zww):Prop:=∀(C:MC G) (H:Hp) (O:St) (δ:Zi) (fp:Fp) (ex:YG->Prop) (v:List V) (d:List Xa) (k:Zi->Prop) (Q:St->Hp->Prop),Rel C io H O δ fp ex->Das G H (λa=>c=YD->Lf C fp ex a) v d->g d δ k ->
 (∀ O' δ' fp',Rel C io H O' δ' fp' ex->Kp H fp H fp'->k δ'->Q O' H)->t v O H Q
def MG(X:Cx)(io:List Nat)(c:Bool)(tg:YJ)(g:MGt):Prop:=∃t,PG X tg t/\SG X.K io c t g
def MGs(X:Cx)(io:List Nat)(c:Bool)(tg:List YJ)(g:Zww):Prop:=∃t,PGs X tg t/\SGs X.K io c t g
variable {ex ex':YG->Prop}{c p p' c' p'':Bool}{fp fp' fp1:Fp}{H'':Hp}{as:List YG}{io:List Nat}{ts:List OT}{sts ss ss':List YK}{mr:MAt}{m ma mb:MEt}{pp px:Pos}{δ δ' δ1 δ2:Zi}{gs:Zww}
def dName(i:Nat):MGt:=λd δ k=>k (δ.set i (YB (.fz d)))
theorem Rel.putD{C:MC G}{O:St}{d:Xa}(R:Rel C io H O δ fp ex)(hio:i∉io)(q:Da G H (Lf C fp ex) v d) :
  ∃fp',Rel C io H (O.set i (YB v)) (δ.set i (YB (.fz d))) fp' ex/\Kp H fp H fp':=by
 obtain⟨fp',R',g⟩:=(R.drop λa z=>J2.mp z).put (new:=[]) hio (.fz (q.wide λa l _=>⟨l.1,λz=>l.2.1 (J2.mp z),l.2.2⟩)) .nil (λa m=>nomatch m);exact⟨fp',R',λb o e _=>e,λz=>(nomatch z),λa z=>(g a z).imp id λz=>(nomatch z),λb e=>e⟩
theorem Znz(hN:X.N.Nodup)(hi:X.N[i]? =YB x:=by rfl)(hx:Loc X.env.scope x:=by first|exact QG rfl|exact Qt rfl)(hio:i∉io:=by decide)(hf:X.fn x=YD\/X.env.scope.names.lookup x=YB .local:=by first|exact .inl rfl|exact .inr rfl|assumption):MG X io YD (.Name x pos) (dName i) :=
 ⟨_,Z4g hN hi hx hf,λC H O δ fp ex v d k Q R q h kk=>by
  obtain⟨fp',R',k'⟩:=R.putD hio (q.wide λa l _=>l rfl);exact kk _ _ fp' R' k' h⟩
def Yiw:Zww:=λds δ k=>ds=[]/\k δ
def Z8p(g:MGt)(gs:Zww):Zww:=λds δ k=>match ds with|d::r=>g d δ λδ'=>gs r δ' k|[]=>False
theorem Znu:MGs X io c [] Yiw:=⟨_,Z42,λC H O δ fp ex v d k Q R q h kk=>by
 obtain⟨rfl,h⟩:=h;cases q;exact⟨rfl,kk O δ fp R (.refl _ _) h⟩⟩
theorem Rel.kp_das{C:MC G}{O:St}{vs:List V}(R:Rel C io H O δ fp ex)(S:Kp H fp H' fp')(h:Das G H (Lf C fp ex) vs ds):Das G H' (Lf C fp' ex) vs ds:=by
 have S':Stp YF H δ fp H' δ fp':=⟨S.keep,λz=>(nomatch z),S.grow,S.al⟩;obtain⟨f1,f2⟩:=R.frameL (c:=YD) (ex':=ex) S' (.inr rfl) λa z=>.inl z;exact h.frame (λa xs l q=>⟨(f1 a xs (λ_=>l) q).1 rfl,(f1 a xs (λ_=>l) q).2⟩) f2
theorem Za3{g:MGt}(h1:MG X io YD e g)(h2:MGs X io YD es gs)
  (hs:(Bf (e::es) X.env).map (·.2)=assign e X.env::(Bf es X.env).map (·.2):=by rfl):MGs X io YD (e::es) (Z8p g gs):=by
 obtain⟨_,A,s⟩:=h1;obtain⟨_,B,s'⟩:=h2;exact⟨_,Zyg A B hs,λC H O δ fp ex v d k Q R q h kk=>by
  cases q with
  | nil=>exact h.elim
  | cons q qs=>
   refine⟨_,_,rfl,s C H O δ fp ex _ _ _ _ R q h λO1 δ1 fp1 R1 k1 h1=>?_⟩;exact s' C H O1 δ1 fp1 ex _ _ _ _ R1 ((R.kp_das k1 (qs.wide λa l _=>l rfl)).wide λa l _ _=>l) h1 λO2 δ2 fp2 R2 k2 h2=>kk O2 δ2 fp2 R2 (k1.trans k2) h2⟩
def dTup(n:Nat)(gs:Zww):MGt:=λd δ k=>match d with| .tuple ds=>ds.length=n/\gs ds δ k|_=>False
theorem Zs8{k:Nat}{n:Nat}(hc:X.calm=YD)(h:MGs X io c es gs)
  (hn:(Bf es X.env).length=n:=by rfl) (hst:(Bf es X.env).findIdx? (·.1)=YC:=by rfl):MG X io c (.Tuple es k pos) (dTup n gs):=by
 obtain⟨_,A,s⟩:=h;exact⟨_,Ybu hc A hn hst,λC H O δ fp ex v d k Q R q h kk=>by
  cases q with
  | tup e qs=>exact⟨_,_,rfl,.inl (.inl e),by rw[qs.length];exact h.1,s C H O δ fp ex _ _ _ _ R qs h.2 kk⟩
  | _=>exact h.elim⟩
def IterOk(C:MC G)(fp:Fp)(ex:YG->Prop)(H1:Hp)(c:Bool)(J:It)(ds:List Xa):Prop:=∀H':Hp,(∀b o,H1 b=YB o->(c=YF\/¬Foot fp b)->H' b=YB o)->∀i:Nat,
 (∀ d,ds[i]? =YB d->J.go i H'/\∀x H'',J.yld i H' x H''->Same H' H''/\Da G H'' (λa=>c=YD->(Lf C fp ex a/\H1 a≠YC)) x d)/\(ds[i]? =YC->J.stop i H')
abbrev MIt:=Zi->(List Xa->Zi->Prop)->Prop
def SI(G:Xc)(io:List Nat)(p c:Bool)(t:TI)(m:MIt):Prop:=∀(C:MC G) (H:Hp) (O:St) (δ:Zi) (fp:Fp) (ex:YG->Prop) (K:List Xa->Zi->Prop) (Q:It->Hp->Prop),Rel C io H O δ fp ex->m δ K ->
 (∀ J H1 ds δ1 fp1,Rel C io H1 O δ1 fp1 ex->Stp p H δ fp H1 δ1 fp1->IterOk C fp1 ex H1 c J ds->K ds δ1->Q J H1)->t O H Q
def MI(X:Cx)(io:List Nat)(p c:Bool)(tg iter:YJ)(m:MIt):Prop:=∃t,PI X tg iter t/\SI X.K io p c t m
section
variable {a b:YJ}
def iL(m:MEt):MIt:=λδ K=>m δ λr δ'=>match r.data with| .list ds=>K ds δ'|_=>False
theorem Rel.kept{C:MC G}{H H':Hp}{O:St}{δ:Zi}{fp:Fp}{ex:YG->Prop}(R:Rel C io H O δ fp ex)(kp:∀b o,H b=YB o->(c=YF\/¬Foot fp b)->H' b=YB o) :
  (∀ a (xs:MuO),(c=YD->Lf C fp ex a)->Rd H a xs.ho->(c=YD->(Lf C fp ex a/\H a≠YC))/\Rd H' a xs.ho)/\(∀a (xs:ImO),H a=YB xs.ho->H' a=YB xs.ho):=by
 refine⟨λa xs l q=>⟨λhc=>⟨l hc,q.some⟩,?_⟩,λa xs q=>kp a _ q (.inr λz=>?_)⟩
 .have hk:c=YF\/¬Foot fp a:=by
   cases c with
   | false=>exact .inl rfl
   | true=>exact .inr (l rfl).1
  rcases q with q|⟨o,q⟩
  .exact .inl (kp a _ q hk)
  .exact .inr ⟨o,kp a _ q hk⟩
 .obtain⟨ys,e⟩:=R.foot z
  exact ImO.nm q e
theorem Z3c(h:ME X io p c e m):MI X io p c tg e (iL m):=by
 obtain⟨_,A,s⟩:=h;exact⟨_,Zxj rfl A,λC H O δ fp ex K' Q R h kk=>s C H O δ fp ex _ _ R h λH1 v r δ1 fp1 new r1 h1=>by
  have q:=r1.da R;generalize r.data=d at q h1;cases q with
  | lst l e qs=>
   refine⟨_,rfl,⟨_,.inl e⟩,kk _ H1 _ δ1 fp1 r1.base r1.stp (λH' kp i=>?_) h1⟩;obtain⟨f1,f2⟩:=r1.base.kept kp;have e':=(f1 _ (.lst _) l e).2;have qs':=qs.frame f1 f2;refine⟨λd hd=>?_,λhd=>?_⟩
   .obtain⟨x,hx,qx⟩:=qs'.get hd
    refine⟨⟨_,x,.inl e',hx⟩,λy H'' hy=>?_⟩;obtain⟨rfl,hy⟩:=hy;have:=hy _ (.inl e');rw[hx]at this;cases this;exact⟨Same.refl _,qx⟩
   .exact⟨_,.inl e',by rw[qs'.length];exact Qz.mp hd⟩
  | scr ks=>
   refine⟨_,rfl,⟨_,ks.sq⟩,kk _ H1 _ δ1 fp1 r1.base r1.stp (λH' kp i=>?_) h1⟩;refine⟨λd hd=>?_,λhd=>?_⟩
   .obtain⟨x,hx,qx⟩:=(Das.ints (G:=X.K) (H:=H') (L:=λa=>c=YD->(Lf C fp1 ex a/\H1 a≠YC)) _).get hd
    refine⟨⟨_,x,ks.sq,hx⟩,λy H'' hy=>?_⟩;obtain⟨rfl,hy⟩:=hy;have:=hy _ ks.sq;rw[hx]at this;cases this;exact⟨Same.refl _,qx⟩
   .refine⟨_,ks.sq,?_⟩
    have:=Qz.mp hd;simpa using this
  | _=>exact h1.elim⟩
def Zda(lo:Int)(n:Nat):List Xa:=(Xw n).map λ(i:Nat)=>Xl (lo+(i:Int))
@[simp] theorem Wl(lo:Int)(n:Nat):(Zda lo n).length=n:=by simp[Zda]
theorem Zab{n:Nat}{d:Xa}(h:(Zda lo n)[i]? =YB d):i<n/\d= .int (lo+i):=by
 have hi:i<n:=by
  have:=(Xu.mp h).1;simpa using this
 unfold Zda at h;rw[Xm,JR hi]at h;cases h;exact⟨hi,rfl⟩
theorem Zoq{C:MC G}{n:Nat}:IterOk C fp ex H1 YD (Itr lo n) (Zda lo n):=λH' _ i=>by
 refine⟨λd hd=>?_,λhd=>?_⟩
 .obtain⟨hi,rfl⟩:=Zab hd
  refine⟨hi,λx H'' hy=>?_⟩;obtain⟨rfl,rfl⟩:=hy;exact⟨Same.refl _,.int _⟩
 .have:=Qz.mp hd
  show n<=i;simpa using this
def iR1(mr:MAt):MIt:=λδ K=>mr δ λrs δ'=>match OT.datas rs with|[.int j]=>(-(2^62)<=j/\j<2^62)/\K (Zda 0 j.toNat) δ'|_=>False
def iR2(mr:MAt):MIt:=λδ K=>mr δ λrs δ'=>match OT.datas rs with|[.int i,.int j]=>(-(2^62)<=i/\i<2^62/\-(2^62)<=j/\j<2^62)/\K (Zda i (j-i).toNat) δ'|_=>False
theorem Yr{p':Pos}(hg:Gl X "range")(hm:X.mg "range"=YC)(ha:MA X io p c [a] mr)(hs:Xq [a] X.env=[(YF,eval a X.env)]:=by rfl):MI X io p YD tg (.Call (.Name "range" p') [a] [] pos) (iR1 mr):=by
 obtain⟨_,A,s⟩:=ha;exact⟨_,Zta hg hm A hs,λC H O δ fp ex K' Q R h kk=>s C H O δ fp ex _ _ R h λH1 vs rs δ1 fp1 new r1 h1=>by
  have q:=r1.das R;generalize OT.datas rs=d at q h1;split at h1
  case h_2=>exact h1.elim
  cases q with
  | cons q1 q2=>
   cases q1;cases q2;exact⟨_,rfl,h1.1.1,h1.1.2,kk _ H1 _ δ1 fp1 r1.base r1.stp Zoq h1.2⟩⟩
theorem Zhj{p':Pos}(hg:Gl X "range")(hm:X.mg "range"=YC)(ha:MA X io p c [a,b] mr)(hs:Xq [a,b] X.env=[(YF,eval a X.env),(YF,eval b X.env)]:=by rfl)(hs2:Xq [b] X.env=[(YF,eval b X.env)]:=by rfl):MI X io p YD tg (.Call (.Name "range" p') [a,b] [] pos) (iR2 mr):=by
 obtain⟨_,A,s⟩:=ha;exact⟨_,Zvo hg hm A hs hs2,λC H O δ fp ex K' Q R h kk=>s C H O δ fp ex _ _ R h λH1 vs rs δ1 fp1 new r1 h1=>by
  have q:=r1.das R;generalize OT.datas rs=d at q h1;split at h1
  case h_2=>exact h1.elim
  cases q with
  | cons q1 q2=>
   cases q1;cases q2 with
   | cons q2 q3=>
    cases q2;cases q3;exact⟨_,_,rfl,h1.1,kk _ H1 _ δ1 fp1 r1.base r1.stp Zoq h1.2⟩⟩
theorem IterOk.at{C:MC G}{fp fp':Fp}{ex:YG->Prop}{H1 H' H'':Hp}{J:It}{ds:List Xa}{x:V}{d:Xa}(g:∀a,Foot fp' a->Foot fp a\/H1 a=YC)(h:Da G H'' (λa=>YD=YD->(Lf C fp ex a/\H1 a≠YC)) x d):Da G H'' (λa=>YD=YD->Lf C fp' ex a) x d :=
 h.wide λa l _ z=>⟨λw=>(g a w).elim (l z).1.1 (l z).2,(l z).1.2.1,(l z).1.2.2⟩
def Yfq(ds:List Xa)(g:MGt)(u:MSt)(D:Zh9)(δ1:Zi):Prop:=∃I:Nat->Zi->Prop,I 0 δ1/\(∀(i:Nat) (d:Xa) (δ':Zi),ds[i]? =YB d->I i δ'->g d δ' λδ2=>u { D with nx:=I (i+1),ct:=I (i+1),bk:=D.nx } δ2)/\∀δ',I ds.length δ'->D.nx δ'
def Yi2(mi:MIt)(g:MGt)(u:MSt):MSt:=λD δ=>mi δ λds δ1=>Yfq ds g u D δ1
theorem Rel.mk0{C:MC G}{O:St}(R:Rel C io H O δ fp ex)(s:Same H H'):Rel C io H' O δ fp ex:=(R.made (new:=[]) s λa m=>nomatch m).drop λa z=>.inl z
theorem Z1w{mi:MIt}{g:MGt}{u:MSt}(hp:PassesOwn (Qi X.prog X.w) X.A X.env X.xe)(hc:X.calm=YD)(hi:MI X io p YD tg iter mi)(hg:MG X io YD tg g)(hb:MSs X io body u)
  (hs:∀x,Bv iter X.env x=pure x:=by intro _;rfl):MS X io (.For tg iter body [] pos) (Yi2 mi g u):=by
 obtain⟨_,A,s⟩:=hi;obtain⟨_,G,sg⟩:=hg;obtain⟨_,B,sb⟩:=hb;refine⟨_,Z9w hp hc A G B hs,λC H O δ fp ex D D' R h E=>s C H O δ fp ex _ _ R h λJ H1 ds δ1 fp1 R1 S1 it h1=>?_⟩;obtain⟨I,h0,turn,fin⟩:=h1;refine⟨λi n O' H'=>n=ds.length-i/\i<=ds.length/\∃δ' fp',Rel C io H' O' δ' fp' ex/\Kp H1 fp1 H' fp'/\I i δ',⟨ds.length,rfl,QS _,δ1,fp1,R1,.refl _ _,h0⟩,?_⟩;rintro i n O2 H2 ⟨rfl,hle,δ2,fp2,R2,k2,i2⟩;have itk:=it H2 (λb o e q=>k2.keep b o e (.inr (q.resolve_left (by decide)))) i
 by_cases hlt:i<ds.length
 .have hd:ds[i]? =YB ds[i]:=Xi hlt
  obtain⟨go,yl⟩:=itk.1 _ hd;refine .inr ⟨go,λO' H'=>∃δ' fp',Rel C io H' O' δ' fp' ex/\Kp H1 fp1 H' fp'/\I (i+1) δ',λO' H' ⟨δ',fp',R',k',i'⟩=>⟨ds.length-(i+1),by omega,rfl,hlt,δ',fp',R',k',i'⟩,λx H3 hy=>?_⟩;obtain⟨s3,q3⟩:=yl x H3 hy;have R3:=R2.mk0 s3;have k3:Kp H1 fp1 H3 fp2:=k2.trans ⟨λb o e _=>s3 _ _ e,λz=>(nomatch z),λa z=>.inl z,s3.al⟩;refine sg C H3 O2 δ2 fp2 ex x _ _ _ R3 (IterOk.at (H':=H2) (J:=J) (ds:=ds) k2.grow q3) (turn i _ δ2 hd i2) λO4 δ4 fp4 R4 k4 h4=>?_;have k5:=k3.trans k4;refine sb C H3 O4 δ4 fp4 ex _ _ R4 h4 ⟨λH' O' δ' fp' R' k' n'=>⟨δ',fp',R',k5.trans k',n'⟩,λH' O' δ' fp' R' k' n'=>E.nx H' O' δ' fp' R' (S1.kp.trans (k5.trans k')) n',λH' O' δ' fp' R' k' n'=>⟨δ',fp',R',k5.trans k',n'⟩,E.rt⟩
 .have e:i=ds.length:=by omega
  subst e;exact .inl ⟨itk.2 (by simp),E.nx H2 O2 δ2 fp2 R2 (S1.kp.trans k2) (fin δ2 i2)⟩
end
def gM(G:Xc)(io:List Nat)(c:Bool)(g:MGt):TG:=λv O H Q=>∃(C:MC G) (δ:Zi) (fp:Fp) (ex:YG->Prop) (d:Xa) (k:Zi->Prop),Rel C io H O δ fp ex/\Da G H (λa=>c=YD->Lf C fp ex a) v d/\g d δ k/\
 ∀O' δ' fp',Rel C io H O' δ' fp' ex->Kp H fp H fp'->k δ'->Q O' H
def tM(G:Xc)(io:List Nat)(p c:Bool)(m:MEt):TE:=λO H Q=>∃(C:MC G) (δ:Zi) (fp:Fp) (ex:YG->Prop) (K:OT->Zi->Prop),Rel C io H O δ fp ex/\m δ K/\∀H' v r δ' fp' new,RE C io p c H O δ fp ex H' v r δ' fp' new->K r δ'->Q v H'
def ttM(G:Xc)(io:List Nat)(p:Bool)(m:MTt):TT:=λO H Q=>∃(C:MC G) (δ:Zi) (fp:Fp) (ex:YG->Prop) (K:Bool->Zi->Prop),Rel C io H O δ fp ex/\m δ K/\∀H' b δ' fp',Rel C io H' O δ' fp' ex->Stp p H δ fp H' δ' fp'->K b δ'->Q b H'
def MIfs(X:Cx)(io:List Nat)(p:Bool)(ifs:List YJ)(m:MTt):Prop:=∃t,Z2o X ifs t/\STt X.K io p t m
section
variable {mt:MTt}{g:MGt}
theorem MG.canon(h:MG X io c tg g):PG X tg (gM X.K io c g):=by
 obtain⟨t,A,s⟩:=h;rintro pins sh O H v u Q I r ⟨C,δ,fp,ex,d,k,R,q,h,kk⟩;exact A pins sh O H v u Q I r (s C H O δ fp ex v d k Q R q h kk)
theorem ME.canon(h:ME X io p c e m):PE X e (tM X.K io p c m):=by
 obtain⟨t,A,s⟩:=h;rintro pins sh O H Q I ⟨C,δ,fp,ex,K,R,h,kk⟩;exact A pins sh O H Q I (s C H O δ fp ex K Q R h kk)
theorem MIfs.canon(h:MIfs X io p ifs mt):Z2o X ifs (ttM X.K io p mt):=by
 obtain⟨t,A,s⟩:=h;rintro pins sh O H Q I ⟨C,δ,fp,ex,K,R,h,kk⟩;exact A pins sh O H Q I (s C H O δ fp ex K Q R h kk)
def Ya7:MTt:=λδ K=>K YD δ
theorem Zba:MIfs X io YD [] Ya7:=⟨_,Z46,λC H O δ fp ex K Q R h kk=>kk H YD δ fp R (.refl _ _ _ _) h⟩
theorem Zjz{cnd:YJ}(h:MT X io p cnd mt):MIfs X io p [cnd] mt:=by
 obtain⟨_,A,s⟩:=h;exact⟨_,Z18 A,s⟩
end
def blk(n:Nat)(caps:List Nat)(δ:Zi):Zi:=X7 n YC++caps.map λi=>(δ[i]?).getD YC
def Jg(n:Nat)(caps:List Nat)(fp:Fp):Fp:=λk=>if k<n then[]else match caps[k-n]? with|some i=>fp i|none=>[]
def Jv(n:Nat)(caps:List Nat):List Nat:=(Xw caps.length).map (·+n)
def Z05(C:MC G)(H1:Hp)(fp:Fp)(O0:St):MC G:=⟨H1,Foot fp,λa=>(C.L a\/C.H₀ a=YC)/\¬Foot fp a,O0⟩
def Zf8(ex:YG->Prop)(D:YG)(fp fpb:Fp)(a:YG):Prop:=ex a\/a=D\/(Foot fp a/\¬Foot fpb a)
section
variable {C:MC G}{O:St}{D:YG}{n:Nat}
theorem Zc8{k:Nat}(h:a∈Jg n caps fp k):∃i,n<=k/\caps[k-n]? =YB i/\a∈fp i:=by
 unfold Jg at h;split at h
 .exact nomatch h
 .split at h
  .rename_i i e
   exact⟨i,by omega,e,h⟩
  .exact nomatch h
theorem Zyd(h:caps[j]? =YB i):Jg n caps fp (n+j)=fp i:=by
 unfold Jg;rw[YM (by omega),show n+j-n=j by omega,h]
theorem Yaw{k:Nat}{t:OT}(h:(blk n caps δ)[k]? =YB (YB t)):∃i,n<=k/\caps[k-n]? =YB i/\δ[i]? =YB (YB t):=by
 unfold blk at h;rw[V7]at h;split at h
 .rw[Ur]at h
  split at h<;>cases h
 .rename_i hk
  rw[VP]at hk h;rw[Xm]at h;cases e:caps[k-n]? with
  | none=>rw[e]at h;cases h
  | some i=>
   rw[e]at h;refine⟨i,by omega,rfl,?_⟩;simp only[Qj]at h;cases e2:δ[i]? with
   | none=>rw[e2]at h;cases h
   | some o=>
    rw[e2]at h;simpa using h
theorem Rel.block(R:Rel C io H1 O δ fp ex)(nd:caps.Nodup)(hD:H1 D=YC) :
  Rel (Z05 C H1 fp (J7 own caps O)) (Jv own.length caps) (upd H1 D (.lst [])) (J7 own caps O) (blk own.length caps δ) (Jg own.length caps fp) (Zf8 ex D fp (Jg own.length caps fp)):=by
 have s:=Zz hD (.lst []);have sub:∀a,Foot (Jg own.length caps fp) a->Foot fp a:=λa q91=>by
  obtain⟨k,z⟩:=q91;obtain⟨i,_,_,z⟩:=Zc8 z;exact⟨i,z⟩
 have neD:∀a,H1 a≠YC->a≠D:=λa h z=>h (z▸hD);refine⟨by unfold J7 blk;simp,λk t e=>?_,λk h=>?_,λk=>?_,λk l a h1 h2=>?_,λk a h z=>?_,λa z=>?_,λb o e _=>s _ _ e,λb e=>s.free e,λk a h=>?_,λk _=>rfl⟩
 .obtain⟨i,hk,e1,e2⟩:=Yaw e
  obtain⟨v,e3,o⟩:=R.own i t e2;refine⟨v,?_,?_⟩
  .unfold J7
   rw[JN (by simpa using hk),Xe,Xm,e1];simp[e3]
  .have ef:Jg own.length caps fp k=fp i:=by
    have:=Zyd (n:=own.length) (fp:=fp) e1
    rwa[show own.length+(k-own.length)=k by omega]at this
   rw[ef];refine(o.wide λa l q=>⟨λz=>l.1 (sub a z),λz=>?_,.inl ⟨l.2.2,l.1⟩⟩).same s;rcases z with z|z|z
   .exact l.2.1 z
   .exact neD a q z
   .exact l.1 z.1
 .unfold Jg
  split
  .rfl
  .split
   .rename_i i e1
    refine R.emp i λt z=>h t ?_;unfold blk;rw[JN (by rw[VP];omega),VP,Xm,e1];simp[z]
   .rfl
 .unfold Jg
  split
  .exact .nil
  .split
   .exact R.nd _
   .exact .nil
 .obtain⟨i,hk,e1,m1⟩:=Zc8 h1
  obtain⟨j,hl,e2,m2⟩:=Zc8 h2;have:=R.dj i j a m1 m2;subst this;have hlt:=(Xu.mp e1).1;have:=(List.getElem?_inj hlt nd).mp (e1.trans e2.symm);omega
 .obtain⟨i,hk,e1,m⟩:=Zc8 h
  rcases z with z|z|z
  .exact R.dx i a m z
  .exact R.footSome (z▸hD) ⟨i,m⟩
  .exact z.2 ⟨k,h⟩
 .rcases z with z|z|z
  .intro q;exact R.xa a z (s.free q)
  .subst z;rw[Zx];intro q;cases q
  .obtain⟨xs,e⟩:=R.foot z.1
   rw[s _ _ e];intro q;cases q
 .obtain⟨i,hk,e1,m⟩:=Zc8 h
  refine .inl ⟨?_,⟨i,m⟩⟩;have:=(Xu.mp e1).1;exact XM.mpr ⟨k-own.length,by simpa using this,by omega⟩
theorem Z74{O0:St}(hx:∀a,ex a->ex' a)(l:Lf (Z05 C H1 fp O0) fp' ex' a):Lf C fp ex a\/H1 a=YC:=by
 obtain⟨l1,l2,l3⟩:=l;rcases l3 with l3|l3
 .exact .inl ⟨l3.2,λz=>l2 (hx a z),l3.1⟩
 .exact .inr l3
theorem Rel.poke(R:Rel C io H' O δ fp ex)(hx:ex D)(hD:H' D=YB (.lst xs))(h0:C.H₀ D=YC):Rel C io (upd H' D (.lst ys)) O δ fp ex:=by
 have nf:¬Foot fp D:=λ⟨i,z⟩=>R.dx i D z hx;have kp:∀b o,b≠D->H' b=YB o->upd H' D (.lst ys) b=YB o:=λb o n e=>by rw[Zu n];exact e
 refine⟨R.len,λi t e=>?_,R.emp,R.nd,R.dj,R.dx,λa z=>?_,λb o e n=>?_,λb e=>?_,R.new,R.io⟩
 .obtain⟨v,e1,o⟩:=R.own i t e
  refine⟨v,e1,o.frame (λa zs l q=>⟨l,?_⟩) (λa zs q=>kp a _ (λz=>?_) q) λa m zs q=>kp a _ (λz=>nf ⟨i,z▸m⟩) q⟩
  .have na:a≠D:=λz=>l.2.1 (z▸hx)
   rcases q with q|⟨u,q⟩
   .exact .inl (kp a _ na q)
   .exact .inr ⟨u,kp a _ na q⟩
  .exact ImO.nl q (z▸hD)
 .by_cases e:a=D
  .subst e;rw[Zx];intro q;cases q
  .rw[Zu e];exact R.xa a z
 .refine kp b o (λz=>?_) (R.fr b o e n)
  rw[z,h0]at e;cases e
 .refine R.al b ?_
  by_cases q:b=D
  .subst q;rw[Zx]at e;cases e
  .rwa[Zu q]at e
theorem Owns.poke{zs:List V}{rs:List OT}(o:Owns G H' L zs rs as)(hD:H' D=BK (HO.lst xs))(hL:¬L D)(hn:D∉as):Owns G (upd H' D (.lst ys)) L zs rs as:=by
 refine o.frame (λa zs l q=>⟨l,?_⟩) (λa zs q=>?_) λa m zs q=>?_
 .have na:a≠D:=λz=>hL (z▸l)
  rcases q with q|⟨u,q⟩
  .exact .inl (by rw[Zu na];exact q)
  .exact .inr ⟨u,by rw[Zu na];exact q⟩
 .rw[Zu (λz=>ImO.nl q (z▸hD))];exact q
 .have na:a≠D:=λz=>hn (by rw[<-z];exact m)
  rw[Zu na];exact q
theorem Owns.snoc{rs:List OT}{bs:List YG}{x:V}{r:OT}(h:Owns G H' L xs rs as)(k:Own G H' L x r bs):Owns G H' L (xs++[x]) (rs++[r]) (as++bs) :=
 Owns.rec (motive_1:=λ_ _ _ _=>True) (motive_2:=λxs rs as _=>Owns G H' L (xs++[x]) (rs++[r]) (as++bs)) (λ_=>trivial) (λ_ _ _=>trivial) (λ_ _ _=>trivial) (λ_ _ _=>trivial) (by have:=Owns.cons k .nil;rwa[JP]at this) (λk _ _ ih=>by rw[BW];exact .cons k ih) h
end
structure Z0u(C:MC G)(H1:Hp)(fp1:Fp)(ex:YG->Prop)(n:Nat)(caps:List Nat)(O0:St)(D:YG)(pb:Bool)(H':Hp)(O':St)(δ':Zi)(fp':Fp)(ys:List V)(rs:List OT)(new:List YG):Prop where
 keep:∀b o,H1 b=YB o->(pb=YD\/¬Foot (Jg n caps fp1) b)->H' b=YB o
 al:∀b,H' b=YC->H1 b=YC
 dat:H' D=YB (.lst ys)
 rel:Rel (Z05 C H1 fp1 O0) (Jv n caps) H' O' δ' fp' (exu (Zf8 ex D fp1 (Jg n caps fp1)) new)
 grow:∀a,Foot fp' a->Foot (Jg n caps fp1) a\/H1 a=YC
 own:Owns G H' (λa=>YD=YD->Lf (Z05 C H1 fp1 O0) fp' (exu (Zf8 ex D fp1 (Jg n caps fp1)) new) a) ys rs new
 nd:new.Nodup
 fresh:∀a∈new,H1 a=YC/\a≠D
section
variable {pt pe ci:Bool}{g:MGt}{mt:MTt}{me:MEt}
theorem Zvq{C:MC G}{O:St}{D:YG}{Qf:Hp->Prop}(I:Nat->List OT->Zi->Prop)(R1:Rel C io H1 O δ1 fp1 ex)
  (it:∀H':Hp,(∀b o,H1 b=YB o->((pt&&pe)=YD\/¬Foot (Jg own.length caps fp1) b)->H' b=YB o)->∀i:Nat,(∀d,ds[i]? =YB d->J.go i H'/\∀x H'',J.yld i H' x H''->Same H' H''/\Da G H'' (λa=>ci=YD->(Lf C fp1 ex a/\H1 a≠YC)) x d)/\(ds[i]? =YC->J.stop i H'))
  (nd:caps.Nodup) (hD:H1 D=YC) (hz:ds.length<=Xv) (h0:I 0 [] (blk own.length caps δ1))
  (turn:∀(i:Nat) (d:Xa) (rs:List OT) (δ':Zi),ds[i]? =YB d->I i rs δ'->g d δ' λδ2=>mt δ2 λb δ3=>if b=YD then me δ3 λr δ4=>I (i+1) (rs++[r]) δ4 else I (i+1) rs δ3)
  (fin:∀H' O' δ' fp' ys rs new,Z0u C H1 fp1 ex own.length caps (J7 own caps O) D (pt&&pe) H' O' δ' fp' ys rs new->I ds.length rs δ'->Qf H') :
  Z54 J (gM G (Jv own.length caps) ci g) (ttM G (Jv own.length caps) pt mt) (tM G (Jv own.length caps) pe YD me) (J7 own caps O) D Qf H1:=by
 have hx:Zf8 ex D fp1 (Jg own.length caps fp1) D:=.inr (.inl rfl);refine⟨λi n O' H'=>n=ds.length-i/\i<=ds.length/\∃rs ys new δ' fp',Z0u C H1 fp1 ex own.length caps (J7 own caps O) D (pt&&pe) H' O' δ' fp' ys rs new/\ys.length<=i/\I i rs δ',⟨ds.length,rfl,QS _,[],[],[],_,_,⟨λb o e _=>Zz hD _ _ _ e,(Zz hD _).al,Zx,?_,λa z=>.inl z,.nil,.nil,λa m=>(nomatch m)⟩,XJ _,h0⟩,?_⟩
 .exact(R1.block nd hD).drop λa z=>J2.mp z
 rintro i n O2 H2 ⟨rfl,hle,rs,ys,new,δ2,fp2,B,hl,i2⟩;have subB:∀b,Foot (Jg own.length caps fp1) b->Foot fp1 b:=λb q92=>by
  obtain⟨k,z⟩:=q92;obtain⟨i,_,_,z⟩:=Zc8 z;exact⟨i,z⟩
 have itk:=it H2 B.keep i
 by_cases hlt:i<ds.length
 case neg=>
  have e:i=ds.length:=by omega
  subst e;exact .inl ⟨itk.2 (by simp),fin H2 O2 δ2 fp2 ys rs new B i2⟩
 have hd:ds[i]? =YB ds[i]:=Xi hlt;obtain⟨go,yl⟩:=itk.1 _ hd;refine .inr ⟨go,λx H3 hy=>?_⟩;obtain⟨s3,q3⟩:=yl x H3 hy;have R3:=B.rel.mk0 s3;have D3:H3 D=YB (.lst ys):=s3 _ _ B.dat
 -- the item,clean in the block
 have q3':Da G H3 (λa=>ci=YD->Lf (Z05 C H1 fp1 (J7 own caps O)) fp2 (exu (Zf8 ex D fp1 (Jg own.length caps fp1)) new) a) x ds[i]:=by
  refine q3.wide λa l _ z=>?_;obtain⟨⟨l1,l2,l3⟩,l4⟩:=l z;refine⟨λw=>?_,λw=>?_,.inl ⟨l3,l1⟩⟩
  .rcases B.grow a w with w|w
   .exact l1 (subB a w)
   .exact l4 w
  .rcases w with(w|w|w)|w
   .exact l2 w
   .subst w;exact l4 hD
   .exact l1 w.1
   .exact l4 (B.fresh a w).1
 refine⟨_,δ2,fp2,_,_,_,R3,q3',turn i _ rs δ2 hd i2,λO4 δ4 fp4 R4 k4 h4=>?_⟩;refine⟨_,δ4,fp4,_,_,R4,h4,λH5 b δ5 fp5 R5 S5 h5=>?_⟩
 -- the state behind the test
 have keep5:∀b o,H1 b=YB o->((pt&&pe)=YD\/¬Foot (Jg own.length caps fp1) b)->H5 b=YB o:=λb o e q=>by
  refine S5.keep b o (s3 _ _ (B.keep b o e q)) ?_;rcases q with q|q
  .rw[Xp]at q;exact .inl q.1
  .refine .inr λz=>?_
   rcases k4.grow b z with z|z
   .rcases B.grow b z with z|z
    .exact q z
    .rw[e]at z;cases z
   .rw[s3 _ _ (B.keep b o e (.inr q))]at z;cases z
 have al5:∀b,H5 b=YC->H1 b=YC:=λb e=>B.al b (s3.al b (S5.al b e));have grow4:∀a,Foot fp4 a->Foot (Jg own.length caps fp1) a\/H1 a=YC:=λa z=>by
  rcases k4.grow a z with z|z
  .exact B.grow a z
  .exact .inr (B.al a (s3.al a z))
 have grow5:∀a,Foot fp5 a->Foot (Jg own.length caps fp1) a\/H1 a=YC:=λa z=>by
  rcases S5.grow a z with z|z
  .exact grow4 a z
  .exact .inr (B.al a (s3.al a z))
 have D5:H5 D=YB (.lst ys):=S5.keep D _ D3 (.inr λ⟨k,z⟩=>R4.dx k D z (.inl hx));have own3:=B.own.same s3
 -- the items so far behind the target and the test
 have own4:Owns G H3 (λa=>YD=YD->Lf (Z05 C H1 fp1 (J7 own caps O)) fp4 (exu (Zf8 ex D fp1 (Jg own.length caps fp1)) new) a) ys rs new:=by
  refine own3.wide λa l q z=>?_;obtain⟨l1,l2,l3⟩:=l z;exact⟨λw=>(k4.grow a w).elim l1 q,l2,l3⟩
 have own5:=R4.owns_step (ex':=exu (Zf8 ex D fp1 (Jg own.length caps fp1)) new) S5 (c:=YD) (.inr rfl) (λa z=>.inl z) (λa m=>.inr m) own4;dsimp only at h5|-
 cases b with
 | false=>
  rw[YM Xn]at h5|-
  exact⟨ds.length-(i+1),by omega,rfl,hlt,rs,ys,new,δ5,fp5,⟨keep5,al5,D5,R5,grow5,own5,B.nd,B.fresh⟩,by omega,h5⟩
 | true=>
  rw[YL rfl]at h5|-
  refine⟨_,δ5,fp5,_,_,R5,h5,λH6 v r δ6 fp6 nr r6 h6=>?_⟩;have D6:H6 D=YB (.lst ys):=r6.stp.keep D _ D5 (.inr λ⟨k,z⟩=>R5.dx k D z (.inl hx));have hDnr:D∉nr:=λz=>by
   have:=r6.fresh D z;rw[D5]at this;cases this
  have own6:=R5.owns_step (ex':=exu (exu (Zf8 ex D fp1 (Jg own.length caps fp1)) new) nr) r6.stp (c:=YD) (.inr rfl) (λa z=>z.imp id λz=>r6.fresh a z) (λa m=>.inr m) own5;have eqx:∀a,exu (Zf8 ex D fp1 (Jg own.length caps fp1)) (new++nr) a->exu (exu (Zf8 ex D fp1 (Jg own.length caps fp1)) new) nr a:=λa z=>by
   rcases z with z|z
   .exact .inl (.inl z)
   .rcases Qo.mp z with z|z
    .exact .inl (.inr z)
    .exact .inr z
  have lw:∀a,(YD=YD->Lf (Z05 C H1 fp1 (J7 own caps O)) fp6 (exu (exu (Zf8 ex D fp1 (Jg own.length caps fp1)) new) nr) a)->H6 a≠YC->(YD=YD->Lf (Z05 C H1 fp1 (J7 own caps O)) fp6 (exu (Zf8 ex D fp1 (Jg own.length caps fp1)) (new++nr)) a) :=
   λa l _ z=>⟨(l z).1,λw=>(l z).2.1 (eqx a w),(l z).2.2⟩
  have ownA:=(own6.snoc r6.own).wide lw;refine⟨ys,D6,by omega,ds.length-(i+1),by omega,rfl,hlt,rs++[r],ys++[v],new++nr,δ6,fp6,⟨λb o e q=>?_,λb e=>?_,Zx,?_,λa z=>?_,?_,?_,λa m=>?_⟩,by rw[XH];show ys.length+1<=i+1;omega,h6⟩
  .have nD:b≠D:=λz=>by rw[z,hD]at e;cases e
   rw[Zu nD];refine r6.stp.keep b o (keep5 b o e q) ?_;rcases q with q|q
   .rw[Xp]at q;exact .inl q.2
   .refine .inr λz=>?_
    rcases grow5 b z with z|z
    .exact q z
    .rw[e]at z;cases z
  .by_cases q:b=D
   .subst q;rw[Zx]at e;cases e
   .rw[Zu q]at e
    exact al5 b (r6.stp.al b e)
  .exact(r6.rel.drop eqx).poke (.inl hx) D6 hD
  .rcases r6.stp.grow a z with z|z
   .exact grow5 a z
   .exact .inr (al5 a z)
  .exact ownA.poke D6 (λz=>(z rfl).2.1 (.inl hx)) (λm=>by
    rcases Qo.mp m with m|m
    .exact(B.fresh D m).2 rfl
    .exact hDnr m)
  .refine JW.mpr ⟨B.nd,r6.nd,λa m b m' z=>?_⟩
   subst z;obtain⟨xs,e⟩:=own5.some a m;rw[r6.fresh a m']at e;cases e
  .rcases Qo.mp m with m|m
   .exact B.fresh a m
   .exact⟨al5 a (r6.fresh a m),λz=>hDnr (z▸m)⟩
end
section
variable {pt pe ci:Bool}{g:MGt}{mt:MTt}{me:MEt}{mi:MIt}
def Z8f(n:Nat)(caps:List Nat)(ds:List Xa)(g:MGt)(mt:MTt)(me:MEt)(δ1:Zi)(K:OT->Zi->Prop):Prop:=ds.length<=Xv/\∃I:Nat->List OT->Zi->Prop,I 0 [] (blk n caps δ1)/\
 (∀ (i:Nat) (d:Xa) (rs:List OT) (δ':Zi),ds[i]? =YB d->I i rs δ'->g d δ' λδ2=>mt δ2 λb δ3=>if b=YD then me δ3 λr δ4=>I (i+1) (rs++[r]) δ4 else I (i+1) rs δ3)/\
 ∀rs δ',I ds.length rs δ'->K (.nd rs) δ1
def Zfm(n:Nat)(caps:List Nat)(mi:MIt)(g:MGt)(mt:MTt)(me:MEt):MEt:=λδ K=>mi δ λds δ1=>Z8f n caps ds g mt me δ1 K
theorem Zxx{wi:TI}(si:SI G io p ci wi mi)(nd:caps.Nodup)(hp:(pt&&pe)=YD) :
  SE G io p YD (Z2j own caps wi (gM G (Jv own.length caps) ci g) (ttM G (Jv own.length caps) pt mt) (tM G (Jv own.length caps) pe YD me)) (Zfm own.length caps mi g mt me):=by
 intro C H O δ fp ex K Q R h k;refine si C H O δ fp ex _ _ R h λJ H1 ds δ1 fp1 R1 S1 it h1 D hD=>?_;obtain⟨hz,I,h0,turn,fin⟩:=h1;refine Zvq I R1 (λH' kp=>it H' λb o e _=>kp b o e (.inl hp)) nd hD hz h0 turn λH' O' δ' fp' ys rs new B i'=>?_;have s:Same H1 H':=λb o e=>B.keep b o e (.inl hp);refine k H' (.ref D) (.nd rs) δ1 fp1 (D::new) (RE.tree R R1 S1 s (λa m=>?_) (Qn.mpr ⟨λm=>(B.fresh D m).2 rfl,B.nd⟩) (.nd B.dat (B.own.wide λa l _=>?_))) (fin rs δ' i')
 .rcases Xo.mp m with rfl|m
  .exact hD
  .exact(B.fresh a m).1
 .refine⟨?_,λm=>?_⟩
  .rcases Z74 (λa z=>.inl (.inl z)) (l rfl)with z|z
   .exact .inl λ_=>z
   .exact .inr z
  .rcases Xo.mp m with z|z
   .exact(l rfl).2.1 (.inl (.inr (.inl z)))
   .exact(l rfl).2.1 (.inr z)
variable {sc:UW}
theorem Yb0(S:CompScope X own caps N' sc)(hc:X.calm=YD)(nd:caps.Nodup)(hi:MI X io p ci tg iter mi)
  (hg:∀C cells s₂ H₂ fp,MG (Yt X N' sc C cells s₂ H₂ fp) (Jv own.length caps) ci tg g) (ht:∀C cells s₂ H₂ fp,MIfs (Yt X N' sc C cells s₂ H₂ fp) (Jv own.length caps) pt ifs mt) (he:∀C cells s₂ H₂ fp,ME (Yt X N' sc C cells s₂ H₂ fp) (Jv own.length caps) pe YD elt me)
  (hp:(pt&&pe)=YD:=by rfl) (hs:∀x,Bv iter X.env x=pure x:=by intro _;rfl):ME X io p YD (.ListComp elt [⟨tg,iter,ifs,0⟩] sc pos) (Zfm own.length caps mi g mt me):=by
 obtain⟨_,A,si⟩:=hi;exact⟨_,Z6m S hc A (λC cells s₂ H₂ fp=>(hg C cells s₂ H₂ fp).canon) (λC cells s₂ H₂ fp=>(ht C cells s₂ H₂ fp).canon) (λC cells s₂ H₂ fp=>(he C cells s₂ H₂ fp).canon) hs,Zxx si nd hp⟩
section
variable {y:Str}
theorem Zdc(own':Bool)(hN:X.N.Nodup)(hy:X.N[i]? =YB y)(hx:Loc X.env.scope y)(S:CompScope X own caps N' sc)(hc:X.calm=YD)(nd:caps.Nodup)(hi:MI X io p ci tg iter mi)
  (hg:∀C cells s₂ H₂ fp,MG (Yt X N' sc C cells s₂ H₂ fp) (Jv own.length caps) ci tg g) (ht:∀C cells s₂ H₂ fp,MIfs (Yt X N' sc C cells s₂ H₂ fp) (Jv own.length caps) pt ifs mt) (he:∀C cells s₂ H₂ fp,ME (Yt X N' sc C cells s₂ H₂ fp) (Jv own.length caps) pe YD elt me)
  (hp:(pt&&pe)=YD:=by rfl) (hio:i∉io:=by decide)
  (hsw:VL (.ListComp elt [⟨tg,iter,ifs,0⟩] sc pos) (YB (.Name y py)) spos.line X.env=pure YD:=by rfl)
  (hs:∀x,Bv iter X.env x=pure x:=by intro _;rfl) (hf:X.fn y=YD\/X.env.scope.names.lookup y=YB .local:=by first|exact .inl rfl|exact .inr rfl|assumption) :
  MS X io (.Assign [.Name y py] (.ListComp elt [⟨tg,iter,ifs,0⟩] sc pos) spos) (if own'=YD then Zmi i (Zfm own.length caps mi g mt me)else Z7h i (Zfm own.length caps mi g mt me)):=by
 obtain⟨_,A,si⟩:=hi;refine⟨_,Zi5 (g:=gM X.K (Jv own.length caps) ci g) (tt:=ttM X.K (Jv own.length caps) pt mt) (te:=tM X.K (Jv own.length caps) pe YD me) hN hy hx S hc A (λC cells s₂ H₂ fp=>(hg C cells s₂ H₂ fp).canon) (λC cells s₂ H₂ fp=>(ht C cells s₂ H₂ fp).canon) (λC cells s₂ H₂ fp=>(he C cells s₂ H₂ fp).canon) hsw hs hf,?_⟩;cases own'
 .exact Yif (Zxx si nd hp) hio
 .exact Z5m (Zxx si nd hp) hio
end
end
section
variable {O:St}
def Yau(K:Xc):R2:=λx y H Q=>∃l b xs zs,x= .ref l/\y= .ref b/\SqL K H l xs/\SqL K H b zs/\xs.length+zs.length<=Xv/\∀p,H p=YC->Q (.ref p) (upd H p (.lst (xs++zs)))
theorem Inv.lstQ(hK:X.K=K)(I:Inv X pins O H s)(hH:SqL K H l xs):∃(its:List Xf) (n:Nat),Vals xs its/\xs.length=its.length/\∃o,s.heap.get? l=YB o/\o.cls= .type "list"/\o.dict=YC/\o.data= .seq its.toArray n:=by
 subst hK;obtain⟨its,r,⟨o,n,e,h1,h2,h3⟩,_⟩:=I.list hH;exact⟨its,n,r,r.length,o,e,h1,h2,h3⟩
theorem Zke(hK:X.K=K):OpR X (VM .Add) (Yau K):=by
 intro pins s O H x y v u Q I rx ry h;obtain⟨l,b,xs,zs,rfl,rfl,hH,hB,hz,q⟩:=h;cases rx;cases ry;obtain⟨its,n,r,hl,⟨cls,dd,data,sl⟩,ho,hc,_,hd⟩:=I.lstQ hK hH;obtain⟨its2,n2,r2,hl2,⟨cls2,dd2,data2,sl2⟩,ho2,hc2,_,hd2⟩:=I.lstQ hK hB;simp only at hc hd hc2 hd2;subst hc hd hc2 hd2;have ea:its.toArray++its2.toArray=(its++its2).toArray:=by simp
 refine concat_meets ⟨_,ho,rfl⟩ ⟨_,ho2,rfl⟩ noFill_list_add seq_list_add PySem.F.slot_list_add PySem.F.entry_list_add (PySem.F.args_list_add_2 _ _) (list_addW l b its.toArray its2.toArray n n2 dd dd2 sl sl2 (by simp only[Xx];omega)) ⟨ho,ho2,?_⟩;rw[ea];exact⟨.ref _,_,I.lnew (t':=s.toks) (r.append r2) (by rw[XH];omega),rfl,q _ I.fresh⟩
end
def asI(d:Xa)(k:Int->Prop):Prop:=match d with| .int i=>k i|_=>False
def asL(d:Xa)(k:List Xa->Prop):Prop:=match d with| .list ds=>k ds|_=>False
section
variable {d:Xa}
theorem Da.intInv{k:Int->Prop}(q:Da G H L v d)(h:asI d k):∃i,v= .int i/\k i:=by
 cases q with
 | int b=>exact⟨b,rfl,h⟩
 | _=>exact h.elim
theorem Da.lstInv{k:List Xa->Prop}(q:Da G H L v d)(h:asL d k):∃a xs ds,v= .ref a/\SqL G H a xs/\Das G H L xs ds/\k ds:=by
 cases q with
 | lst l e r=>exact⟨_,_,_,rfl,.inl e,r,h⟩
 | scr s=>exact⟨_,_,_,rfl,s.sq,.ints _,h⟩
 | _=>exact h.elim
end
def d2I(C:Int->Int->Prop)(g:Int->Int->Xa):Xa->Xa->(Xa->Prop)->Prop:=λd e k=>asI d λi=>asI e λj=>C i j/\k (g i j)
def Zzc(g:Int->Int->Xa):Xa->Xa->(Xa->Prop)->Prop:=λd e k=>asI d λi=>asI e λj=>k (g i j)
theorem Z8s{C:Int->Int->Prop}{f:Int->Int->Int}:P2s G (rI C λi j=>.int (f i j)) (d2I C λi j=>.int (f i j)):=λH L x y d e k Q hx hy h kk=>by
 obtain⟨i,rfl,h⟩:=hx.intInv h;obtain⟨j,rfl,h⟩:=hy.intInv h;exact⟨i,j,rfl,rfl,h.1,kk _ _ (.int _) h.2⟩
structure MulOk(i j:Int):Prop where
 ok:IntMulOk i j
structure Ygy(i j:Int):Prop where
 ok:DivOk i j
structure Yi8(i j:Int):Prop where
 ok:Yc3 i j
theorem Ybq{f:Int->Int->Int}:P2s G (rI IntMulOk λi j=>.int (f i j)) (d2I MulOk λi j=>.int (f i j)):=λH L x y d e k Q hx hy h kk=>by
 obtain⟨i,rfl,h⟩:=hx.intInv h;obtain⟨j,rfl,h⟩:=hy.intInv h;exact⟨i,j,rfl,rfl,h.1.ok,kk _ _ (.int _) h.2⟩
theorem Z80{f:Int->Int->Int}:P2s G (rI DivOk λi j=>.int (f i j)) (d2I Ygy λi j=>.int (f i j)):=λH L x y d e k Q hx hy h kk=>by
 obtain⟨i,rfl,h⟩:=hx.intInv h;obtain⟨j,rfl,h⟩:=hy.intInv h;exact⟨i,j,rfl,rfl,h.1.ok,kk _ _ (.int _) h.2⟩
theorem Yb7{f:Int->Int->Int}:P2s G (rI Yc3 λi j=>.int (f i j)) (d2I Yi8 λi j=>.int (f i j)):=λH L x y d e k Q hx hy h kk=>by
 obtain⟨i,rfl,h⟩:=hx.intInv h;obtain⟨j,rfl,h⟩:=hy.intInv h;exact⟨i,j,rfl,rfl,h.1.ok,kk _ _ (.int _) h.2⟩
theorem Zsi{f:Int->Int->Int}:P2s G (rI0 λi j=>.int (f i j)) (Zzc λi j=>.int (f i j)):=λH L x y d e k Q hx hy h kk=>by
 obtain⟨i,rfl,h⟩:=hx.intInv h;obtain⟨j,rfl,h⟩:=hy.intInv h;exact⟨i,j,rfl,rfl,kk _ _ (.int _) h⟩
theorem Zgy{f:Int->Int->Bool}:P2s G (rI0 λi j=>.bl (f i j)) (Zzc λi j=>.bool (f i j)):=λH L x y d e k Q hx hy h kk=>by
 obtain⟨i,rfl,h⟩:=hx.intInv h;obtain⟨j,rfl,h⟩:=hy.intInv h;exact⟨i,j,rfl,rfl,kk _ _ (.bl _) h⟩
def Yg3(K:Xc):R2:=λx y H Q=>∃(L L':YG->Prop) (d e:Xa),Da K H L x d/\Da K H L' y e/\Shp d/\Shp e/\Q (.bl (QT d e)) H
def Yja(K:Xc):R2:=λx y H Q=>∃(L L':YG->Prop) (d e:Xa),Da K H L x d/\Da K H L' y e/\Shp d/\Shp e/\Q (.bl (!QT d e)) H
theorem Zpr(hu:X.A.units+64<UV):OpR X (Bj .Eq) (Yg3 X.K):=by
 intro pins s O H x y v u Q I rx ry h;obtain⟨L,L',d,e,h1,h2,s1,s2,q⟩:=h;obtain⟨as,k1⟩:=h1.reads rfl I rx (Uu s1);obtain⟨bs,k2⟩:=h2.reads rfl I ry (Uu s2);exact eq_dataH k1 k2 s1 s2 hu ⟨.bl _,H,I,rfl,q⟩
theorem Zph(hu:X.A.units+64<UV):OpR X (Bj .NotEq) (Yja X.K):=by
 intro pins s O H x y v u Q I rx ry h;obtain⟨L,L',d,e,h1,h2,s1,s2,q⟩:=h;obtain⟨as,k1⟩:=h1.reads rfl I rx (Uu s1);obtain⟨bs,k2⟩:=h2.reads rfl I ry (Uu s2);exact ne_dataH k1 k2 s1 s2 hu ⟨.bl _,H,I,rfl,q⟩
structure Yah(d:Xa):Prop where
 ok:Shp d
def dEq:Xa->Xa->(Xa->Prop)->Prop:=λd e k=>Yah d/\Yah e/\k (.bool (QT d e))
def dNe:Xa->Xa->(Xa->Prop)->Prop:=λd e k=>Yah d/\Yah e/\k (.bool (!QT d e))
theorem Zyk:P2s G (Yg3 G) dEq:=λH L x y d e k Q hx hy h kk=>⟨L,L,d,e,hx,hy,h.1.ok,h.2.1.ok,kk _ _ (.bl _) h.2.2⟩
theorem Zz5:P2s G (Yja G) dNe:=λH L x y d e k Q hx hy h kk=>⟨L,L,d,e,hx,hy,h.1.ok,h.2.1.ok,kk _ _ (.bl _) h.2.2⟩
def Ze9:Xa->Bool
 | .none=>YD
 | _=>YF
theorem Da.isNone{d:Xa}(h:Da G H L v d):decide (v= .non)=Ze9 d:=by
 cases h<;>rfl
def Z9f:Xa->Xa->(Xa->Prop)->Prop:=λd e k=>e= .none/\k (.bool (!Ze9 d))
theorem Zth:P2s G (λx y H Q=>y= .non/\Q (.bl (!decide (x= .non))) H) Z9f:=λH L x y d e k Q hx hy h kk=>by
 obtain⟨rfl,h⟩:=h;cases hy;exact⟨rfl,by rw[hx.isNone];exact kk _ _ (.bl _) h⟩
def scD:Xa->Bool
 | .none=>YD
 | .bool _=>YD
 | .int _=>YD
 | .str _=>YD
 | _=>YF
def eqS:Xa->Xa->Bool
 | .none,.none=>YD
 | .bool a,.bool b=>a==b
 | .bool a,.int b=>(if a then 1 else 0)==b
 | .int a,.bool b=>a==(if b then 1 else 0)
 | .int a,.int b=>a==b
 | .str a,.str b=>a==b
 | _,_=>YF
def memS(d:Xa)(ds:List Xa):Bool:=ds.any λe=>eqS e d
theorem Da.toSc{d:Xa}(h:Da G H L v d)(s:scD d=YD):ScD v d:=by
 cases h with
 | non=>exact .non
 | bl b=>exact .bl b
 | int i=>exact .int i
 | str x=>exact .str x
 | _=>cases s
theorem Da.sc{d:Xa}(h:Da G H L v d)(s:scD d=YD):Zhm v=YD:=by
 cases h.toSc s<;>rfl
theorem Das.sc{vs:List V}(h:Das G H L vs ds):ds.all scD=YD->vs.all Zhm=YD :=
 Das.ind (Q:=λvs ds=>ds.all scD=YD->vs.all Zhm=YD) (λ_=>rfl) (λh _ r s=>by
  rw[List.all_cons,Xp]at s;rw[List.all_cons,h.sc s.1,r s.2];rfl) h
theorem Da.eqS{u:V}{d e:Xa}(h:Da G H L v d)(g:Da G H L u e)(s:scD d=YD)(t:scD e=YD):eqV v u=L2.eqS d e:=by
 cases h.toSc s<;>cases g.toSc t<;>rfl
theorem Das.memS{d:Xa}(h:Da G H L v d)(s:scD d=YD){vs:List V}(g:Das G H L vs ds):ds.all scD=YD->inV v vs=L2.memS d ds :=
 Das.ind (Q:=λvs ds=>ds.all scD=YD->inV v vs=L2.memS d ds) (λ_=>rfl) (λg _ r t=>by
  rw[List.all_cons,Xp]at t;have:=r t.2;unfold inV L2.memS at*
  rw[Uj,Uj,this,g.eqS h t.1 s]) g
def dIn(neg:Bool):Xa->Xa->(Xa->Prop)->Prop:=λd e k=>scD d=YD/\match e with
 | .list ds=>ds.all scD=YD/\k (.bool (if neg then !memS d ds else memS d ds))
 | .tuple ds=>ds.all scD=YD/\k (.bool (if neg then !memS d ds else memS d ds))
 | _=>False
theorem Zrr{neg:Bool}:P2s G (rIn G neg) (dIn neg):=λH L x y d e k Q hx hy h kk=>by
 obtain⟨s,h⟩:=h;cases hy with
 | lst l e r=>exact⟨_,_,rfl,.inl (.inl e),hx.sc s,r.sc h.1,by rw[Das.memS hx s r h.1];exact kk _ _ (.bl _) h.2⟩
 | tup e r=>exact⟨_,_,rfl,.inr (.inl (.inl e)),hx.sc s,r.sc h.1,by rw[Das.memS hx s r h.1];exact kk _ _ (.bl _) h.2⟩
 | scr ks=>exact⟨_,_,rfl,.inl ks.sq,hx.sc s,(Das.ints (G:=G) (H:=H) (L:=L) _).sc h.1,by rw[Das.memS hx s (Das.ints (G:=G) (H:=H) (L:=L) _) h.1];exact kk _ _ (.bl _) h.2⟩
 | _=>exact h.elim
def ixD(d e:Xa):Option Xa:=match d,e with
 | .list ds,.int i=>atI ds i
 | .tuple ds,.int i=>atI ds i
 | _,_=>YC
def dIx:Xa->Xa->(OT->Prop)->Prop:=λd e k=>match ixD d e with|some x=>k (.fz x)|none=>False
theorem Das.atI{H:Hp}{L:YG->Prop}{xs:List V}{ds:List Xa}{i:Int}{d:Xa}(h:Das G H L xs ds)(e:L2.atI ds i=YB d):∃x,L2.atI xs i=YB x/\Da G H L x d:=by
 unfold L2.atI at*
 rw[h.length];cases q:ixN ds.length i with
 | none=>rw[q]at e;cases e
 | some j=>
  rw[q]at e;exact h.get e
theorem Yfc:P2 G (rIx G) dIx:=λH L x y d e k Q hx hy h kk=>by
 unfold dIx at h;split at h
 case h_2=>exact h.elim
 rename_i z ez;have fin:∀v,Da G H L v z->Q v H:=λv q=>kk H v (.fz z) [] (Same.refl _) (.fz (q.wide λa l _=>⟨.inl l,λm=>nomatch m⟩)) .nil (λa m=>nomatch m) h;cases hx with
 | lst l e1 r=>
  cases hy with
  | int i=>
   obtain⟨v,e2,q⟩:=r.atI (show L2.atI _ i=YB z from ez);exact .inl ⟨_,_,i,v,rfl,rfl,.inl e1,e2,fin v q⟩
  | _=>cases ez
 | tup e1 r=>
  cases hy with
  | int i=>
   obtain⟨v,e2,q⟩:=r.atI (show L2.atI _ i=YB z from ez);exact .inr (.inl ⟨_,_,i,v,rfl,rfl,.inl (.inl e1),e2,fin v q⟩)
  | _=>cases ez
 | scr ks=>
  cases hy with
  | int i=>
   obtain⟨v,e2,q⟩:=(Das.ints (G:=G) (H:=H) (L:=L) _).atI (show L2.atI _ i=YB z from ez);exact .inl ⟨_,_,i,v,rfl,rfl,ks.sq,e2,fin v q⟩
  | _=>cases ez
 | _=>cases ez
theorem Own.list{H:Hp}{L:YG->Prop}{p:YG}{xs:List V}{ds:List Xa}(hp:H p=YC)(h:Das G H L xs ds):Own G (upd H p (.lst xs)) (λa=>(L a\/H a=YC)/\a∉[p]) (.ref p) (.nd (ds.map OT.fz)) [p] :=
 .nd Zx (((h.wide λa l q=>⟨.inl l,λm=>q (by rw[Xj.mp m];exact hp)⟩).same (Zz hp _)).owns)
theorem J6{p:YG}(hp:H p=YC):∀a∈[p],H a=YC:=λa m=>by rw[Xj.mp m];exact hp
theorem Zbe(p:YG):[p].Nodup:=Qn.mpr ⟨λm=>(nomatch m),.nil⟩
def dCat:Xa->Xa->(OT->Prop)->Prop:=λd e k=>asL d λds=>asL e λes=>ds.length+es.length<=Xv/\k (.nd ((ds++es).map OT.fz))
theorem Zog:P2 G (Yau G) dCat:=λH L x y d e k Q hx hy h kk=>by
 obtain⟨a,xs,ds,rfl,e1,r1,h⟩:=hx.lstInv h;obtain⟨b,ys,es,rfl,e2,r2,h⟩:=hy.lstInv h;exact⟨a,b,xs,ys,rfl,rfl,e1,e2,by rw[r1.length,r2.length];exact h.1,λp hp=>kk _ _ _ [p] (Zz hp _) (Own.list hp (r1.append r2)) (Zbe p) (J6 hp) h.2⟩
def n1(k:Xa->Prop)(ds:List Xa):Prop:=match ds with|[d]=>k d|_=>False
def n2(k:Xa->Xa->Prop)(ds:List Xa):Prop:=match ds with|[d,e]=>k d e|_=>False
theorem Das.one{vs:List V}{k:Xa->Prop}(q:Das G H L vs ds)(h:n1 k ds):∃v d,vs=[v]/\ds=[d]/\Da G H L v d/\k d:=by
 cases q with
 | nil=>exact h.elim
 | cons q r=>
  cases r with
  | nil=>exact⟨_,_,rfl,rfl,q,h⟩
  | cons _ _=>exact h.elim
theorem Das.two{vs:List V}{k:Xa->Xa->Prop}(q:Das G H L vs ds)(h:n2 k ds):∃v u d e,vs=[v,u]/\ds=[d,e]/\Da G H L v d/\Da G H L u e/\k d e:=by
 cases q with
 | nil=>exact h.elim
 | cons q r=>
  cases r with
  | nil=>exact h.elim
  | cons q' r'=>
   cases r' with
   | nil=>exact⟨_,_,_,_,rfl,rfl,q,q',h⟩
   | cons _ _=>exact h.elim
def Zxt:Xa->Option Nat
 | .list ds=>YB ds.length
 | .tuple ds=>YB ds.length
 | _=>YC
def Yg5:List Xa->(Xa->Prop)->Prop:=λds k=>n1 (λd=>match Zxt d with|some n=>k (.int n)|none=>False) ds
theorem Zst:PNs G (Yht G) Yg5:=λH L xs ds k Q hx h kk=>by
 obtain⟨v,d,rfl,rfl,q,h⟩:=hx.one h;cases q with
 | lst l e r=>exact⟨_,_,rfl,.inl (.inl e),by rw[r.length];exact kk _ _ (.int _) h⟩
 | tup e r=>exact⟨_,_,rfl,.inr (.inl (.inl e)),by rw[r.length];exact kk _ _ (.int _) h⟩
 | scr ks=>exact⟨_,_,rfl,.inl ks.sq,by rw[(Das.ints (G:=G) (H:=H) (L:=L) _).length];exact kk _ _ (.int _) h⟩
 | _=>exact h.elim
def Yij:List Xa->(Xa->Prop)->Prop:=λds k=>n1 (λd=>asI d λi=>k (.int (if i<0 then -i else i))) ds
theorem Ztq:PNs G (λxs H Q=>∃i,xs=[.int i]/\Q (.int (if i<0 then -i else i)) H) Yij:=λH L xs ds k Q hx h kk=>by
 obtain⟨v,d,rfl,rfl,q,h⟩:=hx.one h;obtain⟨i,rfl,h⟩:=q.intInv h;exact⟨i,rfl,kk _ _ (.int _) h⟩
def Ygz:List Xa->(Xa->Prop)->Prop:=λds k=>n2 (λd e=>asI d λi=>asI e λj=>k (.int (if j<i then j else i))) ds
theorem Zvn:PNs G (λxs H Q=>∃i j,xs=[.int i,.int j]/\Q (.int (if j<i then j else i)) H) Ygz:=λH L xs ds k Q hx h kk=>by
 obtain⟨v,u,d,e,rfl,rfl,q,q',h⟩:=hx.two h;obtain⟨i,rfl,h⟩:=q.intInv h;obtain⟨j,rfl,h⟩:=q'.intInv h;exact⟨i,j,rfl,kk _ _ (.int _) h⟩
def Zf2:Xa->Option (List Xa)
 | .list ds=>YB ds
 | .tuple ds=>YB ds
 | _=>YC
def Yap:List Xa->(OT->Prop)->Prop:=λds k=>n1 (λd=>match Zf2 d with|some es=>k (.nd (es.map OT.fz))|none=>False) ds
theorem Z50:PN G (Zso G) Yap:=λH L xs ds k Q hx h kk=>by
 obtain⟨v,d,rfl,rfl,q,h⟩:=hx.one h;cases q with
 | lst l e r=>exact⟨_,_,rfl,.inl (.inl e),λp hp=>kk _ _ _ [p] (Zz hp _) (Own.list hp r) (Zbe p) (J6 hp) h⟩
 | tup e r=>exact⟨_,_,rfl,.inr (.inl (.inl e)),λp hp=>kk _ _ _ [p] (Zz hp _) (Own.list hp r) (Zbe p) (J6 hp) h⟩
 | scr ks=>exact⟨_,_,rfl,.inl ks.sq,λp hp=>kk _ _ _ [p] (Zz hp _) (Own.list hp (Das.ints _)) (Zbe p) (J6 hp) h⟩
 | _=>exact h.elim
section
variable {a:YJ}
def Yg7(m:MEt):MEt:=λδ K=>m δ λr δ'=>asI r.data λi=>K (.fz (.int (-i))) δ'
theorem Z6r(ha:ME X io p c a ma):ME X io p YD (.UnaryOp .USub a pos) (Yg7 ma):=by
 obtain⟨_,A,s⟩:=ha;exact⟨_,Yez Z8v A,λC H O δ fp ex K Q R h k=>s C H O δ fp ex _ _ R h λH' v r δ' fp' new r1 h1=>by
  obtain⟨i,rfl,h1⟩:=(r1.da R).intInv h1;exact⟨i,rfl,k H' _ _ δ' fp' [] (.fz r1.base r1.stp (.int _)) h1⟩⟩
def Zo9(T:String):Xa->Bool
 | .none=>YF
 | .bool _=>T=="bool"||T=="int"
 | .int _=>T=="int"
 | .str _=>T=="str"
 | .list _=>T=="list"
 | .tuple _=>T=="tuple"
 | .dict _=>YF
def Yhr(T:String)(m:MEt):MEt:=λδ K=>m δ λr δ'=>Zgq r.data=YF/\K (.fz (.bool (Zo9 T r.data))) δ'
end
variable {pe ci:Bool}{mi:MIt}{tk:Tok}
section
variable {g:Array GenState}{d:Drawn}{t:Nat}{os:OsState}{o:Obj}
theorem Z4y(M:Model)(hx:h.get? a=YB o)(hc:o.cls= .ref C):JV M h (typeOf (.ref a)) (.ref C):=hc▸(JV.ld hx).andThen .now
theorem Zxn{R:Result->Xg->Prop}(X:K.In h)(Z:Ze0 K C)(hx:h.get? a=YB o)(hc:o.cls= .ref C)(hq:R (.ok (.ret (.ref C))) ⟨h,g,d,t,os⟩) :
  codeAny (Qi prog w) A (.call (.builtin "getset_descriptor.__get__") ⟨[.builtin "object.__class__",.ref a,.ref C],[]⟩) R ⟨h,g,d,t,os⟩:=by
 have L1:JV (Qi prog w) h (isSubtype (.ref C) (.type (".".intercalate ("object.__class__".cutAt '.').dropLast))) YD:=by
  rw[F.owner_object_class];exact PySem.W.looks_subIn X Z.isO
 have T5:(⟨h,g,d,t,os⟩:Xg).TypeIs (.builtin "object.__class__") "getset_descriptor" :=F.typeOf_object_class;refine codeAny_call_builtin F.slot_gs_get.plain F.entry_gs_get (F.slot_gs_get.check _ _ _ _ _ _ _ _ T5 (F.args_gs_get _ _ _) ?_)
 repeat (any_goals (first|assumption|(with_reducible refine U5 hx ?_;rw[hc])|(with_reducible refine Xd (JV.at L1 ?_))|(with_reducible refine JV.at L1 ?_)|wp_step))
 refine⟨Code.quiet_builtin _ (by decide +kernel),codeAny_builtin F.entry_object_class ?_⟩
 repeat (any_goals (first|assumption|(with_reducible refine U5 hx ?_;rw[hc])|wp_step))
theorem Zql{Q:Fin->Xg->Prop}(X:K.In h)(Z:Ze0 K C)(hx:h.get? a=YB o)(hc:o.cls= .ref C)(hq:Q (.done (.ret (.ref C))) ⟨h,g,d,t,os⟩) :
  XX (Qi prog w) A (VG.«object.__getattribute__» ⟨[.ref a,.str "__class__" tk],[]⟩) Q E ⟨h,g,d,t,os⟩:=by
 have T5:(⟨h,g,d,t,os⟩:Xg).TypeIs (.builtin "object.__class__") "getset_descriptor" :=F.typeOf_object_class;have g5:=F.typeOf_object_class;have g6:=F.slot_gs_get.lookup;have g7:=F.slot_gs_set.lookup;have L4:=PySem.W.looks_findIn (M:=Qi prog w) X Z.cl
 repeat (any_goals (first|assumption|(with_reducible refine U5 hx ?_;rw[hc])|(with_reducible refine Xd (JV.at L4 ?_))|(with_reducible refine JV.at L4 ?_)|wp_step))
 refine Zxn X Z hx hc ?_
 repeat (any_goals (first|assumption|wp_step))
theorem Zp4{nameV:Xf}{Q:Unit->Xg->Prop}(X:K.In h)(Z:Ze0 K C)(hx:h.get? a=YB o)(hc:o.cls= .ref C)(hq:Q () ⟨h,g,d,t,os⟩) :
  XX M A (checkBuiltinCall "BaseException.__getattribute__" ⟨[.ref a,nameV],[]⟩) Q E ⟨h,g,d,t,os⟩:=by
 have e1:builtinKind "BaseException.__getattribute__"=YB .slot:=by decide +kernel
 have e2:splitId "BaseException.__getattribute__"=YB ("BaseException","__getattribute__"):=by decide +kernel
 have L1:=PySem.W.looks_subIn (M:=M) X Z.isB;have e3:=F.args_bexc_ga (.ref a) nameV;simp only[checkBuiltinCall,e1,e2];refine Xd ?_;unfold isInstance
 repeat (first|(with_reducible refine U5 hx ?_;rw[hc])|(with_reducible refine Xd (JV.at L1 ?_))|(with_reducible refine JV.at L1 ?_)|wp_step)
 exact hq
theorem Zsm{R:Result->Xg->Prop}(X:K.In h)(Z:Ze0 K C)(hx:h.get? a=YB o)(hc:o.cls= .ref C)(hq:R (.ok (.ret (.ref C))) ⟨h,g,d,t,os⟩) :
  codeAny (Qi prog w) A (.call (.builtin "BaseException.__getattribute__") ⟨[.ref a,.str "__class__" tk],[]⟩) R ⟨h,g,d,t,os⟩ :=
 codeAny_call_builtin F.excAttr_ValueError.ga.plain F.entry_bexc_ga (Zp4 X Z hx hc (Zql X Z hx hc hq))
theorem Z23{fill expr:Bool}(X:K.In h)(Z:Ze0 K C)(hx:h.get? a=YB o)(hc:o.cls= .ref C)(hq:Q (.ref C) ⟨h,g,d,t,os⟩) :
  XX (Qi prog w) A (getAttrBy (.ref a) (.str "__class__" tk) fill expr) Q E ⟨h,g,d,t,os⟩:=by
 have f3:=F.excAttr_ValueError.ga.bind (.ref a);have y0:(expr&&onTheHeap (Value.builtin "BaseException.__getattribute__"))=YF:=by cases expr<;>rfl
 have y2:(Value.builtin "BaseException.__getattribute__"==Value.builtin "object.__getattribute__")=YF:=by decide +kernel
 have y1:(onTheHeap (Qq C)&&Value.builtin "BaseException.__getattribute__"==Value.builtin "object.__getattribute__")=YF:=by rw[y2];rfl
 have L2:=PySem.W.looks_findIn (M:=Qi prog w) X Z.ga;have L3:=PySem.W.looks_findIn (M:=Qi prog w) X Z.gt
 repeat (any_goals (first|assumption|(with_reducible refine U5 hx ?_;rw[hc])|(with_reducible refine JV.at L2 ?_)|(with_reducible refine JV.at L3 ?_)|(with_reducible refine Xd (JV.at L2 ?_))|(with_reducible refine Xd (JV.at L3 ?_))|wp_step))
 refine Zsm X Z hx hc ?_
 repeat (any_goals (first|assumption|wp_step))
theorem Zty{Q:Option Xf->Xg->Prop}(X:K.In h)(Z:Ze0 K C)(hx:h.get? a=YB o)(hc:o.cls= .ref C)(hq:Q (YB (.ref C)) ⟨h,g,d,t+1,os⟩) :
  XX (Qi prog w) A (getAttr? (.ref a) "__class__") Q E ⟨h,g,d,t,os⟩:=by
 unfold getAttr? getAttrBy?
 repeat (any_goals (first|assumption|with_reducible apply Z23 X Z hx hc|wp_step))
end
theorem Zza(Z:Ze0 K C):PySem.W.KitX K (.ref a) (.ref C) (λh=>∃o,h.get? a=YB o/\o.cls= .ref C) where
 ty:=λM h _ p=>let⟨_,hx,hc⟩:=p;Z4y M hx hc
 it:=λM h X _=>by
  have z:=Z.isC;unfold PySem.W.clsIn at z;split at z
  .rename_i ho
   intro A' Q' E' s' k q;unfold isType loadHead;exact Xd (wpAny_loadPart (k _ _ (X _ _ ho)) (Xy q))
  .cases z
 ne:=λh tp dd its n sl X htp=>by
  have z:=Z.isC;refine Vt.mpr λq=>?_;have e:C=tp:=Qq.inj (YZ.mp q);subst e;unfold PySem.W.clsIn at z;split at z
  .rename_i ho
   have z:=(X _ _ ho).symm.trans htp;cases z
  .cases z
 ca:=fun{_ _ _ _ _ s} X p k=>by
  obtain⟨h,g,d,t,os⟩:=s;obtain⟨_,hx,hc⟩:=p;exact Zty X Z hx hc k
def tyD:Xa->String
 | .none=>"NoneType"
 | .bool _=>"bool"
 | .int _=>"int"
 | .str _=>"str"
 | .list _=>"list"
 | .tuple _=>"tuple"
 | .dict _=>"dict"
theorem Z1q{T:String}{d:Xa}(h:T="int"\/T="bool"\/T="str"\/T="list"\/T="tuple")(hd:∀kvs,d≠ .dict kvs):Vu K (.type (tyD d)) (.type T)=YB (Zo9 T d):=by
 rcases h with rfl|rfl|rfl|rfl|rfl<;>cases d<;>first|rfl|(exact YX rfl (hd _))|(unfold Vu PySem.W.kitCls;rfl)|(simp only[tyD,Zo9];decide +kernel)
def Yga(G:Xc):List V->Hp->VK->Prop:=λxs H Q=>∃(x:V) (T:String) (L:YG->Prop) (d:Xa),xs=[x,.ty T]/\Da G H L x d/\Zgq d=YF/\(T="int"\/T="bool"\/T="str"\/T="list"\/T="tuple")/\Q (.bl (Zo9 T d)) H
theorem Zs9(hK:X.K=G):Zar X (.builtin "isinstance") (Yga G):=by
 subst hK;intro pins s O H xs us Q I r h;obtain⟨x,T,L,d,rfl,q,hf,hT,h⟩:=h;obtain⟨u,w',rfl,r1,r2⟩:=vals2 r;cases(show w'=Value.type T from r2);have fin:∀tk:Nat,EP X pins O Q (.bool (Zo9 T d)) { s with toks:=tk }:=λtk=>⟨.bl _,H,I.tok tk,rfl,h⟩;cases q with
 | non=>exact Zap I r1 .non (Z1q (d:=.none) hT λ_ z=>by cases z) fin
 | bl b=>exact Zap I r1 (.bl b) (Z1q (d:=.bool b) hT λ_ z=>by cases z) fin
 | int b=>exact Zap I r1 (.int b) (Z1q (d:=.int b) hT λ_ z=>by cases z) fin
 | str b=>exact Zap I r1 (.str b) (Z1q (d:=.str b) hT λ_ z=>by cases z) fin
 | lst l e qs=>
  rename_i ds;rcases e with e|⟨o,e⟩
  .exact Zap I r1 (.lst e) (Z1q (d:=.list ds) hT λ_ z=>by cases z) fin
  .exact Zap I r1 (.frz e) (Z1q (d:=.list ds) hT λ_ z=>by cases z) fin
 | tup e qs=>
  rename_i ds;exact Zap I r1 (.tup e) (Z1q (d:=.tuple ds) hT λ_ z=>by cases z) fin
 | scr ks=>
  rename_i a ns;cases(show u=Qq a from r1);obtain⟨its,vs,⟨o,n,ho,hc,hd,hs⟩,_⟩:=I.list (ks.sq (H:=H));exact JC PySem.W.kitx_list I.kIn ⟨o,ho,hc⟩ (Z1q (d:=.list (ns.map Xl)) hT λ_ z=>by cases z) (λz=>nomatch z) fin
 | exc Z hn e=>
  rename_i a C x;cases(show u=Qq a from r1);obtain⟨⟨o,vs,ho,hc,_⟩,_,_⟩:=(show ObjOk X.prog X.w H s.heap a (.ext (ExO C a))from I.hok a _ e);refine JC (Zza Z) I.kIn ⟨o,ho,hc⟩ (b:=Zo9 T (exD x)) ?_ (λz=>nomatch z) fin;rcases hT with rfl|rfl|rfl|rfl|rfl
  .exact Z.k1
  .exact Z.k2
  .exact Z.k3
  .exact Z.k4
  .exact Z.k5
 | fn _=>cases hf
 | dic _ _ _ _=>unfold dcD Zgq at hf;cases hf
section
variable {a b:YJ}
theorem Zhb{T:Str}{T':String}(hT:T'="int"\/T'="bool"\/T'="str"\/T'="list"\/T'="tuple")(hg:Gl X "isinstance")(hm:X.mg "isinstance"=YC)(hv:Qk "isinstance"=YB (.builtin "isinstance"))
  (hg2:Gl X T) (hm2:X.mg T=YC) (hv2:Qk T=YB (.type T')) (ha:ME X io p c a ma) (hn:T≠"__name__" :=by decide) (hd:(T==("__debug__" : Str))=YF:=by decide)
  (he:Xq [a,.Name T p2] X.env=(YF,eval a X.env)::Xq [.Name T p2] X.env:=by rfl) (he2:Xq [.Name T p2] X.env=(YF,eval (.Name T p2) X.env)::Xq [] X.env:=by rfl) (hpl:(JK pos (Xq [.Name T p2] X.env)).any (·.1)=YF:=by rfl) :
  ME X io p YD (.Call (.Name "isinstance" pp) [a,.Name T p2] [] pos) (Yhr T' ma):=by
 obtain⟨_,A,s⟩:=ha;refine⟨_,Zgg (Zs9 rfl) hg hm hv (Za6 A (Za6 (Z4v (v:=.ty T') hg2 hm2 hv2 rfl hn hd) Zeu he2) he) (by decide) (by decide) he hpl,?_⟩;intro C H O δ fp ex K' Q R h k;refine s C H O δ fp ex _ _ R h λH' v r δ' fp' new r1 h1=>?_;exact⟨v,T',_,_,rfl,r1.da R,h1.1,hT,k H' _ _ δ' fp' [] (.fz r1.base r1.stp (.bl _)) h1.2⟩
abbrev MOt:=Zi->(Option Int->Zi->Prop)->Prop
def MO(X:Cx)(io:List Nat)(p:Bool)(e:Option YJ)(m:MOt):Prop:=∃t,PO X e t/\∀(C:MC X.K) (H:Hp) (O:St) (δ:Zi) (fp:Fp) (ex:YG->Prop) (K:Option Int->Zi->Prop) (Q:Option Int->Hp->Prop),Rel C io H O δ fp ex->m δ K ->
 (∀ H' b δ' fp',Rel C io H' O δ' fp' ex->Stp p H δ fp H' δ' fp'->K b δ'->Q b H')->t O H Q
def Zvl:MOt:=λδ K=>K YC δ
def Z7t(m:MEt):MOt:=λδ K=>m δ λr δ'=>asI r.data λi=>K (YB i) δ'
theorem Z4c:MO X io YD YC Zvl:=⟨_,Z3e,λC H O δ fp ex K Q R h k=>k H YC δ fp R (.refl _ _ _ _) h⟩
theorem Z4i(h:ME X io p c e m):MO X io p (YB e) (Z7t m):=by
 obtain⟨_,A,s⟩:=h;exact⟨_,Z39 A,λC H O δ fp ex K Q R h k=>s C H O δ fp ex _ _ R h λH' v r δ' fp' new r1 h1=>by
  obtain⟨i,rfl,h1⟩:=(r1.da R).intInv h1;exact⟨i,rfl,k H' _ δ' fp' r1.base r1.stp h1⟩⟩
def cutD(ds:List Xa)(lo hi:Option Int):List Xa:=(ds.drop (HT.sIx ds.length 0 lo)).take (HT.sIx ds.length ds.length hi-HT.sIx ds.length 0 lo)
theorem Das.cut(h:Das G H L xs ds)(lo hi:Option Int):Das G H L (Z7i xs lo hi) (cutD ds lo hi):=by
 unfold Z7i cutD;rw[h.length];exact(h.drop _).take _
def mSl(m:MEt)(ml mh:MOt):MEt:=λδ K=>m δ λr δ1=>ml δ1 λlo δ2=>mh δ2 λhi δ3=>asL r.data λds=>K (.nd ((cutD ds lo hi).map OT.fz)) δ3
theorem Yeq{lo hi:Option YJ}{ml mh:MOt}(ha:ME X io YD c a ma)(hl:MO X io YD lo ml)(hh:MO X io YD hi mh):ME X io YD c (.Subscript a (.Slice lo hi YC p2) pos) (mSl ma ml mh):=by
 obtain⟨_,A,s⟩:=ha;obtain⟨_,B,sl⟩:=hl;obtain⟨_,D,sh⟩:=hh;refine⟨_,Zxz (Zzf rfl) A B D,?_⟩;intro C H O δ fp ex K' Q R h k;refine s C H O δ fp ex _ _ R h λH1 v r δ1 fp1 new r1 h1=>?_;refine sl C H1 O δ1 fp1 ex _ _ r1.base h1 λH2 l δ2 fp2 R2 S2 h2=>?_;refine sh C H2 O δ2 fp2 ex _ _ R2 h2 λH3 u δ3 fp3 R3 S3 h3=>?_;have s2:Same H1 H2:=λb o e=>S2.keep b o e (.inl rfl);have s3:Same H2 H3:=λb o e=>S3.keep b o e (.inl rfl);obtain⟨e1,e2⟩:=r1.stp.env rfl;obtain⟨e3,e4⟩:=S2.env rfl;obtain⟨e5,e6⟩:=S3.env rfl;have q:=((r1.da R).same s2).same s3;obtain⟨a',xs,ds,rfl,e,qs,h3⟩:=q.lstInv h3;refine⟨a',xs,rfl,e,λp hp=>?_⟩;have S:=(r1.stp.trans S2).trans S3;refine k _ _ _ δ3 fp3 [p] (RE.tree R R3 S (Zz hp _) (J6 hp) (Zbe p) (Own.list hp ((qs.cut l u).wide λa l _=>?_))) h3;rw[e6,e4];exact l
theorem Owns.set{H:Hp}{L:YG->Prop}{x:V}{r:OT}(hr:Own G H L x r []):∀{xs:List V} {ts:List OT} {as:List YG} (j:Nat),Owns G H L xs ts as->∃bs,Owns G H L (xs.set j x) (ts.set j r) bs/\bs.Sublist as
 | _,_,_,_,.nil=>⟨[],.nil,.refl _⟩
 | _,_,_,0,.cons k t=>⟨_,.cons hr t,by simp⟩
 | _,_,_,j+1,.cons (as:=as) k t=>by
  obtain⟨bs,o,s⟩:=Owns.set hr j t;exact⟨as++bs,.cons k o,List.Sublist.append_left s as⟩
theorem Owns.get:∀{xs:List V} {ts:List OT} {as:List YG} {j:Nat} {t:OT},Owns G H L xs ts as->ts[j]? =BK t->∃x bs,xs[j]? =BK x/\Own G H L x t bs/\bs.Sublist as
 | _,_,_,_,_,.nil,e=>by simp at e
 | _,_,_,0,_,.cons k _,e=>by simp at e;subst e;exact⟨_,_,rfl,k,List.sublist_append_left _ _⟩
 | _,_,_,j+1,t,.cons _ r,e=>by
  obtain⟨x,bs,h1,h2,h3⟩:=Owns.get (j:=j) (t:=t) r (by simpa using e);exact⟨x,bs,by simpa using h1,h2,h3.trans (List.sublist_append_right _ _)⟩
theorem Rel.top{C:MC G}{O:St}{ts':List OT}{a':YG}{bs bs':List YG}(R:Rel C io H O δ fp ex)(hi:δ[i]? =YB (YB (.nd ts)))(hv:O[i]? =YB (YB (.ref a')))
  (hf:fp i=a'::bs) (hx:H a'=YB (.lst xs)) (o:Owns G H (Lf C fp ex) ys ts' bs') (hs:bs'.Sublist bs) :
  Rel C io (upd H a' (.lst ys)) O (δ.set i (YB (.nd ts'))) (fpu fp i (a'::bs')) ex/\Stp YF H δ fp (upd H a' (.lst ys)) (δ.set i (YB (.nd ts'))) (fpu fp i (a'::bs')):=by
 have nd:=R.nd i;rw[hf]at nd;have hn:=Qn.mp nd;have hm:a'∈fp i:=by rw[hf];exact .head _
 have ne':∀a,¬Foot fp a->a≠a':=λa h z=>h ⟨i,by rw[z];exact hm⟩;have kp:∀b o,H b=YB o->b≠a'->upd H a' (.lst ys) b=YB o:=λb o e n=>by rw[Zu n];exact e
 have sub:∀a,a∈a'::bs'->a∈fp i:=λa m=>by
  rw[hf];rcases Xo.mp m with rfl|m
  .exact .head _
  .exact .tail _ (hs.subset m)
 have o':Owns G (upd H a' (.lst ys)) (Lf C (fpu fp i (a'::bs')) (exu ex [])) ys ts' bs':=by
  have f0:∀a,¬Foot fp a->¬Foot (fpu fp i (a'::bs')) a:=λa h z=>by
   rcases z.of_u with z|⟨j,_,z⟩
   .exact h ⟨i,sub a z⟩
   .exact h ⟨j,z⟩
  have f1:∀a (zs:MuO),Lf C fp ex a->Rd H a zs.ho->Lf C (fpu fp i (a'::bs')) (exu ex []) a/\Rd (upd H a' (.lst ys)) a zs.ho:=λa zs l q=>by
   refine⟨⟨f0 a l.1,λz=>l.2.1 (J2.mp z),l.2.2⟩,?_⟩;rcases q with q|⟨u,q⟩
   .exact .inl (kp a _ q (ne' a l.1))
   .exact .inr ⟨u,kp a _ q (ne' a l.1)⟩
  have f2:∀a (zs:ImO),H a=YB zs.ho->upd H a' (.lst ys) a=YB zs.ho:=λa zs q=>kp a _ q λz=>ImO.nl q (z▸hx);exact o.frame f1 f2 λa m zs q=>kp a _ q λz=>hn.1 (hs.subset (z▸m))
 have key:=R.change (new:=[]) (as':=a'::bs') (t':=.nd ts') (H':=upd H a' (.lst ys)) hi hv (λb o e nb=>kp b o e λz=>nb (by rw[z];exact hm)) (λb e=>by
   by_cases q:b=a'
   .subst q;rw[Zx]at e;cases e
   .rwa[Zu q]at e) (.nd Zx o') (Qn.mpr ⟨λm=>hn.1 (hs.subset m),hn.2.sublist hs⟩) (λa m=>.inl (sub a m)) (λa m=>nomatch m)
 exact⟨key.1.drop λa z=>.inl z,key.2⟩
end
section
variable {a b:YJ}{mi mj:MEt}
theorem Rel.ownNd{C:MC G}{O:St}(R:Rel C io H O δ fp ex)(hi:δ[i]? =YB (YB (.nd ts))) :
  ∃a' xs bs,O[i]? =YB (YB (.ref a'))/\H a'=YB (.lst xs)/\Owns G H (Lf C fp ex) xs ts bs/\fp i=a'::bs:=by
 obtain⟨v,e,o⟩:=R.own i _ hi;generalize hf:fp i=as at o;cases o with
 | nd h r=>exact⟨_,_,_,e,h,r,rfl⟩
def Zje(i:Nat)(m:MEt):MSt:=λD δ=>match δ[i]? with
 | some (YB (.nd _))=>m δ λr δ1=>match δ1[i]? with
  | some (YB (.nd ts))=>ts.length<Xv/\D.nx (δ1.set i (YB (.nd (ts++[.fz r.data]))))
  | _=>False
 | _=>False
theorem Jx(i:Nat)(he:ME X io p YD e m)(hN:X.N[i]? =YB x:=by rfl)(hv:Vis X.env.scope x:=by first|exact QG rfl|exact Qt (QG rfl)|exact Qt (Qt rfl))(hd:(x==("__debug__" : Str))=YF:=by decide)
  (hcd:(x==("__classdict__" : Str))=YF:=by decide)
  (hbase:V5 (.Name x px) "append" X.env (eval (.Name x px) X.env)=eval (.Name x px) X.env:=by rfl)
  (hfew:((JK cpos (Xq [e] X.env)).all (λx=>!x.1)&&(backToKw cpos (UT [] X.env)).all (λx=>x.1.isSome)
   &&decide ([e].length+([]:List V0).length+(if([]:List V0).isEmpty then 0 else 1)<30))=YD:=by rfl)
  (hline:(apos.endLine==cpos.line)=YD:=by rfl) (hs:Xq [e] X.env=(YF,eval e X.env)::Xq [] X.env:=by rfl) (hplain:(JK cpos (Xq [] X.env)).any (·.1)=YF:=by rfl)
  (hsw:VL (.Call (.Attribute (.Name x px) "append" apos) [e] [] cpos) YC pos.line X.env=pure YF:=by rfl) :
  MS X io (.Expr (.Call (.Attribute (.Name x px) "append" apos) [e] [] cpos) pos) (Zje i m):=by
 obtain⟨_,A,s⟩:=he;refine⟨_,Zsh (Z22 PySem.F.plainAttrs_list PySem.F.slot_list_append PySem.F.type_list_append Zk3 (pv i hN hv hd hcd) (Za6 A Zeu hs) hbase hfew hline hs hplain) hsw,λC H O δ fp ex D D' R h E=>?_⟩;unfold Zje at h;split at h
 case h_2=>exact h.elim
 rename_i ts0 hi0;obtain⟨a',xs0,bs0,hv0,hx0,_,_⟩:=R.ownNd hi0;refine⟨_,hv0,.inl ⟨rfl,xs0,.inl (.inl hx0)⟩,?_⟩;refine s C H O δ fp ex _ _ R h λH1 v r δ1 fp1 new r1 h1=>?_;split at h1
 case h_2=>exact h1.elim
 rename_i ts1 hi1;have R1:=r1.base;obtain⟨a1,xs1,bs1,hv1,hx1,o1,hf1⟩:=R1.ownNd hi1;rw[hv0]at hv1;cases hv1;have q:=(r1.da R).wide (L':=Lf C fp1 ex) λa l _=>l rfl;refine⟨a',xs1,v,rfl,rfl,hx1,by rw[o1.length];exact h1.1,?_⟩;have o2:=o1.snoc (.fz q);obtain⟨R2,S2⟩:=R1.top hi1 hv0 hf1 hx1 o2 (by simp);exact E.nx _ O _ _ R2 (r1.stp.kp.trans S2.kp) h1.2
def Yb4(i:Nat)(m mi mj:MEt):MSt:=λD δ=>m δ λr δ1=>match δ1[i]? with
 | some (YB (.nd ts))=>mi δ1 λn _=>asI n.data λk=>match ixN ts.length k with
  | some j=>match ts[j]? with
   | some (.nd us)=>mj δ1 λn' _=>asI n'.data λk'=>match ixN us.length k' with
    | some j'=>D.nx (δ1.set i (YB (.nd (ts.set j (.nd (us.set j' (.fz r.data)))))))
    | none=>False
   | _=>False
  | none=>False
 | _=>False
theorem SE.pureAfter{t:TE}{C:MC G}{O:St}{K':OT->Zi->Prop}{Q:VK}(s:SE G io YD c t m)(R:Rel C io H O δ fp ex)(h:m δ K')(k:∀H' v r,Rel C io H' O δ fp ex->Same H H'->Da G H' (λa=>c=YD->Lf C fp ex a) v r.data->K' r δ->Q v H'):t O H Q :=
 s C H O δ fp ex _ _ R h λH1 v r δ1 fp1 new r1 h1=>by
  obtain⟨e1,e2⟩:=r1.stp.env rfl;have q:=r1.da R;have R1:=r1.base;rw[e1]at R1 h1;rw[e2]at R1 q;exact k H1 v r R1 (λb o e=>r1.stp.keep b o e (.inl rfl)) q h1
theorem Owns.deep{b':YG}{ws ws':List V}{us us':List OT}(hb:H b'=BK (HO.lst ws))(hL:¬L b')(hc:∀cs,Owns G H L ws us cs->∃cs',Owns G H L ws' us' cs'/\cs'.Sublist cs) :
  ∀{xs:List V} {ts:List OT} {as:List YG} {j:Nat},Owns G H L xs ts as->as.Nodup->xs[j]? =BK (.ref b')->ts[j]? =BK (.nd us)->∃as',Owns G (upd H b' (.lst ws')) L xs (ts.set j (.nd us')) as'/\as'.Sublist as/\b'∈as
 | _,_,_,_,.nil,_,e,_=>by simp at e
 | _,_,_,0,.cons (as:=as) (bs:=bs) k t,nd,e,e'=>by
  simp at e e';subst e e';have nd':=JW.mp nd;have kp:∀a o,a≠b'->H a=BK o->upd H b' (.lst ws') a=BK o:=λa o n q=>by rw[Zu n];exact q
  have f1:∀a (zs:MuO),L a->Rd H a zs.ho->L a/\Rd (upd H b' (.lst ws')) a zs.ho:=λa zs l q=>⟨l,by
   have na:a≠b':=λz=>hL (z▸l);rcases q with q|⟨u,q⟩
   .exact .inl (kp a _ na q)
   .exact .inr ⟨u,kp a _ na q⟩⟩
  have f2:∀a (zs:ImO),H a=BK zs.ho->upd H b' (.lst ws') a=BK zs.ho:=λa zs q=>kp a _ (λz=>ImO.nl q (z▸hb)) q;cases k with
  | nd h r=>
   rename_i xs0 as0;rw[hb]at h;cases h;have nd2:=Qn.mp nd'.1;obtain⟨cs',o',s'⟩:=hc _ r;refine⟨b'::cs'++bs,.cons (.nd Zx (o'.frame f1 f2 λa m zs q=>kp a _ (λz=>nd2.1 (s'.subset (z▸m))) q)) (t.frame f1 f2 λa m zs q=>kp a _ (λz=>nd'.2.2 b' (.head _) a m z.symm) q),List.Sublist.append_right (List.Sublist.cons₂ _ s') bs,Vq _ (.head _)⟩
 | _,_,_,j+1,.cons (as:=as) (bs:=bs) k t,nd,e,e'=>by
  have nd':=JW.mp nd;obtain⟨as',o,s,m⟩:=Owns.deep hb hL hc (j:=j) t nd'.2.1 (by simpa using e) (by simpa using e');have nb:b'∉as:=λz=>nd'.2.2 b' z b' m rfl;refine⟨as++as',.cons ?_ o,List.Sublist.append_left s as,QF _ m⟩;have kp:∀a o,a≠b'->H a=BK o->upd H b' (.lst ws') a=BK o:=λa o n q=>by rw[Zu n];exact q
  refine k.frame (λa zs l q=>⟨l,?_⟩) (λa zs q=>kp a _ (λz=>ImO.nl q (z▸hb)) q) λa m' zs q=>kp a _ (λz=>nb (z▸m')) q;have na:a≠b':=λz=>hL (z▸l);rcases q with q|⟨u,q⟩
  .exact .inl (kp a _ na q)
  .exact .inr ⟨u,kp a _ na q⟩
theorem Z7e(i:Nat)(he:ME X io p YD e m)(hj:ME X io YD c a mi)(hk:ME X io YD c' b mj)(hPa:Zgr a)(hN:X.N[i]? =YB x:=by rfl)(hv:Vis X.env.scope x:=by first|exact QG rfl|exact Qt (QG rfl)|exact Qt (Qt rfl))(hd:(x==("__debug__" : Str))=YF:=by decide)
  (hcd:(x==("__classdict__" : Str))=YF:=by decide)
  (hpg:∀{to ti:TE},PE X (.Subscript (.Name x px) a pp) to->PE X b ti->PG X (.Subscript (.Subscript (.Name x px) a pp) b p2) (Yhd to ti Z8b):=by intro _ _ A B;exact Z8x A B set_list)
  (hs:swapsWithSole [.Subscript (.Subscript (.Name x px) a pp) b p2] e pos.line X.env=pure YF:=by rfl) (hw:swappedStores [.Subscript (.Subscript (.Name x px) a pp) b p2] e X.env=pure YC:=by rfl)
  (h1:(Bf [.Subscript (.Subscript (.Name x px) a pp) b p2] X.env).map (·.2)=[assign (.Subscript (.Subscript (.Name x px) a pp) b p2) X.env]:=by rfl) :
  MS X io (.Assign [.Subscript (.Subscript (.Name x px) a pp) b p2] e pos) (Yb4 i m mi mj):=by
 obtain⟨_,A,s⟩:=he;obtain⟨_,B,sj⟩:=hj;obtain⟨_,B2,sk⟩:=hk;refine⟨_,Ya0 A (hpg (Z5x (Zx8 rfl) (pv i hN hv hd hcd) B hPa) B2) hs hw h1,λC H O δ fp ex D D' R h E=>?_⟩;refine s C H O δ fp ex _ _ R h λH1 v r δ1 fp1 new r1 h1=>?_;have R1:=r1.base;have q:=(r1.da R).wide (L':=Lf C fp1 ex) λa l _=>l rfl;split at h1
 case h_2=>exact h1.elim
 rename_i ts hi;obtain⟨a',_,_,hv0,_⟩:=R1.ownNd hi;refine⟨_,hv0,?_⟩;refine sj.pureAfter R1 h1 λH2 w n R2 s2 q2 h2=>?_;obtain⟨k,rfl,h2⟩:=q2.intInv h2;split at h2
 case h_2=>exact h2.elim
 rename_i j hj;split at h2
 case h_2=>exact h2.elim
 rename_i us hus
 -- the row
 obtain⟨a2,xs2,bs2,hv2,hx2,o2,hf2⟩:=R2.ownNd hi;rw[hv0]at hv2;cases hv2;obtain⟨xr,cr,hxr,orow,_⟩:=o2.get hus;obtain⟨b',rfl⟩:∃b',xr=V.ref b':=by
  cases orow with
  | nd h r=>exact⟨_,rfl⟩
 refine⟨a',xs2,k,V.ref b',rfl,rfl,.inl (.inl hx2),?_,?_⟩
 .unfold atI
  rw[o2.length,hj];exact hxr
 refine sk.pureAfter R2 h2 λH3 w' n' R3 s3 q3 h3=>?_;obtain⟨k',rfl,h3⟩:=q3.intInv h3;split at h3
 case h_2=>exact h3.elim
 rename_i j' hj';obtain⟨a3,xs3,bs3,hv3,hx3,o3,hf3⟩:=R3.ownNd hi;rw[hv0]at hv3;cases hv3;have exs:xs3=xs2:=by
  have:=s3 _ _ hx2;rw[hx3]at this;cases this;rfl
 subst exs;obtain⟨xr3,cr3,hxr3,orow3,hsub3⟩:=o3.get hus;rw[hxr]at hxr3;cases hxr3;have nd3:=R3.nd i;rw[hf3]at nd3;have hn3:=Qn.mp nd3;cases orow3 with
 | nd hb r3=>
  rename_i ws3 bs4;have hbm:b'∈bs3:=hsub3.subset (.head _);have hbf:b'∈fp1 i:=by rw[hf3];exact .tail _ hbm
  have hLb:¬Lf C fp1 ex b':=λl=>l.1 ⟨i,hbf⟩;obtain⟨as',oo,ss,_⟩:=Owns.deep (ws':=ws3.set j' v) (us':=us.set j' (.fz r.data)) hb hLb (λcs hcs=>Owns.set (.fz ((q.same s2).same s3)) j' hcs) o3 hn3.2 hxr hus;refine⟨b',ws3,k',j',rfl,rfl,hb,by rw[r3.length];exact hj',?_⟩;have hba:a'≠b':=λz=>hn3.1 (z▸hbm)
  -- the change
  have sub:∀a,a∈a'::as'->a∈fp1 i:=λa m=>by
   rw[hf3];rcases Xo.mp m with rfl|m
   .exact .head _
   .exact .tail _ (ss.subset m)
  have kp:∀b o,H3 b=YB o->b≠b'->upd H3 b' (.lst (ws3.set j' v)) b=YB o:=λb o e n=>by rw[Zu n];exact e
  have lw:∀a,Lf C fp1 ex a->upd H3 b' (.lst (ws3.set j' v)) a≠YC->Lf C (fpu fp1 i (a'::as')) (exu ex []) a:=λa l _=>⟨λz=>by
   rcases z.of_u with z|⟨j,_,z⟩
   .exact l.1 ⟨i,sub a z⟩
   .exact l.1 ⟨j,z⟩,λz=>l.2.1 (J2.mp z),l.2.2⟩
  obtain⟨R4,S4⟩:=R3.change (new:=[]) (as':=a'::as') (t':=.nd (ts.set j (.nd (us.set j' (.fz r.data))))) (H':=upd H3 b' (.lst (ws3.set j' v))) hi hv0 (λb o e nb=>kp b o e λz=>nb (by rw[z];exact hbf)) (λb e=>by
    by_cases q:b=b'
    .subst q;rw[Zx]at e;cases e
    .rwa[Zu q]at e) (.nd (by rw[Zu hba];exact hx3) (oo.wide lw)) (Qn.mpr ⟨λm=>hn3.1 (ss.subset m),hn3.2.sublist ss⟩) (λa m=>.inl (sub a m)) (λa m=>nomatch m)
  have k23:Kp H1 fp1 H3 fp1:=⟨λb o e _=>s3 _ _ (s2 _ _ e),λz=>(nomatch z),λa z=>.inl z,λb e=>s2.al b (s3.al b e)⟩;exact E.nx _ O _ _ (R4.drop λa z=>.inl z) (r1.stp.kp.trans (k23.trans S4.kp)) h3
end
mutual
def Z48:OT->Bool
 | .fz d=>Zf5 d
 | .nd ts=>Ztm ts
 | .tp ts=>Ztm ts
 | .dc _ _ _=>YF
def Ztm:List OT->Bool
 | []=>YD
 | t::ts=>Z48 t&&Ztm ts
end
theorem Rel.freeze{C:MC G}{O:St}{t:OT}(R:Rel C io H O δ fp ex)(hio:i∉io)(hi:δ[i]? =YB (YB t)):Rel C io H O (δ.set i (YB (.fz t.data))) (fpu fp i []) ex:=by
 have hil:i<δ.length:=(Xu.mp hi).1;have sub:∀j a,a∈fpu fp i [] j->j≠i/\a∈fp j:=λj a m=>by
  by_cases ej:j=i
  .subst ej;rw[Yc]at m;exact nomatch m
  .rw[Yy ej]at m;exact⟨ej,m⟩
 have lw:∀a,Lf C fp ex a->Lf C (fpu fp i []) ex a:=λa l=>⟨λ⟨j,z⟩=>l.1 ⟨j,(sub j a z).2⟩,l.2.1,l.2.2⟩;have ln:∀a∈fp i,Lf C (fpu fp i []) ex a:=λa m=>⟨λ⟨j,z⟩=>(sub j a z).1 (R.dj j i a (sub j a z).2 m),R.dx i a m,.inr (by
  rcases R.new i a m with z|z
  .exact YX z.1 hio
  .exact z)⟩
 refine⟨by rw[Vo];exact R.len,λj t' e=>?_,λj h=>?_,λj=>?_,λj k a h1 h2=>R.dj j k a (sub j a h1).2 (sub k a h2).2,λj a h z=>R.dx j a (sub j a h).2 z,R.xa,R.fr,R.al,λj a h=>R.new j a (sub j a h).2,R.io⟩
 .by_cases ej:j=i
  .subst ej
   rw[JB hil]at e;cases e;obtain⟨v,e1,o⟩:=R.own j t hi;exact⟨v,e1,by rw[Yc];exact .fz (o.da (λa l _=>lw a l) ln)⟩
  .rw[QR (Vn ej)]at e
   obtain⟨w,e1,o⟩:=R.own j t' e;exact⟨w,e1,by rw[Yy ej];exact o.wide λa l _=>lw a l⟩
 .by_cases ej:j=i
  .subst ej;rw[Yc]
  .rw[Yy ej]
   exact R.emp j λt' z=>h t' (by rw[QR (Vn ej)];exact z)
 .by_cases ej:j=i
  .subst ej;rw[Yc];exact .nil
  .rw[Yy ej];exact R.nd j
def Zjy(i:Nat)(u:MSt):MSt:=λD δ=>match δ[i]? with|some (YB t)=>u D (δ.set i (YB (.fz t.data)))|_=>False
theorem Zs2{u:MSt}(i:Nat)(h:MS X io st u)(hio:i∉io:=by decide):MS X io st (Zjy i u):=by
 obtain⟨_,A,s⟩:=h;exact⟨_,A,λC H O δ fp ex D D' R h E=>by
  unfold Zjy at h;split at h
  case h_2=>exact h.elim
  rename_i t hi;refine s C H O _ _ ex D D' (R.freeze hio hi) h (E.shift ⟨λb o e _=>e,λz=>(nomatch z),λa z=>?_,λb e=>e⟩);rcases z.of_u with z|⟨j,_,z⟩
  .exact nomatch z
  .exact .inl ⟨j,z⟩⟩
def Ya6(ds:List Xa)(k:OT->Prop):Prop:=∃ns:List Int,ds=[.list (ns.map Xl)]/\ns.length<=63/\k (.fz (.bool YD))
theorem Z8u{E:XK}(hl:ns.length<=63)(h:SqL G H a (ns.map V.int)):spD G Ya6 [.ref a] H (λv _=>v= .bl YD) E:=by
 refine⟨λ_=>True,[.list (ns.map Xl)],λr=>r= .fz (.bool YD),.cons ?_ .nil,⟨ns,rfl,hl,rfl⟩,λr v H' new kr s o _ _=>?_⟩
 .rcases h with h|h
  .exact .lst trivial h (.ints ns)
  .exact .scr h
 .subst kr
  cases o with
  | fz q=>cases q;rfl
section
variable {base:YH}{n:Nat}{f:YG}{fd:X3}
theorem Da.ints_sq(h:Da G H L v (.list (ns.map Xl))):∃a,v= .ref a/\SqL G H a (ns.map V.int):=by
 generalize e:QJ (ns.map Xl)=d at h;cases h with
 | lst l e1 r=>
  cases e;rw[r.int_inv]at e1;exact⟨_,rfl,.inl e1⟩
 | scr k=>
  rename_i a ms;have e':=PyData.list.inj e;have:ns=ms:=(Um (λ_ _ h=>by cases h;rfl)).mp e';subst this;exact⟨_,rfl,k.sq⟩
 | _=>cases e
end
@[simp] theorem Zcp:OT.datas []=[]:=rfl
@[simp] theorem Zbh(t:OT)(ts:List OT):OT.datas (t::ts)=t.data::OT.datas ts:=rfl
theorem Zln{xs:List α}{i:Int}(h0:0<=i):atI xs i=xs[i.toNat]?:=by
 unfold atI ixN;rw[YL h0];split
 .rfl
 .rename_i h
  symm;exact Qz.mpr (by omega)
theorem Zum{xs:List α}:atI xs (i:Int)=xs[i]?:=by
 rw[Zln (by omega),QV]
@[simp] theorem Yj1{α:Type}(x:α)(xs:List α):atI (x::xs) 0=YB x:=by
 rw[Zln (by decide)];rfl
@[simp] theorem Yk1{α:Type}(x y:α)(xs:List α):atI (x::y::xs) 1=YB y:=by
 rw[Zln (by decide)];rfl
@[simp] theorem Ykj{α:Type}(x y z:α)(xs:List α):atI (x::y::z::xs) 2=YB z:=by
 rw[Zln (by decide)];rfl
@[simp] theorem Yct(ds:List Xa)(i:Int):ixD (.list ds) (.int i)=atI ds i:=rfl
@[simp] theorem Yfy(ds:List Xa)(i:Int):ixD (.tuple ds) (.int i)=atI ds i:=rfl
@[simp] theorem Z9t(ds:List Xa):Zxt (.list ds)=YB ds.length:=rfl
@[simp] theorem Ycw(ds:List Xa):Zxt (.tuple ds)=YB ds.length:=rfl
def Zpy(r:List Rat):Xa:=.list (r.map frD)
def tbD(T:List (List Rat)):Xa:=.list (T.map Zpy)
def Ydq(r:List Rat):OT:=.nd (r.map λq=>.fz (frD q))
def tbT(T:List (List Rat)):OT:=.nd (T.map Ydq)
@[simp] theorem Zt4(r:List Rat):(Ydq r).data=Zpy r:=by
 unfold Ydq Zpy;rw[OT.data_nd,XQ];rfl
@[simp] theorem Ycs(T:List (List Rat)):(tbT T).data=tbD T:=by
 unfold tbT tbD;rw[OT.data_nd,XQ];exact YT QJ (Xr λr _=>Zt4 r)
def Sq(n:Nat)(T:List (List Rat)):Prop:=T.length=n/\∀r∈T,r.length=n
def dd(T:List (List Rat))(i j:Nat):Rat:=(T.getD i []).getD j 0
@[simp] theorem Yeh(T:List (List Rat)):Zxt (tbD T)=YB T.length:=by unfold tbD Zxt;simp
@[simp] theorem Ycz(r:List Rat):Zxt (Zpy r)=YB r.length:=by unfold Zpy Zxt;simp
@[simp] theorem Yei(q:Rat):Zf5 (frD q)=YD:=by unfold frD fr;simp[Zf5,Zry]
theorem Zsn{t:Int}(ht:0<=t)(hb:0<b):0<=XR t b:=Rat.divInt_nonneg ht (by omega)
theorem Zma{n a:Nat}(h:a<n):ixN n (a:Int)=YB a:=by
 unfold ixN;rw[YL (by omega),YL (by omega)];simp
theorem Sq.ixN{n a:Nat}{T:List (List Rat)}(h:Sq n T)(ha:a<n):ixN (T.map Ydq).length (a:Int)=YB a:=Zma (by rw[Xe,h.1];exact ha)
theorem ix3{d1 d2 d3:Xa}{r:Int}(r0:0<=r)(r1:r<3):∃d,(d=d1\/d=d2\/d=d3)/\ixD (.list [d1,d2,d3]) (.int r)=YB d:=by
 have:r=0\/r=1\/r=2:=by omega
 rcases this with rfl|rfl|rfl
 .exact⟨d1,.inl rfl,rfl⟩
 .exact⟨d2,.inr (.inl rfl),rfl⟩
 .exact⟨d3,.inr (.inr rfl),rfl⟩
theorem Zpj{d:Xa}(h:Y4 d=YD):QT d d=YD:=Z0m h h rfl
structure Sh(n:Nat)(d:Xa):Prop where
 lay:BJ d=YD
 dep:PyData.depth d<=n
theorem Sh.shp{n:Nat}{d:Xa}(h:Sh n d)(hn:n<=64:=by decide):Yah d:=⟨by
 show(BJ d&&decide (PyData.depth d<=64))=YD;rw[h.lay,YQ (QB h.dep hn)];rfl⟩
theorem Zkx{n:Nat}:∀{ds:List Xa},(∀d∈ds,Sh n d)->Bg ds=YD/\PyData.depthAll ds<=n
 | [],_=>⟨by rw[Bg],by rw[PyData.depthAll];exact QS _⟩
 | d::ds,h=>by
  obtain⟨h1,h2⟩:=Zkx λe m=>h e (.tail _ m);have h3:=h d (.head _);refine⟨by rw[Bg,h3.lay,h1];rfl,?_⟩;rw[PyData.depthAll];exact Nat.max_le.mpr ⟨h3.dep,h2⟩
theorem Zs6{n:Nat}(h:∀d∈ds,Sh n d):Sh (n+1) (.list ds) :=
 ⟨by rw[BJ];exact(Zkx h).1,by rw[PyData.depth];exact Nat.succ_le_succ (Zkx h).2⟩
theorem Z0y{n:Nat}(h:∀d∈ds,Sh n d):Sh (n+1) (.tuple ds) :=
 ⟨by rw[BJ];exact(Zkx h).1,by rw[PyData.depth];exact Nat.succ_le_succ (Zkx h).2⟩
theorem Zt1(i:Int):Sh 0 (.int i):=⟨rfl,Nat.le_of_eq rfl⟩
section
variable {O:St}
theorem Inv.turnTup{T:YG}{its:List Xf}(I:Inv X pins O H s)(f:∀b∈ch,Zjl X pins H b)(k:∀b o,b∉ch->s.heap.get? b=YB o->h'.get? b=YB o)
  (th:∀b∈ch,∃o,h'.get? b=YB o) (hT:s.heap.objs.size<=T) (hz:xs.length<=Xv) (r:Vals xs its) (ht:IsTup h' T its.toArray):Inv X pins O (upd H T (.tup xs)) { s with heap:=h' }:=by
 have hn:H T=YC:=I.hok.fresh hT;have nch:∀b u,H b=YB u->b∉ch:=λb u e z=>by rw[(f b z).1]at e;cases e
 have new:ObjOk X.prog X.w (upd H T (.tup xs)) h' T (.tup xs):=⟨hz,its,r,ht⟩;refine I.call (ch:=ch) (g':=s.gens) (d':=s.drawn) (t':=s.toks) ⟨λb o e _ _ hc=>k b o hc e,λb o e _ _ hc=>⟨o.slots,k b o hc e⟩,λb o e n _=>?_,λb o e hc=>?_,λb ys e=>?_,λb o u e=>?_,λb ps e=>?_⟩ (λb u e=>?_) I.bare (λb hb=>?_)
 .rw[Zu (λz=>by rw[z]at e;exact YX (XD e) (Nat.not_lt.mpr hT))];exact n
 .exact⟨o,k b o hc e⟩
 .rw[Zu (Yx e hn)];exact e
 .rw[Zu (Yx e hn)];exact e
 .exact⟨#[],by rw[Zu (Yx e hn),e];simp⟩
 .by_cases hb:b=T
  .subst hb;rw[Zx]at e;cases e;exact new
  .rw[Zu hb]at e
   refine(I.hok b u e).stay (λc v hc q=>k c v ?_ q) (λc q=>by rw[Zu (Yx q hn)];exact q) λc ys q=>by rw[Zu (Yx q hn)];exact q
   rcases hc with rfl|hc
   .exact nch _ _ e
   .exact nch _ _ hc
 .obtain⟨f0,f1,f2,f3,f4,f5⟩:=f b hb
  exact⟨f3,f1,f4,f5⟩
theorem Inv.turnAll(I:Inv X pins O H s)(f:∀b∈ch,Zjl X pins H b)(k:∀b o,b∉ch->s.heap.get? b=YB o->h'.get? b=YB o):Inv X pins O H { s with heap:=h' }:=by
 have nch:∀b u,H b=YB u->b∉ch:=λb u e z=>by rw[(f b z).1]at e;cases e
 refine I.call (ch:=ch) (g':=s.gens) (d':=s.drawn) (t':=s.toks) ⟨λb o e _ _ hc=>k b o hc e,λb o e _ _ hc=>⟨o.slots,k b o hc e⟩,λb o e n _=>n,λb o e hc=>⟨o,k b o hc e⟩,λb ys e=>e,λb o u e=>e,λb ps e=>⟨#[],by rw[e];simp⟩⟩ (λb u e=>?_) I.bare (λb hb=>?_)
 .refine(I.hok b u e).stay (λc v hc q=>k c v ?_ q) (λc q=>q) λc ys q=>q
  rcases hc with rfl|hc
  .exact nch _ _ e
  .exact nch _ _ hc
 .obtain⟨f0,f1,f2,f3,f4,f5⟩:=f b hb
  exact⟨f3,f1,f4,f5⟩
end
section
variable {a b:YJ}
theorem Rel.keptList{C:MC G}{H:Hp}{O:St}{δ:Zi}{fp:Fp}{ex:YG->Prop}{v:V}{ds:List Xa}(R:Rel C io H O δ fp ex)(q:Da G H (λa=>c=YD->Lf C fp ex a) v (.list ds)) :
  ∃a xs,v= .ref a/\∀H':Hp,(∀b o,H b=YB o->(c=YF\/¬Foot fp b)->H' b=YB o)->SqL G H' a xs/\Das G H' (λa=>c=YD->(Lf C fp ex a/\H a≠YC)) xs ds:=by
 generalize hd:QJ ds=d at q;cases q with
 | lst l e r=>
  cases hd;rename_i a0 xs0;refine⟨a0,xs0,rfl,λH' kp=>?_⟩;obtain⟨f1,f2⟩:=R.kept kp;exact⟨.inl (f1 _ (.lst _) l e).2,r.frame f1 f2⟩
 | scr k=>
  rename_i a ns;have:=PyData.list.inj hd;subst this;exact⟨a,_,rfl,λH' _=>⟨k.sq,.ints ns⟩⟩
 | _=>cases hd
def Zks(as bs:List Xa):List Xa:=(as.zip bs).map λx=>.tuple [x.1,x.2]
theorem Zpp{as bs:List Xa}{d:Xa}(h:(Zks as bs)[i]? =YB d):∃x y,as[i]? =YB x/\bs[i]? =YB y/\d= .tuple [x,y]:=by
 unfold Zks at h;rw[Xm]at h;cases e:(as.zip bs)[i]? with
 | none=>rw[e]at h;cases h
 | some z=>
  rw[e]at h;cases h;obtain⟨h1,h2⟩:=Ue.mp e;exact⟨z.1,z.2,h1,h2,rfl⟩
theorem Zu0{as bs:List Xa}(h:(Zks as bs)[i]? =YC):as.length<=i\/bs.length<=i:=by
 unfold Zks at h;have:=Qz.mp h;simp at this;omega
@[simp] theorem Z65(as bs:List Xa):(Zks as bs).length=min as.length bs.length:=by simp[Zks]
end
section
variable {c1 c2 c3:Bool}{a b:YJ}{mc:MEt}{f g:Int->Int->Bool}
def Zpo(f g:Int->Int->Bool)(ma mb mc:MEt):MEt:=λδ K=>ma δ λx δ1=>mb δ1 λy δ2=>asI x.data λi=>asI y.data λj=>if f i j=YD then mc δ2 λz δ3=>asI z.data λk=>K (.fz (.bool (g j k))) δ3 else K (.fz (.bool YF)) δ2
theorem Z83(ha:SE G io YD c1 ta ma)(hb:SE G io YD c2 tb mb)(hc:SE G io YD c3 tc mc):SE G io YD YD (Z0x (rI0 λi j=>.bl (f i j)) (rI0 λi j=>.bl (g i j)) ta tb tc) (Zpo f g ma mb mc):=by
 intro C H O δ fp ex K Q R h k;refine ha.pureAfter R h λH1 x u R1 s1 q1 h1=>?_;refine hb.pureAfter R1 h1 λH2 y v R2 s2 q2 h2=>?_;obtain⟨i,rfl,h2⟩:=q1.intInv h2;obtain⟨j,rfl,h2⟩:=q2.intInv h2;refine⟨i,j,rfl,rfl,f i j,rfl,?_⟩
 by_cases hf:f i j=YD
 .rw[YL hf]at h2|-
  refine hc.pureAfter R2 h2 λH3 z w R3 s3 q3 h3=>?_;obtain⟨l,rfl,h3⟩:=q3.intInv h3;have s13:Same H H3:=(s1.trans s2).trans s3;exact⟨j,l,rfl,rfl,k H3 _ _ δ fp [] (.fz R3 (.same s13 s13.al) (.bl _)) h3⟩
 .rw[YM hf]at h2|-
  have s12:Same H H2:=s1.trans s2;exact k H2 _ _ δ fp [] (.fz R2 (.same s12 s12.al) (.bl _)) h2
theorem Z5o{op':CmpOp}(ho:OpR X (Bj op) (rI0 λi j=>.bl (f i j)))(ho':OpR X (Bj op') (rI0 λi j=>.bl (g i j)))(ha:ME X io YD c1 a ma)(hb:ME X io YD c2 b mb)(hc:ME X io YD c3 e mc)
  (hm:lastMarks [op,op'] [b,e]=YF:=by with_unfolding_all rfl):ME X io YD YD (.Compare a [op,op'] [b,e] pos) (Zpo f g ma mb mc):=by
 obtain⟨_,A,sa⟩:=ha;obtain⟨_,B,sb⟩:=hb;obtain⟨_,D,sc⟩:=hc;exact⟨_,Zyc ho ho' A B D hm,Z83 sa sb sc⟩
end
section
variable {a b:YJ}{pl:Pos}
def Yi3(m mb:MEt):MEt:=λδ K=>m δ λr δ1=>mb δ1 λn _=>asI n.data λk=>(-(2^63)<=k/\k<2^63/\k.toNat<=Xv)/\K (.nd (X7 k.toNat (.fz r.data))) δ1
theorem Zom(x:α):∀n:Nat,(X7 n [x]).flatten=X7 n x
 | 0=>rfl
 | n+1=>by rw[Vx,Uy,Zom x n];rfl
theorem Das.rep{d:Xa}(h:Da G H L v d):∀n:Nat,Das G H L (X7 n v) (X7 n d)
 | 0=>.nil
 | n+1=>.cons h (Das.rep h n)
theorem Yd7(ha:ME X io p YD a m)(hb:ME X io YD c b mb)(hs:Xq [a] X.env=(YF,eval a X.env)::Xq [] X.env:=by rfl):ME X io p YD (.BinOp (.List [a] pl) .Mult b pos) (Yi3 m mb):=by
 obtain⟨_,A,sa⟩:=ha;obtain⟨_,B,sb⟩:=hb;refine⟨_,Z3s Ybx (Z00 (Za6 A Zeu hs)) B,λC H O δ fp ex K Q R h k=>?_⟩;refine sa C H O δ fp ex _ _ R h λH1 v r δ1 fp1 new r1 h1=>⟨(by show 1<=Xv;decide),λl hl=>?_⟩;have R1:=r1.base;have s1:=Zz hl (.lst [v]);refine sb.pureAfter (R1.mk0 s1) h1 λH2 w n R2 s2 q2 h2=>?_;obtain⟨i,rfl,h2⟩:=q2.intInv h2;have q:=(((r1.da R).wide (L':=Lf C fp1 ex) λa l _=>l rfl).same s1).same s2;refine⟨l,i,[v],rfl,rfl,s2 _ _ Zx,h2.1.1,h2.1.2.1,by show 1*i.toNat<=Xv;rw[Nat.one_mul];exact h2.1.2.2,λt ht=>?_⟩;rw[Zom];have S:Stp p H δ fp H2 δ1 fp1:=by
  have:=r1.stp.trans (p':=YD) (Stp.same (p:=YD) (δ:=δ1) (fp:=fp1) (s1.trans s2) (s1.trans s2).al)
  rwa[U6]at this
 refine k _ _ _ δ1 fp1 [t] (RE.tree R R2 S (Zz ht _) (J6 ht) (Zbe t) ?_) h2.2;have:=Own.list ht ((Das.rep q i.toNat).wide (L':=λa=>YD=YD->Lf C fp1 ex a) λa l _ _=>l)
 rwa[List.map_replicate]at this
end
def Z4z:List V->Hp->VK->Prop:=λvs H Q=>∃j:Int,vs=[.int j]/\∀r,H r=YC->Q (.ref r) (upd H r (.rng 0 j))
theorem Zwm:Zar X (.type "range") Z4z:=by
 intro pins s O H vs us Q I r h;obtain⟨j,rfl,q⟩:=h;obtain⟨u,rfl,t,rfl⟩:=vals1 r;refine call_range_1 ?_;exact⟨.ref s.heap.objs.size,_,I.laid (o:=.rng 0 j) (λb o e=>Xk _ e) (XJ _) ⟨_,_,_,XN _ rfl⟩,rfl,q _ I.fresh⟩
def Zxg(lo:Int)(n:Nat):List V:=(Xw n).map λ(i:Nat)=>V.int (lo+(i:Int))
def Zye:List V->Hp->VK->Prop:=λvs H Q=>∃r lo hi,vs=[.ref r]/\H r=YB (.rng lo hi)/\(-(2^62)<=lo/\lo<2^62/\-(2^62)<=hi/\hi<2^62)/\(hi-lo).toNat<=Xv/\∀l,H l=YC->Q (.ref l) (upd H l (.lst (Zxg lo (hi-lo).toNat)))
theorem Zmf(lo:Int)(n:Nat):Zxg lo (n+1)= .int lo::Zxg (lo+1) n:=by
 unfold Zxg;rw[List.range_succ_eq_map,XC,XQ];congr 1
 .simp
 .refine Xr λi _=>?_
  show V.int (lo+((i+1:Nat):Int))=V.int (lo+1+(i:Int));congr 1;omega
theorem Zpi:∀(acc:List Xf) (lo:Int),(∀(i:Nat) (v:Xf),acc[i]? =YB v->∃t,v=Value.int (lo+i) t)->Vals (Zxg lo acc.length) acc
 | [],_,_=>.nil
 | v::acc,lo,h=>by
  rw[Vh,Zmf];obtain⟨t,e⟩:=h 0 v rfl;refine .cons ⟨t,by rw[e];simp⟩ (Zpi acc (lo+1) λi w hw=>?_);obtain⟨t',e'⟩:=h (i+1) w (by simpa using hw);refine⟨t',?_⟩;rw[e'];congr 1;omega
theorem Zka(hc:X.calm=YD):Zar X (.type "list") Zye:=by
 intro pins s O H vs us Q I r h;obtain⟨a,lo,hi,rfl,e,hb,hz,q⟩:=h;obtain⟨u,rfl,ru⟩:=vals1 r;cases(show u=Qq a from ru);obtain⟨t,u',v,e1⟩:=(show ObjOk X.prog X.w H s.heap a (.rng lo hi)from I.hok a _ e);refine call_list_range (n:=(hi-lo).toNat) (I.ok.hd hc) e1 ?_ ?_ hz λh' tk acc c' hk hS hacc=>?_
 .exact small_one hb.1 hb.2.1 hb.2.2.1 hb.2.2.2
 .rw[rangeSize_one];split<;>omega
 .refine⟨.ref s.heap.objs.size,_,I.laid (o:=.lst (Zxg lo (hi-lo).toNat)) (t':=tk) hk (XJ _) ⟨?_,acc.toList,c',?_,by simpa using hS⟩,rfl,q _ I.fresh⟩
  .simp[Zxg];omega
  .have:=Zpi acc.toList lo λi v hv=>by
    obtain⟨t,e⟩:=hacc.2 i v (by simpa using hv);exact⟨t,by rw[e,Int.mul_one]⟩
   rwa[show acc.toList.length=(hi-lo).toNat by simpa using hacc.1]at this
end L2
namespace L2
open PySem PySem.Spec PyProof.Rows PySem.SeqAt
variable {G:Xc}
theorem Zu3(lo:Int)(n:Nat):Zda lo (n+1)= .int lo::Zda (lo+1) n:=by
 unfold Zda;rw[List.range_succ_eq_map,XC,XQ];congr 1
 .simp
 .refine Xr λi _=>?_
  show Xl (lo+((i+1:Nat):Int))=Xl (lo+1+(i:Int));congr 1;omega
theorem Das.rng:∀(n:Nat) (lo:Int),Das G H L (Zxg lo n) (Zda lo n)
 | 0,_=>.nil
 | n+1,lo=>by
  rw[Zmf,Zu3];exact .cons (.int _) (Das.rng n _)
section
variable {X:Cx}{io:List Nat}{p c:Bool}{a b e:YJ}{ma mb m:MEt}{mr:MAt}{pos pos' pl pr:Pos}
def Yh1(mr:MAt):MEt:=λδ K=>mr δ λrs δ'=>n1 (λd=>asI d λj=>(-(2^62)<=j/\j<2^62/\j.toNat<=Xv)/\K (.nd ((Zda 0 j.toNat).map OT.fz)) δ') (OT.datas rs)
theorem Ycn{C:MC G}{O:St}{r:YG}{hi:Int}{n:Nat}(R:Rel C io H O δ fp ex)(R1:Rel C io H1 O δ1 fp1 ex)(S:Stp p H δ fp H1 δ1 fp1)(hr:H1 r=YC)
  (hl:upd H1 r (.rng lo hi) l=YC):RE C io p YD H O δ fp ex (upd (upd H1 r (.rng lo hi)) l (.lst (Zxg lo n))) (.ref l) (.nd ((Zda lo n).map OT.fz)) δ1 fp1 [l]:=by
 have s1:=Zz hr (.rng lo hi);have S':Stp p H δ fp (upd H1 r (.rng lo hi)) δ1 fp1:=by
  have:=S.trans (p':=YD) (Stp.same (p:=YD) (δ:=δ1) (fp:=fp1) s1 s1.al)
  rwa[U6]at this
 exact RE.tree R (R1.mk0 s1) S' (Zz hl _) (J6 hl) (Zbe l) (Own.list hl (Das.rng n lo))
theorem Zr5(hc:X.calm=YD)(hgl:Gl X "list")(hml:X.mg "list"=YC)(hvl:Qk "list"=YB (.type "list"))(hg:Gl X "range")(hm:X.mg "range"=YC)(hv:Qk "range"=YB (.type "range"))(ha:MA X io p c [a] mr)
  (he:Xq [a] X.env=(YF,eval a X.env)::Xq [] X.env:=by rfl) (hpl:(JK pos' (Xq [] X.env)).any (·.1)=YF:=by rfl)
  (he':Xq [.Call (.Name "range" pr) [a] [] pos'] X.env=(YF,eval (.Call (.Name "range" pr) [a] [] pos') X.env)::Xq [] X.env:=by rfl) (hpl':(JK pos (Xq [] X.env)).any (·.1)=YF:=by rfl) :
  ME X io p YD (.Call (.Name "list" pl) [.Call (.Name "range" pr) [a] [] pos'] [] pos) (Yh1 mr):=by
 obtain⟨_,A,s⟩:=ha;refine⟨_,Zc1 (Zka hc) hgl hml hvl (Za6 (Zc1 Zwm hg hm hv A (he:=he) (hpl:=hpl)) Zeu he') (he:=he') (hpl:=hpl'),λC H O δ fp ex K Q R h kk=>s C H O δ fp ex _ _ R h λH1 vs rs δ1 fp1 new r1 h1=>?_⟩;obtain⟨v,d,rfl,e2,q,h2⟩:=(r1.das R).one h1;obtain⟨j,rfl,h2⟩:=q.intInv h2;refine⟨j,rfl,λr hr=>⟨r,0,j,rfl,Zx,⟨by decide,by decide,h2.1.1,h2.1.2.1⟩,by rw[Int.sub_zero];exact h2.1.2.2,λl hl=>?_⟩⟩;rw[Int.sub_zero];exact kk _ _ _ δ1 fp1 [l] (Ycn R r1.base r1.stp hr hl) h2.2
end
def Zvs(ns:List Int):Nat:=(ns.foldl step_dedup []).length
theorem Zls:∀(ns acc:List Int),(acc++ns).Nodup->ns.foldl step_dedup acc=acc++ns
 | [],acc,_=>by simp
 | n::ns,acc,h=>by
  have hn:n∉acc:=λm=>(JW.mp h).2.2 n m n (.head _) rfl;have:step_dedup acc n=acc++[n]:=by
   unfold step_dedup;rw[YM];intro z;obtain⟨x,hx,e⟩:=List.any_eq_true.mp z;have:=eq_of_beq e;subst this;exact hn hx
  rw[List.foldl_cons,this,Zls ns (acc++[n]) (by rwa[BW])];simp
theorem Zqk(h:ns.Nodup):Zvs ns=ns.length:=by
 unfold Zvs;rw[Zls ns [] (by simpa using h)];simp
theorem map_getD{ns:List Int}:(Xw ns.length).map (λi=>ns.getD i 0)=ns:=by
 refine List.ext_getElem? λi=>?_;rw[Xm]
 by_cases h:i<ns.length
 .rw[JR h,Qj,Xb,Xi h,Option.getD_some]
 .rw[QL (by simpa using h),QL (by simpa using h)];rfl
theorem Zgc:∀{ns:List Int} {its:List Xf},Vals (ns.map V.int) its->BL its ns
 | [],_,.nil=>.nil
 | n::ns,_,.cons r rs=>by
  obtain⟨t,e⟩:=(show∃t,_=Value.int n t from r);rw[e];exact .cons n t (Zgc rs)
section
variable {X:Cx}{io:List Nat}{p c:Bool}{a b e:YJ}{ma mb m:MEt}{mr:MAt}{pos pos' pl pr:Pos}
def Yev(K:Xc):List V->Hp->VK->Prop:=λxs H Q=>∃(a:YG) (ns:List Int),xs=[.ref a]/\SqL K H a (ns.map V.int)/\ns.length+1<scanBound/\∀(l:YG) (S:Int->Bool),H l=YC->Q (.ref l) (upd H l (.set S (Zvs ns)))
theorem Zuu{K:Xc}(hK:X.K=K)(hc:X.calm=YD):Zar X (.type "set") (Yev K):=by
 subst hK;intro pins s O H xs us Q I r h;obtain⟨a,ns,rfl,hs,hb,q⟩:=h;obtain⟨u,rfl,ru⟩:=vals1 r;cases(show u=Qq a from ru);obtain⟨its,rv,pl,hz⟩:=I.list hs;have hi:=Zgc rv;have hl:=hi.length;refine call_set_list (items:=its.toArray) (ns:=ns) (I.ok.hd hc) pl.isList (by simpa using hi) (by simp;omega) λh' tk hS hk=>?_;have hfm:(firstMet (λi=>ns.getD i 0) its.toArray.size).length=Zvs ns:=by
  unfold firstMet Zvs;rw[show its.toArray.size=ns.length by simp[hl],map_getD]
 refine⟨.ref s.heap.objs.size,_,I.laid (o:=.set (λk'=>(firstMet (λi=>ns.getD i 0) its.toArray.size).any λx=>x==k') (Zvs ns)) (t':=tk) (λb o e=>hk b o (XD e) e) (XJ _) ?_,rfl,q _ _ I.fresh⟩
 .rw[<-hfm];exact hS
def Z34:List V->Hp->VK->Prop:=λxs H Q=>∃(a:YG) (S:Int->Bool) (n:Nat),xs=[.ref a]/\H a=YB (.set S n)/\Q (.int n) H
theorem Znq:Zar X (.builtin "len") Z34:=by
 intro pins s O H xs us Q I r h;obtain⟨a,S,n,rfl,e,q⟩:=h;obtain⟨u,rfl,ru⟩:=vals1 r;cases(show u=Qq a from ru);obtain⟨o,es,ep,t,ho,hx,hd,_,_,hz,hf,hn⟩:=(show ObjOk X.prog X.w H s.heap a (.set S n)from I.hok a _ e);subst hn;have:es.size<4096:=hz;exact call_len_set ho hx hd hf (by omega) ⟨.int es.size,H,I.kept (h':=s.heap) (λb o e=>e),⟨_,rfl⟩,q⟩
def Zvm(mr:MAt):MEt:=λδ K=>mr δ λrs δ'=>n1 (λd=>∃ns:List Int,d= .list (ns.map Xl)/\ns.length<4095/\K (.fz (.int (Zvs ns))) δ') (OT.datas rs)
theorem Zx9(hc:X.calm=YD)(hgl:Gl X "len")(hml:X.mg "len"=YC)(hvl:Qk "len"=YB (.builtin "len"))(hg:Gl X "set")(hm:X.mg "set"=YC)(hv:Qk "set"=YB (.type "set"))(ha:MA X io p c [a] mr)
  (he:Xq [a] X.env=(YF,eval a X.env)::Xq [] X.env:=by rfl) (hpl:(JK pos' (Xq [] X.env)).any (·.1)=YF:=by rfl)
  (he':Xq [.Call (.Name "set" pr) [a] [] pos'] X.env=(YF,eval (.Call (.Name "set" pr) [a] [] pos') X.env)::Xq [] X.env:=by rfl) (hpl':(JK pos (Xq [] X.env)).any (·.1)=YF:=by rfl) :
  ME X io p YD (.Call (.Name "len" pl) [.Call (.Name "set" pr) [a] [] pos'] [] pos) (Zvm mr):=by
 obtain⟨_,A,s⟩:=ha;refine⟨_,Zgg Znq hgl hml hvl (Za6 (Zc1 (Zuu rfl hc) hg hm hv A (he:=he) (hpl:=hpl)) Zeu he') (he:=he') (hpl:=hpl'),λC H O δ fp ex K Q R h kk=>s C H O δ fp ex _ _ R h λH1 vs rs δ1 fp1 new r1 h1=>?_⟩;obtain⟨v,d,rfl,e2,q,ns,e,hb,h2⟩:=(r1.das R).one h1;subst e;obtain⟨a,rfl,hs⟩:=q.ints_sq;refine⟨a,ns,rfl,hs,by show _<4096;omega,λl S hl=>⟨l,S,_,rfl,Zx,?_⟩⟩;have s1:=Zz hl (.set S (Zvs ns));have S':Stp p H δ fp (upd H1 l (.set S (Zvs ns))) δ1 fp1:=by
  have:=r1.stp.trans (p':=YD) (Stp.same (p:=YD) (δ:=δ1) (fp:=fp1) s1 s1.al)
  rwa[U6]at this
 exact kk _ _ _ δ1 fp1 [] (.fz (r1.base.mk0 s1) S' (.int _)) h2
def Ycy(i:Nat)(m:MEt):MEt:=λδ K=>match δ[i]? with
 | some (YB (.nd _))=>m δ λn δ1=>match δ1[i]? with
  | some (YB (.nd ts))=>asI n.data λj=>match ixN ts.length j with
   | some k=>match ts[k]? with
    | some (.fz d)=>ts.length<=Xv/\K (.fz d) (δ1.set i (YB (.nd (ts.eraseIdx k))))
    | _=>False
   | none=>False
  | _=>False
 | _=>False
theorem Owns.erase:∀{xs:List V} {ts:List OT} {as:List YG} {k:Nat} {d:Xa},Owns G H L xs ts as->ts[k]? =BK (.fz d)->Owns G H L (xs.eraseIdx k) (ts.eraseIdx k) as
 | _,_,_,_,_,.nil,e=>by simp at e
 | _,_,_,0,d,.cons q r,e=>by
  simp at e;subst e;cases q;exact r
 | _,_,_,k+1,d,.cons q r,e=>.cons q (Owns.erase (k:=k) r (by simpa using e))
theorem Z4o(i:Nat)(he:ME X io p c e m)(hN:X.N[i]? =YB x:=by rfl)(hv:Vis X.env.scope x:=by first|exact QG rfl|exact Qt (QG rfl)|exact Qt (Qt rfl))(hd:(x==("__debug__" : Str))=YF:=by decide)
  (hcd:(x==("__classdict__" : Str))=YF:=by decide)
  (hbase:V5 (.Name x px) "pop" X.env (eval (.Name x px) X.env)=eval (.Name x px) X.env:=by rfl)
  (hfew:((JK cpos (Xq [e] X.env)).all (λx=>!x.1)&&(backToKw cpos (UT [] X.env)).all (λx=>x.1.isSome)
   &&decide ([e].length+([]:List V0).length+(if([]:List V0).isEmpty then 0 else 1)<30))=YD:=by rfl)
  (hline:(apos.endLine==cpos.line)=YD:=by rfl) (hs:Xq [e] X.env=(YF,eval e X.env)::Xq [] X.env:=by rfl) (hplain:(JK cpos (Xq [] X.env)).any (·.1)=YF:=by rfl) :
  ME X io YF YD (.Call (.Attribute (.Name x px) "pop" apos) [e] [] cpos) (Ycy i m):=by
 obtain⟨_,A,s⟩:=he;refine⟨_,Z22 PySem.F.plainAttrs_list PySem.F.slot_list_pop PySem.F.type_list_pop Zy1 (pv i hN hv hd hcd) (Za6 A Zeu hs) hbase hfew hline hs hplain,λC H O δ fp ex K Q R h kk=>?_⟩;unfold Ycy at h;split at h
 case h_2=>exact h.elim
 rename_i ts0 hi0;obtain⟨a',xs0,bs0,hv0,hx0,_,_⟩:=R.ownNd hi0;refine⟨_,hv0,.inl ⟨rfl,xs0,.inl (.inl hx0)⟩,?_⟩;refine s C H O δ fp ex _ _ R h λH1 v r δ1 fp1 new r1 h1=>?_;split at h1
 case h_2=>exact h1.elim
 rename_i ts1 hi1;obtain⟨j,rfl,h1⟩:=(r1.da R).intInv h1;split at h1
 case h_2=>exact h1.elim
 rename_i k hk;split at h1
 case h_2=>exact h1.elim
 rename_i d hd1;have R1:=r1.base;obtain⟨a1,xs1,bs1,hv1,hx1,o1,hf1⟩:=R1.ownNd hi1;rw[hv0]at hv1;cases hv1;obtain⟨y,cs,hy,oy,_⟩:=o1.get hd1;have qy:Da X.K H1 (Lf C fp1 ex) y d:=by cases oy;assumption
 obtain⟨z1,z2,z3,z4⟩:=Zmy hk;have hz:=h1.1;have hsz:Xv=16777216:=Qh;refine⟨a',xs1,j,k,y,rfl,rfl,hx1,by omega,by omega,by rw[o1.length];exact z1,hy,?_⟩;obtain⟨R2,S2⟩:=R1.top hi1 hv0 hf1 hx1 (o1.erase hd1) (List.Sublist.refl _);have S:=(r1.stp.trans S2).cast (p':=YF) λz=>nomatch z;refine kk _ _ _ _ _ [] (.fz R2 S ?_) h1.2;have ne':∀a,¬Foot fp1 a->a≠a':=λa h z=>h ⟨i,by rw[z,hf1];exact .head _⟩;have f0:∀a,¬Foot fp1 a->¬Foot (fpu fp1 i (a'::bs1)) a:=λa h z=>by
  rcases z.of_u with z|⟨j,_,z⟩
  .exact h ⟨i,by rw[hf1];exact z⟩
  .exact h ⟨j,z⟩
 refine qy.frame (λa zs l q=>⟨λ_=>⟨f0 a l.1,l.2.1,l.2.2⟩,?_⟩) λa zs q=>?_
 .rcases q with q|⟨u,q⟩
  .exact .inl (by rw[Zu (ne' a l.1)];exact q)
  .exact .inr ⟨u,by rw[Zu (ne' a l.1)];exact q⟩
 .rw[Zu]
  .exact q
  .intro z
   exact ImO.nl q (z▸hx1)
end
end L2
namespace L2
open PySem PySem.Spec PyProof.Rows
structure Apart(X:Cx)(pins:List (YG×Obj))(H:Hp)(b:YG):Prop where
 fr:H b=YC
 new:X.s₀.heap.get? b=YC
 loc:b≠X.env.locals
 cel:∀x c,X.env.cells.lookup x=YB c->c≠b
 pin:∀p∈X.pn++pins,p.1≠b
section
variable {O:St}{b:YG}
def Fl(ap:YG->Prop)(C a:YG)(fl:Xf)(h:YH):Prop:=∃a0 oe vs T oT ts,h.get? a=YB oe/\(oe.cls= .ref C/\vs[0]? =YB a0)/\oe.data= .fields vs/\vs[1]? =YB (.ref T)/\T≠a/\h.get? T=YB oT/\oT.data= .fields ts/\ts[3]? =YB fl/\ap a/\ap T
def Fl0(ap:YG->Prop)(C a:YG)(h:YH):Prop:=∃a0 oe vs,h.get? a=YB oe/\(oe.cls= .ref C/\vs[0]? =YB a0)/\oe.data= .fields vs/\vs[1]? =YB .none/\ap a
def FlA(ap:YG->Prop)(fl:Xf)(C a:YG)(h:YH):Prop:=Fl ap C a .none h\/Fl0 ap C a h\/Fl ap C a fl h
section
variable {Q:Unit->Xg->Prop}
end
end
def Zyp(K:Xc)(C:YG):Prop:=PySem.W.excIn K C [.type "ValueError",.type "Exception",.type "BaseException",.type "object"] "ValueError.__new__"=YD
abbrev MXt:=Zi->(YG->Zi->Prop)->Prop
def XW(X:Cx)(C:MC X.K)(io:List Nat)(pins:List (YG×Obj))(ex:YG->Prop)(H:Hp)(fp:Fp)(k:YG->Zi->Prop)(e:Xf)(s':Xg):Prop :=
 ∃a cl O' H' δ' fp',e= .ref a/\Inv X pins O' H' s'/\FlA (Apart X pins H') (rawInt X.env.locals) cl a s'.heap/\Rel C io H' O' δ' fp' ex/\Kp H fp H' fp'/\k cl δ'
def XS(X:Cx)(io:List Nat)(st:YK)(m:MXt):Prop:=∀(C:MC X.K) (pins:List (YG×Obj)) (s:Xg) (O:St) (H:Hp) (δ:Zi) (fp:Fp) (ex:YG->Prop) (k:YG->Zi->Prop),Inv X pins O H s->Rel C io H O δ fp ex->m δ k ->
 XX (Qi X.prog X.w) X.A (exec st X.env) (λ_ _=>False) (XW X C io pins ex H fp k) s
def XSs(X:Cx)(io:List Nat)(sts:List YK)(m:MXt):Prop:=∀(C:MC X.K) (pins:List (YG×Obj)) (s:Xg) (O:St) (H:Hp) (δ:Zi) (fp:Fp) (ex:YG->Prop) (k:YG->Zi->Prop),Inv X pins O H s->Rel C io H O δ fp ex->m δ k ->
 XX (Qi X.prog X.w) X.A (execs sts X.env) (λ_ _=>False) (XW X C io pins ex H fp k) s
section
variable {m:MXt}{a b:List YK}{u:MSt}{w v:MXt}{mt:MTt}
end
section
variable {base:YH}
end
section
variable {k:Nat}{f:YG}{fd:X3}
end
section
variable {O:St}
abbrev Cx.suite(X:Cx)(a:YG):Cx:={ X with A:=X.A.mark (YB (.ref a)),calm:=YF }
end
theorem Z1l(b:Bool)(k:Bool->Prop):asB (.bool b) k=k b:=rfl
inductive Ye3:V->Xf->Prop where
 | own (D:YG):Ye3 (.ref D) (.ref D)
 | ty (T:String):Ye3 (.ty T) (.type T)
inductive ClsVs:List V->List Xf->Prop where
 | nil:ClsVs [] []
 | cons {v:V} {c:Xf} {vs:List V} {cs:List Xf}:Ye3 v c->ClsVs vs cs->ClsVs (v::vs) (c::cs)
theorem ClsVs.length:∀{vs:List V} {cs:List Xf},ClsVs vs cs->vs.length=cs.length
 | _,_,.nil=>rfl
 | _,_,.cons _ t=>by simp[t.length]
section
variable {a b:YJ}
end
end L2
namespace L2
open PySem PySem.Spec PyProof.Rows PySem.P
section
variable {e t0:YG}{o:Obj}{vs:Array Xf}{m:Str}
structure Yk6(s:Xg)(e C t0:YG)(m:Str)(tk:Tok):Prop where
 ob:∃o vs,s.heap.get? e=YB o/\o.cls= .ref C/\o.data= .fields vs/\vs[0]? =YB (.ref t0)
 tx:s.heap.TupAt t0 [.str m tk]
end
section
variable {j:Str}{jk:Nat}{np kp p1:Pos}
end
end L2
namespace L2
open PySem PySem.Spec PyProof.Rows
abbrev FE:=Zi->Option (OT×Zi)
abbrev FA:=Zi->Option (List OT×Zi)
abbrev FT:=Zi->Option (Bool×Zi)
abbrev FI:=Zi->Option (List Xa×Zi)
abbrev FO:=Zi->Option (Option Int×Zi)
abbrev FG:=Xa->Zi->Option Zi
abbrev FGs:=List Xa->Zi->Option Zi
def o2(f:Zi->Option (α×Zi)):Zi->(α->Zi->Prop)->Prop:=λδ K=>∃r δ',f δ=YB (r,δ')/\K r δ'
def oG(g:FG):MGt:=λd δ k=>∃δ',g d δ=YB δ'/\k δ'
def oGs(g:FGs):Zww:=λd δ k=>∃δ',g d δ=YB δ'/\k δ'
section
variable {X:Cx}{io:List Nat}{p c:Bool}{e tg:YJ}{es:List YJ}{m m':MEt}{mr mr':MAt}{mt mt':MTt}{mi mi':MIt}{g g':MGt}{gs gs':Zww}{mo mo':MOt}{st:YK}{sts:List YK}{u u':MSt}{eo:Option YJ}
theorem ME.weak(h:ME X io p c e m)(w:∀δ K,m' δ K->m δ K):ME X io p c e m':=let⟨t,A,s⟩:=h;⟨t,A,λC H O δ fp ex K Q R h k=>s C H O δ fp ex K Q R (w δ K h) k⟩
theorem MA.weak(h:MA X io p c es mr)(w:∀δ K,mr' δ K->mr δ K):MA X io p c es mr':=let⟨t,A,s⟩:=h;⟨t,A,λC H O δ fp ex K Q R h k=>s C H O δ fp ex K Q R (w δ K h) k⟩
theorem MT.weak(h:MT X io p e mt)(w:∀δ K,mt' δ K->mt δ K):MT X io p e mt':=let⟨t,A,s⟩:=h;⟨t,A,λC H O δ fp ex K Q R h k=>s C H O δ fp ex K Q R (w δ K h) k⟩
theorem MW.weak(h:MW X io p e mt)(w:∀δ K,mt' δ K->mt δ K):MW X io p e mt':=let⟨t,A,s⟩:=h;⟨t,A,λC H O δ fp ex K Q R h k=>s C H O δ fp ex K Q R (w δ K h) k⟩
theorem MIfs.weak(h:MIfs X io p es mt)(w:∀δ K,mt' δ K->mt δ K):MIfs X io p es mt':=let⟨t,A,s⟩:=h;⟨t,A,λC H O δ fp ex K Q R h k=>s C H O δ fp ex K Q R (w δ K h) k⟩
theorem MI.weak(h:MI X io p c tg e mi)(w:∀δ K,mi' δ K->mi δ K):MI X io p c tg e mi':=let⟨t,A,s⟩:=h;⟨t,A,λC H O δ fp ex K Q R h k=>s C H O δ fp ex K Q R (w δ K h) k⟩
theorem MO.weak(h:MO X io p eo mo)(w:∀δ K,mo' δ K->mo δ K):MO X io p eo mo':=let⟨t,A,s⟩:=h;⟨t,A,λC H O δ fp ex K Q R h k=>s C H O δ fp ex K Q R (w δ K h) k⟩
theorem MG.weak(h:MG X io c tg g)(w:∀d δ K,g' d δ K->g d δ K):MG X io c tg g':=let⟨t,A,s⟩:=h;⟨t,A,λC H O δ fp ex v d k Q R q h kk=>s C H O δ fp ex v d k Q R q (w d δ k h) kk⟩
theorem MGs.weak(h:MGs X io c es gs)(w:∀d δ K,gs' d δ K->gs d δ K):MGs X io c es gs':=let⟨t,A,s⟩:=h;⟨t,A,λC H O δ fp ex v d k Q R q h kk=>s C H O δ fp ex v d k Q R q (w d δ k h) kk⟩
theorem MS.weak(h:MS X io st u)(w:∀D δ,u' D δ->u D δ):MS X io st u':=let⟨t,A,s⟩:=h;⟨t,A,λC H O δ fp ex D D' R h E=>s C H O δ fp ex D D' R (w D δ h) E⟩
theorem MSs.weak(h:MSs X io sts u)(w:∀D δ,u' D δ->u D δ):MSs X io sts u':=let⟨t,A,s⟩:=h;⟨t,A,λC H O δ fp ex D D' R h E=>s C H O δ fp ex D D' R (w D δ h) E⟩
end
def Ze(i:Nat):FE:=λδ=>match δ[i]? with|some (YB (.fz d))=>YB (.fz d,δ)|_=>YC
def Zkr(i:Nat):FE:=λδ=>match δ[i]? with|some (YB t)=>YB (.fz t.data,δ)|_=>YC
def fC(d:Xa):FE:=λδ=>YB (.fz d,δ)
def Zj(g:Xa->Xa->Option Xa)(a b:FE):FE:=λδ=>(a δ).bind λp=>(b p.2).bind λq=>(g p.1.data q.1.data).bind λd=>YB (.fz d,q.2)
def Ym(g:Xa->Xa->Option OT)(a b:FE):FE:=λδ=>(a δ).bind λp=>(b p.2).bind λq=>(g p.1.data q.1.data).bind λd=>YB (d,q.2)
def fUn(g:Xa->Option Xa)(a:FE):FE:=λδ=>(a δ).bind λp=>(g p.1.data).bind λd=>YB (.fz d,p.2)
def Zw6(a b:FE):FE:=λδ=>(a δ).bind λp=>match p.1.data with| .bool YD=>b p.2| .bool YF=>YB (.fz (.bool YF),p.2)|_=>YC
def fOr(a b:FE):FE:=λδ=>(a δ).bind λp=>match p.1.data with| .bool YD=>YB (.fz (.bool YD),p.2)| .bool YF=>b p.2|_=>YC
def fIf(t:FT)(a b:FE):FE:=λδ=>(t δ).bind λp=>if p.1=YD then a p.2 else b p.2
def tV(e:FE):FT:=λδ=>(e δ).bind λp=>match p.1 with| .fz (.bool b)=>YB (b,p.2)|_=>YC
def tNo(t:FT):FT:=λδ=>(t δ).bind λp=>YB (!p.1,p.2)
def tAn(t u:FT):FT:=λδ=>(t δ).bind λp=>if p.1=YD then u p.2 else YB (YF,p.2)
def tO(t u:FT):FT:=λδ=>(t δ).bind λp=>if p.1=YD then YB (YD,p.2)else u p.2
def tD(e:FE):FT:=λδ=>(e δ).bind λp=>(Zxe p.1.data).bind λb=>YB (b,p.2)
def Zo:FA:=λδ=>YB ([],δ)
def Zc(e:FE)(a:FA):FA:=λδ=>(e δ).bind λp=>(a p.2).bind λq=>YB (p.1::q.1,q.2)
def Zgn(a:FA):FE:=λδ=>(a δ).bind λp=>if p.1.length<=Xv then YB (.fz (.tuple (OT.datas p.1)),p.2)else YC
def Zek(a:FA):FE:=λδ=>(a δ).bind λp=>if p.1.length<=Xv then YB (.nd p.1,p.2)else YC
def Ydv(e:FE):FE:=λδ=>(e δ).bind λp=>if Zf5 p.1.data=YD then YB (.fz p.1.data,p.2)else YC
def Ycf(e:FE):FE:=λδ=>(e δ).bind λp=>if Z48 p.1=YD then YB (p.1,p.2)else YC
inductive RF where
 | ok (r:OT)
 | exn (c:Str)
 | bad
abbrev FD:=List Xa->RF
abbrev FIO:=OT->List Xa->Option (OT×OT)
def Z4(F:FD)(a:FA):FE:=λδ=>(a δ).bind λp=>match F (OT.datas p.1)with| .ok r=>YB (r,p.2)|_=>YC
def Z0f(i:Nat)(F:FIO)(a:FA):FE:=λδ=>match δ[i]? with
 | some (YB _)=>(a δ).bind λp=>match p.2[i]? with
  | some (YB t)=>(F t (OT.datas p.1)).bind λq=>YB (q.1,p.2.set i (YB q.2))
  | _=>YC
 | _=>YC
def J1(g:List Xa->Option Xa)(a:FA):FE:=λδ=>(a δ).bind λp=>(g (OT.datas p.1)).bind λd=>YB (.fz d,p.2)
def fBl(g:List Xa->Option OT)(a:FA):FE:=λδ=>(a δ).bind λp=>(g (OT.datas p.1)).bind λd=>YB (d,p.2)
def Znm(T:String)(e:FE):FE:=λδ=>(e δ).bind λp=>if Zgq p.1.data=YD then YC else YB (.fz (.bool (Zo9 T p.1.data)),p.2)
def oN:FO:=λδ=>YB (YC,δ)
def oI(e:FE):FO:=λδ=>(e δ).bind λp=>match p.1.data with| .int i=>YB (YB i,p.2)|_=>YC
def fSl(e:FE)(lo hi:FO):FE:=λδ=>(e δ).bind λp=>(lo p.2).bind λq=>(hi q.2).bind λr=>match p.1.data with| .list ds=>YB (.nd ((cutD ds q.1 r.1).map OT.fz),r.2)|_=>YC
def Zl5(f g:Int->Int->Bool)(a b c:FE):FE:=λδ=>(a δ).bind λp=>(b p.2).bind λq=>match p.1.data,q.1.data with
 | .int i,.int j=>if f i j=YD then(c q.2).bind λr=>match r.1.data with| .int k=>YB (.fz (.bool (g j k)),r.2)|_=>YC else YB (.fz (.bool YF),q.2)
 | _,_=>YC
def Zfz(e:FE):FI:=λδ=>(e δ).bind λp=>match p.1.data with| .list ds=>YB (ds,p.2)|_=>YC
def iTp(e:FE):FI:=λδ=>(e δ).bind λp=>match p.1.data with| .tuple ds=>YB (ds,p.2)|_=>YC
def rOk(j:Int):Bool:=decide (-(2^62)<=j)&&decide (j<2^62)
theorem Zc0{j:Int}(h:rOk j=YD):-(2^62)<=j/\j<2^62:=by
 unfold rOk at h;rw[Xp]at h;exact⟨YW h.1,YW h.2⟩
theorem Ziz{j:Int}(h0:-1000000<=j)(h1:j<=1000000):rOk j=YD:=by
 unfold rOk;rw[YQ (show -(2^62)<=j by omega),YQ (show j<2^62 by omega)];rfl
def iRa(a:FA):FI:=λδ=>(a δ).bind λp=>match OT.datas p.1 with|[.int j]=>if rOk j=YD then YB (Zda 0 j.toNat,p.2)else YC|_=>YC
def iRb(a:FA):FI:=λδ=>(a δ).bind λp=>match OT.datas p.1 with|[.int i,.int j]=>if(rOk i&&rOk j)=YD then YB (Zda i (j-i).toNat,p.2)else YC|_=>YC
def Yac(a:FA):FI:=λδ=>(a δ).bind λp=>match OT.datas p.1 with|[.list as,.list bs]=>YB (Zks as bs,p.2)|_=>YC
def gNm(i:Nat):FG:=λd δ=>YB (δ.set i (YB (.fz d)))
def Ykp(i:Nat):FG:=λd δ=>if Zf5 d=YD then YB (δ.set i (YB (.fz d)))else YC
def gNl:FGs:=λds δ=>match ds with|[]=>YB δ|_=>YC
def gCn(g:FG)(gs:FGs):FGs:=λds δ=>match ds with|d::r=>(g d δ).bind (gs r)|[]=>YC
def gTp(n:Nat)(gs:FGs):FG:=λd δ=>match d with| .tuple ds=>if ds.length=n then gs ds δ else YC|_=>YC
def gLs(n:Nat)(gs:FGs):FG:=λd δ=>match d with| .list ds=>if ds.length=n then gs ds δ else YC|_=>YC
def compLoop(g:FG)(t:FT)(e:FE):List Xa->Zi->Option (List OT×Zi)
 | [],δ=>YB ([],δ)
 | d::ds,δ=>(g d δ).bind λδ1=>(t δ1).bind λp=>if p.1=YD then(e p.2).bind λq=>(compLoop g t e ds q.2).bind λz=>YB (q.1::z.1,z.2)else compLoop g t e ds p.2
def Yu(n:Nat)(caps:List Nat)(it:FI)(g:FG)(t:FT)(e:FE):FE:=λδ=>(it δ).bind λp=>if p.1.length<=Xv then(compLoop g t e p.1 (blk n caps p.2)).bind λz=>YB (.nd z.1,p.2)else YC
def Zil:FT:=λδ=>YB (YD,δ)
inductive RS where
 | nx (δ:Zi)
 | rt (r:OT) (δ:Zi)
 | bk (δ:Zi)
 | ct (δ:Zi)
 | ex (c:Str) (δ:Zi)
 | bad
abbrev FS:=Zi->RS
def RS.fits(D:Zh9):RS->Prop
 | .nx δ=>D.nx δ
 | .rt r δ=>D.rt r δ
 | .bk δ=>D.bk δ
 | .ct δ=>D.ct δ
 | _=>False
def oS(f:FS):MSt:=λD δ=>(f δ).fits D
def xS(K:Xc)(f:FS):MXt:=λδ k=>∃c C δ',f δ= .ex c δ'/\ClsAt K c C/\k C δ'
def Z5(f g:FS):FS:=λδ=>match f δ with| .nx δ'=>g δ'|r=>r
def fNx:FS:=λδ=>.nx δ
def Ylo:FS:=λδ=>.bk δ
def Yks:FS:=λδ=>.ct δ
def wE(e:FE)(k:OT->Zi->RS):FS:=λδ=>match e δ with|some (r,δ')=>k r δ'|none=>.bad
def wX(F:FD)(a:FA)(k:OT->Zi->RS):FS:=λδ=>match a δ with
 | some (rs,δ1)=>match F (OT.datas rs)with
  | .ok r=>k r δ1
  | .exn c=>.ex c δ1
  | .bad=>.bad
 | none=>.bad
def Yd5:OT->Zi->RS:=λ_ δ=>.nx δ
def Jm:OT->Zi->RS:=λr δ=>.rt r δ
def Yep:OT->Zi->RS:=λr δ=>if Zf5 r.data=YD then .rt (.fz r.data) δ else .bad
def Y9(i:Nat):OT->Zi->RS:=λr δ=>.nx (δ.set i (YB (.fz r.data)))
def Yf5(i:Nat):OT->Zi->RS:=λr δ=>if Zf5 r.data=YD then .nx (δ.set i (YB (.fz r.data)))else .bad
def Zas(i:Nat):OT->Zi->RS:=λr δ=>.nx (δ.set i (YB r))
def Yke(g:FG):OT->Zi->RS:=λr δ=>match g r.data δ with|some δ'=>.nx δ'|none=>.bad
def Yfw:FS:=λδ=>.rt (.fz .none) δ
def Zdf(i:Nat):FS:=λδ=>match δ[i]? with|some (YB t)=>.rt t (δ.set i YC)|_=>.bad
def Zbg(t:FT)(u w:FS):FS:=λδ=>match t δ with|some (b,δ')=>if b=YD then u δ' else w δ'|none=>.bad
def Zol(c:Str):FS:=λδ=>.ex c δ
def Wf(i:Nat)(e:FE):FS:=λδ=>match δ[i]? with
 | some (YB (.nd _))=>wE e (λr δ1=>match δ1[i]? with
  | some (YB (.nd ts))=>if ts.length<Xv then .nx (δ1.set i (YB (.nd (ts++[.fz r.data]))))else .bad
  | _=>.bad) δ
 | _=>.bad
def Zoc(i:Nat)(e:FE):FS:=λδ=>match δ[i]? with
 | some (YB (.nd _))=>wE e (λr δ1=>match δ1[i]? with
  | some (YB (.nd ts))=>if ts.length<Xv then .nx (δ1.set i (YB (.nd (ts++[r]))))else .bad
  | _=>.bad) δ
 | _=>.bad
def Yjg(i:Nat)(e j:FE):FS:=wE e λr δ1=>match δ1[i]? with
 | some (YB (.nd ts))=>wE j (λn _=>match n.data with
  | .int k=>match ixN ts.length k with
   | some j=>.nx (δ1.set i (YB (.nd (ts.set j (.fz r.data)))))
   | none=>.bad
  | _=>.bad) δ1
 | _=>.bad
def Zv9(i:Nat)(e j j2:FE):FS:=wE e λr δ1=>match δ1[i]? with
 | some (YB (.nd ts))=>wE j (λn _=>match n.data with
  | .int k=>match ixN ts.length k with
   | some j=>match ts[j]? with
    | some (.nd us)=>wE j2 (λn' _=>match n'.data with
     | .int k'=>match ixN us.length k' with
      | some j'=>.nx (δ1.set i (YB (.nd (ts.set j (.nd (us.set j' (.fz r.data)))))))
      | none=>.bad
     | _=>.bad) δ1
    | _=>.bad
   | none=>.bad
  | _=>.bad) δ1
 | _=>.bad
def Zhg(i:Nat)(u:FS):FS:=λδ=>match δ[i]? with|some (YB t)=>u (δ.set i (YB (.fz t.data)))|_=>.bad
def forLoop(g:FG)(u:FS):List Xa->Zi->RS
 | [],δ=>.nx δ
 | d::ds,δ=>match g d δ with
  | none=>.bad
  | some δ1=>match u δ1 with
   | .nx δ2=>forLoop g u ds δ2
   | .ct δ2=>forLoop g u ds δ2
   | .bk δ2=>.nx δ2
   | r=>r
def J5(it:FI)(g:FG)(u:FS):FS:=λδ=>match it δ with|some (ds,δ1)=>forLoop g u ds δ1|none=>.bad
def whileLoop(t:FT)(u:FS):Nat->Zi->RS
 | 0,_=>.bad
 | n+1,δ=>match t δ with
  | none=>.bad
  | some (b,δ1)=>if b=YD then match u δ1 with
   | .nx δ2=>whileLoop t u n δ2
   | .ct δ2=>whileLoop t u n δ2
   | .bk δ2=>.nx δ2
   | .rt r δ2=>.rt r δ2
   | _=>.bad
   else .nx δ1
open Classical in
def Zi1(t:FT)(u:FS):FS:=λδ=>if h:∃n,whileLoop t u n δ≠ .bad then whileLoop t u (Classical.choose h) δ else .bad
def Zf0(n:Nat)(ds:List Xa):Zi:=ds.map (λd=>YB (.fz d))++X7 (n-ds.length) YC
def Ydx(n:Nat)(t:OT)(ds:List Xa):Zi:=YB t::(ds.map (λd=>YB (.fz d))++X7 (n-(ds.length+1)) YC)
def RS.told:RS->RF
 | .nx _=>.ok (.fz .none)
 | .rt r _=>.ok r
 | .ex c _=>.exn c
 | _=>.bad
def Jt(np n:Nat)(S:FS):FD:=λds=>if ds.length=np then(S (Zf0 n ds)).told else .bad
def sD(F:FD):List Xa->(OT->Prop)->Prop:=λds k=>∃r,F ds= .ok r/\k r
theorem bs{x:Option α}{f:α->Option β}{b:β}(h:x.bind f=YB b):∃a,x=YB a/\f a=YB b:=Option.bind_eq_some_iff.mp h
end L2
variable {c2:Bool}{ra:FA}{F:FD}{me fa fb fc:FE}{g:FG}{it:FI}{hi:FO}{pl pr:Pos}
namespace L2
open PySem PySem.Spec PyProof.Rows
section
variable {X:Cx}{io:List Nat}{p c:Bool}{e tg:YJ}{es:List YJ}{st:YK}{sts:List YK}{eo:Option YJ}{fa fb fc:FE}{ra:FA}{ta tb:FT}{i:Nat}
theorem Wy(h:ME X io p c e (Ydg i)):ME X io p c e (o2 (Ze i)):=h.weak λδ K q91=>by
 obtain⟨r,δ',h,k⟩:=q91;unfold Ze at h;unfold Ydg;split at h
 .rename_i d hd;(try rw[hd]);cases h;exact k
 .cases h
theorem Yan(h:ME X io p c e (Ydo i)):ME X io p c e (o2 (Zkr i)):=h.weak λδ K q92=>by
 obtain⟨r,δ',h,k⟩:=q92;unfold Zkr at h;unfold Ydo;split at h
 .rename_i d hd;(try rw[hd]);cases h;exact k
 .cases h
theorem Zoy{d:Xa}(h:ME X io p c e (mC d)):ME X io p c e (o2 (fC d)):=h.weak λδ K ⟨r,δ',h,k⟩=>by cases h;exact k
def ByS(g:Xa->Xa->Option Xa)(rp:Xa->Xa->(Xa->Prop)->Prop):Prop:=∀d e r k,g d e=YB r->k r->rp d e k
def ByO(g:Xa->Xa->Option OT)(rp:Xa->Xa->(OT->Prop)->Prop):Prop:=∀d e r k,g d e=YB r->k r->rp d e k
theorem Z12{g rp}(G:ByS g rp){K:OT->Zi->Prop}(h:o2 (Zj g fa fb) δ K):Znn rp (o2 fa) (o2 fb) δ K:=by
 obtain⟨r,δ',h,k⟩:=h;obtain⟨⟨x,δ1⟩,h1,h⟩:=bs h;obtain⟨⟨y,δ2⟩,h2,h⟩:=bs h;obtain⟨d,h3,h⟩:=bs h;cases h;exact⟨x,δ1,h1,y,δ2,h2,G _ _ _ _ h3 k⟩
theorem W5{g rp}(G:ByS g rp)(h:ME X io p c e (Znn rp (o2 fa) (o2 fb))):ME X io p c e (o2 (Zj g fa fb)):=h.weak λδ K z=>Z12 G z
theorem Ylg{f:FE}{K:Bool->Zi->Prop}(h:o2 (tV f) δ K):o2 f δ (kB K):=by
 obtain⟨b,δ',h,k⟩:=h;obtain⟨⟨x,δ1⟩,h1,h⟩:=bs h;refine⟨x,δ1,h1,?_⟩;unfold kB
 try dsimp only at h|-
 split at h
 .cases h;exact k
 .cases h
theorem Zag{g rp}(G:ByS g rp)(h:MT X io p e (λδ K=>Znn rp (o2 fa) (o2 fb) δ (kB K))):MT X io p e (o2 (tV (Zj g fa fb))):=h.weak λδ K z=>Z12 G (Ylg z)
theorem Zim{g rp}(G:ByO g rp)(h:ME X io p c e (Ydn rp (o2 fa) (o2 fb))):ME X io p c e (o2 (Ym g fa fb)):=h.weak λδ K h=>by
 obtain⟨r,δ',h,k⟩:=h;obtain⟨⟨x,δ1⟩,h1,h⟩:=bs h;obtain⟨⟨y,δ2⟩,h2,h⟩:=bs h;obtain⟨d,h3,h⟩:=bs h;cases h;exact⟨x,δ1,h1,y,δ2,h2,G _ _ _ _ h3 k⟩
def Zw2:Xa->Option Xa| .int i=>YB (.int (-i))|_=>YC
def Ydc:Xa->Option Xa| .bool b=>YB (.bool (!b))|_=>YC
theorem Zr2(h:ME X io p c e (Yg7 (o2 fa))):ME X io p c e (o2 (fUn Zw2 fa)):=h.weak λδ K h=>by
 obtain⟨r,δ',h,k⟩:=h;obtain⟨⟨x,δ1⟩,h1,h⟩:=bs h;obtain⟨d,h3,h⟩:=bs h;cases h;refine⟨x,δ1,h1,?_⟩;dsimp only at h3|-
 cases q:x.data<;>rw[q]at h3<;>cases h3
 exact k
theorem Zv4(h:ME X io p c e (Z93 (o2 fa))):ME X io p c e (o2 (fUn Ydc fa)):=h.weak λδ K h=>by
 obtain⟨r,δ',h,k⟩:=h;obtain⟨⟨x,δ1⟩,h1,h⟩:=bs h;obtain⟨d,h3,h⟩:=bs h;cases h;refine⟨x,δ1,h1,?_⟩;dsimp only at h3|-
 cases q:x.data<;>rw[q]at h3<;>cases h3
 exact k
theorem Zgt(h:ME X io p c e (Z8g (o2 fa) (o2 fb))):ME X io p c e (o2 (Zw6 fa fb)):=h.weak λδ K h=>by
 obtain⟨r,δ',h,k⟩:=h;obtain⟨⟨x,δ1⟩,h1,h⟩:=bs h;refine⟨x,δ1,h1,?_⟩
 try dsimp only at h|-
 split at h
 .rename_i q;(try rw[q]);rw[Z1l,YL rfl];exact⟨r,δ',h,k⟩
 .rename_i q;(try rw[q]);cases h;rw[Z1l,YM Xn];exact k
 .cases h
theorem Yek(h:ME X io p c e (mIf (o2 ta) (o2 fa) (o2 fb))):ME X io p c e (o2 (fIf ta fa fb)):=h.weak λδ K h=>by
 obtain⟨r,δ',h,k⟩:=h;obtain⟨⟨x,δ1⟩,h1,h⟩:=bs h;refine⟨x,δ1,h1,?_⟩
 try dsimp only at h|-
 split at h
 .rename_i q;rw[YL q];exact⟨r,δ',h,k⟩
 .rename_i q;rw[YM q];exact⟨r,δ',h,k⟩
theorem Z09(h:MT X io p e (Yii (o2 ta))):MT X io p e (o2 (tNo ta)):=h.weak λδ K h=>by
 obtain⟨r,δ',h,k⟩:=h;obtain⟨⟨x,δ1⟩,h1,h⟩:=bs h;cases h;exact⟨x,δ1,h1,k⟩
theorem Z8i(h:MW X io p e (Yhb (o2 ta) (o2 tb))):MW X io p e (o2 (tAn ta tb)):=h.weak λδ K h=>by
 obtain⟨r,δ',h,k⟩:=h;obtain⟨⟨x,δ1⟩,h1,h⟩:=bs h;refine⟨x,δ1,h1,?_⟩
 try dsimp only at h|-
 split at h
 .rename_i q;rw[YL q];exact⟨r,δ',h,k⟩
 .rename_i q;rw[YM q];cases h;exact k
theorem Z24(h:MW X io p e (mOr (o2 ta) (o2 tb))):MW X io p e (o2 (tO ta tb)):=h.weak λδ K h=>by
 obtain⟨r,δ',h,k⟩:=h;obtain⟨⟨x,δ1⟩,h1,h⟩:=bs h;refine⟨x,δ1,h1,?_⟩
 try dsimp only at h|-
 split at h
 .rename_i q;rw[YL q];cases h;exact k
 .rename_i q;rw[YM q];exact⟨r,δ',h,k⟩
theorem Zeg(h:MT X io p e (Yg4 (o2 fa))):MT X io p e (o2 (tD fa)):=h.weak λδ K h=>by
 obtain⟨r,δ',h,k⟩:=h;obtain⟨⟨x,δ1⟩,h1,h⟩:=bs h;obtain⟨d,h3,h⟩:=bs h;cases h;refine⟨x,δ1,h1,?_⟩;dsimp only at h3|-
 rw[h3];exact k
theorem Zmm(h:MA X io p c es Yid):MA X io p c es (o2 Zo):=h.weak λδ K ⟨r,δ',h,k⟩=>by cases h;exact k
theorem Z6u(h:MA X io p c es (Z9s (o2 fa) (o2 ra))):MA X io p c es (o2 (Zc fa ra)):=h.weak λδ K h=>by
 obtain⟨r,δ',h,k⟩:=h;obtain⟨⟨x,δ1⟩,h1,h⟩:=bs h;obtain⟨⟨y,δ2⟩,h2,h⟩:=bs h;cases h;exact⟨x,δ1,h1,y,δ2,h2,k⟩
theorem Ybn(h:ME X io p c e (Ygx (o2 ra))):ME X io p c e (o2 (Zgn ra)):=h.weak λδ K h=>by
 obtain⟨r,δ',h,k⟩:=h;obtain⟨⟨x,δ1⟩,h1,h⟩:=bs h;refine⟨x,δ1,h1,?_⟩;dsimp only at h;split at h
 .rename_i q;cases h;exact⟨q,k⟩
 .cases h
theorem Z76(h:ME X io p c e (Yis (o2 ra))):ME X io p c e (o2 (Zek ra)):=h.weak λδ K h=>by
 obtain⟨r,δ',h,k⟩:=h;obtain⟨⟨x,δ1⟩,h1,h⟩:=bs h;refine⟨x,δ1,h1,?_⟩;dsimp only at h;split at h
 .rename_i q;cases h;exact⟨q,k⟩
 .cases h
theorem Zr3(h:ME X io p c e (Zy6 (sD F) (o2 ra))):ME X io p c e (o2 (Z4 F ra)):=h.weak λδ K h=>by
 obtain⟨r,δ',h,k⟩:=h;obtain⟨⟨x,δ1⟩,h1,h⟩:=bs h;refine⟨x,δ1,h1,?_⟩;dsimp only at h;split at h
 .rename_i q;cases h;exact⟨_,q,k⟩
 .cases h
theorem Zf3{g rp}(G:∀ds r k,g ds=YB r->k r->rp ds k)(h:ME X io p c e (Yec rp (o2 ra))):ME X io p c e (o2 (J1 g ra)):=h.weak λδ K h=>by
 obtain⟨r,δ',h,k⟩:=h;obtain⟨⟨x,δ1⟩,h1,h⟩:=bs h;obtain⟨d,h3,h⟩:=bs h;cases h;exact⟨x,δ1,h1,G _ _ _ h3 k⟩
theorem Zn2{g rp}(G:∀ds r k,g ds=YB r->k r->rp ds k)(h:ME X io p c e (mBl rp (o2 ra))):ME X io p c e (o2 (fBl g ra)):=h.weak λδ K h=>by
 obtain⟨r,δ',h,k⟩:=h;obtain⟨⟨x,δ1⟩,h1,h⟩:=bs h;obtain⟨d,h3,h⟩:=bs h;cases h;exact⟨x,δ1,h1,G _ _ _ h3 k⟩
theorem Zcx{T:String}(h:ME X io p c e (Yhr T (o2 fa))):ME X io p c e (o2 (Znm T fa)):=h.weak λδ K h=>by
 obtain⟨r,δ',h,k⟩:=h;obtain⟨⟨x,δ1⟩,h1,h⟩:=bs h
 by_cases hf:Zgq x.data=YD
 .have h':(if Zgq x.data=YD then YC else YB (OT.fz (.bool (Zo9 T x.data)),δ1))=YB (r,δ'):=h
  rw[YL hf]at h';cases h'
 .have h':(if Zgq x.data=YD then YC else YB (OT.fz (.bool (Zo9 T x.data)),δ1))=YB (r,δ'):=h
  rw[YM hf]at h';injection h' with h';injection h' with e1 e2;subst e1 e2;exact⟨x,_,h1,Vt.mpr hf,k⟩
theorem Z5k(h:MO X io p eo Zvl):MO X io p eo (o2 oN):=h.weak λδ K ⟨r,δ',h,k⟩=>by cases h;exact k
theorem Z2m(h:MO X io p eo (Z7t (o2 fa))):MO X io p eo (o2 (oI fa)):=h.weak λδ K h=>by
 obtain⟨r,δ',h,k⟩:=h;obtain⟨⟨x,δ1⟩,h1,h⟩:=bs h;refine⟨x,δ1,h1,?_⟩
 try dsimp only at h|-
 split at h
 .rename_i q;(try rw[q]);cases h;exact k
 .cases h
theorem Yeu{lo:FO}(h:ME X io p c e (mSl (o2 fa) (o2 lo) (o2 hi))):ME X io p c e (o2 (fSl fa lo hi)):=h.weak λδ K h=>by
 obtain⟨r,δ',h,k⟩:=h;obtain⟨⟨x,δ1⟩,h1,h⟩:=bs h;obtain⟨⟨y,δ2⟩,h2,h⟩:=bs h;obtain⟨⟨z,δ3⟩,h3,h⟩:=bs h;refine⟨x,δ1,h1,y,δ2,h2,z,δ3,h3,?_⟩
 try dsimp only at h|-
 split at h
 .rename_i q;(try rw[q]);cases h;exact k
 .cases h
theorem Z5f{f g:Int->Int->Bool}{K:OT->Zi->Prop}(h:o2 (Zl5 f g fa fb fc) δ K):Zpo f g (o2 fa) (o2 fb) (o2 fc) δ K:=by
 obtain⟨r,δ',h,k⟩:=h;obtain⟨⟨x,δ1⟩,h1,h⟩:=bs h;obtain⟨⟨y,δ2⟩,h2,h⟩:=bs h;refine⟨x,δ1,h1,y,δ2,h2,?_⟩
 try dsimp only at h|-
 split at h
 case h_2=>cases h
 rename_i i j q1 q2
 (try rw[q1,q2])
 show(if f i j=YD then _ else _);split at h
 .rename_i hf
  rw[YL hf];obtain⟨⟨z,δ3⟩,h3,h⟩:=bs h;refine⟨z,δ3,h3,?_⟩
  try dsimp only at h|-
  split at h
  .rename_i q;(try rw[q]);cases h;exact k
  .cases h
 .rename_i hf
  rw[YM hf];cases h;exact k
theorem Zyt{f g:Int->Int->Bool}(h:ME X io p c e (Zpo f g (o2 fa) (o2 fb) (o2 fc))):ME X io p c e (o2 (Zl5 f g fa fb fc)):=h.weak λδ K z=>Z5f z
theorem Z3u(h:MI X io p c tg e (iL (o2 fa))):MI X io p c tg e (o2 (Zfz fa)):=h.weak λδ K h=>by
 obtain⟨r,δ',h,k⟩:=h;obtain⟨⟨x,δ1⟩,h1,h⟩:=bs h;refine⟨x,δ1,h1,?_⟩
 try dsimp only at h|-
 split at h
 .rename_i q;(try rw[q]);cases h;exact k
 .cases h
theorem Zen(h:MI X io p c tg e (iR1 (o2 ra))):MI X io p c tg e (o2 (iRa ra)):=h.weak λδ K h=>by
 obtain⟨r,δ',h,k⟩:=h;obtain⟨⟨x,δ1⟩,h1,h⟩:=bs h;refine⟨x,δ1,h1,?_⟩
 try dsimp only at h|-
 split at h
 case h_2=>cases h
 rename_i q
 (try rw[q])
 try dsimp only
 split at h
 .rename_i b;cases h;exact⟨Zc0 b,k⟩
 .cases h
theorem Z2p(h:MI X io p c tg e (iR2 (o2 ra))):MI X io p c tg e (o2 (iRb ra)):=h.weak λδ K h=>by
 obtain⟨r,δ',h,k⟩:=h;obtain⟨⟨x,δ1⟩,h1,h⟩:=bs h;refine⟨x,δ1,h1,?_⟩
 try dsimp only at h|-
 split at h
 case h_2=>cases h
 rename_i q
 (try rw[q])
 try dsimp only
 split at h
 .rename_i b
  cases h;rw[Xp]at b;exact⟨⟨(Zc0 b.1).1,(Zc0 b.1).2,(Zc0 b.2).1,(Zc0 b.2).2⟩,k⟩
 .cases h
theorem Zmw(h:MG X io c tg (dName i)):MG X io c tg (oG (gNm i)):=h.weak λd δ K ⟨δ',h,k⟩=>by cases h;exact k
theorem Zmv(h:MGs X io c es Yiw):MGs X io c es (oGs gNl):=h.weak λd δ K q94=>by
 obtain⟨δ',h,k⟩:=q94;unfold gNl at h;split at h
 .cases h;exact⟨rfl,k⟩
 .cases h
theorem Zax{gs:FGs}(h:MGs X io c es (Z8p (oG g) (oGs gs))):MGs X io c es (oGs (gCn g gs)):=h.weak λd δ K q95=>by
 obtain⟨δ',h,k⟩:=q95;unfold gCn at h;split at h
 .obtain⟨δ1,h1,h⟩:=bs h
  exact⟨δ1,h1,δ',h,k⟩
 .cases h
theorem Zuy{n:Nat}{gs:FGs}(h:MG X io c tg (dTup n (oGs gs))):MG X io c tg (oG (gTp n gs)):=h.weak λd δ K q96=>by
 obtain⟨δ',h,k⟩:=q96;unfold gTp at h;split at h
 case h_2=>cases h
 split at h
 .rename_i q;exact⟨q,δ',h,k⟩
 .cases h
theorem Zbb(h:MIfs X io p es Ya7):MIfs X io p es (o2 Zil):=h.weak λδ K ⟨r,δ',h,k⟩=>by cases h;exact k
theorem Z20{t:FT}{δ0:Zi}{zs:List OT}{δe:Zi}(h:compLoop g t me ds δ0=YB (zs,δe)) :
  ∃I:Nat->List OT->Zi->Prop,I 0 [] δ0/\
 (∀ (i:Nat) (d:Xa) (rs:List OT) (δ':Zi),ds[i]? =YB d->I i rs δ'->oG g d δ' λδ2=>o2 t δ2 λb δ3=>if b=YD then o2 me δ3 λr δ4=>I (i+1) (rs++[r]) δ4 else I (i+1) rs δ3)/\
 ∀rs δ',I ds.length rs δ'->rs=zs/\δ'=δe:=by
 refine⟨λi rs δ'=>∃ys,rs++ys=zs/\compLoop g t me (ds.drop i) δ'=YB (ys,δe),⟨zs,rfl,by rw[List.drop_zero];exact h⟩,?_,?_⟩
 .rintro i d rs δ' hd ⟨ys,e,hl⟩
  obtain⟨hi,hdi⟩:=Xu.mp hd;rw[Uh hi,hdi]at hl;unfold compLoop at hl;obtain⟨δ1,h1,hl⟩:=bs hl;obtain⟨⟨b,δ2⟩,h2,hl⟩:=bs hl;refine⟨δ1,h1,b,δ2,h2,?_⟩;dsimp only at hl;split at hl
  .rename_i hb
   rw[YL hb];obtain⟨⟨r,δ3⟩,h3,hl⟩:=bs hl;obtain⟨⟨ws,δ4⟩,h4,hl⟩:=bs hl;cases hl;exact⟨r,δ3,h3,ws,by rw[BW];exact e,h4⟩
  .rename_i hb
   rw[YM hb];exact⟨ys,e,hl⟩
 .rintro rs δ' ⟨ys,e,hl⟩
  rw[List.drop_length]at hl;unfold compLoop at hl;cases hl;exact⟨by rw[<-e,JP],rfl⟩
theorem Zpd{n:Nat}{t:FT}{K:OT->Zi->Prop}(h:o2 (Yu n caps it g t me) δ K):Zfm n caps (o2 it) (oG g) (o2 t) (o2 me) δ K:=by
 obtain⟨r,δ',h,k⟩:=h;obtain⟨⟨ds,δ1⟩,h1,h⟩:=bs h;refine⟨ds,δ1,h1,?_⟩;dsimp only at h;split at h
 case isFalse=>cases h
 rename_i hz;obtain⟨⟨zs,δe⟩,h2,h⟩:=bs h;cases h;obtain⟨I,i0,st,en⟩:=Z20 h2;refine⟨hz,I,i0,st,λrs δ'' q=>?_⟩;obtain⟨rfl,rfl⟩:=en rs δ'' q;exact k
theorem Zbp{n:Nat}{t:FT}(h:ME X io p c e (Zfm n caps (o2 it) (oG g) (o2 t) (o2 me))):ME X io p c e (o2 (Yu n caps it g t me)):=h.weak λδ K z=>Zpd z
end
section
variable {X:Cx}{io:List Nat}{p c:Bool}{e tg iter:YJ}{es:List YJ}{st:YK}{sts:List YK}{fa fb fc:FE}{ra:FA}{ta tb:FT}{i:Nat}{f g u w:FS}
theorem Zij(h:MSs X io sts (Yd6 (oS f) (oS g))):MSs X io sts (oS (Z5 f g)):=h.weak λD δ h=>by
 unfold oS Z5 at h;unfold Yd6 oS;cases q:f δ<;>rw[q]at h<;>exact h
theorem Ze5(h:MSs X io sts Z9l):MSs X io sts (oS fNx):=h.weak λD δ h=>h
theorem Zqt{k:OT->Zi->RS}{D:Zh9}(h:oS (wE fa k) D δ):o2 fa δ λr δ'=>(k r δ').fits D:=by
 unfold oS wE at h;split at h
 .rename_i q;exact⟨_,_,q,h⟩
 .exact h.elim
theorem o2.imp{f:Zi->Option (α×Zi)}{K K':α->Zi->Prop}(h:o2 f δ K)(k:∀r δ',K r δ'->K' r δ'):o2 f δ K':=let⟨r,δ',e,q⟩:=h;⟨r,δ',e,k r δ' q⟩
theorem Zj4{P:Prop}[Decidable P]{a:RS}{D:Zh9}(h:(if P then a else .bad:RS).fits D):P/\a.fits D:=by
 split at h
 .exact⟨‹_›,h⟩
 .exact h.elim
theorem Zhk(h:MS X io st (Yg2 (o2 fa))):MS X io st (oS (wE fa Jm)):=h.weak λD δ h=>Zqt h
theorem Zco(h:MS X io st (Zyh i)):MS X io st (oS (Zdf i)):=h.weak λD δ h=>by
 unfold oS Zdf at h;unfold Zyh;split at h
 .rename_i q;(try rw[q]);exact h
 .exact h.elim
theorem Zqc(h:MS X io st (Yhz (o2 ta) (oS u) (oS w))):MS X io st (oS (Zbg ta u w)):=h.weak λD δ h=>by
 unfold oS Zbg at h;split at h
 .rename_i b δ' q
  refine⟨b,δ',q,?_⟩;split at h
  .rename_i hb;rw[YL hb];exact h
  .rename_i hb;rw[YM hb];exact h
 .exact h.elim
theorem Yar(h:MS X io st (Z7h i (o2 fa))):MS X io st (oS (wE fa (Y9 i))):=h.weak λD δ h=>Zqt h
theorem Z3b(h:MS X io st (Zmi i (o2 fa))):MS X io st (oS (wE fa (Zas i))):=h.weak λD δ h=>Zqt h
section
variable {n:Nat}{o q:Nat}{gg:FG}{t:FT}
theorem Zz9(h:MS X io st (if YD=YD then Zmi i (Zfm n caps (o2 it) (oG gg) (o2 t) (o2 me))else Z7h i (Zfm n caps (o2 it) (oG gg) (o2 t) (o2 me)))):MS X io st (oS (wE (Yu n caps it gg t me) (Zas i))) :=
 h.weak λD δ h=>by rw[YL rfl];exact Zpd (Zqt h)
theorem Zm7(h:MS X io st (if YF=YD then Zmi i (Zfm n caps (o2 it) (oG gg) (o2 t) (o2 me))else Z7h i (Zfm n caps (o2 it) (oG gg) (o2 t) (o2 me)))):MS X io st (oS (wE (Yu n caps it gg t me) (Y9 i))) :=
 h.weak λD δ h=>by rw[YM Xn];exact Zpd (Zqt h)
end
theorem J0(h:MS X io st (Zje i (o2 fa))):MS X io st (oS (Wf i fa)):=h.weak λD δ h=>by
 unfold oS Wf at h;unfold Zje;split at h
 case h_2=>exact h.elim
 rename_i q;(try rw[q]);refine(Zqt h).imp λr δ' z=>?_;split at z
 .rename_i q2;(try rw[q2]);exact Zj4 z
 .exact z.elim
theorem Z7d(h:MS X io st (Yb4 i (o2 fa) (o2 fb) (o2 fc))):MS X io st (oS (Zv9 i fa fb fc)):=h.weak λD δ h=>by
 refine(Zqt h).imp λr δ' z=>?_;split at z
 case h_2=>exact z.elim
 rename_i q;(try rw[q]);refine(Zqt z).imp λn δ2 z=>?_;split at z
 case h_2=>exact z.elim
 rename_i k q2;(try rw[q2]);show match ixN _ k with|some j=>_|none=>_
 split at z
 case h_2=>exact z.elim
 rename_i q3;(try rw[q3])
 try dsimp only
 split at z
 case h_2=>exact z.elim
 rename_i q4;(try rw[q4]);refine(Zqt z).imp λn' δ3 z=>?_;split at z
 case h_2=>exact z.elim
 rename_i k' q5;(try rw[q5]);show match ixN _ k' with|some j=>_|none=>_
 split at z
 .rename_i q6;(try rw[q6]);exact z
 .exact z.elim
theorem Zvh(h:MS X io st (Zjy i (oS u))):MS X io st (oS (Zhg i u)):=h.weak λD δ h=>by
 unfold oS Zhg at h;unfold Zjy;split at h
 .rename_i q;(try rw[q]);exact h
 .exact h.elim
theorem Jz{gg:FG}{d:Xa}:forLoop gg u (d::ds) δ=match gg d δ with
  | none=>.bad
  | some δ1=>match u δ1 with
   | .nx δ2=>forLoop gg u ds δ2
   | .ct δ2=>forLoop gg u ds δ2
   | .bk δ2=>.nx δ2
   | r=>r:=rfl
theorem Z1m{gg:FG}(h:MS X io st (Yi2 (o2 it) (oG gg) (oS u))):MS X io st (oS (J5 it gg u)):=h.weak λD δ h=>by
 unfold oS J5 at h;split at h
 case h_2=>exact h.elim
 rename_i ds δ1 q;refine⟨ds,δ1,q,λi δ'=>(forLoop gg u (ds.drop i) δ').fits D,by show RS.fits D (forLoop gg u (ds.drop 0) δ1);rw[List.drop_zero];exact h,λi d δ' hd z=>?_,λδ' z=>?_⟩
 .obtain⟨hi,hdi⟩:=Xu.mp hd
  replace z:RS.fits D (forLoop gg u (ds.drop i) δ'):=z;rw[Uh hi,hdi,Jz]at z;split at z
  case h_1=>exact z.elim
  rename_i δ2 q2;refine⟨δ2,q2,?_⟩;unfold oS;cases q3:u δ2<;>rw[q3]at z<;>(try rw[q3])<;>exact z
 .replace z:RS.fits D (forLoop gg u (ds.drop ds.length) δ'):=z
  rw[List.drop_length]at z;exact z
theorem Zod(h:MS X io st (Z0r (o2 ta) (oS u))):MS X io st (oS (Zi1 ta u)):=h.weak λD δ h=>by
 unfold oS Zi1 at h;split at h
 case isFalse=>exact h.elim
 rename_i hn;refine⟨λn δ'=>(whileLoop ta u n δ').fits D,⟨_,h⟩,λn δ' z=>?_⟩;cases n with
 | zero=>exact z.elim
 | succ n=>
  unfold whileLoop at z;split at z
  case h_1=>exact z.elim
  rename_i b δ1 q;refine⟨b,δ1,q,?_⟩;split at z
  .rename_i hb
   rw[YL hb];refine⟨λδ''=>(whileLoop ta u n δ'').fits D,λδ'' y=>⟨n,Ub n,y⟩,?_⟩;unfold oS;cases q3:u δ1<;>rw[q3]at z<;>exact z
  .rename_i hb
   rw[YM hb];exact z
theorem Zdl{n m:Nat}:∀{δ:Zi},whileLoop ta u n δ≠ .bad->whileLoop ta u (n+m) δ=whileLoop ta u n δ:=by
 induction n with
 | zero=>intro δ h;exact YX rfl h
 | succ n ih=>
  intro δ h;rw[Nat.succ_add];unfold whileLoop at h|-
  cases q:ta δ with
  | none=>rfl
  | some x=>
   obtain⟨b,δ1⟩:=x;rw[q]at h
   try dsimp only at h|-
   split
   .rename_i hb
    rw[YL hb]at h;cases q3:u δ1<;>rw[q3]at h<;>first|exact ih h|rfl
   .rfl
theorem Zl2{r:RS}(n:Nat)(h:whileLoop ta u n δ=r)(hr:r≠ .bad):Zi1 ta u δ=r:=by
 have hn:∃n,whileLoop ta u n δ≠ .bad:=⟨n,by rw[h];exact hr⟩;unfold Zi1;rw[dif_pos hn];have h1:=Classical.choose_spec hn;have e1:=Zdl (m:=n) h1;have e2:=Zdl (m:=Classical.choose hn) (show whileLoop ta u n δ≠ .bad by rw[h];exact hr);rw[Nat.add_comm]at e2;rw[<-e1,e2,h]
theorem Zn9{cn:Str}:MS X io st (oS (Zol cn)):=Zz8.weak λD δ h=>h
class NoEx (f:FS):Prop where
 no:∀δ cn δ',f δ≠ .ex cn δ'
class NoExK (k:OT->Zi->RS):Prop where
 no:∀r δ cn δ',k r δ≠ .ex cn δ'
end
section
variable {P:X5}{w:Qu}{K:Xc}{mg:Str->Option Xf}{base:YH}{x qual:Str}{st:YK}{f:YG}{fd:X3}{N ps:List Str}{n np nn:Nat}{S:FS}
theorem RS.told_fits{r:RS}{o:OT}{k:OT->Prop}(h:r.told= .ok o)(hk:k o):r.fits (Z3z k):=by
 cases r<;>unfold RS.told at h<;>first|(cases h;exact hk)|cases h
theorem Z7(F:Fun K x qual st f fd)(Sc:Zv N ps (Zn st))(hN:N.length=nn)(hp:np=ps.length)
  (hb:∀(cdv:Xf) (A:Qv) (outer:List Env) (s:Xg) (H:Hp) (E:XK),Room n (A.deeper (envOfC qual (Zn st) s.heap.objs.size f cdv))->MSs (Z1v CX0 P w K mg base N qual (Zn st) f cdv A outer s H E).nox [] (Zbq st) (oS S)) :
  FnOk P w K mg base CX0 (n+1) f fd ps (spD K (sD (Jt np nn S))):=by
 subst hN hp;refine F.okD Sc (λds k h=>?_) λcdv A outer s H E hr=>⟨_,hb cdv A outer s H E hr,λds k h=>?_⟩
 .obtain⟨r,h,_⟩:=h
  unfold Jt at h;split at h
  .assumption
  .cases h
 .obtain⟨r,h,hk⟩:=h
  unfold Jt at h;split at h
  .exact RS.told_fits h hk
  .cases h
end
def i2(g:Int->Int->Xa):Xa->Xa->Option Xa:=λd e=>match d,e with| .int i,.int j=>YB (g i j)|_,_=>YC
def i2c(c:Int->Int->Bool)(g:Int->Int->Xa):Xa->Xa->Option Xa:=λd e=>match d,e with| .int i,.int j=>if c i j=YD then YB (g i j)else YC|_,_=>YC
theorem Zqu{g:Int->Int->Xa}:ByS (i2 g) (Zzc g):=λd e r k h hk=>by
 unfold i2 at h;split at h
 .cases h;exact hk
 .cases h
theorem Zpb{c:Int->Int->Bool}{C:Int->Int->Prop}{g:Int->Int->Xa}(hc:∀i j,c i j=YD->C i j):ByS (i2c c g) (d2I C g):=λd e r k h hk=>by
 unfold i2c at h;split at h
 .split at h
  .cases h;exact⟨hc _ _ ‹_›,hk⟩
  .cases h
 .cases h
def Z5v(a b:Int):Bool:=!(decide (Bc a>shortFactorBits)&&decide (Bc b>shortFactorBits)&&Builtin.Int.intTooBig (Bc a+Bc b))
def Z8h(_ j:Int):Bool:=decide (j≠0)&&decide (j.natAbs.log2<9000)
def Yh8(_ j:Int):Bool:=decide (j≠0)
def Yj5(i j:Int):Bool:=decide (0<=j/\j<=1000000/\i.natAbs<2^64)
theorem Zgb{a:Int}:Z5v a b=YD↔IntMulOk a b:=by
 unfold Z5v IntMulOk;rw[Bool.not_eq_true',Bool.not_eq_true]
def Zcb:=i2 λi j=>.int (i+j)
def gSb:=i2 λi j=>.int (i-j)
def Zfy:=i2c Z5v λi j=>.int (i*j)
def Zat:=i2c Z8h λi j=>.int (i.fdiv j)
def Zej:=i2c Yh8 λi j=>.int (i.fmod j)
def Zzw:=i2c Yj5 λi j=>.int (i^j.toNat)
def gLt:=i2 λi j=>.bool (decide (i<j))
def gLe:=i2 λi j=>.bool (decide (i<=j))
def gGt:=i2 λi j=>.bool (decide (j<i))
def gGe:=i2 λi j=>.bool (decide (j<=i))
theorem Yeo:ByS Zcb (Zzc λi j=>.int (i+j)):=Zqu
theorem Yel:ByS gSb (Zzc λi j=>.int (i-j)):=Zqu
theorem Yfa:ByS Zfy (d2I MulOk λi j=>.int (i*j)):=Zpb λi j h=>⟨Zgb.mp h⟩
theorem Z95:ByS Zat (d2I Ygy λi j=>.int (i.fdiv j)):=Zpb λi j h=>⟨by
 unfold Z8h at h;rw[Xp]at h;exact⟨YW h.1,YW h.2⟩⟩
theorem Ygs:ByS Zej (d2I (λ_ j=>j≠0) λi j=>.int (i.fmod j)):=Zpb λi j h=>YW h
theorem Ygi:ByS Zzw (d2I Yi8 λi j=>.int (i^j.toNat)):=Zpb λi j h=>⟨(YW h:0<=j/\j<=1000000/\i.natAbs<2^64)⟩
theorem Yfj:ByS gLt (Zzc λi j=>.bool (decide (i<j))):=Zqu
theorem Yll:ByS gLe (Zzc λi j=>.bool (decide (i<=j))):=Zqu
theorem Yha:ByS gGt (Zzc λi j=>.bool (decide (j<i))):=Zqu
theorem Ylf:ByS gGe (Zzc λi j=>.bool (decide (j<=i))):=Zqu
def gEq:Xa->Xa->Option Xa:=λd e=>if(Ut d&&Ut e)=YD then YB (.bool (QT d e))else YC
def gNe:Xa->Xa->Option Xa:=λd e=>if(Ut d&&Ut e)=YD then YB (.bool (!QT d e))else YC
theorem Ydu:ByS gEq dEq:=λd e r k h hk=>by
 unfold gEq at h;split at h
 .rename_i q
  rw[Xp]at q;cases h;exact⟨⟨q.1⟩,⟨q.2⟩,hk⟩
 .cases h
theorem Ydd:ByS gNe dNe:=λd e r k h hk=>by
 unfold gNe at h;split at h
 .rename_i q
  rw[Xp]at q;cases h;exact⟨⟨q.1⟩,⟨q.2⟩,hk⟩
 .cases h
def gIs:Xa->Xa->Option Xa:=λd e=>match e with| .none=>YB (.bool (Ze9 d))|_=>YC
def Zmo:Xa->Xa->Option Xa:=λd e=>match e with| .none=>YB (.bool (!Ze9 d))|_=>YC
theorem Zvu:ByS Zmo Z9f:=λd e r k h hk=>by
 unfold Zmo at h;split at h
 .cases h;exact⟨rfl,hk⟩
 .cases h
def Zir(neg:Bool):Xa->Xa->Option Xa:=λd e=>match Zf2 e with
 | some ds=>if(scD d&&ds.all scD)=YD then YB (.bool (if neg then !memS d ds else memS d ds))else YC
 | none=>YC
theorem Zqh{neg:Bool}:ByS (Zir neg) (dIn neg):=λd e r k h hk=>by
 unfold Zir at h;split at h
 case h_2=>cases h
 rename_i ds q;split at h
 case isFalse=>cases h
 rename_i q2;rw[Xp]at q2;cases h;refine⟨q2.1,?_⟩;cases e<;>cases q
 .exact⟨q2.2,hk⟩
 .exact⟨q2.2,hk⟩
def gIx:Xa->Xa->Option OT:=λd e=>(ixD d e).bind λx=>YB (.fz x)
theorem Yjo:ByO gIx dIx:=λd e r k h hk=>by
 obtain⟨x,h1,h2⟩:=bs h;cases h2;unfold dIx;rw[h1];exact hk
def Zwy:Xa->Xa->Option OT:=λd e=>match d,e with| .list ds,.list es=>if ds.length+es.length<=Xv then YB (.nd ((ds++es).map OT.fz))else YC|_,_=>YC
theorem Zz1:ByO Zwy dCat:=λd e r k h hk=>by
 unfold Zwy at h;split at h
 .split at h
  .cases h;exact⟨‹_›,hk⟩
  .cases h
 .cases h
def Zac:List Xa->Option Xa:=λds=>match ds with|[d]=>(Zxt d).bind λn=>YB (.int n)|_=>YC
theorem Z6c:∀ds r k,Zac ds=YB r->k r->Yg5 ds k:=λds r k h hk=>by
 unfold Zac at h;split at h
 .obtain⟨n,h1,h2⟩:=bs h
  cases h2;show match Zxt _ with|some n=>_|none=>_
  rw[h1];exact hk
 .cases h
def Z7l:List Xa->Option Xa:=λds=>match ds with|[.int i]=>YB (.int (if i<0 then -i else i))|_=>YC
theorem Z63:∀ds r k,Z7l ds=YB r->k r->Yij ds k:=λds r k h hk=>by
 unfold Z7l at h;split at h
 .cases h;exact hk
 .cases h
def Ylj:List Xa->Option Xa:=λds=>match ds with|[.int i,.int j]=>YB (.int (if j>i then j else i))|_=>YC
def Z1o:List Xa->Option Xa:=λds=>match ds with|[.int i,.int j]=>YB (.int (if j<i then j else i))|_=>YC
theorem Z9d:∀ds r k,Z1o ds=YB r->k r->Ygz ds k:=λds r k h hk=>by
 unfold Z1o at h;split at h
 .cases h;exact hk
 .cases h
def Yie:List Xa->Option Xa:=λds=>match ds with|[.int i]=>YB (.int i)|[.bool b]=>YB (.int (if b then 1 else 0))|_=>YC
def Zs0:List Xa->Option OT:=λds=>match ds with|[d]=>(Zf2 d).bind λes=>YB (.nd (es.map OT.fz))|_=>YC
theorem Z9u:∀ds r k,Zs0 ds=YB r->k r->Yap ds k:=λds r k h hk=>by
 unfold Zs0 at h;split at h
 .obtain⟨n,h1,h2⟩:=bs h
  cases h2;show match Zf2 _ with|some n=>_|none=>_
  rw[h1];exact hk
 .cases h
def Zc5:List Xa->Option (List Int)
 | []=>YB []
 | .int i::r=>(Zc5 r).bind λl=>YB (i::l)
 | _::_=>YC
theorem Zbr:∀{ds:List Xa} {ns:List Int},Zc5 ds=YB ns->ds=ns.map Xl
 | [],_,h=>by cases h;rfl
 | .int i::r,_,h=>by
  obtain⟨l,h1,h2⟩:=bs h;cases h2;rw[Zbr h1];rfl
 | .none::_,_,h=>by cases h
 | .bool _::_,_,h=>by cases h
 | .str _::_,_,h=>by cases h
 | .list _::_,_,h=>by cases h
 | .tuple _::_,_,h=>by cases h
 | .dict _::_,_,h=>by cases h
@[simp] theorem Ju:∀ns:List Int,Zc5 (ns.map Xl)=YB ns
 | []=>rfl
 | n::ns=>by rw[XC,Zc5,Ju ns];rfl
section
variable {X:Cx}{io:List Nat}{p c:Bool}{e tg:YJ}{es:List YJ}{st:YK}{fa fb fc:FE}{ra:FA}{i:Nat}
def Yck(a:FA):FE:=λδ=>(a δ).bind λp=>match OT.datas p.1 with|[.int j]=>if rOk j=YD/\j.toNat<=Xv then YB (.nd ((Zda 0 j.toNat).map OT.fz),p.2)else YC|_=>YC
theorem Z7y(h:ME X io p c e (Yh1 (o2 ra))):ME X io p c e (o2 (Yck ra)):=h.weak λδ K h=>by
 obtain⟨r,δ',h,k⟩:=h;obtain⟨⟨x,δ1⟩,h1,h⟩:=bs h;refine⟨x,δ1,h1,?_⟩;dsimp only at h;split at h
 case h_2=>cases h
 rename_i q;split at h
 case isFalse=>cases h
 rename_i b;cases h
 (try rw[q])
 exact⟨⟨(Zc0 b.1).1,(Zc0 b.1).2,b.2⟩,k⟩
def Z7k(a b:FE):FE:=λδ=>(a δ).bind λp=>(b p.2).bind λq=>match q.1.data with| .int k=>if rOk k=YD/\k.toNat<=Xv then YB (.nd (X7 k.toNat (.fz p.1.data)),p.2)else YC|_=>YC
theorem Z9n(h:ME X io p c e (Yi3 (o2 fa) (o2 fb))):ME X io p c e (o2 (Z7k fa fb)):=h.weak λδ K h=>by
 obtain⟨r,δ',h,k⟩:=h;obtain⟨⟨x,δ1⟩,h1,h⟩:=bs h;obtain⟨⟨y,δ2⟩,h2,h⟩:=bs h;refine⟨x,δ1,h1,y,δ2,h2,?_⟩
 try dsimp only at h|-
 split at h
 case h_2=>cases h
 rename_i q
 (try rw[q])
 split at h
 case isFalse=>cases h
 rename_i b;cases h;have z:=Zc0 b.1;exact⟨⟨by omega,by omega,b.2⟩,k⟩
def Zjr(a:FA):FE:=λδ=>(a δ).bind λp=>match OT.datas p.1 with|[.list es]=>(Zc5 es).bind λns=>if ns.length<4095 then YB (.fz (.int (Zvs ns)),p.2)else YC|_=>YC
theorem Zul(h:ME X io p c e (Zvm (o2 ra))):ME X io p c e (o2 (Zjr ra)):=h.weak λδ K h=>by
 obtain⟨r,δ',h,k⟩:=h;obtain⟨⟨x,δ1⟩,h1,h⟩:=bs h;refine⟨x,δ1,h1,?_⟩;dsimp only at h;split at h
 case h_2=>cases h
 rename_i q;obtain⟨ns,h2,h⟩:=bs h;split at h
 case isFalse=>cases h
 cases h
 (try rw[q])
 exact⟨ns,by rw[Zbr h2],‹_›,k⟩
def Zy8(i:Nat)(a:FE):FE:=λδ=>match δ[i]? with
 | some (YB (.nd _))=>(a δ).bind λp=>match p.2[i]? with
  | some (YB (.nd ts))=>match p.1.data with
   | .int j=>match ixN ts.length j with
    | some k=>match ts[k]? with
     | some (.fz d)=>if ts.length<=Xv then YB (.fz d,p.2.set i (YB (.nd (ts.eraseIdx k))))else YC
     | _=>YC
    | none=>YC
   | _=>YC
  | _=>YC
 | _=>YC
theorem Zws(h:ME X io p c e (Ycy i (o2 fa))):ME X io p c e (o2 (Zy8 i fa)):=h.weak λδ K h=>by
 obtain⟨r,δ',h,k⟩:=h;unfold Zy8 at h;unfold Ycy;split at h
 case h_2=>cases h
 rename_i q;(try rw[q]);obtain⟨⟨x,δ1⟩,h1,h⟩:=bs h;refine⟨x,δ1,h1,?_⟩
 try dsimp only at h|-
 split at h
 case h_2=>cases h
 rename_i q2;(try rw[q2])
 try dsimp only
 split at h
 case h_2=>cases h
 rename_i j q3;(try rw[q3]);show match ixN _ j with|some k=>_|none=>_
 split at h
 case h_2=>cases h
 rename_i q4;(try rw[q4]);(try dsimp only);split at h
 case h_2=>cases h
 rename_i q5;(try rw[q5]);split at h
 case isFalse=>cases h
 cases h;exact⟨‹_›,k⟩
end
variable {G:Xc}
section
variable {X:Cx}{io:List Nat}{p c:Bool}{e a b:YJ}{es:List YJ}{m ma mb:MEt}{mr:MAt}{pos apos cpos px py pt sp kp:Pos}{i j:Nat}{x y:Str}{fa fb:FE}{ra:FA}{st:YK}
def Ygg(a:FA):FE:=λδ=>(a δ).bind λp=>if p.1.length<=Xv then YB (.tp p.1,p.2)else YC
def Z1n(i c:Nat)(e:FE):FS:=λδ=>match δ[i]? with
 | some (YB (.tp ts))=>match ts[c]? with
  | some (.nd us)=>wE e (λr _=>if us.length<Xv then .nx (δ.set i (YB (.tp (ts.set c (.nd (us++[.fz r.data]))))))else .bad) δ
  | _=>.bad
 | _=>.bad
def Yh4(i j:Nat)(a:FA):FS:=λδ=>match a δ with
 | some (rs,δ1)=>match OT.datas rs with
  | [d,e]=>.nx ((δ1.set i (YB (.fz d))).set j (YB (.fz e)))
  | _=>.bad
 | none=>.bad
end
class NoStar (e:YJ):Prop where
 h:∀es env,Xq (e::es) env=(YF,eval e env)::Xq es env
instance nx_Name{p:Pos}:NoStar (.Name x p):=⟨λ_ _=>rfl⟩
instance nx_Constant{x k}{p:Pos}:NoStar (.Constant x k p):=⟨λ_ _=>rfl⟩
instance nx_BinOp{a o b}{p:Pos}:NoStar (.BinOp a o b p):=⟨λ_ _=>rfl⟩
instance nx_Call{f a k}{p:Pos}:NoStar (.Call f a k p):=⟨λ_ _=>rfl⟩
instance nx_List{a}{p:Pos}:NoStar (.List a p):=⟨λ_ _=>rfl⟩
instance nx_Tuple{a k}{p:Pos}:NoStar (.Tuple a k p):=⟨λ_ _=>rfl⟩
instance nx_Subscript{a b}{p:Pos}:NoStar (.Subscript a b p):=⟨λ_ _=>rfl⟩
instance nx_ListComp{a b s}{p:Pos}:NoStar (.ListComp a b s p):=⟨λ_ _=>rfl⟩
theorem Zf{p2:Bool}[NoStar e](ha:ME X io p c e (o2 fa))(hr:MA X io p' c' es (o2 ra))(hc:p'=YD\/c=YD:=by first|exact QG rfl|exact Qt rfl)(h2:(p&&p')=p2:=by rfl)(h3:(c&&c')=c2:=by rfl):MA X io p2 c2 (e::es) (o2 (Zc fa ra)) :=
 h2▸h3▸Z6u (Z5j ha hr hc (NoStar.h es X.env))
theorem Zqg(h:ME X io p c e m)(h2:p=p':=by rfl)(h3:c=c':=by rfl):ME X io p' c' e m:=h2▸h3▸h
theorem Z5r{base:YH}{k:Nat}{f:YG}{fd:X3}{S:List Xa->(OT->Prop)->Prop}(h:∀ds k,¬S ds k):FnOk P w K mg base CX k f fd ps (spD K S):=by
 have h':∀{vs H Q E},spD K S vs H Q E->False:=λq=>by
  obtain⟨_,ds,k,_,z,_⟩:=q;exact h ds k z
 exact⟨λvs H Q E q=>(h' q).elim,λA outer s H args us vs Q E _ _ _ _ q=>(h' q).elim⟩
variable {G:Xc}
section
variable {X:Cx}{io:List Nat}{p c:Bool}{e a b:YJ}{es:List YJ}{m ma mb:MEt}{mr:MAt}{pos apos cpos px py pt sp kp:Pos}{i j:Nat}{x y:Str}{fa fb:FE}{ra:FA}{st:YK}{u:FS}
def insI(x:Int):List Int->List Int
 | []=>[x]
 | y::ys=>if x<=y then x::y::ys else y::insI x ys
def Yz:List Int->List Int
 | []=>[]
 | x::xs=>insI x (Yz xs)
theorem insI_perm(x:Int):∀l,(insI x l).Perm (x::l)
 | []=>.refl _
 | y::ys=>by
  unfold insI;split
  .exact .refl _
  .exact((insI_perm x ys).cons y).trans (.swap x y ys)
theorem Wo:∀l,(Yz l).Perm l
 | []=>.refl _
 | x::xs=>(insI_perm x _).trans ((Wo xs).cons x)
theorem Zgx(x:Int):∀{l},l.Pairwise (·<=·)->(insI x l).Pairwise (·<=·)
 | [],_=>.cons (λ_ m=>nomatch m) .nil
 | y::ys,h=>by
  unfold insI;cases h with
  | cons h1 h2=>
   split
   .rename_i c
    refine .cons (λz m=>?_) (.cons h1 h2);rcases Xo.mp m with rfl|m
    .exact c
    .exact Br c (h1 z m)
   .rename_i c
    refine .cons (λz m=>?_) (Zgx x h2);rcases Xo.mp ((insI_perm x ys).mem_iff.mp m)with rfl|m
    .omega
    .exact h1 z m
theorem Zaw:∀l,(Yz l).Pairwise (·<=·)
 | []=>.nil
 | x::xs=>Zgx x (Zaw xs)
theorem Zbs:∀{l₁ l₂:List Int},l₁.Perm l₂->l₁.Pairwise (·<=·)->l₂.Pairwise (·<=·)->l₁=l₂
 | [],l₂,h,_,_=>h.nil_eq
 | a::l₁,[],h,_,_=>h.eq_nil
 | a::l₁,b::l₂,h,h1,h2=>by
  cases h1 with
  | cons p1 q1=>
   cases h2 with
   | cons p2 q2=>
    have e:a=b:=by
     have m1:a∈b::l₂:=h.mem_iff.mp (.head _);have m2:b∈a::l₁:=h.mem_iff.mpr (.head _);rcases Xo.mp m1 with e|m1
     .exact e
     .rcases Xo.mp m2 with e|m2
      .exact e.symm
      .have:=p2 a m1
       have:=p1 b m2;omega
    subst e;rw[Zbs h.cons_inv q1 q2]
def Z1p(K:Xc):List V->Hp->VK->Prop:=λxs H Q=>∃(a:YG) (ns:List Int),xs=[.ref a]/\SqL K H a (ns.map V.int)/\ns.length<64/\∀l,H l=YC->Q (.ref l) (upd H l (.lst ((Yz ns).map V.int)))
theorem Z5z:∀{its:List Xf} {ns:List Int},BL its ns->Vals (ns.map V.int) its
 | [],_,h=>by cases h;exact .nil
 | v::its,_,h=>by
  cases h with
  | cons n t h=>exact .cons ⟨_,rfl⟩ (Z5z h)
theorem Zrj(hK:X.K=K):Zar X (.builtin "sorted") (Z1p K):=by
 subst hK;intro pins s O H xs us Q I r h;obtain⟨l,ns,rfl,hs,h64,q⟩:=h;obtain⟨u,rfl,ru⟩:=vals1 r;cases(show u=Qq l from ru);obtain⟨its,rv,pl,hz⟩:=I.list hs;have hl:=rv.length;rw[Xe]at hl;refine sorted_ints pl.isList (Zgc rv) (by omega) λout ns' a1 a2 a3=>?_;obtain⟨e,he⟩:=sortedAll_at s.heap its out;have en:ns'=Yz ns:=Zbs (a2.trans (Wo ns).symm) a3 (Zaw ns);subst en;refine⟨.ref (s.heap.objs.size+1),_,I.laid (t':=s.toks) (o:=.lst ((Yz ns).map V.int)) (λb ob q=>sortedAll_old q) (by omega) ⟨?_,out.toList,e,Z5z a1,he⟩,rfl,q _ (I.hok.fresh (by omega))⟩;rw[Xe,(Wo ns).length_eq,Qh];omega
def Z1b:List Xa->(OT->Prop)->Prop:=λds k=>n1 (λd=>∃ns:List Int,d= .list (ns.map Xl)/\ns.length<64/\k (.nd (((Yz ns).map Xl).map OT.fz))) ds
theorem Zw3:PN G (Z1p G) Z1b:=λH L xs ds k Q hx h kk=>by
 obtain⟨v,d,rfl,rfl,q,ns,e,h64,h⟩:=hx.one h;have fin:∀(p:YG),H p=YC->Q (.ref p) (upd H p (.lst ((Yz ns).map V.int))):=λp hp=>kk _ _ _ [p] (Zz hp _) (Own.list hp (Das.ints _)) (Zbe p) (J6 hp) h;subst e;generalize ed:QJ (ns.map Xl)=d at q;cases q with
 | lst l e r=>
  cases ed;exact⟨_,ns,rfl,by rw[r.int_inv]at e;exact .inl e,h64,fin⟩
 | scr ks=>
  injection ed with ed;have:ns=_:=Um (λx y z=>by injection z)|>.mp ed;subst this;exact⟨_,_,rfl,ks.sq,h64,fin⟩
 | _=>cases ed
def Zpq:List Xa->Option OT:=λds=>match ds with|[.list es]=>(Zc5 es).bind λns=>if ns.length<64 then YB (.nd (((Yz ns).map Xl).map OT.fz))else YC|_=>YC
theorem Z2a:∀ds r k,Zpq ds=YB r->k r->Z1b ds k:=λds r k h hk=>by
 unfold Zpq at h;split at h
 case h_2=>cases h
 obtain⟨ns,h1,h⟩:=bs h;split at h
 case isFalse=>cases h
 rename_i h2;cases h;exact⟨ns,by rw[Zbr h1],h2,hk⟩
end
structure Gives(P:X5)(w:Qu)(it:YG)(f:List YG)(St:YH->Prop)(x:Xf)(St':YH->Prop):Prop where
 mem:it∈f
 run:∀{A:Qv} {E:Xf->Xg->Prop} {s:Xg} {Q:Xf->Xg->Prop},St s.heap->(∀h',St' h'->Vc it s.heap h'->Q x { s with heap:=h' })->XX (Qi P w) A (Q0 (.ref it)) Q E s
 keep:∀h h',(∀c∈f,∀o,h.get? c=YB o->h'.get? c=YB o)->St h->St h'
 keep':∀h h',(∀c∈f,∀o,h.get? c=YB o->h'.get? c=YB o)->St' h->St' h'
structure Zib(P:X5)(w:Qu)(it:YG)(f:List YG)(St:YH->Prop):Prop where
 mem:it∈f
 run:∀{A:Qv} {E:Xf->Xg->Prop} {s:Xg} {Q:Xf->Xg->Prop},A.handled=YC->St s.heap->(∀h' e,Heap.ExtBut it s.heap h'->(∃o,h'.get? e=YB o/\o.cls= .type "StopIteration")->E (.ref e) { s with heap:=h' })->XX (Qi P w) A (Q0 (.ref it)) Q E s
 keep:∀h h',(∀c∈f,∀o,h.get? c=YB o->h'.get? c=YB o)->St h->St h'
structure ZA(z TI TO i1 i2:YG)(f1 f2:List YG):Prop where
 TIz:TI≠z
 TOz:TO≠z
 a1:∀c∈f1,c≠z/\c≠TO/\c≠i2
 a2:∀c∈f2,c≠z/\c≠TO/\c≠i1
section
variable {P:X5}{w:Qu}{A:Qv}{E:Xf->Xg->Prop}{s:Xg}
theorem Zjf{T:YG}{a b x:Xf}{k:Nat}{Q:Unit->Xg->Prop}(hT:Vl s.heap T a b)(h:∀h',h'.get? T=YB { cls:=.type "tuple",data:=.seq ((#[a,b]:Array Xf).setIfInBounds k x) }->Vc T s.heap h'->Q () { s with heap:=h' }) :
  XX (Qi P w) A (updateSeq T (·.setIfInBounds k x)) Q E s:=wpAny_updateSeq_pair hT h
theorem Zsb{z TI TO i1 i2:YG}{f1 f2:List YG}{S1 T1 S2 T2:YH->Prop}{x y a b:Xf}(D:ZA z TI TO i1 i2 f1 f2)(G1:Gives P w i1 f1 S1 x T1)(G2:Gives P w i2 f2 S2 y T2)
  (hz:IsZip s.heap z TI TO .none) (hTI:Vl s.heap TI (.ref i1) (.ref i2)) (hTO:Vl s.heap TO a b) (h1:S1 s.heap) (h2:S2 s.heap)
  (hQ:∀h',IsZip h' z TI TO (rawInt s.heap.objs.size)->Vl h' TO x y->T1 h'->T2 h'->Vl h' s.heap.objs.size x y ->
   (∀ c o,c∉[z,TO,i1,i2]->s.heap.get? c=YB o->h'.get? c=YB o)->Q (.ref s.heap.objs.size) { s with heap:=h' }) :
  XX (Qi P w) A (VG.«zip.__next__» ⟨[.ref z],[]⟩) (λfin s'=>∃v,fin= .done (.ret v)/\Q v s') E s:=by
 obtain⟨i1z,i1O,i12⟩:=D.a1 i1 G1.mem;obtain⟨i2z,i2O,i21⟩:=D.a2 i2 G2.mem;have r1:z∉f1/\TO∉f1/\i2∉f1:=⟨λm=>(D.a1 z m).1 rfl,λm=>(D.a1 TO m).2.1 rfl,λm=>(D.a1 i2 m).2.2 rfl⟩;have r2:z∉f2/\TO∉f2/\i1∉f2:=⟨λm=>(D.a2 z m).1 rfl,λm=>(D.a2 TO m).2.1 rfl,λm=>(D.a2 i1 m).2.2 rfl⟩;have st:∀{b:YG} {h h':YH} {f:List YG},Vc b h h'->b∉f->∀c∈f,∀o,h.get? c=YB o->h'.get? c=YB o:=λsb hb c hc o e=>sb.extBut _ _ (λq=>hb (q▸hc)) e;show XX _ _ (field (.ref z) 2>>=_) _ _ _;refine Xd (Ba hz rfl (x:=.bool YF) rfl ?_);show XX _ _ (field (.ref z) 3>>=_) _ _ _;refine Xd (Ba hz rfl (x:=.ref TI) rfl (Xd (VJ hTI rfl ?_)));show XX _ _ (By (.ref z)>>=_) _ _ _;refine Xd ?_;unfold By;refine Xd (Ba hz rfl (x:=.none) rfl (Xy ?_));simp only[if_true];refine Xd (wpAny_rule (Xd (Ba hz rfl (x:=.ref TO) rfl (Xd (JF hz (by simp) λh3 z3 b3=>?_)))));replace z3:IsZip h3 z TI TO .ellipsis:=z3;refine Xd ?_;simp only[List.zipIdx_cons,List.zipIdx_nil,List.forIn_cons,Ux];refine Xd (Xd (wpAny_onRaise ?_));show XX _ _ (Q0 (.ref i1)>>=_) _ _ _;refine Xd (G1.run (s:={ s with heap:=h3 }) (G1.keep _ _ (st b3 r1.1) h1) λh4 k4 b4=>Xy ?_);have o4:Vl h4 TO a b:=b4.extBut _ _ i1O.symm (b3.extBut _ _ D.TOz hTO);refine Xd (VJ o4 rfl (Xd (Zjf (s:={ s with heap:=h4 }) o4 λh5 o5 b5=>Xd (wpAny_letGo (Xy ?_)))));replace o5:Vl h5 TO x b:=o5;refine Xd (Xd (wpAny_onRaise ?_));show XX _ _ (Q0 (.ref i2)>>=_) _ _ _;refine Xd (G2.run (s:={ s with heap:=h5 }) (G2.keep _ _ (st b5 r2.2.1) (G2.keep _ _ (st b4 r2.2.2) (G2.keep _ _ (st b3 r2.1) h2))) λh6 k6 b6=>Xy ?_);have o6:Vl h6 TO x b:=b6.extBut _ _ i2O.symm o5;refine Xd (VJ o6 rfl (Xd (Zjf (s:={ s with heap:=h6 }) o6 λh7 o7 b7=>Xd (wpAny_letGo (Xy (Xy ?_))))));replace o7:Vl h7 TO x y:=o7;refine Xd (VJ o7 rfl (Xd (wpAny_newTuple ?_)));have sz:h7.objs.size=s.heap.objs.size:=by rw[b7.1,b6.1,b5.1,b4.1,b3.1]
 have z7:IsZip h7 z TI TO .ellipsis:=b7.extBut _ _ D.TOz.symm (b6.extBut _ _ i2z.symm (b5.extBut _ _ D.TOz.symm (b4.extBut _ _ i1z.symm z3)));have t1:T1 h7:=G1.keep' _ _ (st b7 r1.2.1) (G1.keep' _ _ (st b6 r1.2.2) (G1.keep' _ _ (st b5 r1.2.1) k4));have t2:T2 h7:=G2.keep' _ _ (st b7 r2.2.1) k6;have old:∀c o,c∉[z,TO,i1,i2]->s.heap.get? c=YB o->h7.get? c=YB o:=λc o n e=>by
  simp only[Xo,U4,or_false,not_or]at n;exact b7.extBut _ _ n.2.1 (b6.extBut _ _ n.2.2.2 (b5.extBut _ _ n.2.1 (b4.extBut _ _ n.2.2.1 (b3.extBut _ _ n.1 e))))
 show XX _ _ (Builtin.SmallTypes.ownedTupleHandOut (.ref z) (.ref h7.objs.size)>>=_) _ _ _;refine Xd ?_;unfold Builtin.SmallTypes.ownedTupleHandOut;have zp:IsZip (h7.push { cls:=.type "tuple",data:=.seq #[x,y] }) z TI TO .ellipsis:=Xk _ z7;refine Xd (JF zp (by simp) λh8 z8 b8=>?_);replace z8:IsZip h8 z TI TO (rawInt h7.objs.size):=z8;refine JF z8 (by simp) λh9 z9 b9=>?_;replace z9:IsZip h9 z TI TO (rawInt h7.objs.size):=z9;have up:∀c o,c≠z->h7.get? c=YB o->h9.get? c=YB o:=λc o n e=>b9.extBut _ _ n (b8.extBut _ _ n (Xk _ e));have nz:h7.objs.size≠z:=X6 (XD z7);have p9:Vl h9 h7.objs.size x y:=b9.extBut _ _ nz (b8.extBut _ _ nz (XN _ rfl));refine Xy ⟨_,rfl,?_⟩;show Q (.ref h7.objs.size) _;rw[sz]at z9 p9|-
 exact hQ h9 z9 (up _ _ D.TOz o7) (G1.keep' _ _ (λc hc o e=>up c o (λq=>r1.1 (q▸hc)) e) t1) (G2.keep' _ _ (λc hc o e=>up c o (λq=>r2.1 (q▸hc)) e) t2) p9 λc o n e=>up c o (λq=>n (by simp[q])) (old c o n e)
theorem Zys{z TI TO i1 i2:YG}{f1 f2:List YG}{S1 T1 S2:YH->Prop}{a b:Xf}{Q:Fin->Xg->Prop}(hh:A.handled=YC)(D:ZA z TI TO i1 i2 f1 f2)(g1:Zib P w i1 f1 S1\/(∃x,Gives P w i1 f1 S1 x T1)/\Zib P w i2 f2 S2)
  (hz:IsZip s.heap z TI TO .none) (hTI:Vl s.heap TI (.ref i1) (.ref i2)) (hTO:Vl s.heap TO a b) (h1:S1 s.heap) (h2:S2 s.heap)
  (hE:∀h' e,(∀c o,c∉[z,TO,i1,i2]->s.heap.get? c=YB o->h'.get? c=YB o)->(∃o,h'.get? e=YB o/\o.cls= .type "StopIteration")->E (.ref e) { s with heap:=h' }) :
  XX (Qi P w) A (VG.«zip.__next__» ⟨[.ref z],[]⟩) Q E s:=by
 have r1:z∉f1/\TO∉f1/\i2∉f1:=⟨λm=>(D.a1 z m).1 rfl,λm=>(D.a1 TO m).2.1 rfl,λm=>(D.a1 i2 m).2.2 rfl⟩;have r2:z∉f2/\TO∉f2/\i1∉f2:=⟨λm=>(D.a2 z m).1 rfl,λm=>(D.a2 TO m).2.1 rfl,λm=>(D.a2 i1 m).2.2 rfl⟩;have st:∀{b:YG} {h h':YH} {f:List YG},Vc b h h'->b∉f->∀c∈f,∀o,h.get? c=YB o->h'.get? c=YB o:=λsb hb c hc o e=>sb.extBut _ _ (λq=>hb (q▸hc)) e;show XX _ _ (field (.ref z) 2>>=_) _ _ _;refine Xd (Ba hz rfl (x:=.bool YF) rfl ?_);show XX _ _ (field (.ref z) 3>>=_) _ _ _;refine Xd (Ba hz rfl (x:=.ref TI) rfl (Xd (VJ hTI rfl ?_)));show XX _ _ (By (.ref z)>>=_) _ _ _;refine Xd ?_;unfold By;refine Xd (Ba hz rfl (x:=.none) rfl (Xy ?_));simp only[if_true];refine Xd (wpAny_rule (Xd (Ba hz rfl (x:=.ref TO) rfl (Xd (JF hz (by simp) λh3 z3 b3=>?_)))));replace z3:IsZip h3 z TI TO .ellipsis:=z3;refine Xd ?_;simp only[List.zipIdx_cons,List.zipIdx_nil,List.forIn_cons,Ux];refine Xd (Xd (wpAny_onRaise ?_));show XX _ _ (Q0 (.ref i1)>>=_) _ _ _;rcases g1 with G1|⟨⟨x,G1⟩,G2⟩
 .obtain⟨i1z,i1O,i12⟩:=D.a1 i1 G1.mem
  refine Xd (G1.run (s:={ s with heap:=h3 }) hh (G1.keep _ _ (st b3 r1.1) h1) λh4 e b4 he=>?_);obtain⟨oe,hoe,hce⟩:=he;have z4:IsZip h4 z TI TO .ellipsis:=b4 _ _ i1z.symm z3;have ez:e≠z:=λq=>by subst q;rw[z4]at hoe;cases hoe;simp at hce
  refine JF z4 (by simp) λh5 _ b5=>hE h5 e (λc o n q=>?_) ⟨oe,b5.extBut _ _ ez hoe,hce⟩;simp only[Xo,U4,or_false,not_or]at n;exact b5.extBut _ _ n.1 (b4 _ _ n.2.2.1 (b3.extBut _ _ n.1 q))
 .obtain⟨i1z,i1O,i12⟩:=D.a1 i1 G1.mem
  obtain⟨i2z,i2O,i21⟩:=D.a2 i2 G2.mem;refine Xd (G1.run (s:={ s with heap:=h3 }) (G1.keep _ _ (st b3 r1.1) h1) λh4 k4 b4=>Xy ?_);have o4:Vl h4 TO a b:=b4.extBut _ _ i1O.symm (b3.extBut _ _ D.TOz hTO);refine Xd (VJ o4 rfl (Xd (Zjf (s:={ s with heap:=h4 }) o4 λh5 o5 b5=>Xd (wpAny_letGo (Xy ?_)))));refine Xd (Xd (wpAny_onRaise ?_));show XX _ _ (Q0 (.ref i2)>>=_) _ _ _;refine Xd (G2.run (s:={ s with heap:=h5 }) hh (G2.keep _ _ (st b5 r2.2.1) (G2.keep _ _ (st b4 r2.2.2) (G2.keep _ _ (st b3 r2.1) h2))) λh6 e b6 he=>?_);obtain⟨oe,hoe,hce⟩:=he;have z6:IsZip h6 z TI TO .ellipsis:=b6 _ _ i2z.symm (b5.extBut _ _ D.TOz.symm (b4.extBut _ _ i1z.symm z3));have ez:e≠z:=λq=>by subst q;rw[z6]at hoe;cases hoe;simp at hce
  refine JF z6 (by simp) λh7 _ b7=>hE h7 e (λc o n q=>?_) ⟨oe,b7.extBut _ _ ez hoe,hce⟩;simp only[Xo,U4,or_false,not_or]at n;exact b7.extBut _ _ n.1 (b6 _ _ n.2.2.2 (b5.extBut _ _ n.2.1 (b4.extBut _ _ n.2.2.1 (b3.extBut _ _ n.1 q))))
theorem Zqx{z TI TO i1 i2:YG}{f1 f2:List YG}{S1 T1 S2 T2:YH->Prop}{x y a b:Xf}{Q:Option Xf->Xg->Prop}(D:ZA z TI TO i1 i2 f1 f2)(G1:Gives P w i1 f1 S1 x T1)(G2:Gives P w i2 f2 S2 y T2)
  (hz:IsZip s.heap z TI TO .none) (hTI:Vl s.heap TI (.ref i1) (.ref i2)) (hTO:Vl s.heap TO a b) (h1:S1 s.heap) (h2:S2 s.heap)
  (hQ:∀h',IsZip h' z TI TO (rawInt s.heap.objs.size)->Vl h' TO x y->T1 h'->T2 h'->Vl h' s.heap.objs.size x y ->
   (∀ c o,c∉[z,TO,i1,i2]->s.heap.get? c=YB o->h'.get? c=YB o)->Q (YB (.ref s.heap.objs.size)) { s with heap:=h' }):XX (Qi P w) A (pyNext (.ref z)) Q E s:=by
 have hT:s.TypeIs (.ref z) "zip" :=⟨_,hz,rfl⟩;unfold pyNext;exact Xd (wpAny_attempt (Vb (name:=Str.ofString "__next__") hT F.slot_zip_next (JT F.slot_zip_next hT F.entry_zip_next (Zsb D G1 G2 hz hTI hTO h1 h2 λh' a1 a2 a3 a4 a5 a6=>Xy (hQ h' a1 a2 a3 a4 a5 a6)) (F.args_zip_next_1 _))))
theorem Zsj{z TI TO i1 i2:YG}{f1 f2:List YG}{S1 T1 S2:YH->Prop}{a b:Xf}{Q:Option Xf->Xg->Prop}(hh:A.handled=YC)(D:ZA z TI TO i1 i2 f1 f2)(g1:Zib P w i1 f1 S1\/(∃x,Gives P w i1 f1 S1 x T1)/\Zib P w i2 f2 S2)
  (hz:IsZip s.heap z TI TO .none) (hTI:Vl s.heap TI (.ref i1) (.ref i2)) (hTO:Vl s.heap TO a b) (h1:S1 s.heap) (h2:S2 s.heap)
  (hQ:∀h',(∀c o,c∉[z,TO,i1,i2]->s.heap.get? c=YB o->h'.get? c=YB o)->Q YC { s with heap:=h' }):XX (Qi P w) A (pyNext (.ref z)) Q E s:=by
 have hT:s.TypeIs (.ref z) "zip" :=⟨_,hz,rfl⟩;unfold pyNext;refine Xd (wpAny_attempt (Vb (name:=Str.ofString "__next__") hT F.slot_zip_next (JT F.slot_zip_next hT F.entry_zip_next (Zys hh D g1 hz hTI hTO h1 h2 λh' e hk he=>?_) (F.args_zip_next_1 _))));obtain⟨o,ho,hc⟩:=he;exact Xd (wpAny_isInstance (T :="StopIteration") (b:=YD) ⟨o,ho,hc⟩ isSubtype_stop (Xy (hQ _ hk)))
theorem Zr8{it t:YG}{items:Array Xf}{x:Xf}(hx:items[i]? =YB x):Gives P w it [it,t] (λh=>IsTupIter h it t i/\IsTup h t items) x (λh=>IsTupIter h it t (i+1)) where
 mem:=by simp
 run:=fun{A E s Q} ⟨hit,ht⟩ hQ=>by
  obtain⟨o,ho,hc,hd⟩:=id hit;obtain⟨ol,hol,_,nl,hdl⟩:=ht;unfold Q0;refine Xd (Vb (name:=Str.ofString "__next__") hit.typeIs slot_tupleiter_next (JT slot_tupleiter_next hit.typeIs entry_tupleiter_next ?_ (args_tupleiter_next _)));show XX _ _ (field (.ref it) 0>>=_) _ _ s;refine Xd (Ba ho hd (x:=.ref t) rfl ?_);show XX _ _ (if(Qq t==QH)=YD then _ else _) _ _ s;rw[YM (show¬((Qq t==QH)=YD)from Xn)];show XX _ _ (field (.ref it) 1>>=_) _ _ s;refine Xd (Ba ho hd (x:=.int i 0) rfl ?_);show XX _ _ (seqItems? (.ref t)>>=_) _ _ s;refine Xd (VJ hol hdl ?_);simp only[QV,hx];refine Xd (wpAny_setField ho hd (by simp) (Xy ⟨x,rfl,Xy (hQ _ ?_ (Heap.SameBut.update ..))⟩));exact⟨_,Heap.get?_update_self _ ho (Obj.isFreed_of_fields (Obj.data_mapFields hd _)),(Obj.cls_mapFields ..).trans hc,by rw[Obj.data_mapFields hd];simp[rawInt]⟩
 keep:=λh h' k ⟨⟨o,a1,a2⟩,⟨o',b1,b2⟩⟩=>⟨⟨o,k it (by simp) o a1,a2⟩,⟨o',k t (by simp) o' b1,b2⟩⟩
 keep':=λh h' k ⟨o,a1,a2⟩=>⟨o,k it (by simp) o a1,a2⟩
theorem Zze{it t:YG}{items:Array Xf}(hx:items[i]? =YC):Zib P w it [it,t] (λh=>IsTupIter h it t i/\IsTup h t items) where
 mem:=by simp
 run:=fun{A E s Q} hh ⟨hit,ht⟩ hE=>by
  obtain⟨o,ho,hc,hd⟩:=id hit;obtain⟨ol,hol,_,nl,hdl⟩:=ht;unfold Q0;refine Xd (Vb (name:=Str.ofString "__next__") hit.typeIs slot_tupleiter_next (JT slot_tupleiter_next hit.typeIs entry_tupleiter_next ?_ (args_tupleiter_next _)));show XX _ _ (field (.ref it) 0>>=_) _ _ s;refine Xd (Ba ho hd (x:=.ref t) rfl ?_);show XX _ _ (if(Qq t==QH)=YD then _ else _) _ _ s;rw[YM (show¬((Qq t==QH)=YD)from Xn)];show XX _ _ (field (.ref it) 1>>=_) _ _ s;refine Xd (Ba ho hd (x:=.int i 0) rfl ?_);show XX _ _ (seqItems? (.ref t)>>=_) _ _ s;refine Xd (VJ hol hdl ?_);simp only[QV,hx];refine Xd (wpAny_rule (Xd (wpAny_setField ho hd (by simp) ?_)));show XX _ _ (newExc (.type "StopIteration") []>>=_) _ _ _;refine Xd ?_;simp only[newExc,newTuple];refine Xd (Va ?_ (by size_fits));refine Xd (m:=firstArgMember _ _) (wpAny_of_eq (a:=QH) (by first|rfl|(simp only[firstArgMember];rfl)) ?_);refine Va ?_ (by size_fits);simp only[raiseNew];refine Xd (wpAny_handled ?_)
  first|rw[show A.in1.handled=YC from hh]|rw[hh]
  exact Xd (Xy (wpAny_throw (hE _ _ (((Heap.SameBut.update ..).extBut.push _).push _) ⟨_,XN _ rfl,rfl⟩)))
 keep:=λh h' k ⟨⟨o,a1,a2⟩,⟨o',b1,b2⟩⟩=>⟨⟨o,k it (by simp) o a1,a2⟩,⟨o',k t (by simp) o' b1,b2⟩⟩
end
abbrev zT1(h:YH)(a:YG):YH:=h.push { cls:=.type "tuple_iterator",data:=.fields #[.ref a,.int 0 0] }
abbrev zT2(h:YH)(a b:YG):YH:=(zT1 h a).push { cls:=.type "tuple_iterator",data:=.fields #[.ref b,.int 0 0] }
abbrev zT3(h:YH)(a b:YG):YH:=(zT2 h a b).push { cls:=.type "tuple",data:=.seq #[.ref h.objs.size,.ref (zT1 h a).objs.size] }
abbrev zT4(h:YH)(a b:YG):YH:=(zT3 h a b).push { cls:=.type "tuple",data:=.seq #[.none,.none] }
abbrev zT5(h:YH)(a b:YG):YH:=(zT4 h a b).push { cls:=.type "zip",data:=.fields #[.none,.bool YF,.bool YF,.ref (zT2 h a b).objs.size,.ref (zT3 h a b).objs.size] }
theorem Zw5(a b:YG)(xs ys:Array Xf) :
  Meets (VG.«zip.__new__» ⟨[.type "zip",.ref a,.ref b],[]⟩) (λ_ R s=>IsTup s.heap a xs/\IsTup s.heap b ys/\R (.ok (.ret (.ref (zT4 s.heap a b).objs.size))) { s with heap:=zT5 s.heap a b }) :=
 .of_wp λprog w A R s h=>by
  obtain⟨hp,g,d,tk,os⟩:=s;obtain⟨h1,h2,h⟩:=h;have hsub:=sub_zip;have hL1:IsTup (Xg.heap ⟨hp,g,d,tk,os⟩) a xs:=h1;have hL2:IsTup (Xg.heap ⟨hp.push { cls:=.type "tuple_iterator",data:=.fields #[.ref a,.int 0 0] },g,d,tk,os⟩) b ys:=h2.push _
  wp_walk using iter_tuple hL1,iter_tuple hL2
  exact⟨_,rfl,h⟩
section
variable {P:X5}{w:Qu}{A:Qv}{E:Xf->Xg->Prop}{s:Xg}
theorem Zwi{b:YG}{xs ys:Array Xf}(h1:IsTup s.heap a xs)(h2:IsTup s.heap b ys)
  (h:∀h' n,n=s.heap.objs.size->IsZip h' (n+4) (n+2) (n+3) .none->Vl h' (n+2) (.ref n) (.ref (n+1))->Vl h' (n+3) .none .none->IsTupIter h' n a 0->IsTupIter h' (n+1) b 0 ->
   (∀ c o,s.heap.get? c=YB o->h'.get? c=YB o)->Q (.ref (n+4)) { s with heap:=h' }):XX (Qi P w) A (call (.type "zip") [.ref a,.ref b]) Q E s:=by
 refine callType_new F.called_zip (by decide) (F.typeCall_zip_2 _ _) (F.newCall_zip_2 _ _) (λobj=>F.args_object_init_3 obj _ _) F.entry_zip_new (Zw5 a b xs ys) ⟨h1,h2,?_⟩;have e1:(zT1 s.heap a).objs.size=s.heap.objs.size+1:=JD ..;have e2:(zT2 s.heap a b).objs.size=s.heap.objs.size+2:=by rw[JD,e1]
 have e3:(zT3 s.heap a b).objs.size=s.heap.objs.size+3:=by rw[JD,e2]
 have e4:(zT4 s.heap a b).objs.size=s.heap.objs.size+4:=by rw[JD,e3]
 have up:∀{c o},(zT1 s.heap a).get? c=YB o->(zT5 s.heap a b).get? c=YB o:=λx=>Xk _ (Xk _ (Xk _ (Xk _ x)));have p5:(zT5 s.heap a b).get? (zT4 s.heap a b).objs.size=YB _:=XN _ rfl;have p4:(zT5 s.heap a b).get? (zT3 s.heap a b).objs.size=YB _:=Xk _ (XN _ rfl);have p3:(zT5 s.heap a b).get? (zT2 s.heap a b).objs.size=YB _:=Xk _ (Xk _ (XN _ rfl));have p2:(zT5 s.heap a b).get? (zT1 s.heap a).objs.size=YB _:=Xk _ (Xk _ (Xk _ (XN _ rfl)));have p1:(zT5 s.heap a b).get? s.heap.objs.size=YB _:=up (XN _ rfl);show _/\_;rw[e2,e3,e4]at p5;rw[e1,e2]at p3;rw[e3]at p4;rw[e1]at p2;rw[e4];exact⟨⟨_,p5,rfl⟩,h _ _ rfl p5 p3 p4 ⟨_,p1,rfl,rfl⟩ ⟨_,p2,rfl,rfl⟩ λc o x=>up (Xk _ x)⟩
end
theorem nn{n a b:Nat}(h:a≠b):n+a≠n+b:=λe=>h (Nat.add_left_cancel e)
theorem n0{n b:Nat}(h:0≠b):n≠n+b:=λe=>h (Nat.add_left_cancel (n:=n) e)
theorem nlt{n a c:Nat}(h:a<n):a≠n+c:=Xz (Qp h (Ud ..))
theorem ZA.new{n a b:Nat}(h1:a<n)(h2:b<n):ZA (n+4) (n+2) (n+3) n (n+1) [n,a] [n+1,b] where
 TIz:=(by first|exact nn (by decide)|exact n0 (by decide)|exact(n0 (by decide)).symm|exact nlt h1|exact nlt h2|exact(nlt h1).symm|exact(nlt h2).symm|exact Xz h1|exact Xz h2|exact X6 h1|exact X6 h2|omega)
 TOz:=(by first|exact nn (by decide)|exact n0 (by decide)|exact(n0 (by decide)).symm|exact nlt h1|exact nlt h2|exact(nlt h1).symm|exact(nlt h2).symm|exact Xz h1|exact Xz h2|exact X6 h1|exact X6 h2|omega)
 a1:=λc hc=>by
  simp only[Xo,U4,or_false]at hc;rcases hc with rfl|rfl
  .exact⟨(by first|exact nn (by decide)|exact n0 (by decide)|exact(n0 (by decide)).symm|exact nlt h1|exact nlt h2|exact(nlt h1).symm|exact(nlt h2).symm|exact Xz h1|exact Xz h2|exact X6 h1|exact X6 h2|omega),(by first|exact nn (by decide)|exact n0 (by decide)|exact(n0 (by decide)).symm|exact nlt h1|exact nlt h2|exact(nlt h1).symm|exact(nlt h2).symm|exact Xz h1|exact Xz h2|exact X6 h1|exact X6 h2|omega),(by first|exact nn (by decide)|exact n0 (by decide)|exact(n0 (by decide)).symm|exact nlt h1|exact nlt h2|exact(nlt h1).symm|exact(nlt h2).symm|exact Xz h1|exact Xz h2|exact X6 h1|exact X6 h2|omega)⟩
  .exact⟨(by first|exact nn (by decide)|exact n0 (by decide)|exact(n0 (by decide)).symm|exact nlt h1|exact nlt h2|exact(nlt h1).symm|exact(nlt h2).symm|exact Xz h1|exact Xz h2|exact X6 h1|exact X6 h2|omega),(by first|exact nn (by decide)|exact n0 (by decide)|exact(n0 (by decide)).symm|exact nlt h1|exact nlt h2|exact(nlt h1).symm|exact(nlt h2).symm|exact Xz h1|exact Xz h2|exact X6 h1|exact X6 h2|omega),(by first|exact nn (by decide)|exact n0 (by decide)|exact(n0 (by decide)).symm|exact nlt h1|exact nlt h2|exact(nlt h1).symm|exact(nlt h2).symm|exact Xz h1|exact Xz h2|exact X6 h1|exact X6 h2|omega)⟩
 a2:=λc hc=>by
  simp only[Xo,U4,or_false]at hc;rcases hc with rfl|rfl
  .exact⟨(by first|exact nn (by decide)|exact n0 (by decide)|exact(n0 (by decide)).symm|exact nlt h1|exact nlt h2|exact(nlt h1).symm|exact(nlt h2).symm|exact Xz h1|exact Xz h2|exact X6 h1|exact X6 h2|omega),(by first|exact nn (by decide)|exact n0 (by decide)|exact(n0 (by decide)).symm|exact nlt h1|exact nlt h2|exact(nlt h1).symm|exact(nlt h2).symm|exact Xz h1|exact Xz h2|exact X6 h1|exact X6 h2|omega),(by first|exact nn (by decide)|exact n0 (by decide)|exact(n0 (by decide)).symm|exact nlt h1|exact nlt h2|exact(nlt h1).symm|exact(nlt h2).symm|exact Xz h1|exact Xz h2|exact X6 h1|exact X6 h2|omega)⟩
  .exact⟨(by first|exact nn (by decide)|exact n0 (by decide)|exact(n0 (by decide)).symm|exact nlt h1|exact nlt h2|exact(nlt h1).symm|exact(nlt h2).symm|exact Xz h1|exact Xz h2|exact X6 h1|exact X6 h2|omega),(by first|exact nn (by decide)|exact n0 (by decide)|exact(n0 (by decide)).symm|exact nlt h1|exact nlt h2|exact(nlt h1).symm|exact(nlt h2).symm|exact Xz h1|exact Xz h2|exact X6 h1|exact X6 h2|omega),(by first|exact nn (by decide)|exact n0 (by decide)|exact(n0 (by decide)).symm|exact nlt h1|exact nlt h2|exact(nlt h1).symm|exact(nlt h2).symm|exact Xz h1|exact Xz h2|exact X6 h1|exact X6 h2|omega)⟩
theorem ZA.new2(n:Nat):(n+2:Nat)≠n+3/\(n+2:Nat)≠n/\(n+2:Nat)≠n+1:=⟨nn (by decide),(n0 (by decide)).symm,nn (by decide)⟩
section
variable {X:Cx}{io:List Nat}{p c:Bool}{a b:YJ}{mr:MAt}
def Z7p(ds:List Xa):Option (List Xa):=match ds with|[.list as,.list bs]=>YB (Zks as bs)|[.tuple as,.tuple bs]=>YB (Zks as bs)|_=>YC
def Zkp(a:FA):FI:=λδ=>(a δ).bind λp=>(Z7p (OT.datas p.1)).bind λds=>YB (ds,p.2)
end
variable {G:Xc}
section
variable {X:Cx}{io:List Nat}{p c:Bool}{a b e:YJ}{mr:MAt}{ra:FA}{i:Nat}
def isFn(y:Str)(d:Xa):Bool:=match d with| .dict [(.str x,.bool YD)]=>decide (x=y)|_=>YF
theorem Z4k{y:Str}{d:Xa}(h:isFn y d=YD):d=fnD y:=by
 unfold isFn at h;split at h
 .rw[YW h];rfl
 .cases h
theorem Z6a(y:Str):isFn y (fnD y)=YD:=YQ rfl
def Zer(i:Nat)(y:Str)(F:FD)(a:FA):FE:=λδ=>match δ[i]? with
 | some (YB (.fz d))=>if isFn y d=YD then Z4 F a δ else YC
 | _=>YC
theorem Zpe{y:Str}(h:ME X io p c e (Z1g i y (sD F) (o2 ra))):ME X io p c e (o2 (Zer i y F ra)):=h.weak λδ K h=>by
 obtain⟨r,δ',h,k⟩:=h;unfold Zer at h;split at h
 .rename_i d hd
  by_cases hf:isFn y d=YD
  .rw[YL hf]at h
   refine⟨by rw[hd,Z4k hf],?_⟩;obtain⟨⟨x,δ1⟩,h1,h⟩:=bs h;refine⟨x,δ1,h1,?_⟩;dsimp only at h;split at h
   .rename_i q;cases h;exact⟨_,q,k⟩
   .cases h
  .rw[YM hf]at h;cases h
 .cases h
end
def Yfr:List Int->Int
 | []=>0
 | x::xs=>xs.foldl min x
theorem Zs1(xs:List Int)(x:Int):xs.foldl min x∈x::xs/\∀a∈x::xs,xs.foldl min x<=a:=by
 induction xs generalizing x with
 | nil=>exact⟨.head _,λa h=>by rw[Xj.mp h];exact Be _⟩
 | cons y ys ih=>
  obtain⟨h1,h2⟩:=ih (min x y);rw[List.foldl_cons];refine⟨?_,λa h=>?_⟩
  .rcases Xo.mp h1 with h|h
   .rw[h]
    rcases Int.le_total x y with z|z
    .rw[Uq z];exact .head _
    .rw[Ui z];exact .tail _ (.head _)
   .exact .tail _ (.tail _ h)
  .have h0:=h2 _ (.head _)
   rcases Xo.mp h with rfl|h
   .exact Br h0 (Int.min_le_left ..)
   .rcases Xo.mp h with rfl|h
    .exact Br h0 (Int.min_le_right ..)
    .exact h2 a (.tail _ h)
theorem Zv8(h:0<ns.length):Yfr ns∈ns/\∀a∈ns,Yfr ns<=a:=by
 cases ns with
 | nil=>cases h
 | cons x xs=>exact Zs1 xs x
def Yjc(K:Xc)(l:YG):It :=
 ⟨λi H=>∃xs x,SqL K H l xs/\xs[i]? =YB x,
   λi H v H'=>∃p x,H p=YC/\v= .ref p/\H'=upd H p (.tup [.int i,x])/\∀xs,SqL K H l xs->xs[i]? =YB x,
   λi H=>∃xs,SqL K H l xs/\xs.length<=i⟩
def StE(z it l:YG)(i:Nat)(h:YH):Prop:=(∃old,IsEnum h z it (i:Int) old)/\h.IsListIter it l i
end L2
variable {i1:YG}{items:Array Xf}{gg:FG}{S1 T1:YH->Prop}{np kk:Nat}{o:OT}
namespace L2
open PySem PySem.Spec PyProof.Rows
theorem Zvj{z it:YG}(hne:z≠it):Turn P w K (.Tuple es kk pos) (Yjc K l) [z,it] z (StE z it l) where
 mem:=.head _
 obj:=λi h st b hb=>by
  obtain⟨⟨old,s1⟩,o4,e4,_,d4⟩:=st;rcases Xo.mp hb with rfl|hb
  .exact⟨_,s1,λv q=>by cases q⟩
  .rcases Xj.mp hb with rfl
   exact⟨_,e4,λv q=>by rw[d4]at q;cases q⟩
 keep:=λi h h' st k=>by
  obtain⟨⟨old,s1⟩,s4⟩:=st;exact⟨⟨old,k z (.head _) _ s1⟩,s4.at λo e=>k it (.tail _ (.head _)) o e⟩
 item:=by
  intro X hP hw hK hc i pins s O H E I hf st hg;subst hP hw hK;obtain⟨⟨old,s1⟩,s4⟩:=st;obtain⟨xs,x,hx,ex⟩:=hg;obtain⟨its,rx,px,hzx⟩:=I.list hx;obtain⟨u,hu,ru⟩:=rx.get ex;refine wpAny_pyNext_enum_item s1 s4 px.isList (by simpa using hu) hne λh' g1 g2 g3 g4 g5=>?_;refine⟨_,rfl,wpAny_letOwnedTupleGo_enum (s:={ s with heap:=h',toks:=s.toks+1 }) g1 λh2 z2 sb=>?_⟩;have hTz:s.heap.objs.size≠z:=X6 (XD s1);have up:∀c o,c≠z->h'.get? c=YB o->h2.get? c=YB o:=λc o n e=>(sb.2 c n).trans e;have kp:∀b o,b∉[z,it]->s.heap.get? b=YB o->h2.get? b=YB o:=λb o n e=>by
   have n1:b≠z:=λq=>n (q▸ .head _);exact up b o n1 (g5 b o n1 (λq=>n (q▸ .tail _ (.head _))) e)
  have t5:=up _ _ hTz g3;have g2':h2.IsListIter it l (i+1):=g2.at λo e=>up _ o (Vn hne) e;have I2:Inv X pins O (upd H s.heap.objs.size (.tup [.int i,x])) { s with heap:=h2,toks:=s.toks+1 }:=by
   refine(I.tok (s.toks+1)).turnTup (ch:=[z,it]) (its:=[.int i s.toks,u]) (λb hb=>hf b hb) kp (λb hb=>?_) (XJ _) Zuk (.cons ⟨_,rfl⟩ (.cons ru .nil)) ⟨_,t5,rfl,0,rfl⟩;rcases Xo.mp hb with rfl|hb
   .exact⟨_,z2⟩
   .rcases Xj.mp hb with rfl
    obtain⟨o4,e4,_⟩:=g2';exact⟨_,e4⟩
  refine⟨.ref s.heap.objs.size,_,I2,rfl,⟨_,x,I.fresh,rfl,rfl,λys hy=>by rw[I.list_inj hy hx];exact ex⟩,⟨⟨_,z2⟩,g2'⟩,λb hb=>?_⟩;have:b≠s.heap.objs.size:=by
   rcases Xo.mp hb with rfl|hb
   .exact Xz (XD s1)
   .rcases Xj.mp hb with rfl
    obtain⟨o4,e4,_⟩:=s4;exact Xz (XD e4)
  rw[Zu this];exact(hf b hb).1
 done:=by
  intro X hP hw hK hc i pins s O H E I hf st hg;subst hP hw hK;obtain⟨⟨old,s1⟩,s4⟩:=st;obtain⟨xs,hx,he⟩:=hg;obtain⟨its,rx,px,hzx⟩:=I.list hx;have l1:=rx.length;refine wpAny_pyNext_enum_end (I.ok.hd hc) s1 s4 px.isList (by simp;omega) λh' k=>⟨rfl,I.turnAll (ch:=[it]) (λb hb=>hf b (.tail _ hb)) λb o n e=>k b o (λq=>n (q▸ .head _)) e⟩
 self:=λ_ _ _ _ _ st h=>by
  obtain⟨⟨old,s1⟩,_⟩:=st;exact wpAny_pyIter_enum s1 h
def Yky(K:Xc)(ta:TA):TI:=λO H R=>ta O H λvs H1=>∃l,vs=[.ref l]/\(∃xs,SqL K H1 l xs)/\R (Yjc K l) H1
theorem Z4l{a:YJ}{ta:TA}{p pt:Pos}(hK:X.K=K)(hg:Gl X "enumerate")(hm:X.mg "enumerate"=YC)(hv:Qk "enumerate"=YB (.type "enumerate"))(ha:PA X [a] ta)
  (he:Xq [a] X.env=(YF,eval a X.env)::Xq [] X.env:=by rfl) (hpl:(JK pos (Xq [] X.env)).any (·.1)=YF:=by rfl) :
  PI X (.Tuple es kk pt) (.Call (.Name "enumerate" p) [a] [] pos) (Yky K ta):=by
 subst hK;intro pins s O H R I h;refine VR (Zg5 I hg hm hv ?_ (by decide) (by decide));refine BP (thn (ha pos pins s O H _ I h) λus s1 q=>?_) he hpl;obtain⟨vs,H1,I1,r1,l,e1,⟨xs,hx⟩,q⟩:=q;subst e1;obtain⟨u,rfl,ru⟩:=vals1 r1;cases(show u=Qq l from ru);obtain⟨its,rx,px,hzx⟩:=I1.list hx;refine call_enumerate_list px.isList λh' g1 g2 g3 g4=>?_;have I2:Inv X pins O H1 { s1 with heap:=h' }:=I1.kept (t':=s1.toks) g4;refine wpAny_pyIter_enum (s:={ s1 with heap:=h' }) g1 ?_;refine⟨_,[_,_],StE _ _ _,_,H1,rfl,I2,Zvj (X6 (Ub _)),⟨⟨_,g1⟩,g2⟩,λb hb=>?_,q⟩;have hb':s1.heap.objs.size<=b:=by
  rcases Xo.mp hb with rfl|hb
  .exact Nat.le_succ _
  .rcases Xj.mp hb with rfl
   exact XJ _
 exact I1.fpOk hb' (I1.hok.fresh hb')
def Zjp(as:List Xa):List Xa:=as.zipIdx.map λp=>.tuple [.int p.2,p.1]
theorem Zmj{as:List Xa}{d:Xa}(h:(Zjp as)[i]? =YB d):∃x,as[i]? =YB x/\d= .tuple [.int i,x]:=by
 unfold Zjp at h;rw[Xm,List.getElem?_zipIdx]at h;cases e:as[i]? with
 | none=>rw[e]at h;cases h
 | some x=>
  rw[e]at h;cases h;exact⟨x,rfl,by rw[Nat.zero_add]⟩
theorem Zq3{as:List Xa}(h:(Zjp as)[i]? =YC):as.length<=i:=by
 have:=Qz.mp h;unfold Zjp at this;simpa using this
section
variable {X:Cx}{io:List Nat}{p c:Bool}{a:YJ}{mr:MAt}{ra:FA}
def iEn(mr:MAt):MIt:=λδ K=>mr δ λrs δ'=>match OT.datas rs with|[.list as]=>K (Zjp as) δ'|_=>False
theorem Z4w{p' pt:Pos}(hg:Gl X "enumerate")(hm:X.mg "enumerate"=YC)(hv:Qk "enumerate"=YB (.type "enumerate"))(ha:MA X io p c [a] mr)
  (he:Xq [a] X.env=(YF,eval a X.env)::Xq [] X.env:=by rfl) (hpl:(JK pos (Xq [] X.env)).any (·.1)=YF:=by rfl):MI X io p c (.Tuple es kk pt) (.Call (.Name "enumerate" p') [a] [] pos) (iEn mr):=by
 obtain⟨_,A,s⟩:=ha;refine⟨_,Z4l rfl hg hm hv A he hpl,λC H O δ fp ex K' Q R h kk=>s C H O δ fp ex _ _ R h λH1 vs rs δ1 fp1 new r1 h1=>?_⟩;have q:=r1.das R;generalize OT.datas rs=ds at q h1;split at h1
 case h_2=>exact h1.elim
 rename_i as;cases q with
 | cons q1 q2=>
  cases q2;have R1:=r1.base;obtain⟨l1,xs,rfl,k1⟩:=R1.keptList q1;have e1:=k1 H1 λ_ _ e _=>e;refine⟨l1,rfl,⟨_,e1.1⟩,kk _ H1 _ δ1 fp1 R1 r1.stp (λH' kp i=>?_) h1⟩;obtain⟨s1,d1⟩:=k1 H' kp;refine⟨λd hd=>?_,λhd=>?_⟩
  .obtain⟨x,hx,rfl⟩:=Zmj hd
   obtain⟨u,hu,qu⟩:=d1.get hx;refine⟨⟨_,u,s1,hu⟩,λv H'' hyl=>?_⟩;obtain⟨t,u',ht,rfl,rfl,hu'⟩:=hyl;have eu:=hu' _ s1;rw[hu]at eu;cases eu;exact⟨Zz ht _,.tup Zx (.cons (.int _) (.cons (qu.same (Zz ht _)) .nil))⟩
  .exact⟨_,s1,by rw[d1.length];exact Zq3 hd⟩
def Zxd(a:FA):FI:=λδ=>(a δ).bind λp=>match OT.datas p.1 with|[.list as]=>YB (Zjp as,p.2)|_=>YC
theorem Z31(h:MI X io p c tg e (iEn (o2 ra))):MI X io p c tg e (o2 (Zxd ra)):=h.weak λδ K h=>by
 obtain⟨r,δ',h,k⟩:=h;obtain⟨⟨x,δ1⟩,h1,h⟩:=bs h;dsimp only at h;split at h
 .rename_i q
  injection h with h;injection h with e1 e2;subst e1 e2;refine⟨x,_,h1,?_⟩;dsimp only;rw[q];exact k
 .cases h
end
variable {G:Xc}
theorem Z9p{p:α->Prop}{a b c d:α}(h1:p a)(h2:p b)(h3:p c)(h4:p d):∀x∈[a,b,c,d],p x:=by
 intro x hx;rcases Xo.mp hx with rfl|hx
 .exact h1
 rcases Xo.mp hx with rfl|hx
 .exact h2
 rcases Xo.mp hx with rfl|hx
 .exact h3
 rcases Xj.mp hx with rfl;exact h4
theorem Yed{p:α->Prop}{a b c d e:α}(h1:p a)(h2:p b)(h3:p c)(h4:p d)(h5:p e):∀x∈[a,b,c,d,e],p x:=λx hx=>(Xo.mp hx).elim (λq=>q▸h1) (Z9p h2 h3 h4 h5 x)
theorem no4{a b c d x:α}(h1:x≠a)(h2:x≠b)(h3:x≠c)(h4:x≠d):x∉[a,b,c,d]:=λhx=>Z9p (p:=λy=>x≠y) h1 h2 h3 h4 x hx rfl
def SqB(K:Xc)(t:Bool)(H:Hp)(a:YG)(xs:List V):Prop:=match t with|true=>H a=YB (.tup xs)|false=>SqL K H a xs
def IsB(t:Bool)(h:YH)(a:YG)(its:Array Xf):Prop:=match t with|true=>IsTup h a its|false=>h.IsList a its
def ItB(t:Bool)(h:YH)(it a:YG)(i:Nat):Prop:=match t with|true=>IsTupIter h it a i|false=>h.IsListIter it a i
theorem ItB.at{t:Bool}{h h':YH}{it a:YG}{i:Nat}(x:ItB t h it a i)(k:∀o,h.get? it=YB o->h'.get? it=YB o):ItB t h' it a i:=by
 cases t with
 | false=>exact Heap.IsListIter.at x k
 | true=>
  obtain⟨o,ho,r⟩:=x;exact⟨o,k o ho,r⟩
theorem ItB.obj{t:Bool}{it:YG}(x:ItB t h it a i):∃o,h.get? it=YB o/\∀v,o.data≠ .cell v:=by
 cases t with
 | false=>
  obtain⟨o,ho,_,d⟩:=x;exact⟨o,ho,λv q=>by rw[d]at q;cases q⟩
 | true=>
  obtain⟨o,ho,_,d⟩:=x;exact⟨o,ho,λv q=>by rw[d]at q;cases q⟩
theorem IsB.lt{t:Bool}{its:Array Xf}(x:IsB t h a its):a<h.objs.size:=by
 cases t with
 | false=>
  obtain⟨o,ho,_⟩:=x;exact XD ho
 | true=>
  obtain⟨o,ho,_⟩:=x;exact XD ho
theorem SqB.its{X:Cx}{pins:List (YG×Obj)}{O:St}{H:Hp}{s:Xg}{t:Bool}{a:YG}{xs:List V}(I:Inv X pins O H s)(h:SqB X.K t H a xs):∃its:List Xf,Vals xs its/\IsB t s.heap a its.toArray:=by
 cases t with
 | false=>
  obtain⟨its,r,p,_⟩:=I.list h;exact⟨its,r,p.isList⟩
 | true=>
  obtain⟨_,its,r,p⟩:=(show ObjOk X.prog X.w H s.heap a (.tup xs)from I.hok a _ h);exact⟨its,r,p⟩
theorem SqB.inj{O:St}{t:Bool}(I:Inv X pins O H s)(h:SqB X.K t H a xs)(k:SqB X.K t H a ys):xs=ys:=by
 cases t with
 | false=>exact I.list_inj h k
 | true=>
  have:=(show H a=YB (.tup xs)from h).symm.trans k;cases this;rfl
section
variable {P:X5}{w:Qu}
theorem Zwj{t:Bool}{it:YG}{x:Xf}(hx:items[i]? =YB x):Gives P w it [it,a] (λh=>ItB t h it a i/\IsB t h a items) x (λh=>ItB t h it a (i+1)):=by
 cases t with
 | true=>exact Zr8 hx
 | false=>
  exact⟨.head _,λst hQ=>wpAny_nextOf_list_item st.1 st.2 hx hQ,λh h' k st=>⟨Heap.IsListIter.at st.1 λo e=>k it (.head _) o e,by
   obtain⟨o,ho,r⟩:=st.2;exact⟨o,k a (.tail _ (.head _)) o ho,r⟩⟩,λh h' k st=>Heap.IsListIter.at st λo e=>k it (.head _) o e⟩
theorem Yca{t:Bool}{it:YG}(hx:items[i]? =YC):Zib P w it [it,a] (λh=>ItB t h it a i/\IsB t h a items):=by
 cases t with
 | true=>exact Zze hx
 | false=>
  exact⟨.head _,λhh st hE=>wpAny_nextOf_list_end hh st.1 st.2 hx hE,λh h' k st=>⟨Heap.IsListIter.at st.1 λo e=>k it (.head _) o e,by
   obtain⟨o,ho,r⟩:=st.2;exact⟨o,k a (.tail _ (.head _)) o ho,r⟩⟩⟩
end
def Yh7(K:Xc)(t:Bool)(a b:YG):It :=
 ⟨λi H=>∃xs ys x y,SqB K t H a xs/\SqB K t H b ys/\xs[i]? =YB x/\ys[i]? =YB y,
   λi H v H'=>∃p x y,H p=YC/\v= .ref p/\H'=upd H p (.tup [x,y])/\(∀xs,SqB K t H a xs->xs[i]? =YB x)/\∀ys,SqB K t H b ys->ys[i]? =YB y,
   λi H=>∃xs ys,SqB K t H a xs/\SqB K t H b ys/\(xs.length<=i\/ys.length<=i)⟩
def Yi4(t:Bool)(z TI TO i1 i2 a b:YG)(i:Nat)(h:YH):Prop:=IsZip h z TI TO .none/\Vl h TI (.ref i1) (.ref i2)/\(∃x y,Vl h TO x y)/\ItB t h i1 a i/\ItB t h i2 b i
theorem Zub{t:Bool}{z TI TO i2 b:YG}(D:ZA z TI TO i1 i2 [i1,a] [i2,b])(D2:TI≠TO/\TI≠i1/\TI≠i2):Turn P w K (.Tuple es kk pos) (Yh7 K t a b) [z,TI,TO,i1,i2] z (Yi4 t z TI TO i1 i2 a b) where
 mem:=.head _
 obj:=λi h st=>by
  obtain⟨s1,s2,⟨x,y,s3⟩,s4,s5⟩:=st;exact Yed ⟨_,s1,λv q=>by cases q⟩ ⟨_,s2,λv q=>by cases q⟩ ⟨_,s3,λv q=>by cases q⟩ s4.obj s5.obj
 keep:=λi h h' st k=>by
  obtain⟨s1,s2,⟨x,y,s3⟩,s4,s5⟩:=st;have m2:TI∈[z,TI,TO,i1,i2]:=.tail _ (.head _);have m3:TO∈[z,TI,TO,i1,i2]:=.tail _ (.tail _ (.head _));have m4:i1∈[z,TI,TO,i1,i2]:=.tail _ (.tail _ (.tail _ (.head _)));have m5:i2∈[z,TI,TO,i1,i2]:=.tail _ (.tail _ (.tail _ (.tail _ (.head _))));exact⟨k z (.head _) _ s1,k TI m2 _ s2,⟨x,y,k TO m3 _ s3⟩,s4.at (k i1 m4),s5.at (k i2 m5)⟩
 item:=by
  intro X hP hw hK hc i pins s O H E I hf st hg;subst hP hw hK;obtain⟨s1,s2,⟨x0,y0,s3⟩,s4,s5⟩:=st;obtain⟨xs,ys,x,y,hx,hy,ex,ey⟩:=hg;obtain⟨its,rx,px⟩:=hx.its I;obtain⟨its',ry,py⟩:=hy.its I;obtain⟨u,hu,ru⟩:=rx.get ex;obtain⟨u',hu',ru'⟩:=ry.get ey;rw[<-List.getElem?_toArray]at hu hu';refine Zqx D (Zwj hu) (Zwj hu') s1 s2 s3 ⟨s4,px⟩ ⟨s5,py⟩ λh' g1 g2 g3 g4 g5 g6=>?_;refine⟨_,rfl,wpAny_letOwnedTupleGo_zip (s:={ s with heap:=h' }) g1 λh2 z2 sb=>?_⟩;have up:∀c o,c≠z->h'.get? c=YB o->h2.get? c=YB o:=λc o n e=>(sb.2 c n).trans e;have kp:∀c o,c∉[z,TO,i1,i2]->s.heap.get? c=YB o->h2.get? c=YB o:=λc o n e=>up c o (λq=>n (q▸ .head _)) (g6 c o n e);have t5:Vl h2 s.heap.objs.size u u':=up _ _ (X6 (XD s1)) g5;have i1z:=(D.a1 i1 (.head _)).1;have i2z:=(D.a2 i2 (.head _)).1;have n3:=g3.at (up i1 · i1z);have n4:=g4.at (up i2 · i2z);obtain⟨f1,f2,f3,f4,f5⟩:(Zjl X pins H z/\Zjl X pins H TI/\Zjl X pins H TO/\Zjl X pins H i1/\Zjl X pins H i2):=⟨hf _ (.head _),hf _ (.tail _ (.head _)),hf _ (.tail _ (.tail _ (.head _))),hf _ (.tail _ (.tail _ (.tail _ (.head _)))),hf _ (.tail _ (.tail _ (.tail _ (.tail _ (.head _)))))⟩;have I2:Inv X pins O (upd H s.heap.objs.size (.tup [x,y])) { s with heap:=h2 } :=
   I.turnTup (ch:=[z,TO,i1,i2]) (its:=[u,u']) (Z9p f1 f3 f4 f5) kp (Z9p ⟨_,z2⟩ ⟨_,up _ _ D.TOz g2⟩ (n3.obj.imp λ_ q=>q.1) (n4.obj.imp λ_ q=>q.1)) (XJ _) Zuk (.cons ru (.cons ru' .nil)) ⟨_,t5,rfl,0,rfl⟩
  have lt:∀{c:YG} {o:Obj},s.heap.get? c=YB o->Zjl X pins H c->upd H s.heap.objs.size (.tup [x,y]) c=YC:=λe f=>by rw[Zu (Xz (XD e))];exact f.1
  refine⟨.ref s.heap.objs.size,_,I2,rfl,⟨_,x,y,I.fresh,rfl,rfl,λzs hz=>by rw[hz.inj I hx];exact ex,λzs hz=>by rw[hz.inj I hy];exact ey⟩,⟨z2,kp TI _ (no4 D.TIz D2.1 D2.2.1 D2.2.2) s2,⟨_,_,up _ _ D.TOz g2⟩,n3,n4⟩,?_⟩;obtain⟨o4,e4,_⟩:=s4.obj;obtain⟨o5,e5,_⟩:=s5.obj;exact Yed (lt s1 f1) (lt s2 f2) (lt s3 f3) (lt e4 f4) (lt e5 f5)
 done:=by
  intro X hP hw hK hc i pins s O H E I hf st hg;subst hP hw hK;obtain⟨s1,s2,⟨x0,y0,s3⟩,s4,s5⟩:=st;obtain⟨xs,ys,hx,hy,he⟩:=hg;obtain⟨its,rx,px⟩:=hx.its I;obtain⟨its',ry,py⟩:=hy.its I;have l1:=rx.length;have l2:=ry.length;refine Zsj (I.ok.hd hc) D (S1:=λh=>ItB t h i1 a i/\IsB t h a its.toArray) (T1:=λh=>ItB t h i1 a (i+1)) (S2:=λh=>ItB t h i2 b i/\IsB t h b its'.toArray) ?_ s1 s2 s3 ⟨s4,px⟩ ⟨s5,py⟩ λh' k=>⟨rfl,I.turnAll (ch:=[z,TO,i1,i2]) (Z9p (hf _ (.head _)) (hf _ (.tail _ (.tail _ (.head _)))) (hf _ (.tail _ (.tail _ (.tail _ (.head _))))) (hf _ (.tail _ (.tail _ (.tail _ (.tail _ (.head _))))))) k⟩;cases q:its.toArray[i]? with
  | none=>exact .inl (Yca q)
  | some v=>
   refine .inr ⟨⟨v,Zwj q⟩,Yca ?_⟩;have:=(Array.getElem?_eq_some_iff.mp q).1;rw[Xx]at this;rw[Array.getElem?_eq_none_iff,Xx];omega
 self:=λ_ _ _ _ _ st h=>wpAny_pyIter_zip st.1 h
theorem Zu4{t:Bool}{b:YG}{xs ys:Array Xf}(h1:IsB t s.heap a xs)(h2:IsB t s.heap b ys)
  (h:∀h' n,n=s.heap.objs.size->IsZip h' (n+4) (n+2) (n+3) .none->Vl h' (n+2) (.ref n) (.ref (n+1))->Vl h' (n+3) .none .none->ItB t h' n a 0->ItB t h' (n+1) b 0 ->
   (∀ c o,s.heap.get? c=YB o->h'.get? c=YB o)->Q (.ref (n+4)) { s with heap:=h' }):XX (Qi P w) A (call (.type "zip") [.ref a,.ref b]) Q E s:=by
 cases t with
 | true=>exact Zwi h1 h2 h
 | false=>exact call_zip_2 h1 h2 λh' g1 g2 g3 g4 g5 _ g7=>h h' _ rfl g1 g2 g3 g4 g5 g7
def Ydw(K:Xc)(ta:TA):TI:=λO H R=>ta O H λvs H1=>∃t a b,vs=[.ref a,.ref b]/\(∃xs,SqB K t H1 a xs)/\(∃ys,SqB K t H1 b ys)/\R (Yh7 K t a b) H1
theorem Z5g{a b:YJ}{ta:TA}{p pt:Pos}(hK:X.K=K)(hg:Gl X "zip")(hm:X.mg "zip"=YC)(hv:Qk "zip"=YB (.type "zip"))(ha:PA X [a,b] ta)
  (he:Xq [a,b] X.env=(YF,eval a X.env)::Xq [b] X.env:=by rfl) (hpl:(JK pos (Xq [b] X.env)).any (·.1)=YF:=by rfl) :
  PI X (.Tuple es kk pt) (.Call (.Name "zip" p) [a,b] [] pos) (Ydw K ta):=by
 subst hK;intro pins s O H R I h;refine VR (Zg5 I hg hm hv ?_ (by decide) (by decide));refine BP (thn (ha pos pins s O H _ I h) λus s1 q=>?_) he hpl;obtain⟨vs,H1,I1,r1,t,l1,l2,e1,⟨xs,hx⟩,⟨ys,hy⟩,q⟩:=q;subst e1;obtain⟨u,u',rfl,ru,ru'⟩:=vals2 r1;cases(show u=Qq l1 from ru);cases(show u'=Qq l2 from ru');obtain⟨its,rx,px⟩:=hx.its I1;obtain⟨its',ry,py⟩:=hy.its I1;refine Zu4 px py λh' n en g1 g2 g3 g4 g5 g7=>?_;have I2:Inv X pins O H1 { s1 with heap:=h' }:=I1.kept (t':=s1.toks) g7;refine wpAny_pyIter_zip (s:={ s1 with heap:=h' }) g1 ?_;refine⟨_,[_,_,_,_,_],Yi4 _ _ _ _ _ _ _ _,_,H1,rfl,I2,Zub (ZA.new (en▸px.lt) (en▸py.lt)) (ZA.new2 n),⟨g1,g2,⟨_,_,g3⟩,g4,g5⟩,?_,q⟩;subst en;have ok:∀k:Nat,Zjl X pins H1 (s1.heap.objs.size+k):=λk=>I1.fpOk (Ud _ _) (I1.hok.fresh (Ud _ _));exact Yed (ok 4) (ok 2) (ok 3) (ok 0) (ok 1)
section
variable {X:Cx}{io:List Nat}{p c:Bool}{a b:YJ}{mr:MAt}{ra:FA}
def Ydl(t:Bool)(as:List Xa):Xa:=match t with|true=>.tuple as|false=>.list as
theorem Rel.keptSq{C:MC G}{H:Hp}{O:St}{δ:Zi}{fp:Fp}{ex:YG->Prop}{v:V}{t:Bool}{ds:List Xa}(R:Rel C io H O δ fp ex)(q:Da G H (λa=>c=YD->Lf C fp ex a) v (Ydl t ds)) :
  ∃a xs,v= .ref a/\∀H':Hp,(∀b o,H b=YB o->(c=YF\/¬Foot fp b)->H' b=YB o)->SqB G t H' a xs/\Das G H' (λa=>c=YD->(Lf C fp ex a/\H a≠YC)) xs ds:=by
 cases t with
 | false=>exact R.keptList q
 | true=>
  generalize hd:Ydl YD ds=d at q;cases q with
  | tup e r=>
   cases hd;rename_i a0 xs0;refine⟨a0,xs0,rfl,λH' kp=>?_⟩;obtain⟨f1,f2⟩:=R.kept kp;exact⟨f2 _ (.tup _) e,r.frame f1 f2⟩
  | _=>cases hd
theorem Zxk{es:List Xa}(h:Z7p ds=YB es):∃t as bs,ds=[Ydl t as,Ydl t bs]/\es=Zks as bs:=by
 unfold Z7p at h;split at h
 .cases h;exact⟨YF,_,_,rfl,rfl⟩
 .cases h;exact⟨YD,_,_,rfl,rfl⟩
 .cases h
def iZB(mr:MAt):MIt:=λδ K=>mr δ λrs δ'=>∃es,Z7p (OT.datas rs)=YB es/\K es δ'
theorem Znf{p' pt:Pos}(hg:Gl X "zip")(hm:X.mg "zip"=YC)(hv:Qk "zip"=YB (.type "zip"))(ha:MA X io p c [a,b] mr)
  (he:Xq [a,b] X.env=(YF,eval a X.env)::Xq [b] X.env:=by rfl) (hpl:(JK pos (Xq [b] X.env)).any (·.1)=YF:=by rfl):MI X io p c (.Tuple es kk pt) (.Call (.Name "zip" p') [a,b] [] pos) (iZB mr):=by
 obtain⟨_,A,s⟩:=ha;refine⟨_,Z5g rfl hg hm hv A he hpl,λC H O δ fp ex K' Q R h kk=>s C H O δ fp ex _ _ R h λH1 vs rs δ1 fp1 new r1 h1=>?_⟩;have q:=r1.das R;obtain⟨es,hz,h1⟩:=h1;obtain⟨t,as,bs,e,rfl⟩:=Zxk hz;rw[e]at q;cases q with
 | cons q1 q2=>
  cases q2 with
  | cons q2 q3=>
   cases q3;have R1:=r1.base;obtain⟨l1,xs,rfl,k1⟩:=R1.keptSq q1;obtain⟨l2,ys,rfl,k2⟩:=R1.keptSq q2;refine⟨t,l1,l2,rfl,⟨_,(k1 H1 λ_ _ e _=>e).1⟩,⟨_,(k2 H1 λ_ _ e _=>e).1⟩,kk _ H1 _ δ1 fp1 R1 r1.stp (λH' kp i=>?_) h1⟩;obtain⟨s1,d1⟩:=k1 H' kp;obtain⟨s2,d2⟩:=k2 H' kp;refine⟨λd hd=>?_,λhd=>⟨_,_,s1,s2,by rw[d1.length,d2.length];exact Zu0 hd⟩⟩;obtain⟨x,y,hx,hy,rfl⟩:=Zpp hd;obtain⟨u,hu,qu⟩:=d1.get hx;obtain⟨w,hw,qw⟩:=d2.get hy;refine⟨⟨_,_,u,w,s1,s2,hu,hw⟩,λv H'' hyl=>?_⟩;obtain⟨t',u',w',ht,rfl,rfl,hu',hw'⟩:=hyl;cases hu.symm.trans (hu' _ s1);cases hw.symm.trans (hw' _ s2);exact⟨Zz ht _,.tup Zx (.cons (qu.same (Zz ht _)) (.cons (qw.same (Zz ht _)) .nil))⟩
theorem Znp(g:MI X io p c tg e (iZB (o2 ra))):MI X io p c tg e (o2 (Zkp ra)):=g.weak λδ K h=>by
 obtain⟨r,δ',h,k⟩:=h;obtain⟨⟨x,δ1⟩,h1,h⟩:=bs h;obtain⟨ds,h2,h⟩:=bs h;cases h;exact⟨x,_,h1,_,h2,k⟩
end
end L2
namespace L2
open PySem PySem.Spec PyProof.Rows PySem.W
def kEv(lt:Nat->Nat->Bool):KasT α->α
 | .ret a=>a
 | .ask i j k=>kEv lt (k (lt i j))
def kGood(n:Nat)(P:α->Prop):KasT α->Prop
 | .ret a=>P a
 | .ask i j k=>i<n/\j<n/\∀b,kGood n P (k b)
theorem kGood.bind{n:Nat}{P:α->Prop}{R:β->Prop}{f:α->KasT β}(hf:∀a,P a->kGood n R (f a)){t:KasT α}(h:kGood n P t):kGood n R (t.bind f):=by
 induction t with
 | ret a=>exact hf a h
 | ask i j k ih=>exact⟨h.1,h.2.1,λb=>ih b (h.2.2 b)⟩
theorem kGood.ev{n:Nat}{P:α->Prop}{lt:Nat->Nat->Bool}{t:KasT α}(h:kGood n P t):P (kEv lt t):=by
 induction t with
 | ret a=>exact h
 | ask i j k ih=>exact ih _ (h.2.2 _)
theorem kGood.wp{n:Nat}{P:α->Prop}{lt:Nat->Nat->Bool}{cmp:Nat->Nat->(Bool->Xg->Prop)->Xg->Prop}{Q:α->Xg->Prop}(hc:∀i j C,i<n->j<n->C (lt i j) s->cmp i j C s){t:KasT α}(h:kGood n P t)(q:Q (kEv lt t) s):t.kasWp cmp Q s:=by
 induction t with
 | ret a=>exact q
 | ask i j k ih=>exact hc i j _ h.1 h.2.1 (ih _ (h.2.2 _) q)
def kP(n:Nat)(p:Array Nat):Prop:=p.toList.Perm (Xw n)
theorem kP.at{n:Nat}{p:Array Nat}(h:kP n p)(h0:0<n)(i:Nat):p.getD i 0<n:=by
 by_cases c:i<p.size
 .have e:p.getD i 0=p[i]:=by simp[Array.getD,c]
  rw[e];exact XF.mp (h.mem_iff.mp (Array.getElem_mem_toList c))
 .have e:p.getD i 0=0:=by simp[Array.getD,c]
  rw[e];exact h0
theorem kP.rev{n:Nat}{p:Array Nat}(h:kP n p)(i j:Nat):kP n (kas_rev p i j):=(Array.perm_iff_toList_perm.mp (mirror_perm p i j _)).trans h
theorem kP.bub{n:Nat}{p:Array Nat}(h:kP n p)(i j:Nat):kP n (bubble p i j):=(Array.perm_iff_toList_perm.mp (bubble_perm p i j)).trans h
theorem Zow{n:Nat}{p:Array Nat}(h:kP n p)(h0:0<n)(f m:Nat):kGood n (λ_=>True) (kas_asc p f m):=by
 induction f generalizing m with
 | zero=>exact trivial
 | succ f ih=>
  refine⟨h.at h0 _,h.at h0 _,λb=>?_⟩;cases b
  .exact ih _
  .exact trivial
theorem Zsd{n:Nat}(h0:0<n)(f:Nat){p:Array Nat}(h:kP n p)(m q:Nat):kGood n (λr:Array Nat×Nat×Nat=>kP n r.1) (kas_desc f p m q):=by
 induction f generalizing p m q with
 | zero=>exact h
 | succ f ih=>
  refine⟨h.at h0 _,h.at h0 _,λb=>?_⟩;cases b
  .refine⟨h.at h0 _,h.at h0 _,λb=>?_⟩
   cases b
   .exact ih h _ _
   .exact h
  .show kGood n _ (if q>0 then _ else _)
   split
   .exact ih (h.rev _ _) _ _
   .exact ih h _ _
theorem Zl6{n:Nat}{p:Array Nat}(h:kP n p)(h0:0<n)(m r:Nat):kGood n (λr:Nat×Array Nat=>kP n r.2) (kas_tail3 m r p):=by
 refine kGood.bind (P:=λ_=>True) (λa _=>?_) (Zow (h.rev _ _) h0 _ _);exact h.rev _ _
theorem Zec{n:Nat}{p:Array Nat}(h:kP n p)(h0:0<n)(m r:Nat):kGood n (λr:Nat×Array Nat=>kP n r.2) (kas_descPart m r p) :=
 (Zsd h0 _ h _ _).bind λx hx=>by
  show kGood n _ (if x.2.2>0 then _ else _);split
  .exact Zl6 (hx.rev _ _) h0 _ _
  .exact Zl6 hx h0 _ _
theorem Zrt{n:Nat}{p:Array Nat}(h:kP n p)(h0:0<n)(r:Nat):kGood n (λr:Nat×Array Nat=>kP n r.2) (kas_count r p) :=
 (Zow h h0 _ _).bind λm _=>by
  show kGood n _ (if(m==r)=YD then _ else if m>1 then _ else _);split
  .exact h
  .split
   .refine⟨h.at h0 _,h.at h0 _,λb=>?_⟩
    cases b
    .exact Zec (h.rev _ _) h0 _ _
    .exact h
   .exact Zec h h0 _ _
theorem Zrq{n:Nat}{p:Array Nat}(h:kP n p)(h0:0<n)(k f l r:Nat):kGood n (λ_=>True) (kas_place p k f l r):=by
 induction f generalizing l r with
 | zero=>exact trivial
 | succ f ih=>
  show kGood n _ (if l>=r then _ else _);split
  .exact trivial
  .refine⟨h.at h0 _,h.at h0 _,λb=>?_⟩
   cases b
   .exact ih _ _
   .exact ih _ _
theorem Zy5{n:Nat}(h0:0<n)(f:Nat){p:Array Nat}(h:kP n p)(k:Nat):kGood n (kP n) (kas_bin f p k):=by
 induction f generalizing p k with
 | zero=>exact h
 | succ f ih=>exact(Zrq h h0 _ _ _ _).bind λl _=>ih (h.bub _ _) _
theorem Zg1{n:Nat}(h0:0<n):kGood n (kP n) (kas_sort n) :=
 (Zrt (p:=Bm (Xw n)) (.refl _) h0 n).bind λr hr=>by
  show kGood n _ (if r.1<n then _ else _);split
  .exact Zy5 h0 _ hr _
  .exact hr
def Zwx(lt:Nat->Nat->Bool)(n:Nat):List Nat:=(kEv lt (kas_sort n)).toList
theorem Zee{lt:Nat->Nat->Bool}{n:Nat}(h0:0<n):(Zwx lt n).Perm (Xw n):=(Zg1 h0).ev (P:=kP n)
end L2
namespace L2
open PySem PySem.Spec PyProof.Rows PySem.W PySem.SeqAt
open PySem.AutoSeq1 (wpAny_loadPart')
open MeetsSeq MeetsSeq2 MeetsSeq3 SeqRoads2
def ltI:List Int->List Int->Bool
 | [],[]=>YF
 | [],_::_=>YD
 | _::_,[]=>YF
 | x::xs,y::ys=>if x=y then ltI xs ys else decide (x<y)
theorem Zoo(h:BL vs ns)(i:Nat)(hi:i<vs.length):∃x t,vs[i]? =YB (.int x t)/\ns.drop i=x::ns.drop (i+1):=by
 induction h generalizing i with
 | nil=>exact YX hi (Vp i)
 | cons n t h ih=>
  cases i with
  | zero=>exact⟨n,t,rfl,rfl⟩
  | succ i=>exact ih i (Nat.lt_of_succ_lt_succ hi)
theorem Zga(h:BL vs ns):vs.length=ns.length:=by
 induction h with
 | nil=>rfl
 | cons n t h ih=>exact YT Nat.succ ih
theorem Zlr{xs ys:List Int}(h:xs=[]\/ys=[]):ltI xs ys=decide (xs.length<ys.length):=by
 cases xs<;>cases ys<;>first|rfl|(rcases h with h|h<;>cases h)|exact(YQ (Nat.succ_pos _)).symm
theorem Zv5(l b:YG)(items items2:Array Xf)(n n2:Nat)(dd dd2:Option YG)(sl sl2:Array (Option Xf)){xs ys:List Int}(h1:BL items.toList xs)(h2:BL items2.toList ys)(k:Nat) :
  ∀i:Nat,items.size-i=k->i<=items.size->i<=items2.size->Meets (VG.«list.__eq__.loop» ⟨[.ref l,.ref b,rawInt i,rawInt 0],[]⟩)
   (λA R s=>s.heap.get? l=YB { cls:=.type "list",dict:=dd,data:=.seq items n,slots:=sl }/\s.heap.get? b=YB { cls:=.type "list",dict:=dd2,data:=.seq items2 n2,slots:=sl2 }/\
    R (.ok (.ret (.bool (ltI (xs.drop i) (ys.drop i))))) s):=by
 have e1:items.size=xs.length:=Zga h1;have e2:items2.size=ys.length:=Zga h2;have fin:∀i,i<=items.size->i<=items2.size->(i=items.size\/i=items2.size)->ltI (xs.drop i) (ys.drop i)=decide (items.size<items2.size):=λi u1 u2 c=>by
  rw[Zlr (c.imp (λc=>Uz (by omega)) λc=>Uz (by omega)),JG,JG];exact decide_eq_decide.mpr (by omega)
 induction k with
 | zero=>
  intro i hk u1 u2 prog w A R s h;obtain⟨hp,g,d,tk,os⟩:=s;obtain⟨hl,hb,h⟩:=h
  wp_walk using Q7 hl,Q7 hb
  have hi1:items[((i:Nat):Int).toNat]? =YC:=by simp;omega
  rw[fin i u1 u2 (.inl (by omega))]at h;rw[hi1]
  wp_walk using Q7 hl,Q7 hb
  exact h
 | succ k ih=>
  intro i hk u1 u2 prog w A R s h;obtain⟨hp,g,d,tk,os⟩:=s;obtain⟨hl,hb,h⟩:=h;have hlt:i<items.size:=by omega
  obtain⟨x,t,q1,q2⟩:=Zoo h1 i hlt;have hi1:items[((i:Nat):Int).toNat]? =YB (.int x t):=by rw[QV,<-q1,Q3]
  wp_walk using Q7 hl,Q7 hb
  by_cases c:i<items2.size
  .obtain⟨y,u,q3,q4⟩:=Zoo h2 i c
   have hi2:items2[((i:Nat):Int).toNat]? =YB (.int y u):=by rw[QV,<-q3,Q3]
   have hc:((i:Int)+1)=((i+1:Nat):Int):=by push_cast;rfl
   rw[q2,q4]at h;unfold ltI at h;rw[hi1,hi2];refine Xd (EqAt.int_int x t y u prog w _ _ ?_)
   by_cases cx:x=y
   .rw[YL cx]at h
    rw[YZ.mpr cx]
    wp_walk
    rw[hc];exact⟨plainId_quiet plain_eq_loop _,codeAny_builtin entry_eq_loop (by
     rw[Around.under_plainId plain_eq_loop _];exact ih (i+1) (by omega) (by omega) (by omega) prog w A R _ ⟨hl,hb,h⟩)⟩
   .rw[YM cx]at h
    rw[beq_eq_false_iff_ne.mpr cx]
    wp_walk using Q7 hl,Q7 hb
    rw[hi1,hi2];refine Xd (lt_int ?_)
    wp_walk
    exact h
  .have hi2:items2[((i:Nat):Int).toNat]? =YC:=by simp;omega
   rw[fin i u1 u2 (.inr (by omega))]at h;rw[hi1,hi2]
   wp_walk using Q7 hl,Q7 hb
   exact h
theorem Zsu(l b:YG)(items items2:Array Xf)(n n2:Nat)(dd dd2:Option YG)(sl sl2:Array (Option Xf)){xs ys:List Int}(h1:BL items.toList xs)(h2:BL items2.toList ys) :
  Meets (VG.«list.__lt__» ⟨[.ref l,.ref b],[]⟩)
   (λA R s=>s.heap.get? l=YB { cls:=.type "list",dict:=dd,data:=.seq items n,slots:=sl }/\s.heap.get? b=YB { cls:=.type "list",dict:=dd2,data:=.seq items2 n2,slots:=sl2 }/\
    R (.ok (.ret (.bool (ltI xs ys)))) s):=by
 intro prog w A R s h;obtain⟨hp,g,d,tk,os⟩:=s;obtain⟨hl,hb,h⟩:=h;have f3:=AutoSeq1.sub_list_list
 wp_walk using Q7 hl,Q7 hb
 exact⟨plainId_quiet plain_eq_loop _,codeAny_builtin entry_eq_loop (by
  rw[Around.under_plainId plain_eq_loop _];exact Zv5 l b items items2 n n2 dd dd2 sl sl2 h1 h2 _ 0 rfl (QS _) (QS _) prog w A R _ ⟨hl,hb,h⟩)⟩
theorem Zis{b:YG}{items2:Array Xf}{xs ys:List Int}{Q:Bool->Xg->Prop}(hu:A.units<UV)(hl:s.heap.IsList l items)(hb:s.heap.IsList b items2)(h1:BL items.toList xs)(h2:BL items2.toList ys)(h:Q (ltI xs ys) s) :
  XX (Qi prog w) A (oneLt' YD (.ref l) (.ref b)) Q E s:=by
 obtain⟨⟨cls,dd,data,sl⟩,hl,hc,n,hd⟩:=hl;obtain⟨⟨cls2,dd2,data2,sl2⟩,hb,hc2,n2,hd2⟩:=hb;simp only at hc hd hc2 hd2;subst hc hd hc2 hd2;rw[oneLt'_eq];simp only[if_true];refine Xd (wpAny_cRoomFor hu ?_);refine Xd (wpAny_callSpecialIfBound?_slot ⟨_,hl,rfl⟩ F.slot_list_lt (call_meets F.slot_list_lt ⟨_,hl,rfl⟩ F.entry_list_lt (F.args_list_lt_2 _ _) (Zsu l b items items2 n n2 dd dd2 sl sl2 h1 h2) ⟨hl,hb,?_⟩));exact V9 h
theorem Z9z{a:Int}{t u:Tok}(h:Q (.bool (decide (a<b))) s):XX (Qi prog w) A (richCompare .Lt (.int a t) (.int b u)) Q E s:=lt_int h
theorem Zq4(l b:YG)(items items2:Array Xf)(n n2:Nat)(dd dd2:Option YG)(sl sl2:Array (Option Xf)){xs ys:List Int}(h1:BL items.toList xs)(h2:BL items2.toList ys) :
  Meets (VG.«tuple.__lt__» ⟨[.ref l,.ref b],[]⟩)
   (λA R s=>s.heap.get? l=YB { cls:=.type "tuple",dict:=dd,data:=.seq items n,slots:=sl }/\s.heap.get? b=YB { cls:=.type "tuple",dict:=dd2,data:=.seq items2 n2,slots:=sl2 }/\
    R (.ok (.ret (.bool (ltI xs ys)))) s) :=
 .of_wp λprog w A R s h=>by
  obtain⟨hp,g,d,tk,os⟩:=s;obtain⟨hl,hb,h⟩:=h;have f2:=AutoSeq1.sub_tuple_tuple;have e1:items.toList.length=xs.length:=Zga h1;have e2:items2.toList.length=ys.length:=Zga h2
  wp_walk using Q7 hl,Q7 hb,wpAny_forIn_list _ (λrest b s'=>b.1=YC/\s'=⟨hp,g,d,tk,os⟩/\∃i,rest=(items.toList.zip items2.toList).drop i/\i<=items.toList.length/\i<=items2.toList.length/\
   R (.ok (.ret (.bool (ltI (xs.drop i) (ys.drop i))))) ⟨hp,g,d,tk,os⟩) _
  case turn=>
   rintro⟨v,u⟩ rest b s' ⟨hb',rfl,i,hz,u1,u2,hR⟩;have hlt:i<(items.toList.zip items2.toList).length:=by
    rcases Uc i (items.toList.zip items2.toList).length with h'|h'
    .exact h'
    .rw[List.drop_of_length_le h']at hz;cases hz
   have hm:=hlt;rw[Uk]at hm;obtain⟨x,t,q1,q2⟩:=Zoo h1 i (by omega);obtain⟨y,r,q3,q4⟩:=Zoo h2 i (by omega);rw[Uh hlt]at hz;injection hz with hyx hrest;have hz0:(items.toList.zip items2.toList)[i]? =YB (.int x t,.int y r):=by rw[Ue];exact⟨q1,q3⟩
   rw[Xi hlt]at hz0;injection hz0 with hz0;rw[hz0]at hyx;cases hyx;rw[q2,q4]at hR;unfold ltI at hR;refine Xd (EqAt.int_int x t y r prog w _ _ ?_)
   by_cases cx:x=y
   .rw[YL cx]at hR
    rw[YZ.mpr cx]
    wp_walk
    exact⟨rfl,rfl,i+1,hrest,by omega,by omega,hR⟩
   .rw[YM cx]at hR
    rw[beq_eq_false_iff_ne.mpr cx]
    wp_walk using Z9z
    exact⟨_,rfl,hR⟩
  case fin=>
   rintro⟨b1,b2⟩ s' ⟨hb',rfl,i,hz,u1,u2,hR⟩;simp only at hb';subst hb';have hge:min items.toList.length items2.toList.length<=i:=by
    rcases Uc i (items.toList.zip items2.toList).length with h'|h'
    .rw[Uh h']at hz;cases hz
    .rw[Uk]at h';exact h'
   have hv:ltI (xs.drop i) (ys.drop i)=decide (items.size<items2.size):=by
    rw[Zlr ((show i=items.toList.length\/i=items2.toList.length by omega).imp (λc=>Uz (by omega)) λc=>Uz (by omega)),JG,JG];rw[BZ]at e1 e2 u1 u2;exact decide_eq_decide.mpr (by omega)
   rw[hv]at hR
   wp_walk
   exact⟨_,rfl,hR⟩
  case h=>
   exact⟨rfl,rfl,0,rfl,QS _,QS _,h⟩
theorem Zsv{b:YG}{items2:Array Xf}{xs ys:List Int}{Q:Bool->Xg->Prop}(hu:A.units<UV)(hl:s.heap.IsTuple l items)(hb:s.heap.IsTuple b items2)(h1:BL items.toList xs)(h2:BL items2.toList ys)(h:Q (ltI xs ys) s) :
  XX (Qi prog w) A (oneLt' YF (.ref l) (.ref b)) Q E s:=by
 obtain⟨⟨cls,dd,data,sl⟩,hl,hc,n,hd⟩:=hl;obtain⟨⟨cls2,dd2,data2,sl2⟩,hb,hc2,n2,hd2⟩:=hb;simp only at hc hd hc2 hd2;subst hc hd hc2 hd2;exact kat_one _ _ (richCompare_meets_room (op:=.Lt) ⟨_,hl,rfl⟩ ⟨_,hb,rfl⟩ F.slot_tuple_lt F.entry_tuple_lt (F.args_tuple_lt_2 _ _) (Zq4 l b items items2 n n2 dd dd2 sl sl2 h1 h2)
  ⟨hl,hb,show Value.bool (ltI xs ys)≠Xf.notImplemented/\_ from⟨(λx=>nomatch x),h⟩⟩ hu)
end L2
namespace L2
open PySem PySem.Spec PyProof.Rows PySem.W
def sLay(d:α)(lt:Nat->Nat->Bool)(vs:List α):List α:=if vs.length<2 then vs else(Zwx lt vs.length).map λi=>vs.getD i d
theorem Zqq(d:α)(vs:List α):((Xw vs.length).map λi=>vs.getD i d)=vs:=by
 refine List.ext_getElem? λi=>?_;rw[Xm]
 by_cases c:i<vs.length
 .rw[JR c,Xi c]
  show YB (vs.getD i d)=_;rw[Xb,Xi c];rfl
 .rw[QL (by rw[Qd];omega),QL (by omega)];rfl
theorem Zgz(d:α)(lt:Nat->Nat->Bool)(vs:List α):(sLay d lt vs).Perm vs:=by
 unfold sLay;split
 .exact .refl _
 .have:=(Zee (lt:=lt) (n:=vs.length) (by omega)).map λi=>vs.getD i d
  rwa[Zqq]at this
theorem Zpf(f:α->β)(d:α)(lt:Nat->Nat->Bool)(vs:List α):sLay (f d) lt (vs.map f)=(sLay d lt vs).map f:=by
 unfold sLay;rw[Xe];split
 .rfl
 .rw[XQ]
  refine Xr λi _=>?_;show(vs.map f).getD i (f d)=f (vs.getD i d);rw[Xb,Xb,Xm];cases vs[i]? <;>rfl
theorem Zsz{lt:Nat->Nat->Bool}(h:Vals xs us):Vals (sLay .non lt xs) (sLay .none lt us):=by
 unfold sLay;rw[h.length];split
 .exact h
 .generalize Zwx lt _=l
  induction l with
  | nil=>exact .nil
  | cons i l ih=>
   refine .cons ?_ ih;show RelV (xs.getD i V.non) (us.getD i QH);rw[Xb,Xb];cases e:xs[i]? with
   | some x=>
    obtain⟨u,e',r⟩:=h.get e;rw[e'];exact r
   | none=>
    have:us[i]? =YC:=QL (by rw[<-h.length];exact Qz.mp e);rw[this];exact rfl
theorem Zrm{κ:Vj}{lt:Nat->Nat->Bool}{h0:YH}{n:Nat}{P:PySem.Fin->Xg->Prop}(ho:s.heap.get? a=YB (QQ "list" vs.toArray n))
  (k0:∀b o,h0.get? b=YB o->s.heap.get? b=YB o) (ha0:h0.get? a=YC) (h64:vs.length<64)
  (hk:2<=vs.length->∀s':Xg,(∀b o,h0.get? b=YB o->s'.heap.get? b=YB o)->∀Q:Vj->Xg->Prop,Q κ s'->XX (Qi prog w) A (keyKind' vs.toArray) Q E s')
  (hc:2<=vs.length->∀s':Xg,(∀b o,h0.get? b=YB o->s'.heap.get? b=YB o)->∀i j C,i<vs.length->j<vs.length->C (lt i j) s'->kas_ask prog w A κ vs i j C s')
  (h:P (.done (.ret .none)) { s with heap:=sortedHeap s.heap a vs (Bm (sLay QH lt vs)) }):XX (Qi prog w) A (VG.«list.sort» ⟨[.ref a],[]⟩) P E s:=by
 have ha:a<s.heap.objs.size:=XD ho;obtain⟨e1,ho1⟩:∃e1,(s.heap.update a (QM λ_=>(#[]:Array Xf))).get? a=YB (QQ "list" #[] e1):=⟨_,get?_update_seq ho λ_=>#[]⟩;have ho6:(((s.heap.update a (QM λ_=>(#[]:Array Xf))).push (QQ "tuple" vs.toArray 0)).push (QQ "list" #[] 0)).get? a=YB (QQ "list" #[] e1):=Xk _ (Xk _ ho1);have k6:∀b o,h0.get? b=YB o->(((s.heap.update a (QM λ_=>(#[]:Array Xf))).push (QQ "tuple" vs.toArray 0)).push (QQ "list" #[] 0)).get? b=YB o:=λb o e=>by
  refine Xk _ (Xk _ ?_);rw[Heap.get?_update_ne _ _ _ _ (λq=>by rw[q,ha0]at e;cases e)];exact k0 b o e
 rw[list_sort_plain];refine Xd (listItems_at ho rfl ?_);refine Xd (listUpdate_at ho rfl ?_ (by rw[Xx,Qh];omega) (QS _));refine Xd (seqEpoch_at ho1 rfl ?_);refine Xd (wpAny_newTuple ?_ (by show vs.length<=_;rw[Qh];omega));refine Xd (wpAny_newList ?_ (QS _));refine VD ?_;show XX (Qi prog w) A _ P E { s with heap:=((s.heap.update a (QM λ_=>(#[]:Array Xf))).push (QQ "tuple" vs.toArray 0)).push (QQ "list" #[] 0) };dsimp only;have hs:vs.toArray.size=vs.length:=Xx ..
 by_cases h2:vs.toArray.size<2
 .have el:sLay QH lt vs=vs:=YL (hs▸h2)
  rw[el]at h;rw[YL h2,YL h2];refine Xd (Xy ?_);rw[StateT.run_pure];refine Xd (Xy ?_);dsimp only;refine Xd (seqEpoch_at ho6 rfl ?_);have ez:((vs.toArray.zip vs.toArray).map (·.2))=vs.toArray:=by
   apply Array.toList_inj.mp;rw[Array.toList_map,Array.toList_zip,List.map_snd_zip (XJ _)]
  show XX _ _ (Builtin.List.listUpdate _ (λ_=>(vs.toArray.zip vs.toArray).map (·.2))>>=_) _ _ _;rw[ez];refine Xd (listUpdate_at ho6 rfl ?_ (QS _) (by rw[hs,Qh];omega));simp only[bne_self_eq_false,Vk,if_false];exact Xy h
 .rw[YM h2,YM h2]
  have h2':2<=vs.length:=by omega
  have el:sLay QH lt vs=(Zwx lt vs.length).map λi=>vs.getD i QH:=YM (by omega);rw[el]at h;refine Xd (hk h2' _ k6 _ ?_);have est:Vg κ (vs.toArray.zip vs.toArray) #[] 7 YC=kas_st κ (Uv vs) (Bm (Xw vs.length)):=by
   have e:=kas_range (Uv vs);rw[pairsOf_size]at e;show Vg κ (Uv vs) #[] 7 YC=Vg κ ((Bm (Xw vs.length)).map (X8 (Uv vs))) #[] 7 YC;rw[e]
  have run:=kas_runs (prog:=prog) (w:=w) (A:=A) (κ:=κ) (it:=Uv vs) (E:=E) (s:={ s with heap:=((s.heap.update a (QM λ_=>(#[]:Array Xf))).push (QQ "tuple" vs.toArray 0)).push (QQ "list" #[] 0) })
   (Q:=λ_ st' s'=>arrOf st'=(kEv lt (kas_sort vs.length)).map (X8 (Uv vs))/\failedOf st'=YC/\s'={ s with heap:=((s.heap.update a (QM λ_=>(#[]:Array Xf))).push (QQ "tuple" vs.toArray 0)).push (QQ "list" #[] 0) })
   (G:=λp s'=>p=kEv lt (kas_sort vs.length)/\s'={ s with heap:=((s.heap.update a (QM λ_=>(#[]:Array Xf))).push (QQ "tuple" vs.toArray 0)).push (QQ "list" #[] 0) })
   h2' h64 (λp' st' s' _ a2 a3 a4=>⟨a4.1▸a2,a3,a4.2⟩) (by
    rw[<-kas_ask_eq];exact(Zg1 (n:=vs.length) (by omega)).wp (hc h2' _ k6) ⟨rfl,rfl⟩)
  rw[<-est]at run;refine Xd (Vd run ?_ λ_ _ e=>e);intro r s' z;obtain⟨har,hf,rfl⟩:=z;have hout:(arrOf r.2).map (·.2)=Bm ((Zwx lt vs.length).map λi=>vs.getD i QH):=by
   apply Array.toList_inj.mp;rw[har,Array.map_map,Array.toList_map];exact Xr λi _=>by show(X8 (Uv vs) i).2=_;rw[kas_item_eq]
  rw[hout];refine Xd (seqEpoch_at ho6 rfl ?_);refine Xd (listUpdate_at ho6 rfl ?_ (QS _) (by rw[Xx,Xe,(Zee (by omega)).length_eq,Qd,Qh];omega));rw[hf];simp only[bne_self_eq_false,Vk,if_false];exact Xy h
theorem Z4r{κ:Vj}{lt:Nat->Nat->Bool}(hl:s.heap.IsList l vs.toArray)(h64:vs.length<64)
  (hk:2<=vs.length->∀s':Xg,(∀b o,s.heap.get? b=YB o->s'.heap.get? b=YB o)->∀Q:Vj->Xg->Prop,Q κ s'->XX (Qi prog w) A.in1.in1 (keyKind' vs.toArray) Q E s')
  (hc:2<=vs.length->∀s':Xg,(∀b o,s.heap.get? b=YB o->s'.heap.get? b=YB o)->∀i j C,i<vs.length->j<vs.length->C (lt i j) s'->kas_ask prog w A.in1.in1 κ vs i j C s')
  (h:Q (.ref (s.heap.objs.size+1)) { s with heap:=sortedAll s.heap vs (Bm (sLay QH lt vs)) }):XX (Qi prog w) A (call (.builtin "sorted") [.ref l]) Q E s:=by
 refine Calls.call_function_entry kind_sorted plain_sorted entry_sorted (args_sorted1 _) ?_;unfold VG.«sorted»;refine Xd (m:=checkCount "sorted" 1 1 _) (Xy ?_);refine Xd (collect_list hl ?_ (by rw[Qh];omega));refine Xd (wpAny_newList ?_ (by rw[Qh];omega));have hsz:((s.heap.push (QQ "list" #[] 0)).update s.heap.objs.size (QM (·++vs.toArray))).objs.size=s.heap.objs.size+1:=by
  rw[Heap.size_update,size_push']
 have hoL:(((s.heap.push (QQ "list" #[] 0)).update s.heap.objs.size (QM (·++vs.toArray))).push (QQ "list" vs.toArray 0)).get? (s.heap.objs.size+1)=YB (QQ "list" vs.toArray 0):=by
  rw[<-hsz];exact XN _ rfl
 have keep:∀b o,s.heap.get? b=YB o->(((s.heap.push (QQ "list" #[] 0)).update s.heap.objs.size (QM (·++vs.toArray))).push (QQ "list" vs.toArray 0)).get? b=YB o:=λb o q=>by
  have hlt:b<s.heap.objs.size:=XD q;rw[Heap.get?_push_ne _ _ _ (by rw[hsz];exact Xz (Nat.lt_succ_of_lt hlt)),Heap.get?_update_ne _ _ _ _ (Xz hlt),Heap.get?_push_ne _ _ _ (Xz hlt)];exact q
 show XX _ _ _ _ _ { s with heap:=((s.heap.push (QQ "list" #[] 0)).update s.heap.objs.size (QM (·++vs.toArray))).push (QQ "list" vs.toArray 0) };rw[hsz];refine Xd (VD (JT slot_list_sort ⟨_,hoL,rfl⟩ entry_list_sort (Zrm (h0:=s.heap) hoL keep (Heap.get?_none_of_le (Nat.le_succ _)) h64 hk hc ⟨_,rfl,?_⟩) (args_list_sort _)));exact Xy ⟨_,rfl,h⟩
end L2
namespace L2
open PySem PySem.Spec PyProof.Rows PySem.W
structure Z9o{α:Type}(kd:Xa->Option α)(lt:α->α->Bool):Prop where
 lay:∀d k,kd d=YB k->d.canLay0=YD
 run:∃κ:Vj,(∀(prog:X5) (w:Qu) (A:Qv) (E:Xf->Xg->Prop) (s:Xg) (vs:List Xf) (ds:List Xa) (as:List YG) (Q:Vj->Xg->Prop),2<=vs.length->ReadsAll s.heap vs ds as->(∀d∈ds,∃k,kd d=YB k)->Q κ s->XX (Qi prog w) A (keyKind' vs.toArray) Q E s)/\
  ∀(prog:X5) (w:Qu) (A:Qv) (E:Xf->Xg->Prop) (s:Xg) (u v:Xf) (d e:Xa) (as bs:List YG) (k m:α) (C:Bool->Xg->Prop),A.units+32<UV->Reads s.heap u d as->Reads s.heap v e bs->kd d=YB k->kd e=YB m->C (lt k m) s->XX (Qi prog w) A (keyLt' κ u v) C E s
theorem readsAll_ints(ns:List Int)(r:ReadsAll h vs (ns.map Xl) as):BL vs ns:=by
 induction ns generalizing vs as with
 | nil=>cases r;exact .nil
 | cons n ns ih=>
  cases r with
  | cons r q=>
   cases r;exact .cons _ _ (ih q)
theorem Jk(r:Reads h u (.list (ns.map Xl)) as):∃a items,u= .ref a/\h.IsList a items/\BL items.toList ns:=by
 cases r with
 | list e c d q=>exact⟨_,_,rfl,⟨_,e,c,_,d⟩,readsAll_ints ns q⟩
theorem Zfj(r:Reads h u (.tuple (ns.map Xl)) as):∃a items,u= .ref a/\h.IsTuple a items/\BL items.toList ns:=by
 cases r with
 | tuple e c d q=>exact⟨_,_,rfl,⟨_,e,c,_,d⟩,readsAll_ints ns q⟩
theorem readsAll_get(r:ReadsAll h vs ds as):vs.length=ds.length/\∀(i:Nat) d,ds[i]? =YB d->∃v bs,vs[i]? =YB v/\Reads h v d bs:=by
 induction ds generalizing vs as with
 | nil=>cases r;exact⟨rfl,λi d e=>by rw[List.getElem?_nil]at e;cases e⟩
 | cons d ds ih=>
  cases r with
  | cons r q=>
   obtain⟨z1,z2⟩:=ih q;refine⟨YT Nat.succ z1,λi e he=>?_⟩;cases i with
   | zero=>cases he;exact⟨_,_,rfl,r⟩
   | succ i=>exact z2 i e he
theorem lay_ints(ns:List Int):Sh 1 (.list (ns.map Xl)):=Zs6 λd m=>by
 obtain⟨x,_,rfl⟩:=XM.mp m;exact Zt1 x
theorem Zev(ns:List Int):Sh 1 (.tuple (ns.map Xl)):=Z0y λd m=>by
 obtain⟨x,_,rfl⟩:=XM.mp m;exact Zt1 x
theorem Zip(e:h.IsList a items):Looks M h (typeOf (.ref a)) (.type "list"):=by
 obtain⟨o,e,c,_⟩:=e;have:Looks M h (typeOf (.ref a)) o.cls:=(Looks.ld e).andThen .now
 rwa[c]at this
def kdL:Xa->Option (List Int):=λd=>match d with| .list es=>Zc5 es|_=>YC
theorem Zgj{d:Xa}{k:List Int}(h:kdL d=YB k):d= .list (k.map Xl):=by
 cases d with
 | list es=>exact YT QJ (Zbr h)
 | _=>cases h
theorem Zug(r:ReadsAll h vs ds as){v:Xf}(hv:v∈vs):∃d∈ds,∃bs,Reads h v d bs:=by
 obtain⟨i,hi⟩:=Vr hv;obtain⟨z1,z2⟩:=readsAll_get r;have c:i<ds.length:=z1▸(Xu.mp hi).1;obtain⟨v',bs,e,q⟩:=z2 i _ (Xi c);rw[hi]at e;cases e;exact⟨_,JH c,bs,q⟩
theorem Ycj:Z9o kdL ltI:=by
 refine⟨λd k h=>by rw[Zgj h];exact(lay_ints k).1,oneType',λprog w A E s vs ds as Q h2 r hk q=>kas_kind (T:=.type "list") h2 (λv hv=>?_) rfl rfl q,λprog w A E s u v d e as bs k m C hu r1 r2 h1 h2 h=>?_⟩
 .obtain⟨d,hd,bs,z⟩:=Zug r hv
  obtain⟨k,hk⟩:=hk d hd;rw[Zgj hk]at z;obtain⟨a,items,rfl,e,_⟩:=Jk z;exact Zip e
 .rw[Zgj h1]at r1
  rw[Zgj h2]at r2;obtain⟨a,i1,rfl,e1,z1⟩:=Jk r1;obtain⟨b,i2,rfl,e2,z2⟩:=Jk r2;rw[keyLt'_oneType];exact Zis (by omega) e1 e2 z1 z2 h
def kdT:Xa->Option (List Int×List Int):=λd=>match d with| .tuple [.list es,.tuple fs]=>(Zc5 es).bind λns=>(Zc5 fs).bind λms=>YB (ns,ms)|_=>YC
def ltT:List Int×List Int->List Int×List Int->Bool:=λa b=>if a.1=b.1 then(if a.2=b.2 then YF else ltI a.2 b.2)else ltI a.1 b.1
theorem Zgm{d:Xa}{k:List Int×List Int}(h:kdT d=YB k):d= .tuple [.list (k.1.map Xl),.tuple (k.2.map Xl)]:=by
 unfold kdT at h;split at h
 case h_2=>cases h
 obtain⟨ns,h1,h⟩:=bs h;obtain⟨ms,h2,h⟩:=bs h;cases h;rw[Zbr h1,Zbr h2]
theorem Znr{k:List Int×List Int}(r:Reads h u (.tuple [.list (k.1.map Xl),.tuple (k.2.map Xl)]) as):∃t o n a b,u= .ref t/\h.get? t=YB o/\o.cls= .type "tuple"/\o.data= .seq #[.ref a,.ref b] n/\(∃bs,Reads h (.ref a) (.list (k.1.map Xl)) bs)/\∃bs,Reads h (.ref b) (.tuple (k.2.map Xl)) bs:=by
 cases r with
 | @tuple t o vs n xs as e c d q=>
  obtain⟨l,hl⟩:∃l,l=vs.toList:=⟨_,rfl⟩;rw[<-hl]at q;cases q with
  | cons r1 q=>
   cases q with
   | cons r2 q=>
    cases q;obtain⟨a,_,rfl,_⟩:=Jk r1;obtain⟨b,_,rfl,_⟩:=Zfj r2;have:vs=#[.ref a,.ref b]:=Array.toList_inj.mp hl.symm;subst this;exact⟨t,o,n,a,b,rfl,e,c,d,⟨_,r1⟩,_,r2⟩
theorem Zmd(a b:List Int):QT (.list (a.map Xl)) (.list (b.map Xl))=decide (a=b):=by
 have p:∀l:List Int,Y4 (.list (l.map Xl))=YD:=λl=>by rw[Y4];induction l with|nil=>rfl|cons x l ih=>exact ih
 have inj:∀{l m:List Int},QJ (l.map Xl)= .list (m.map Xl)->l=m:=λh=>by
  injection h with h;exact(Um λx y z=>by injection z).mp h
 by_cases c:a=b
 .rw[Z0m (p a) (p b) (by rw[c]),YQ c]
 .rw[Z79 (p a) (p b) λz=>c (inj z),YS c]
theorem Zs4(a b:List Int):QT (.tuple (a.map Xl)) (.tuple (b.map Xl))=decide (a=b):=by
 have e:∀xs ys:List Xa,QT (.tuple xs) (.tuple ys)=QT (.list xs) (.list ys):=λxs ys=>by
  rw[QT,QT]
 rw[e,Zmd]
theorem Yaa:Z9o kdT ltT:=by
 refine⟨λd k h=>?_,tuples' YD,λprog w A E s vs ds as Q h2 r hk q=>?_,λprog w A E s u v d e as bs k m C hu r1 r2 h1 h2 h=>?_⟩
 .rw[Zgm h]
  exact(Z0y (n:=1) λd m=>by
   rcases Xo.mp m with rfl|m
   .exact lay_ints _
   .rw[Xj.mp m];exact Zev _).1
 .have key:∃fs:List Xf,KatTups s.heap vs fs/\fs.length=vs.length/\∀v∈fs,∃a items,v= .ref a/\s.heap.IsList a items:=by
   clear h2 q
   induction ds generalizing vs as with
   | nil=>cases r;exact⟨[],trivial,rfl,λ_ m=>nomatch m⟩
   | cons d ds ih=>
    cases r with
    | cons r q=>
     obtain⟨fs,t,l,z⟩:=ih _ _ q λd m=>hk d (.tail _ m);obtain⟨k,hk⟩:=hk d (.head _);rw[Zgm hk]at r;obtain⟨t',o,n,a,b,rfl,e,c,hd,⟨_,x1⟩,_⟩:=Znr r;obtain⟨a',items,ea,ex,_⟩:=Jk x1;cases ea;refine⟨.ref a::fs,KatTups.cons e c hd rfl t,YT Nat.succ l,λv hv=>?_⟩;rcases Xo.mp hv with rfl|hv
     .exact⟨a,items,rfl,ex⟩
     .exact z v hv
  obtain⟨fs,t,l,z⟩:=key;exact kat_kind (T:=.type "list") t (by omega) (λv hv=>by obtain⟨a,items,rfl,e⟩:=z v hv;exact Zip e) rfl q
 .rw[Zgm h1]at r1
  rw[Zgm h2]at r2;obtain⟨t1,o1,n1,a1,b1,rfl,g1,c1,d1,⟨_,x1⟩,_,y1⟩:=Znr r1;obtain⟨t2,o2,n2,a2,b2,rfl,g2,c2,d2,⟨_,x2⟩,_,y2⟩:=Znr r2;refine kat_lt g1 d1 g2 d2 (kat_cons ?_);refine SeqAt.eqAt_reads _ _ A s _ _ _ _ x1 x2 (lay_ints _).1 (lay_ints _).1 (by have:=(lay_ints k.1).2;omega) prog w _ _ ?_;rw[Zmd];unfold ltT at h;obtain⟨p1,i1,e1,l1,z1⟩:=Jk x1;obtain⟨p2,i2,e2,l2,z2⟩:=Jk x2;cases e1;cases e2
  by_cases c:k.1=m.1
  .rw[YL c]at h
   rw[YQ c];refine kat_yes (kat_cons ?_);refine SeqAt.eqAt_reads _ _ A s _ _ _ _ y1 y2 (Zev _).1 (Zev _).1 (by have:=(Zev k.2).2;omega) prog w _ _ ?_;rw[Zs4];obtain⟨p1,i1,e1,l1,z1⟩:=Zfj y1;obtain⟨p2,i2,e2,l2,z2⟩:=Zfj y2;cases e1;cases e2
   by_cases c':k.2=m.2
   .rw[YL c']at h
    rw[YQ c'];exact kat_yes (kat_nil h)
   .rw[YM c']at h
    rw[YS c'];exact kat_no (Zsv (by omega) l1 l2 z1 z2 h)
  .rw[YM c]at h
   rw[YS c];exact kat_no (Zis (by omega) l1 l2 z1 z2 h)
end L2
namespace L2
open PySem PySem.Spec PyProof.Rows PySem.W
def lk(kd:Xa->Option α)(lt:α->α->Bool)(es:List Xa):Nat->Nat->Bool:=λi j=>((kd (es.getD i .none)).bind λa=>(kd (es.getD j .none)).map λb=>lt a b).getD YF
def keyed(kd:Xa->Option α)(es:List Xa):Prop:=∀d∈es,∃k,kd d=YB k
theorem Zih{es:List Xa}(h:∀d∈es,d.canLay0=YD):Bg es=YD:=by
 induction es with
 | nil=>rw[Bg]
 | cons d es ih=>rw[Bg,h d (.head _),ih λd m=>h d (.tail _ m)];rfl
theorem Das.sLay{lt:Nat->Nat->Bool}(h:Das G H L xs ds):Das G H L (L2.sLay .non lt xs) (L2.sLay .none lt ds):=by
 unfold L2.sLay;rw[h.length];split
 .exact h
 .generalize Zwx lt _=l
  induction l with
  | nil=>exact .nil
  | cons i l ih=>
   refine .cons ?_ ih;show Da G H L (xs.getD i .non) (ds.getD i .none);rw[Xb,Xb];cases e:xs[i]? with
   | some x=>
    obtain⟨u,e',r⟩:=h.get' e;rw[e'];exact r
   | none=>
    have:ds[i]? =YC:=QL (by rw[<-h.length];exact Qz.mp e);rw[this];exact .non
def Zoj(kd:Xa->Option α)(lt:α->α->Bool)(K:Xc):List V->Hp->VK->Prop:=λxs H Q=>∃(a:YG) (vs:List V) (L:YG->Prop) (es:List Xa),xs=[.ref a]/\SqL K H a vs/\Das K H L vs es/\vs.length<64/\keyed kd es/\∀l,H l=YC->Q (.ref l) (upd H l (.lst (sLay .non (lk kd lt es) vs)))
section
variable {kd:Xa->Option α}{lt:α->α->Bool}
theorem Ziy(S:Z9o kd lt)(hK:X.K=K)(hu:X.A.units+64<UV):Zar X (.builtin "sorted") (Zoj kd lt K):=by
 subst hK;intro pins s O H xs us Q I r h;obtain⟨l,vs,L,es,rfl,hs,hd,h64,hk,q⟩:=h;obtain⟨u,rfl,ru⟩:=vals1 r;cases(show u=Qq l from ru);obtain⟨its,rv,pl,hz⟩:=I.list hs;have hl:=rv.length;obtain⟨as,ra⟩:=hd.reads rfl I rv (Zih λd m=>by obtain⟨k,e⟩:=hk d m;exact S.lay d k e);obtain⟨κ,S1,S2⟩:=S.run;obtain⟨z1,z2⟩:=readsAll_get ra;refine Z4r (κ:=κ) (lt:=lk kd lt es) pl.isList (by omega) (λh2 s' k Q q=>S1 _ _ _ _ s' _ es as Q h2 (ReadsAll.keeps k ra) hk q) (λh2 s' k i j C hi hj hc=>?_) ?_
 .rw[z1]at hi hj
  obtain⟨v,b1,e1,r1⟩:=z2 i _ (Xi hi);obtain⟨w,b2,e2,r2⟩:=z2 j _ (Xi hj);obtain⟨k1,q1⟩:=hk _ (JH hi);obtain⟨k2,q2⟩:=hk _ (JH hj);have ek:lk kd lt es i j=lt k1 k2:=by
   unfold lk;rw[Xb,Xb,Xi hi,Xi hj];show((kd es[i]).bind λa=>(kd es[j]).map λb=>lt a b).getD YF=_;rw[q1,q2];rfl
  rw[ek]at hc;unfold kas_ask;rw[Xb,Xb,e1,e2];exact S2 _ _ _ _ s' v w _ _ _ _ k1 k2 C (show X.A.units+1+1+32<UV by omega) (Reads.keeps k r1) (Reads.keeps k r2) q1 q2 hc
 .obtain⟨e,he⟩:=sortedAll_at s.heap its (Bm (sLay QH (lk kd lt es) its))
  refine⟨.ref (s.heap.objs.size+1),_,I.laid (t':=s.toks) (o:=.lst (sLay .non (lk kd lt es) vs)) (λb ob q=>sortedAll_old q) (by omega) ⟨?_,sLay QH (lk kd lt es) its,e,Zsz rv,he⟩,rfl,q _ (I.hok.fresh (by omega))⟩;rw[(Zgz _ _ _).length_eq,Qh];omega
def Zo4(kd:Xa->Option α)(lt:α->α->Bool):List Xa->(OT->Prop)->Prop:=λds k=>n1 (λd=>∃es:List Xa,d= .list es/\es.length<64/\keyed kd es/\k (.nd ((sLay .none (lk kd lt es) es).map OT.fz))) ds
theorem Zoh:PN G (Zoj kd lt G) (Zo4 kd lt):=λH L xs ds k Q hx h kk=>by
 obtain⟨v,d,rfl,rfl,q,es,e,h64,hk,h⟩:=hx.one h;have fin:∀(vs:List V) (p:YG),Das G H L vs es->H p=YC->Q (.ref p) (upd H p (.lst (sLay .non (lk kd lt es) vs))):=λvs p hv hp=>kk _ _ _ [p] (Zz hp _) (Own.list hp hv.sLay) (Zbe p) (J6 hp) h;subst e;generalize ed:QJ es=d at q;cases q with
 | lst l e r=>
  cases ed;exact⟨_,_,L,es,rfl,.inl e,r,by rw[r.length];exact h64,hk,λp hp=>fin _ p r hp⟩
 | scr ks=>
  cases ed;exact⟨_,_,L,_,rfl,ks.sq,Das.ints _,by rw[(Das.ints (G:=G) (H:=H) (L:=L) _).length];exact h64,hk,λp hp=>fin _ p (Das.ints _) hp⟩
 | _=>cases ed
def Zg0(kd:Xa->Option α)(lt:α->α->Bool):List Xa->Option OT:=λds=>match ds with|[.list es]=>if(decide (es.length<64)&&es.all λd=>(kd d).isSome)=YD then YB (.nd ((sLay .none (lk kd lt es) es).map OT.fz))else YC|_=>YC
theorem Zss:∀ds r k,Zg0 kd lt ds=YB r->k r->Zo4 kd lt ds k:=λds r k h hk=>by
 unfold Zg0 at h;split at h
 case h_2=>cases h
 split at h
 case isFalse=>cases h
 rename_i h2;rw[Xp]at h2;cases h;exact⟨_,rfl,YW h2.1,λd m=>Option.isSome_iff_exists.mp (Vi.mp h2.2 d m),hk⟩
end
end L2
namespace L2
open PySem PySem.Spec PyProof.Rows
section
variable {X:Cx}{io:List Nat}{p p' c c' q r:Bool}{a b e:YJ}{fa fb:FE}{es:List YJ}{ra:FA}{st:YK}{sts ss ss':List YK}{f g:FS}{ta:FT}
theorem xv(i:Nat)(hN:X.N[i]? =YB x:=by rfl)(hv:Vis X.env.scope x:=by first|exact QG rfl|exact Qt (QG rfl)|exact Qt (Qt rfl))(hd:(x==("__debug__" : Str))=YF:=by decide)(he:(x==("__classdict__" : Str))=YF:=by decide):ME X io YD YD (.Name x pos) (o2 (Ze i)):=Wy (mv i hN hv hd he)
theorem xo(i:Nat)(hN:X.N[i]? =YB x:=by rfl)(hv:Vis X.env.scope x:=by first|exact QG rfl|exact Qt (QG rfl)|exact Qt (Qt rfl))(hd:(x==("__debug__" : Str))=YF:=by decide)(he:(x==("__classdict__" : Str))=YF:=by decide):ME X io YD YF (.Name x pos) (o2 (Zkr i)):=Yan (mo i hN hv hd he)
theorem xci{i:Int}:ME X io YD YD (.Constant (.int i) j pos) (o2 (fC (.int i))):=Zoy Z8w
theorem xix(ha:ME X io p c a (o2 fa))(hb:ME X io p' c' b (o2 fb))(hc:p'=YD\/c=YD:=by first|exact QG rfl|exact Qt rfl)(hs:Zgr b:=by exact λ_ _=>rfl)(h2:(p&&p')=q:=by rfl)(h3:(c&&c')=r:=by rfl):ME X io q r (.Subscript a b pos) (o2 (Ym gIx fa fb)):=h2▸h3▸Zim Yjo (Yjj (Ztz rfl) Yfc ha hb hc (hs:=hs))
theorem xa0:MA X io YD YD [] (o2 Zo):=Zmm Zlv
theorem xa1[NoStar e](ha:ME X io p c e (o2 fa))(h2:(p&&YD)=q:=by rfl)(h3:(c&&YD)=r:=by rfl):MA X io q r [e] (o2 (Zc fa Zo)):=Zf ha xa0 (.inl rfl) h2 h3
theorem xsq(h:MS X io st (oS f))(k:MSs X io sts (oS g)):MSs X io (st::sts) (oS (Z5 f g)):=Zij (Zdd h k)
theorem xst(i:Nat)(hN:X.N.Nodup)(he:ME X io p YD e (o2 fa))(hi:X.N[i]? =YB x:=by rfl)(hx:Loc X.env.scope x:=by first|exact QG rfl|exact Qt rfl)(hio:i∉io:=by decide)(hs:VL e (YB (.Name x px)) pos.line X.env=pure YF:=by rfl)(hf:X.fn x=YD\/X.env.scope.names.lookup x=YB .local:=by first|exact .inl rfl|exact .inr rfl|assumption):MS X io (.Assign [.Name x px] e pos) (oS (wE fa (Y9 i))):=Yar (Z7x hN hi hx he hio hs hf)
theorem xrt(h:ME X io p YD e (o2 fa)):MS X io (.Return (YB e) pos) (oS (wE fa Jm)):=Zhk (Zgp h)
theorem xg(i:Nat)(hN:X.N.Nodup)(hi:X.N[i]? =YB x:=by rfl)(hx:Loc X.env.scope x:=by first|exact QG rfl|exact Qt rfl)(hio:i∉io:=by decide)(hf:X.fn x=YD\/X.env.scope.names.lookup x=YB .local:=by first|exact .inl rfl|exact .inr rfl|assumption):MG X io YD (.Name x pos) (oG (gNm i)):=Zmw (Znz hN hi hx hio hf)
theorem xif(h:MT X io p e (o2 ta))(k:MSs X io ss (oS f))(l:MSs X io ss' (oS g)):MS X io (.If e ss ss' pos) (oS (Zbg ta f g)):=Zqc (Zrn h k l)
theorem xnl:MSs X io [] (oS fNx):=Ze5 Zfc
theorem xtp{n:Nat}(h:MA X io p c es (o2 ra)):ME X io p c (.Tuple es n pos) (o2 (Zgn ra)):=Ybn (Yf0 h)
theorem xls(h:MA X io p c es (o2 ra)):ME X io p c (.List es pos) (o2 (Zek ra)):=Z76 (Ygn h)
theorem xil(h:ME X io p c e (o2 fa)):MI X io p c tg e (o2 (Zfz fa)):=Z3u (Z3c h)
theorem xno(h:MT X io p e (o2 ta)):MT X io p (.UnaryOp .Not e pos) (o2 (tNo ta)):=Z09 (Z14 h)
theorem Zhz(ha:ME X io p c a (o2 fa))(hb:ME X io p' c' b (o2 fb))(hc:p'=YD\/c=YD:=by first|exact QG rfl|exact Qt rfl)(h2:(p&&p')=q:=by rfl):ME X io q YD (.BinOp a .Add b pos) (o2 (Zj Zcb fa fb)):=h2▸W5 Yeo (Zq5 Ya9 Zsi ha hb hc)
theorem Ydf(ha:ME X io p c a (o2 fa))(hb:ME X io p' c' b (o2 fb))(hc:p'=YD\/c=YD:=by first|exact QG rfl|exact Qt rfl)(h2:(p&&p')=q:=by rfl):ME X io q YD (.BinOp a .Sub b pos) (o2 (Zj gSb fa fb)):=h2▸W5 Yel (Zq5 Ybd Zsi ha hb hc)
theorem Zmr(ha:ME X io p c a (o2 fa))(hb:ME X io p' c' b (o2 fb))(hc:p'=YD\/c=YD:=by first|exact QG rfl|exact Qt rfl)(h2:(p&&p')=q:=by rfl):ME X io q YD (.BinOp a .Mult b pos) (o2 (Zj Zfy fa fb)):=h2▸W5 Yfa (Zq5 Z7g Ybq ha hb hc)
theorem Zlk(ha:ME X io p c a (o2 fa))(hb:ME X io p' c' b (o2 fb))(hc:p'=YD\/c=YD:=by first|exact QG rfl|exact Qt rfl)(h2:(p&&p')=q:=by rfl):ME X io q YD (.BinOp a .Mod b pos) (o2 (Zj Zej fa fb)):=h2▸W5 Ygs (Zq5 Z4s Z8s ha hb hc)
theorem Zrw(ha:ME X io p c a (o2 fa))(hb:ME X io p' c' b (o2 fb))(hc:p'=YD\/c=YD:=by first|exact QG rfl|exact Qt rfl)(h2:(p&&p')=q:=by rfl):ME X io q YD (.BinOp a .FloorDiv b pos) (o2 (Zj Zat fa fb)):=h2▸W5 Z95 (Zq5 Zz6 Z80 ha hb hc)
theorem Ygq(ha:ME X io p c a (o2 fa))(hb:ME X io p' c' b (o2 fb))(hc:p'=YD\/c=YD:=by first|exact QG rfl|exact Qt rfl)(h2:(p&&p')=q:=by rfl):ME X io q YD (.BinOp a .Pow b pos) (o2 (Zj Zzw fa fb)):=h2▸W5 Ygi (Zq5 Z2t Yb7 ha hb hc)
theorem xeq(hu:X.A.units+64<UV)(ha:ME X io p c a (o2 fa))(hb:ME X io p' c' b (o2 fb))(hc:p'=YD\/c=YD:=by first|exact QG rfl|exact Qt rfl)(h2:(p&&p')=q:=by rfl):MT X io q (.Compare a [.Eq] [b] pos) (o2 (tV (Zj gEq fa fb))):=h2▸Zag Ydu (Zah (Zpr hu) Zyk ha hb hc (hm:=Jy _))
theorem xne(hu:X.A.units+64<UV)(ha:ME X io p c a (o2 fa))(hb:ME X io p' c' b (o2 fb))(hc:p'=YD\/c=YD:=by first|exact QG rfl|exact Qt rfl)(h2:(p&&p')=q:=by rfl):MT X io q (.Compare a [.NotEq] [b] pos) (o2 (tV (Zj gNe fa fb))):=h2▸Zag Ydd (Zah (Zph hu) Zz5 ha hb hc (hm:=Jy _))
theorem xlt(ha:ME X io p c a (o2 fa))(hb:ME X io p' c' b (o2 fb))(hc:p'=YD\/c=YD:=by first|exact QG rfl|exact Qt rfl)(h2:(p&&p')=q:=by rfl):MT X io q (.Compare a [.Lt] [b] pos) (o2 (tV (Zj gLt fa fb))):=h2▸Zag Yfj (Zah Z0a Zgy ha hb hc (hm:=Jy _))
theorem xgt(ha:ME X io p c a (o2 fa))(hb:ME X io p' c' b (o2 fb))(hc:p'=YD\/c=YD:=by first|exact QG rfl|exact Qt rfl)(h2:(p&&p')=q:=by rfl):MT X io q (.Compare a [.Gt] [b] pos) (o2 (tV (Zj gGt fa fb))):=h2▸Zag Yha (Zah Ya5 Zgy ha hb hc (hm:=Jy _))
theorem xle(ha:ME X io p c a (o2 fa))(hb:ME X io p' c' b (o2 fb))(hc:p'=YD\/c=YD:=by first|exact QG rfl|exact Qt rfl)(h2:(p&&p')=q:=by rfl):MT X io q (.Compare a [.LtE] [b] pos) (o2 (tV (Zj gLe fa fb))):=h2▸Zag Yll (Zah Yaq Zgy ha hb hc (hm:=Jy _))
theorem xge(ha:ME X io p c a (o2 fa))(hb:ME X io p' c' b (o2 fb))(hc:p'=YD\/c=YD:=by first|exact QG rfl|exact Qt rfl)(h2:(p&&p')=q:=by rfl):MT X io q (.Compare a [.GtE] [b] pos) (o2 (tV (Zj gGe fa fb))):=h2▸Zag Ylf (Zah Yfx Zgy ha hb hc (hm:=Jy _))
theorem xfr(hp:PassesOwn (Qi X.prog X.w) X.A X.env X.xe)(hc:X.calm=YD)(hi:MI X io p YD tg e (o2 it))(hg:MG X io YD tg (oG gg))(hb:MSs X io ss (oS f))(hs:∀x,Bv e X.env x=pure x:=by intro _;rfl):MS X io (.For tg e ss [] pos) (oS (J5 it gg f)):=Z1m (Z1w hp hc hi hg hb hs)
theorem xg2{n:Nat}{g1 g2:FG}(hc:X.calm=YD)(ha:MG X io YD a (oG g1))(hb:MG X io YD b (oG g2))(h1:List.map (λx=>x.snd) (Bf [a,b] X.env)=assign a X.env::List.map (λx=>x.snd) (Bf [b] X.env):=by rfl)(h2:List.map (λx=>x.snd) (Bf [b] X.env)=assign b X.env::List.map (λx=>x.snd) (Bf [] X.env):=by rfl)(h3:(Bf [a,b] X.env).length=2:=by rfl)(h4:List.findIdx? (λx=>x.fst) (Bf [a,b] X.env)=YC:=by rfl):MG X io YD (.Tuple [a,b] n pos) (oG (gTp 2 (gCn g1 (gCn g2 gNl)))):=Zuy (Zs8 (n:=2) hc (Zax (Za3 ha (Zax (Za3 hb (Zmv Znu) h2)) h1)) h3 h4)
theorem xso(i:Nat)(hN:X.N.Nodup)(he:ME X io p YD e (o2 fa))(hi:X.N[i]? =YB x:=by rfl)(hx:Loc X.env.scope x:=by first|exact QG rfl|exact Qt rfl)(hio:i∉io:=by decide)(hs:VL e (YB (.Name x px)) pos.line X.env=pure YF:=by rfl)(hf:X.fn x=YD\/X.env.scope.names.lookup x=YB .local:=by first|exact .inl rfl|exact .inr rfl|assumption):MS X io (.Assign [.Name x px] e pos) (oS (wE fa (Zas i))):=Z3b (Z2s hN hi hx he hio hs hf)
theorem xcl{k:Nat}{f:YG}{fd:X3}(G:FnOk X.prog X.w X.K X.mg X.base CX0 k f fd ps (spD X.K (sD F)))(hr:Room k X.A)(hm:X.mg x=YB (.ref f))(hk:Vf X.K (.ref f)=YD)(hb:Binds X.K fd ps [])(ha:MA X io p c (e::es) (o2 ra))(hg:Gl X x:=by rfl)(h1:(x==("__debug__" : Str))=YF:=by decide)(h2:Xq (e::es) X.env=(YF,eval e X.env)::Xq es X.env:=by rfl)(h3:((JK pos (Xq es X.env)).any λx=>x.fst)=YF:=by rfl):ME X io p c (.Call (.Name x pp) (e::es) [] pos) (o2 (Z4 F ra)):=Zr3 (Z03 G hr hg hm hk hb Zzn ha h1 h2 h3)
theorem xln(hm:X.mg "len"=YC)(ha:MA X io p c [e] (o2 ra))(hg:Gl X "len" :=by rfl)(h2:Xq [e] X.env=(YF,eval e X.env)::Xq [] X.env:=by rfl):ME X io p YD (.Call (.Name "len" pp) [e] [] pos) (o2 (J1 Zac ra)):=Zf3 Z6c (Zml Zst (Zhs rfl) hg hm L2.B.boot_len ha (by decide) (by decide) h2 (by rfl))
end
def tbl(P:List Nat)(led:Bool):SetTable:={ mask:=7,place:=P.toArray,dummies:=#[],finger:=0,led,moves:=0,plain:=YD }
def hT(k:List Int):Int:=reduceHash (Builtin.Tuple.tupleHashOf (k.map hashInt))
def hAt(ks:List (List Int))(i:Nat):Int:=(ks[i]?.map hT).getD 0
def Ye0(P:List Nat)(j:Nat):List Nat:=((tbl P YF).put j).1.place.toList
def Yhu(P:List Nat)(j:Nat):Nat:=((tbl P YF).put j).2
def Yjm(ks:List (List Int))(p:Nat)(k:List Int):List (List Int):=ks.take p++k::ks.drop p
def Yje(P:List Nat)(ks:List (List Int))(k:List Int):Option (List Nat×List (List Int)) :=
 match(tbl P YF).probe (hAt ks) (hT k) ((tbl P YF).probeStart (hT k))with
 | some (.empty j YC)=>if(tbl (Ye0 P j) YF).tooFull=YF/\(Ye0 P j).length=ks.length+1/\ks.length<=6/\Yhu P j<=ks.length then YB (Ye0 P j,Yjm ks (Yhu P j) k)else YC
 | some (.candidate _ i _)=>if ks[i]? =YB k then YB (P,ks)else YC
 | _=>YC
def grow(K:List (List Int)):Nat->List (List Nat×List (List Int))->List (List Nat×List (List Int))
 | 0,S=>S
 | n+1,S=>grow K n (S++(S.flatMap λs=>K.filterMap λk=>Yje s.1 s.2 k).filter λs=>!S.contains s)
def okS(K:List (List Int))(S:List (List Nat×List (List Int))):Bool:=S.all λs=>K.all λk=>match Yje s.1 s.2 k with
 | some s'=>S.contains s'&&(s'.2.length==if s.2.contains k then s.2.length else s.2.length+1)&&K.all λx=>s'.2.contains x==(s.2.contains x||x==k)
 | none=>YF
def K2:List (List Int):=[[0,0],[0,1],[1,0],[1,1]]
def S2:List (List Nat×List (List Int)):=(grow K2 4 [([],[])]).eraseDups
set_option maxRecDepth 100000 in
theorem Yfu:okS K2 S2=YD:=by decide +kernel
section
variable {prog:X5}{w:Qu}{A:Qv}{E:Xf->Xg->Prop}{s:Xg}
inductive KeysIn(U:YG->List Int->Prop):List (List Int)->List (Int×Xf)->Prop
 | nil:KeysIn U [] []
 | cons {k:List Int} {a:YG} {ks:List (List Int)} {l:List (Int×Xf)} (h:U a k) (t:KeysIn U ks l):KeysIn U (k::ks) ((hT k,.ref a)::l)
theorem KeysIn.len{U:YG->List Int->Prop}{ks:List (List Int)}{l:List (Int×Xf)}(h:KeysIn U ks l):ks.length=l.length:=by
 induction h with
 | nil=>rfl
 | cons _ _ ih=>rw[Vh,Vh,ih]
theorem KeysIn.hash{U:YG->List Int->Prop}{ks:List (List Int)}{l:List (Int×Xf)}(h:KeysIn U ks l):l.map (·.1)=ks.map hT:=by
 induction h with
 | nil=>rfl
 | cons _ _ ih=>rw[XC,XC,ih]
abbrev IK(prog:X5)(w:Qu)(h:YH)(k:List Int)(a:YG):Prop:=IsTupleKey (intKind prog w) h k a
theorem items_int{ks:List Int}(h:ItemsAre (intKind prog w) ks vs):∀v∈vs,∃i t,v= .int i t:=by
 induction h with
 | nil=>exact λ_ m=>nomatch m
 | cons h _ ih=>
  intro v hv;rcases Xo.mp hv with rfl|hv
  .obtain⟨t,e⟩:=Value.isInt_shape h
   exact⟨_,t,e⟩
  .exact ih v hv
theorem KeysIn.at{U:YG->List Int->Prop}{ks:List (List Int)}{es:Array (Int×Xf)}(h:KeysIn U ks es.toList)(i:Nat):(es[i]?.map (·.1)).getD 0=hAt ks i:=by
 unfold hAt;rw[<-Xm,<-h.hash,Xm,Q3]
end
section
variable {prog:X5}{w:Qu}{A:Qv}{R:Result->Xg->Prop}{I:YG}{fp wr:List YG}{n:Nat}{Pv:Nat->Xf->Prop}{St:Nat->YH->Prop}
end
inductive Ye5(H:Hp):List V->List (List Int)->Prop
 | nil:Ye5 H [] []
 | cons {a:YG} {k:List Int} {xs:List V} {ks:List (List Int)} (h:H a=YB (.tup (k.map V.int))) (t:Ye5 H xs ks):Ye5 H (.ref a::xs) (k::ks)
section
variable {X:Cx}{p c:Bool}{io:List Nat}{a e:YJ}{pos pos' pl pr:Pos}{t:TA}{mr:MAt}{ra:FA}
end
section
variable {G:Xc}{io:List Nat}{p pt pe:Bool}{own:List Str}{caps:List Nat}{g:MGt}{mt:MTt}{me:MEt}{i:Nat}
def Zld:List OT->Bool
 | []=>YD
 | .fz _::r=>Zld r
 | _::_=>YF
theorem Owns.fz_das:∀{ts:List OT} {xs:List V} {bs:List YG},Owns G H L xs ts bs->Zld ts=YD->Das G H L xs (OT.datas ts):=fun{ts}=>by
 induction ts with
 | nil=>
  intro xs bs h _;cases h;rw[Zcp];exact .nil
 | cons t ts ih=>
  intro xs bs h a;cases t with
  | fz d=>
   cases h with
   | cons h r=>
    cases h with
    | fz q=>
     rw[Zbh,OT.data_fz];exact .cons q (ih r a)
  | nd _=>cases a
  | tp _=>cases a
  | dc _ _ _=>cases a
end
section
variable {X:Cx}{io:List Nat}{p pt pe:Bool}{own:List Str}{caps:List Nat}{N':List Str}{sc:UW}{i:Nat}{x:Str}{px:Pos}{tg elt:YJ}{ifs:List YJ}{g:MGt}{mt:MTt}{me:MEt}{pos:Pos}
def Z96(o:Option (Option OT)):Option (List OT):=match o with|some (YB (.nd ts))=>if Zld ts=YD then YB ts else YC|_=>YC
theorem Zu8{o:Option (Option OT)}(h:Z96 o=YB ts):o=YB (YB (.nd ts))/\Zld ts=YD:=by
 unfold Z96 at h;split at h
 .split at h
  .cases h;exact⟨rfl,‹_›⟩
  .cases h
 .cases h
end
abbrev Yjv(h:YH)(T:YG)(a b c:Xf):Prop:=h.get? T=YB { cls:=.type "tuple",data:=.seq #[a,b,c] }
structure Z3A(z TI TO i1 i2 i3:YG)(f1 f2 f3:List YG):Prop where
 TIz:TI≠z
 TOz:TO≠z
 a1:∀c∈f1,c≠z/\c≠TO/\c≠i2/\c≠i3
 a2:∀c∈f2,c≠z/\c≠TO/\c≠i1/\c≠i3
 a3:∀c∈f3,c≠z/\c≠TO/\c≠i1/\c≠i2
section
variable {P:X5}{w:Qu}{A:Qv}{E:Xf->Xg->Prop}{s:Xg}
end
abbrev z3A(h:YH)(a:YG):YH:=h.push { cls:=.type "list_iterator",data:=.fields #[.ref a,.int 0 0] }
abbrev z3B(h:YH)(a b:YG):YH:=z3A (z3A h a) b
abbrev z3C(h:YH)(a b c:YG):YH:=z3A (z3B h a b) c
abbrev z3D(h:YH)(a b c:YG):YH:=(z3C h a b c).push { cls:=.type "tuple",data:=.seq #[.ref h.objs.size,.ref (z3A h a).objs.size,.ref (z3B h a b).objs.size] }
abbrev z3E(h:YH)(a b c:YG):YH:=(z3D h a b c).push { cls:=.type "tuple",data:=.seq #[.none,.none,.none] }
abbrev z3F(h:YH)(a b c:YG):YH:=(z3E h a b c).push { cls:=.type "zip",data:=.fields #[.none,.bool YF,.bool YF,.ref (z3C h a b c).objs.size,.ref (z3D h a b c).objs.size] }
section
variable {P:X5}{w:Qu}{A:Qv}{E:Xf->Xg->Prop}{s:Xg}
end
section
variable {X:Cx}{io:List Nat}{p c:Bool}{a b e:YJ}{mr:MAt}{ra:FA}
end
variable {G:Xc}
section
variable {X:Cx}{io:List Nat}{p c:Bool}{e:YJ}{m:MEt}{pos apos cpos px:Pos}{i:Nat}{x:Str}{st:YK}{fa:FE}
def Zj5(i:Nat)(m:MEt):MSt:=λD δ=>match δ[i]? with
 | some (YB (.nd _))=>m δ λr δ1=>match r,δ1[i]? with
  | .nd rs,YB (YB (.nd ts))=>ts.length+rs.length<=Xv/\D.nx (δ1.set i (YB (.nd (ts++(OT.datas rs).map OT.fz))))
  | _,_=>False
 | _=>False
theorem Owns.app:∀{zs xs:List V} {ts:List OT} {bs:List YG},Owns G H L xs ts bs->Das G H L zs ds->Owns G H L (xs++zs) (ts++ds.map OT.fz) bs:=by
 induction ds with
 | nil=>
  intro zs xs ts bs h g;cases g;rw[JP,List.map_nil,JP];exact h
 | cons d ds ih=>
  intro zs xs ts bs h g;cases g with
  | cons q g=>
   have:=ih (h.snoc (.fz q)) g;rw[JP,BW,BW]at this;exact this
theorem Zwr(i:Nat)(he:ME X io p YD e m)(hN:X.N[i]? =YB x:=by rfl)(hv:Vis X.env.scope x:=by first|exact QG rfl|exact Qt (QG rfl)|exact Qt (Qt rfl))(hd:(x==("__debug__" : Str))=YF:=by decide)
  (hcd:(x==("__classdict__" : Str))=YF:=by decide)
  (hbase:V5 (.Name x px) "extend" X.env (eval (.Name x px) X.env)=eval (.Name x px) X.env:=by rfl)
  (hfew:((JK cpos (Xq [e] X.env)).all (λx=>!x.1)&&(backToKw cpos (UT [] X.env)).all (λx=>x.1.isSome)
   &&decide ([e].length+([]:List V0).length+(if([]:List V0).isEmpty then 0 else 1)<30))=YD:=by rfl)
  (hline:(apos.endLine==cpos.line)=YD:=by rfl) (hs:Xq [e] X.env=(YF,eval e X.env)::Xq [] X.env:=by rfl) (hplain:(JK cpos (Xq [] X.env)).any (·.1)=YF:=by rfl)
  (hsw:VL (.Call (.Attribute (.Name x px) "extend" apos) [e] [] cpos) YC pos.line X.env=pure YF:=by rfl) :
  MS X io (.Expr (.Call (.Attribute (.Name x px) "extend" apos) [e] [] cpos) pos) (Zj5 i m):=by
 obtain⟨_,A,s⟩:=he;refine⟨_,Zsh (Z22 PySem.F.plainAttrs_list PySem.F.slot_list_extend PySem.F.type_list_extend Zwv (pv i hN hv hd hcd) (Za6 A Zeu hs) hbase hfew hline hs hplain) hsw,λC H O δ fp ex D D' R h E=>?_⟩;unfold Zj5 at h;split at h
 case h_2=>exact h.elim
 rename_i ts0 hi0;obtain⟨a',xs0,bs0,hv0,hx0,_,_⟩:=R.ownNd hi0;refine⟨_,hv0,.inl ⟨rfl,xs0,.inl (.inl hx0)⟩,?_⟩;refine s C H O δ fp ex _ _ R h λH1 v r δ1 fp1 new r1 h1=>?_;split at h1
 case h_2=>exact h1.elim
 rename_i rs ts1 hi1;have R1:=r1.base;obtain⟨a1,xs1,bs1,hv1,hx1,o1,hf1⟩:=R1.ownNd hi1;rw[hv0]at hv1;cases hv1;obtain⟨b,zs,rfl,hb,lz,qs⟩:∃b zs,v= .ref b/\H1 b=YB (.lst zs)/\zs.length=rs.length/\Das X.K H1 (Lf C fp1 ex) zs (OT.datas rs):=by
  have ow:=r1.own;have nw:∀a∈new,Lf C fp1 ex a:=λa m=>by
   refine⟨λqz=>?_,(R.newOk (r1.fresh a m)).2.1,.inr (R.newOk (r1.fresh a m)).2.2⟩;obtain⟨i,z⟩:=qz;exact r1.rel.dx i a z (.inr m)
  cases ow with
  | nd hb r=>exact⟨_,_,rfl,hb,r.length,r.das (λa l _=>⟨(l rfl).1,λz=>(l rfl).2.1 (.inl z),(l rfl).2.2⟩) λa m=>nw a (.tail _ m)⟩
 refine⟨a',b,xs1,zs,rfl,rfl,hx1,hb,by rw[o1.length,lz];exact h1.1,?_⟩;obtain⟨R2,S2⟩:=R1.top hi1 hv0 hf1 hx1 (o1.app qs) (List.Sublist.refl _);exact E.nx _ O _ _ R2 (r1.stp.kp.trans S2.kp) h1.2
def Zfa(i:Nat)(e:FE):FS:=λδ=>match δ[i]? with
 | some (YB (.nd _))=>wE e (λr δ1=>match r,δ1[i]? with
  | .nd rs,YB (YB (.nd ts))=>if ts.length+rs.length<=Xv then .nx (δ1.set i (YB (.nd (ts++(OT.datas rs).map OT.fz))))else .bad
  | _,_=>.bad) δ
 | _=>.bad
theorem Ztp(h:MS X io st (Zj5 i (o2 fa))):MS X io st (oS (Zfa i fa)):=h.weak λD δ h=>by
 unfold oS Zfa at h;unfold Zj5;split at h
 case h_2=>exact h.elim
 rename_i q;(try rw[q]);refine(Zqt h).imp λr δ' z=>?_;split at z
 .rename_i q2;(try rw[q2]);exact Zj4 z
 .exact z.elim
end
def Up(xs:List Nat):Prop:=xs.Pairwise (·<·)
structure Tb(b:Bool)(t:SetTable):Prop where
 led:t.led=b
 up:t.plain=YD->Up t.place.toList
def vI:Xf->Int
 | .int k _=>k
 | _=>0
def SetI(prog:X5)(w:Qu)(b:Bool)(h:YH)(S:YG)(ks:List Int):Prop :=
 ∃o es ep t,h.get? S=YB o/\o.ExactSet/\o.data= .set es ep t/\ElemsOf (intKind prog w) es.toList/\es.size<scanBound/\t.fits es.size=YD/\Tb b t/\es.toList.map (λe=>vI e.2)=ks
section
variable {prog:X5}{w:Qu}{A:Qv}{E:Xf->Xg->Prop}{s:Xg}{b:Bool}
theorem SetI.len{S:YG}{ks:List Int}(hS:SetI prog w b h S ks):ks.length<scanBound:=by
 obtain⟨o,es,ep,t,_,_,_,_,l,_,_,rfl⟩:=hS;rw[Xe,BZ];exact l
end
def OfL(ks ns:List α):Prop:=ks.Nodup/\∀x,x∈ks↔x∈ns
abbrev Of(ks ns:List Int):Prop:=OfL ks ns
structure Ylu{τ:Type}(prog:X5)(w:Qu)(A:Qv)(S:YG)(T:YH->List τ->Prop)(h0:YH)(n:Nat)(Ok:Xf->τ->Prop):Prop where
 stay:∀h h' ks,T h ks->(∀o,h.get? S=YB o->h'.get? S=YB o)->T h' ks
 add:∀(s:Xg) (E:Xf->Xg->Prop) (v:Xf) (k:τ) (ks:List τ) (Q:Bool->Xg->Prop),Ok v k->(∀b o,b<S->h0.get? b=YB o->s.heap.get? b=YB o)->T s.heap ks->ks.length<n->(∀c h' tk ks',Vc S s.heap h'->T h' ks'->(k∈ks->ks'=ks)->(k∉ks->ks'.Perm (ks++[k]))->Q c { s with heap:=h',toks:=tk })->XX (Qi prog w) A (setAdd S v) Q E s
section
variable {prog:X5}{w:Qu}{A:Qv}{R:Result->Xg->Prop}{I S:YG}{fp wr:List YG}{n:Nat}{Pv:Nat->Xf->Prop}{St:Nat->YH->Prop}{τ:Type}{T:YH->List τ->Prop}{h0:YH}{Ok:Xf->τ->Prop}
end
section
variable {prog:X5}{w:Qu}{A:Qv}{E:Xf->Xg->Prop}{s:Xg}
end
def dnc:List Int->List Int
 | []=>[]
 | x::xs=>if x∈xs then dnc xs else x::dnc xs
section
variable {X:Cx}{p c:Bool}{io:List Nat}{a e:YJ}{pos pos' pl pr:Pos}{t:TA}{mr:MAt}{ra:FA}
end
section
variable {κ:Type}[DecidableEq κ]
def Zqy(kvs:List (κ×V))(k:κ):Option V:=(kvs.find? λkv=>decide (kv.1=k)).map (·.2)
def putK(kvs:List (κ×V))(k:κ)(v:V):List (κ×V) :=
 if(kvs.any λkv=>decide (kv.1=k))=YD then kvs.map (λkv=>if kv.1=k then(kv.1,v)else kv)else kvs++[(k,v)]
theorem Zgk{p:κ×V}{r:List (κ×V)}{k:κ}(e:p.1=k):Zqy (p::r) k=YB p.2:=by simp[Zqy,Ul,e]
theorem Zgh{p:κ×V}{r:List (κ×V)}{k:κ}(e:¬p.1=k):Zqy (p::r) k=Zqy r k:=by simp[Zqy,Ul,e]
theorem Zpk(k:κ):∀kvs:List (κ×V),(kvs.any λkv=>decide (kv.1=k))=(Zqy kvs k).isSome
 | []=>rfl
 | p::r=>by
  rw[Uj]
  by_cases e:p.1=k
  .simp only[Zgk e,YQ e,Bool.true_or,Option.isSome_some]
  .rw[Zgh e,YS e,Bool.false_or];exact Zpk k r
theorem Zg2(kvs:List (κ×V))(k:κ)(v:V):(putK kvs k v).length<=kvs.length+1:=by
 unfold putK;split
 .rw[Xe];omega
 .rw[XH,Vh,List.length_nil];omega
theorem RelO.isSome_eq{o:Option V}{u:Option Xf}(r:RelO o u):o.isSome=u.isSome:=by
 cases o with
 | none=>cases u with
  | none=>rfl
  | some _=>exact(show False from r).elim
 | some _=>cases u with
  | none=>exact(show False from r).elim
  | some _=>rfl
theorem RelO.getD{o:Option V}{u:Option Xf}{d:V}{d':Xf}(r:RelO o u)(rd:RelV d d'):RelV (o.getD d) (u.getD d'):=by
 cases o with
 | none=>cases u with
  | none=>exact rd
  | some _=>exact(show False from r).elim
 | some _=>cases u with
  | none=>exact(show False from r).elim
  | some _=>exact r
theorem KV.val{kvs:List (κ×V)}{vs:List (κ×Xf)}(r:KV kvs vs)(k:κ):RelO (Zqy kvs k) (valueAt vs k):=by
 unfold KV at r
 induction r with
 | nil=>exact V6
 | @cons p q ps qs h t ih=>
  obtain⟨h1,h2⟩:=h
  by_cases e:p.1=k
  .have e':q.1=k:=h1.symm.trans e
   have b:valueAt (q::qs) k=YB q.2:=by simp[valueAt,Ul,e']
   rw[Zgk e,b];exact h2
  .have e':¬q.1=k:=λz=>e (h1.trans z)
   have b:valueAt (q::qs) k=valueAt qs k:=by simp[valueAt,Ul,e']
   rw[Zgh e,b];exact ih
theorem KV.any{kvs:List (κ×V)}{vs:List (κ×Xf)}(r:KV kvs vs)(k:κ):(kvs.any λkv=>decide (kv.1=k))=vs.any λkv=>decide (kv.1=k):=by
 unfold KV at r
 induction r with
 | nil=>rfl
 | cons h t ih=>rw[Uj,Uj,ih,h.1]
theorem KV.repl{kvs:List (κ×V)}{vs:List (κ×Xf)}(r:KV kvs vs)(k:κ){y:V}(ry:RelV y u) :
  KV (kvs.map λkv=>if kv.1=k then(kv.1,y)else kv) (vs.map λkv=>if kv.1=k then(kv.1,u)else kv):=by
 unfold KV at r|-
 induction r with
 | nil=>exact .nil
 | @cons p q ps qs h t ih=>
  rw[XC,XC];refine .cons ?_ ih;obtain⟨h1,h2⟩:=h
  by_cases e:p.1=k
  .rw[YL e,YL (h1.symm.trans e)];exact⟨h1,ry⟩
  .rw[YM e,YM (λz=>e (h1.trans z))];exact⟨h1,h2⟩
theorem KV.put{kvs:List (κ×V)}{vs:List (κ×Xf)}(r:KV kvs vs)(k:κ){y:V}(ry:RelV y u):KV (putK kvs k y) (stored vs k u):=by
 unfold putK stored;rw[r.any k]
 by_cases e:(vs.any λkv=>decide (kv.1=k))=YD
 .rw[YL e,YL e];exact r.repl k ry
 .rw[YM e,YM e];exact Paired.snoc r ⟨rfl,ry⟩
theorem KV.length{kvs:List (κ×V)}{vs:List (κ×Xf)}(r:KV kvs vs):kvs.length=vs.length:=Paired.length r
end
theorem Z4e{k:Key}(r:RelV (kV k) u):(Wj P w).is k u=YD:=by
 cases k with
 | inl i=>obtain⟨t,e⟩:=(show∃t,u=Value.int i t from r);subst e;exact Zmu P w i t
 | inr x=>obtain⟨t,e⟩:=(show∃t,u=Value.str x t from r);subst e;exact Zni P w x t
theorem Zk9:∀{ks:List Key} {us:List Xf},Vals (ks.map kV) us->ItemsAre (Wj P w) ks us
 | [],_,r=>by rw[List.map_nil]at r;cases r;exact .nil
 | k::ks,_,r=>by
  rw[XC]at r;cases r with
  | cons h t=>exact .cons (Z4e h) (Zk9 t)
abbrev KT(H:Hp):List (List Key×V)->List (List Key×YG×Xf)->Prop:=Paired λp q=>p.1=q.1/\H q.2.1=YB (.tup (p.1.map kV))/\RelV p.2 q.2.2
theorem KT.val{kvs:List (List Key×V)}{xs:List (List Key×YG×Xf)}(r:KT H kvs xs)(k:List Key):RelO (Zqy kvs k) ((atKey xs k).map (·.2)):=by
 induction r with
 | nil=>exact V6
 | @cons p q ps qs h t ih=>
  obtain⟨h1,_,h2⟩:=h
  by_cases e:p.1=k
  .have e':q.1=k:=h1.symm.trans e
   have b:atKey (q::qs) k=YB q.2:=by simp[atKey,Ul,e']
   rw[Zgk e,b];exact h2
  .have e':¬q.1=k:=λz=>e (h1.trans z)
   have b:atKey (q::qs) k=atKey qs k:=by simp[atKey,Ul,e']
   rw[Zgh e,b];exact ih
theorem KT.repl{kvs:List (List Key×V)}{xs:List (List Key×YG×Xf)}(r:KT H kvs xs)(k:List Key){y:V}(ry:RelV y u) :
  KT H (kvs.map λkv=>if kv.1=k then(kv.1,y)else kv) (xs.map (putAt k u)):=by
 induction r with
 | nil=>exact .nil
 | @cons p q ps qs h t ih=>
  rw[XC,XC];refine .cons ?_ ih;obtain⟨h1,h2,h3⟩:=h;unfold putAt
  by_cases e:p.1=k
  .rw[YL e,YL (h1.symm.trans e)];exact⟨h1,h2,ry⟩
  .rw[YM e,YM (λz=>e (h1.trans z))];exact⟨h1,h2,h3⟩
theorem KT.put{kvs:List (List Key×V)}{xs:List (List Key×YG×Xf)}(r:KT H kvs xs)(k:List Key){b:YG}{y:V}(hb:H b=YB (.tup (k.map kV)))(ry:RelV y u) :
  KT H (putK kvs k y) (storedH xs k b u):=by
 have e:(kvs.any λkv=>decide (kv.1=k))=(atKey xs k).isSome:=by
  rw[Zpk,(r.val k).isSome_eq,Option.isSome_map]
 unfold putK storedH;rw[e]
 by_cases q:(atKey xs k).isSome=YD
 .rw[YL q,YL q];exact r.repl k ry
 .rw[YM q,YM q];exact Paired.snoc r ⟨rfl,hb,ry⟩
theorem KT.keeps{kvs:List (List Key×V)}{xs:List (List Key×YG×Xf)}(r:KT H kvs xs)(ht:∀b ys,H b=YB (.tup ys)->H' b=YB (.tup ys)):KT H' kvs xs :=
 Paired.mapP r λ_ _ z=>⟨z.1,ht _ _ z.2.1,z.2.2⟩
section
variable {P:X5}{w:Qu}{H:Hp}{h:YH}{a:YG}
theorem Z7w{u:HO}(ok:HOk P w H h)(e:Rd H a u):ObjOk P w H h a u:=e.ok ok
theorem Z52{kvs:List (Key×V)}(ok:HOk P w H h)(e:Rd H a (.dK kvs)):kvs.length<=Xv/\(a==VF)=YF/\∃vs,KV kvs vs/\h.DictOf (Wj P w) a vs :=
 show ObjOk P w H h a (.dK kvs)from Z7w ok e
theorem Yfh{kvs:List (Key×V)}(ok:HOk P w H h)(e:H a=YB (.dK kvs)):kvs.length<=Xv/\(a==VF)=YF/\∃vs,KV kvs vs/\h.DictOf (Wj P w) a vs:=Z52 ok (.inl e)
theorem Zwt{ks:List Key}(ok:HOk P w H h)(e:H a=YB (.tup (ks.map kV))):(tupleKind (Wj P w)).is h ks a:=by
 obtain⟨_,its,r,o,h1,h2,n,h3⟩:=(show ObjOk P w H h a (.tup (ks.map kV))from ok a _ e);exact⟨o,its.toArray,n,h1,h2,h3,by simpa using Zk9 r⟩
theorem Z5b{kvs:List (List Key×V)}(ok:HOk P w H h)(e:Rd H a (.dT kvs)):kvs.length<=Xv/\(a==VF)=YF/\
  ∃xs,KT H kvs xs/\h.DictOfH (tupleKind (Wj P w)) a xs:=by
 obtain⟨z,y,xs,r,o,es,ep,h1,h2,h3,h4,h5⟩:=(show ObjOk P w H h a (.dT kvs)from Z7w ok e);refine⟨z,y,xs,r,o,es,ep,h1,h2,h3,h4,λx hx=>?_,h5⟩;have all:∀{l:List (List Key×V)} {m:List (List Key×YG×Xf)},KT H l m->∀x∈m,(tupleKind (Wj P w)).is h x.1 x.2.1:=by
  intro l m q
  induction q with
  | nil=>intro x hx;exact nomatch hx
  | @cons p q ps qs hq t ih=>
   intro x hx;rcases Xo.mp hx with e|hx
   .subst e
    exact Zwt ok (by rw[<-hq.1];exact hq.2.1)
   .exact ih x hx
 exact all r x hx
theorem Ygt{kvs:List (List Key×V)}(ok:HOk P w H h)(e:H a=YB (.dT kvs)):kvs.length<=Xv/\(a==VF)=YF/\
  ∃xs,KT H kvs xs/\h.DictOfH (tupleKind (Wj P w)) a xs:=Z5b ok (.inl e)
end
def DGet(H:Hp)(a:YG)(y:V)(r:Option V):Prop :=
 (∃ kvs k,Rd H a (.dK kvs)/\y=kV k/\r=Zqy kvs k)\/∃kvs k b,Rd H a (.dT kvs)/\y= .ref b/\H b=YB (.tup (k.map kV))/\r=Zqy kvs k
def DPut(H:Hp)(a:YG)(y v:V)(H':Hp):Prop :=
 (∃ kvs k,H a=YB (.dK kvs)/\y=kV k/\kvs.length<Xv/\H'=upd H a (.dK (putK kvs k v)))\/
 ∃kvs k b,H a=YB (.dT kvs)/\y= .ref b/\H b=YB (.tup (k.map kV))/\kvs.length<Xv/\H'=upd H a (.dT (putK kvs k v))
theorem DGet.k{H:Hp}{a:YG}{kvs:List (Key×V)}{k:Key}(e:H a=YB (.dK kvs)):DGet H a (kV k) (Zqy kvs k):=.inl ⟨kvs,k,.inl e,rfl,rfl⟩
theorem DGet.t{H:Hp}{a b:YG}{kvs:List (List Key×V)}{k:List Key}(e:H a=YB (.dT kvs))(eb:H b=YB (.tup (k.map kV))):DGet H a (.ref b) (Zqy kvs k):=.inr ⟨kvs,k,b,.inl e,rfl,eb,rfl⟩
theorem DPut.k{H:Hp}{a:YG}{kvs:List (Key×V)}{k:Key}{v:V}(e:H a=YB (.dK kvs))(hl:kvs.length<Xv):DPut H a (kV k) v (upd H a (.dK (putK kvs k v))):=.inl ⟨kvs,k,e,rfl,hl,rfl⟩
theorem DPut.t{H:Hp}{a b:YG}{kvs:List (List Key×V)}{k:List Key}{v:V}(e:H a=YB (.dT kvs))(eb:H b=YB (.tup (k.map kV)))(hl:kvs.length<Xv) :
  DPut H a (.ref b) v (upd H a (.dT (putK kvs k v))):=.inr ⟨kvs,k,b,e,rfl,eb,hl,rfl⟩
section
variable {X:Cx}{pins:List (YG×Obj)}{O:St}{H:Hp}{s:Xg}{a:YG}{y v:V}{u r:Xf}{o:Option V}{A:Qv}{E:Xf->Xg->Prop}
theorem Inv.big(I:Inv X pins O H s):VF<s.heap.objs.size:=by
 have h:Qm<s.heap.objs.size:=(I.mod.glob.keeps I.bk).lt;exact UG (by decide) h
theorem Ztv{ob:HO}(I:Inv X pins O H s)(mu:Mut (H a))(hs:Vc a s.heap h')(he:∃q,h'.get? a=YB q)(new:ObjOk X.prog X.w (upd H a ob) h' a ob) :
  Inv X pins O (upd H a ob) { s with heap:=h',toks:=t' } :=
 I.write (x:=a) (e:=a) mu (.inl rfl) (λb q hb z=>(hs.2 b hb).trans z) he new
theorem Ycc{kvs:List (Key×V)}{vs:List (Key×Xf)}(z:kvs.length<=Xv)(hd:(a==VF)=YF)(rel:KV kvs vs)(dd:h'.DictOf (Wj P w) a vs) :
  ObjOk P w H' h' a (.dK kvs):=⟨z,hd,vs,rel,dd⟩
theorem Zr4{Q:Unit->Xg->Prop}(hu:A.units+1<UV)(I:Inv X pins O H s)(g:DPut H a y v H')(ry:RelV y u)(rv:RelV v r)(h:∀s',Inv X pins O H' s'->Q () s') :
  XX (Qi X.prog X.w) A (setItem (.ref a) u r) Q E s:=by
 rcases g with⟨kvs,k,e,ey,l,eH⟩|⟨kvs,k,b,e,ey,eb,l,eH⟩
 .subst ey eH
  obtain⟨z,hd,vs,rel,dd⟩:=Yfh I.hok e;have hz:vs.length<=Xv:=by rw[<-rel.length];exact z
  have hl:(putK kvs k v).length<=Xv:=by have:=Zg2 kvs k v;omega
  refine wpAny_setItem_pairs (hsz:=hz) (Z4e ry) dd λh' dd' hs=>h _ ?_;have he:∃q,h'.get? a=YB q:=let⟨q,_,_,hq,_⟩:=dd';⟨q,hq⟩;exact Ztv I (by rw[e];exact V6) hs he (Ycc hl hd (rel.put k rv) dd')
 .subst ey eH
  cases(show u=Qq b from ry);obtain⟨z,hd,xs,rel,dd⟩:=Ygt I.hok e;have hz:xs.length<=Xv:=by rw[<-Paired.length rel];exact z
  have hl:(putK kvs k v).length<=Xv:=by have:=Zg2 kvs k v;omega
  refine wpAny_setItem_heap (hsz:=hz) (tupleKind_room_in1 hu) (Zwt I.hok eb) dd λh' dd' hs=>h _ ?_;obtain⟨q,es,ep,hq,h2,h3,h4,_,h5⟩:=dd';refine Ztv I (by rw[e];exact V6) hs ⟨q,hq⟩ ⟨hl,hd,_,(rel.put k eb rv).keeps λc ys ec=>?_,q,es,ep,hq,h2,h3,h4,h5⟩;rw[Zu (Yd0 ec e (λz=>nomatch z))];exact ec
end
section
variable {X:Cx}{pins:List (YG×Obj)}{O:St}{H:Hp}{s:Xg}{a:YG}{kvs:List (Key×V)}{k:Key}{u:Xf}{A:Qv}{E:Xf->Xg->Prop}
end
def Ye6(td ty tv:TE):TS:=λD O H=>tv O H λv H1=>td O H1 λx H2=>ty O H2 λy H3=>∃a H4,x= .ref a/\DPut H3 a y v H4/\D.nx O H4
end L2
variable {U:YG->List Int->Prop}{q:Bool}{h0:YH}{ks:List (List Int)}{kvs:List (List Key×V)}{td:TE}{κ:Vj}
namespace L2
open PySem PySem.Spec PyProof.Rows
section
variable {X:Cx}{o i e value:YJ}{pos pos' tpos:Pos}{td ty tv:TE}
theorem Z3p(hu:X.A.units+1<UV)(ho:PE X o td)(hi:PE X i ty)(hv:PE X value tv)(hs:VL value (YB (.Subscript o i pos')) pos.line X.env=pure YF) :
  PS X (.Assign [.Subscript o i pos'] value pos) (Ye6 td ty tv):=by
 intro pins s O H D I h;refine wpAny_Assign_Subscript (thn (hv pins s O H _ I h) λr s1 ⟨v,H1,I1,rv,q1⟩=>thn (ho pins s1 O H1 _ I1 q1) λu s2 ⟨x,H2,I2,rx,q2⟩=>thn (hi pins s2 O H2 _ I2 q2) λiv s3 ⟨y,H3,I3,ry,a,H4,ex,g,q3⟩=>?_) hs;subst ex;obtain rfl:u=Qq a:=rx;exact Zr4 hu I3 g ry rv λs4 I4=>⟨O,H4,I4,q3⟩
end
theorem Zzd(h:YH)(hb:VF<h.objs.size):ObjOk P w H (h.push { cls:=.type "dict",data:=.dict #[] }) h.objs.size (.dT []) :=
 ⟨QS _,beq_eq_false_iff_ne.mpr (Vn (Xz hb)),[],.nil,_,#[],0,XN _ rfl,⟨rfl,rfl,rfl⟩,rfl,rfl,List.nodup_nil⟩
def Yas:TE:=λ_ H Q=>∀p,H p=YC->Q (.ref p) (upd H p (.dT []))
section
variable {X:Cx}{pos:Pos}
theorem Zzo:PE X (.Dict [] [] pos) Yas:=λpins s O H Q I h=>
 wpAny_Dict_empty ⟨.ref s.heap.objs.size,_,I.laid (a:=s.heap.objs.size) (o:=.dT []) (t':=s.toks) (λ_ _ q=>Xk _ q) (XJ _) (Zzd s.heap I.big),rfl,h _ (I.hok.fresh (XJ _))⟩
end
abbrev VV:List (V×V)->List (Xf×Xf)->Prop:=Paired λp q=>RelV p.1 q.1/\RelV p.2 q.2
structure M1(X:Cx)(o:YJ)(m:Str)(apos:Pos)(e:YJ)(cpos:Pos):Prop where
 base:V5 o m X.env (eval o X.env)=eval o X.env
 few:((JK cpos (Xq [e] X.env)).all (λx=>!x.1)&&(backToKw cpos (UT [] X.env)).all (λx=>x.1.isSome)
  &&decide (([e]:List YJ).length+([]:List V0).length+(if([]:List V0).isEmpty then 0 else 1)<30))=YD
 line:(apos.endLine==cpos.line)=YD
 trees:JK cpos (Xq [e] X.env)=[(YF,eval e X.env)]
structure M2(X:Cx)(o:YJ)(m:Str)(apos:Pos)(e f:YJ)(cpos:Pos):Prop where
 base:V5 o m X.env (eval o X.env)=eval o X.env
 few:((JK cpos (Xq [e,f] X.env)).all (λx=>!x.1)&&(backToKw cpos (UT [] X.env)).all (λx=>x.1.isSome)
  &&decide (([e,f]:List YJ).length+([]:List V0).length+(if([]:List V0).isEmpty then 0 else 1)<30))=YD
 line:(apos.endLine==cpos.line)=YD
 trees:JK cpos (Xq [e,f] X.env)=[(YF,eval e X.env),(YF,eval f X.env)]
def IsD(H:Hp)(a:YG):Prop:=(∃kvs,Rd H a (.dK kvs))\/∃kvs,Rd H a (.dT kvs)
theorem Z0i{O:St}(I:Inv X pins O H s)(d:IsD H a) :
  s.TypeIs (.ref a) "dict"/\(∀b,Qq a= .ref b->∃ob,s.heap.get? b=YB ob/\ob.dict=YC)/\(a==VF)=YF:=by
 rcases d with⟨kvs,e⟩|⟨kvs,e⟩
 .obtain⟨_,hd,vs,_,dd⟩:=Z52 I.hok e
  refine⟨dd.typeIs,λb q=>?_,hd⟩;cases q;obtain⟨ob,_,_,h1,h2,_⟩:=dd;exact⟨ob,h1,h2.2.1⟩
 .obtain⟨_,hd,xs,_,dd⟩:=Z5b I.hok e
  refine⟨dd.typeIs,λb q=>?_,hd⟩;cases q;obtain⟨ob,_,_,h1,h2,_⟩:=dd;exact⟨ob,h1,h2.2.1⟩
section
variable {X:Cx}{pins:List (YG×Obj)}{O:St}{H:Hp}{s:Xg}{a:YG}{y d:V}{u r:Xf}{o:Option V}{A:Qv}{E:Xf->Xg->Prop}
theorem Ya1(hu:A.units+1<UV)(I:Inv X pins O H s)(g:DGet H a y o)(ry:RelV y u)(rd:RelV d r)(h:∀w' s',Inv X pins O H s'->RelV (o.getD d) w'->Q w' s') :
  XX (Qi X.prog X.w) A (call (.builtin "dict.get") [.ref a,u,r]) Q E s:=by
 rcases g with⟨kvs,k,e,ey,l⟩|⟨kvs,k,b,e,ey,eb,l⟩
 .subst ey
  obtain⟨z,hd,vs,rel,dd⟩:=Z52 I.hok e;refine call_meetsIn PySem.F.slot_dict_get dd.typeIs PySem.F.entry_dict_get (PySem.F.args_dict_get_3 _ _ _) (meets_dict_get_default (Wj X.prog X.w) a (Z4e ry) hd r) ⟨_,dd.mapOf,h _ _ (I.tok _) ?_⟩;rw[l];exact(rel.val k).getD rd
 .subst ey
  cases(show u=Qq b from ry);obtain⟨z,hd,xs,rel,dd⟩:=Z5b I.hok e;refine call_meetsIn PySem.F.slot_dict_get dd.typeIs PySem.F.entry_dict_get (PySem.F.args_dict_get_3 _ _ _) (meetsH_dict_get_default (tupleKind (Wj X.prog X.w)) a b hd r) ⟨tupleKind_room_in1 hu,k,xs,Zwt I.hok eb,dd,h _ _ (I.tok _) ?_⟩;rw[l];exact(rel.val k).getD rd
end
def Ybk(td ty tx:TE):TE:=λO H Q=>td O H λx H1=>∃a,x= .ref a/\IsD H1 a/\ty O H1 λy H2=>tx O H2 λz H3=>∃o,DGet H3 a y o/\Q (o.getD z) H3
section
variable {X:Cx}{o e f:YJ}{apos cpos:Pos}{td ty tx:TE}
theorem Zyr(hu:X.A.units+1<UV)(ho:PE X o td)(he:PE X e ty)(hf:PE X f tx)(m:M2 X o "get" apos e f cpos):PE X (.Call (.Attribute o "get" apos) [e,f] [] cpos) (Ybk td ty tx):=by
 intro pins s O H Q I h;refine wpAny_Call_method m.base m.few m.line PySem.F.plainAttrs_dict PySem.F.slot_dict_get PySem.F.type_dict_get (thn (ho pins s O H _ I h) λu s1 ⟨x,H1,I1,rx,a,ex,d,q1⟩=>?_);subst ex;obtain rfl:u=Qq a:=rx;obtain⟨t1,t2,_⟩:=Z0i I1 d;refine⟨t1,t2,?_⟩;rw[m.trees];refine Calls.callWith_builtin rfl (Calls.evalArgs_plain (Calls.spliced_cons (thn (he pins s1 O H1 _ I1 q1) λiv s2 ⟨y,H2,I2,ry,q2⟩=>
  Calls.spliced_cons (thn (hf pins s2 O H2 _ I2 q2) λfv s3 ⟨z,H3,I3,rz,ov,g,q3⟩=>Calls.spliced_nil ?_))))
 exact Ya1 hu I3 g ry rz λw' s4 I4 rw'=>⟨_,H3,I4,rw',q3⟩
end
variable {G:Xc}
def Zh1:Xa->Option Key
 | .int i=>YB (.inl i)
 | .str x=>YB (.inr x)
 | _=>YC
def Zll:List Xa->Option (List Key)
 | []=>YB []
 | d::ds=>(Zh1 d).bind λk=>(Zll ds).bind λks=>YB (k::ks)
def Zlj:Xa->Option KY
 | .tuple ds=>(Zll ds).map .inr
 | d=>(Zh1 d).map .inl
def Z0w:KY->Bool
 | .inl _=>YF
 | .inr _=>YD
theorem Z6p(k:Key):Zh1 (Z3h k)=YB k:=by cases k<;>rfl
theorem Z3a(ks:List Key):Zll (ks.map Z3h)=YB ks:=by
 induction ks with
 | nil=>rfl
 | cons k ks ih=>rw[XC,Zll,Z6p,ih];rfl
theorem Z02(k:KY):Zlj (kyD k)=YB k:=by
 cases k with
 | inl k=>cases k<;>rfl
 | inr ks=>show(Zll (ks.map Z3h)).map (Sum.inr:List Key->KY)=_;rw[Z3a];rfl
def Zu7(k:KY):List KY->List Xa->Option Xa
 | [],_=>YC
 | _::_,[]=>YC
 | j::ks,d::ds=>if j=k then YB d else Zu7 k ks ds
def Z9g(k:KY)(x:Xa):List KY->List Xa->List Xa
 | [],ds=>ds
 | _::_,[]=>[]
 | j::ks,d::ds=>(if j=k then x else d)::Z9g k x ks ds
def Zy4(k:KY)(ks:List KY):Bool:=ks.any λj=>decide (j=k)
def Zle(k:KY)(ks:List KY):List KY:=if Zy4 k ks=YD then ks else ks++[k]
def Zly(k:KY)(x:Xa)(ks:List KY)(ds:List Xa):List Xa:=if Zy4 k ks=YD then Z9g k x ks ds else ds++[x]
section
variable {H:Hp}{L:YG->Prop}{κ:Type}[DecidableEq κ]{f:κ->KY}
def Yd8(G:Xc)(H:Hp)(L:YG->Prop)(a:Option V)(b:Option Xa):Prop:=(∃v d,a=YB v/\b=YB d/\Da G H L v d)\/(a=YC/\b=YC)
theorem look(hf:∀a b,f a=f b->a=b)(k:κ)(kvs:List (κ×V)):∀ds,Das G H L (kvs.map (·.2)) ds->Yd8 G H L (Zqy kvs k) (Zu7 (f k) (kvs.map λp=>f p.1) ds):=by
 induction kvs with
 | nil=>exact λds _=>.inr ⟨rfl,rfl⟩
 | cons p kvs ih=>
  intro ds h;cases h with
  | cons h r=>
   rename_i d ds;show Yd8 G H L _ (if f p.1=f k then YB d else Zu7 (f k) (kvs.map λp=>f p.1) ds)
   by_cases e:p.1=k
   .rw[Zgk e,YL (YT f e)]
    exact .inl ⟨_,_,rfl,rfl,h⟩
   .rw[Zgh e,YM λz=>e (hf _ _ z)]
    exact ih _ r
theorem Yhi(hf:∀a b,f a=f b->a=b)(k:κ)(kvs:List (κ×V)):(kvs.any λkv=>decide (kv.1=k))=Zy4 (f k) (kvs.map λp=>f p.1):=by
 unfold Zy4;rw[List.any_map];refine YT (List.any kvs) (funext λp=>?_);exact decide_eq_decide.mpr ⟨YT f,hf _ _⟩
theorem Ykv(k:κ)(v:V)(kvs:List (κ×V)):(kvs.map (λkv=>if kv.1=k then(kv.1,v)else kv)).map (λp=>f p.1)=kvs.map λp=>f p.1:=by
 rw[XQ];refine Xr λp _=>?_;show f (if p.1=k then(p.1,v)else p).1=f p.1
 by_cases c:p.1=k
 .rw[YL c]
 .rw[YM c]
theorem Ykr(hf:∀a b,f a=f b->a=b)(k:κ){x:Xa}(hv:Da G H L v x)(kvs:List (κ×V)):∀ds,Das G H L (kvs.map (·.2)) ds->Das G H L ((kvs.map (λkv=>if kv.1=k then(kv.1,v)else kv)).map (·.2)) (Z9g (f k) x (kvs.map λp=>f p.1) ds):=by
 induction kvs with
 | nil=>intro ds h;cases h;exact .nil
 | cons p kvs ih=>
  intro ds h;cases h with
  | cons h r=>
   rename_i d ds;refine .cons ?_ (ih _ r);show Da G H L (if p.1=k then(p.1,v)else p).2 (if f p.1=f k then x else d)
   by_cases e:p.1=k
   .rw[YL e,YL (YT f e)];exact hv
   .rw[YM e,YM λz=>e (hf _ _ z)];exact h
theorem Zob(hf:∀a b,f a=f b->a=b)(k:κ)(v:V)(kvs:List (κ×V)):(putK kvs k v).map (λp=>f p.1)=Zle (f k) (kvs.map λp=>f p.1):=by
 unfold putK Zle;rw[Yhi hf];cases c:Zy4 (f k) (kvs.map λp=>f p.1)with
 | true=>rw[YL rfl,YL rfl,Ykv]
 | false=>rw[YM Xn,YM Xn,Qg];rfl
theorem Zon(hf:∀a b,f a=f b->a=b)(k:κ){x:Xa}(hv:Da G H L v x)(kvs:List (κ×V))(h:Das G H L (kvs.map (·.2)) ds):Das G H L ((putK kvs k v).map (·.2)) (Zly (f k) x (kvs.map λp=>f p.1) ds):=by
 unfold putK Zly;rw[Yhi hf];cases c:Zy4 (f k) (kvs.map λp=>f p.1)with
 | true=>rw[YL rfl,YL rfl];exact Ykr hf k hv kvs _ h
 | false=>rw[YM Xn,YM Xn,Qg];exact h.snoc hv
end
theorem Zm8:∀a b:Key,(Sum.inl a:KY)=Sum.inl b->a=b:=λ_ _ h=>Sum.inl.inj h
theorem Zn3:∀a b:List Key,(Sum.inr a:KY)=Sum.inr b->a=b:=λ_ _ h=>Sum.inr.inj h
section
variable {H:Hp}{L:YG->Prop}{y:V}{e:Xa}
theorem Da.key1{k:Key}(h:Da G H L y e)(hk:Zh1 e=YB k):y=kV k:=by
 cases h with
 | int i=>cases hk;rfl
 | str x=>cases hk;rfl
 | exc _ _ _=>unfold exD Zh1 at hk;cases hk
 | fn _=>unfold fnD Zh1 at hk;cases hk
 | dic _ _ _ _=>unfold dcD Zh1 at hk;cases hk
 | _=>cases hk
theorem Das.keys(h:Das G H L xs ds):∀ks,Zll ds=YB ks->xs=ks.map kV :=
 Das.ind (Q:=λxs ds=>∀ks,Zll ds=YB ks->xs=ks.map kV) (λks h=>by cases h;rfl) (fun{x xs d ds} h _ ih ks hk=>by
  rw[Zll]at hk;obtain⟨k,h1,hk⟩:=bs hk;obtain⟨ks',h2,hk⟩:=bs hk;cases hk;rw[h.key1 h1,ih _ h2];rfl) h
theorem Da.keyT{ks:List Key}(h:Da G H L y e)(hk:Zlj e=YB (.inr ks)):∃b,y= .ref b/\H b=YB (.tup (ks.map kV)):=by
 cases h with
 | tup e1 r=>
  rw[Zlj]at hk;obtain⟨ks',h1,h2⟩:=JQ.mp hk;cases h2;exact⟨_,rfl,by rw[<-r.keys _ h1];exact e1⟩
 | exc _ _ _=>unfold exD Zlj Zh1 at hk;cases hk
 | fn _=>unfold fnD Zlj Zh1 at hk;cases hk
 | dic _ _ _ _=>unfold dcD Zlj Zh1 at hk;cases hk
 | _=>cases hk
theorem Da.keyS{k:Key}(h:Da G H L y e)(hk:Zlj e=YB (.inl k)):y=kV k:=by
 refine h.key1 ?_;unfold Zlj at hk;split at hk
 .obtain⟨_,_,z⟩:=JQ.mp hk;cases z
 .obtain⟨_,h1,z⟩:=JQ.mp hk;cases z;exact h1
def Zqs(k:KY):List (Xa×Xa)->Option Xa
 | []=>YC
 | p::r=>if Zlj p.1=YB k then YB p.2 else Zqs k r
theorem Zky(k:KY)(ks:List KY):∀ds,Zqs k ((ks.map kyD).zip ds)=Zu7 k ks ds:=by
 induction ks with
 | nil=>intro ds;rfl
 | cons j ks ih=>
  intro ds;cases ds with
  | nil=>rfl
  | cons d ds=>
   show(if Zlj (kyD j)=YB k then YB d else Zqs k ((ks.map kyD).zip ds))=if j=k then YB d else Zu7 k ks ds
   rw[Z02,ih]
   by_cases c:j=k
   .rw[YL c,YL (YT YB c)]
   .rw[YM c,YM λz=>c (QD z)]
theorem Da.dget{x:V}{t:Bool}{kvs:List (Xa×Xa)}{k:KY}(h:Da G H L x (.dict ((.none,.bool t)::kvs)))(hy:Da G H L y e)(hk:Zlj e=YB k)(ht:Z0w k=t):∃a o,x= .ref a/\IsD H a/\DGet H a y o/\Yd8 G H L o (Zqs k kvs):=by
 generalize ed:Xa.dict ((.none,.bool t)::kvs)=d at h;cases h with
 | dic l r dk q=>
  rename_i a o t' ks xs ds;unfold dcD at ed;injection ed with ed;injection ed with e1 e2;injection e1 with _ e1;injection e1 with e1;subst e1 e2;rw[Zky];cases o with
  | lst _=>exact dk.elim
  | dK kv=>
   obtain⟨rfl,rfl,rfl⟩:=dk;cases k with
   | inr _=>cases ht
   | inl k=>exact⟨a,_,rfl,.inl ⟨kv,r⟩,.inl ⟨kv,k,r,hy.keyS hk,rfl⟩,look Zm8 k kv _ q⟩
  | dT kv=>
   obtain⟨rfl,rfl,rfl⟩:=dk;cases k with
   | inl _=>cases ht
   | inr k=>
    obtain⟨b,hb,eb⟩:=hy.keyT hk;exact⟨a,_,rfl,.inr ⟨kv,r⟩,.inr ⟨kv,k,b,r,hb,eb,rfl⟩,look Zn3 k kv _ q⟩
 | exc _ _ _=>unfold exD at ed;cases ed
 | fn _=>unfold fnD at ed;cases ed
 | _=>cases ed
end
variable {G:Xc}
section
variable {X:Cx}{io:List Nat}{p c p' c':Bool}{a b e f o:YJ}{ma mb m mi mo me mf:MEt}{pos pp apos cpos px:Pos}{i:Nat}{x:Str}
theorem hu1{n:Nat}(h:n+64<UV):n+1<UV:=Nat.lt_of_le_of_lt (Nat.add_le_add_left (by decide:1<=64) _) h
def Z91(t:Bool):MEt:=λδ K=>K (.dc t [] []) δ
theorem Z6z:ME X io YD YD (.Dict [] [] pos) (Z91 YD):=⟨_,Zzo,λC H O δ fp ex K Q R h k q hq=>by
 refine k _ _ _ δ fp [q] (RE.tree (H1:=H) R R (Stp.same (Same.refl H) λ_ z=>z) (Zz hq (.dT [])) (J6 hq) (Zbe q) ?_) h;exact .dc (o:=.dT []) Zx ⟨rfl,rfl,rfl⟩ .nil⟩
def Z90(t:Bool):FE:=λδ=>YB (.dc t [] [],δ)
theorem Z6x{t:Bool}(h:ME X io p c e (Z91 t)):ME X io p c e (o2 (Z90 t)):=h.weak λδ K z=>by
 obtain⟨r,δ',h,k⟩:=z;cases h;exact k
def Zl4:Xa->Xa->Xa->Option Xa:=λd e z=>match d with
 | .dict ((.none,.bool t)::kvs)=>(Zlj e).bind λk=>if Z0w k=t then YB ((Zqs k kvs).getD z)else YC
 | _=>YC
def Z9j:Xa->Bool
 | .dict ((.none,.bool _)::_)=>YD
 | _=>YF
theorem Da.isD{x:V}{d:Xa}(h:Da G H L x d)(hd:Z9j d=YD):∃a,x= .ref a/\IsD H a:=by
 cases h with
 | dic l r dk q=>
  rename_i a o t ks xs ds;cases o with
  | lst _=>exact dk.elim
  | dK kv=>exact⟨a,rfl,.inl ⟨kv,r⟩⟩
  | dT kv=>exact⟨a,rfl,.inr ⟨kv,r⟩⟩
 | exc _ _ _=>unfold exD Z9j at hd;cases hd
 | fn _=>unfold fnD Z9j at hd;cases hd
 | _=>cases hd
def Z7u(mo me mf:MEt):MEt:=λδ K=>mo δ λx δ1=>Z9j x.data=YD/\me δ1 λy δ2=>mf δ2 λz δ3=>∃r,Zl4 x.data y.data z.data=YB r/\K (.fz r) δ3
theorem Z4d{c0 c1:Bool}(hu:X.A.units+64<UV)(ho:ME X io YD c0 o mo)(he:ME X io YD c1 e me)(hf:ME X io YD c2 f mf)(mm:M2 X o "get" apos e f cpos):ME X io YD (c0&&(c1&&c2)) (.Call (.Attribute o "get" apos) [e,f] [] cpos) (Z7u mo me mf):=by
 obtain⟨_,A,sa⟩:=ho;obtain⟨_,B,sb⟩:=he;obtain⟨_,D,sd⟩:=hf;refine⟨_,Zyr (hu1 hu) A B D mm,λC H O δ fp ex K Q R h k=>?_⟩;refine sa.pureAfter R h λH1 x r1 R1 s1 q1 h1=>?_;obtain⟨a,rfl,hd⟩:=q1.isD h1.1;refine⟨a,rfl,hd,?_⟩;refine sb.pureAfter R1 h1.2 λH2 y r2 R2 s2 q2 h2=>?_;refine sd.pureAfter R2 h2 λH3 z r3 R3 s3 q3 h3=>?_;obtain⟨r,hg,hk⟩:=h3;have w1:=((q1.same s2).same s3).wide (L':=λa=>(c0&&(c1&&c2))=YD->Lf C fp ex a) λa l _ hc=>l (Xp _ _▸hc).1;have w2:=(q2.same s3).wide (L':=λa=>(c0&&(c1&&c2))=YD->Lf C fp ex a) λa l _ hc=>l (by rw[Xp,Xp]at hc;exact hc.2.1);have w3:=q3.wide (L':=λa=>(c0&&(c1&&c2))=YD->Lf C fp ex a) λa l _ hc=>l (by rw[Xp,Xp]at hc;exact hc.2.2);have sm:Same H H3:=λb o e=>s3 _ _ (s2 _ _ (s1 _ _ e));have fin:∀v,Da X.K H3 (λa=>(c0&&(c1&&c2))=YD->Lf C fp ex a) v r->Q v H3:=λv q=>k H3 v (.fz r) δ fp [] (RE.fz R3 (Stp.same sm sm.al) q) hk;generalize r1.data=d1 at w1 hg;unfold Zl4 at hg;split at hg
 case h_2=>cases hg
 rename_i t kvs;obtain⟨ky,e1,hg⟩:=bs hg
 by_cases ht:Z0w ky=t
 .rw[YL ht]at hg
  cases hg;obtain⟨a',ov,ea,_,g,RD⟩:=w1.dget w2 e1 ht;cases ea;refine⟨ov,g,?_⟩;rcases RD with⟨v,d,rfl,hd',q⟩|⟨rfl,hd'⟩
  .rw[hd']at fin
   exact fin v q
  .rw[hd']at fin
   exact fin z w3
 .rw[YM ht]at hg;cases hg
def Zue(a b c:FE):FE:=λδ=>(a δ).bind λp=>(b p.2).bind λq=>(c q.2).bind λr=>(Zl4 p.1.data q.1.data r.1.data).bind λd=>YB (.fz d,r.2)
theorem Z2x(h:ME X io p c e (Z7u (o2 fa) (o2 fb) (o2 fc))):ME X io p c e (o2 (Zue fa fb fc)):=h.weak λδ K z=>by
 obtain⟨r,δ',h,k⟩:=z;obtain⟨⟨x,δ1⟩,h1,h⟩:=bs h;obtain⟨⟨y,δ2⟩,h2,h⟩:=bs h;obtain⟨⟨z,δ3⟩,h3,h⟩:=bs h;obtain⟨d,h4,h⟩:=bs h;cases h;refine⟨x,δ1,h1,?_,y,δ2,h2,z,δ3,h3,d,h4,k⟩;show Z9j x.data=YD;have h4:Zl4 x.data y.data z.data=YB d:=h4;unfold Zl4 at h4;split at h4
 .rename_i ez;rw[ez];rfl
 .cases h4
theorem Rel.ownDc{C:MC G}{H:Hp}{O:St}{δ:Zi}{fp:Fp}{ex:YG->Prop}{t:Bool}{ks:List KY}{ds:List Xa}(R:Rel C io H O δ fp ex)(hi:δ[i]? =YB (YB (.dc t ks ds))) :
  ∃a' ob xs,O[i]? =YB (YB (.ref a'))/\H a'=YB (MuO.ho ob)/\ob.dic t ks xs/\Das G H (Lf C fp ex) xs ds/\fp i=[a']:=by
 obtain⟨v,e,o⟩:=R.own i _ hi;generalize hf:fp i=as at o;cases o with
 | dc h k r=>exact⟨_,_,_,e,h,k,r,rfl⟩
theorem Rel.topD{C:MC G}{H:Hp}{O:St}{δ:Zi}{fp:Fp}{ex:YG->Prop}{t:Bool}{ks ks':List KY}{ds ds':List Xa}{a':YG}{ob ob':MuO}{ys:List V}(R:Rel C io H O δ fp ex)(hi:δ[i]? =YB (YB (.dc t ks ds)))(hv:O[i]? =YB (YB (.ref a')))
  (hf:fp i=[a']) (hx:H a'=YB ob.ho) (dk:ob'.dic t ks' ys) (o:Das G H (Lf C fp ex) ys ds') :
  Rel C io (upd H a' ob'.ho) O (δ.set i (YB (.dc t ks' ds'))) (fpu fp i [a']) ex/\Stp YF H δ fp (upd H a' ob'.ho) (δ.set i (YB (.dc t ks' ds'))) (fpu fp i [a']):=by
 have hm:a'∈fp i:=by rw[hf];exact .head _
 have ne':∀a,¬Foot fp a->a≠a':=λa h z=>h ⟨i,by rw[z];exact hm⟩;have kp:∀b o,H b=YB o->b≠a'->upd H a' ob'.ho b=YB o:=λb o e n=>by rw[Zu n];exact e
 have sub:∀a,a∈[a']->a∈fp i:=λa m=>by rw[hf];exact m
 have o':Das G (upd H a' ob'.ho) (Lf C (fpu fp i [a']) (exu ex [])) ys ds':=by
  have f0:∀a,¬Foot fp a->¬Foot (fpu fp i [a']) a:=λa h z=>by
   rcases z.of_u with z|⟨j,_,z⟩
   .exact h ⟨i,sub a z⟩
   .exact h ⟨j,z⟩
  refine o.frame (λa zs l q=>⟨⟨f0 a l.1,λz=>l.2.1 (J2.mp z),l.2.2⟩,?_⟩) λa zs q=>kp a _ q λz=>ImO.nm q (z▸hx);rcases q with q|⟨u,q⟩
  .exact .inl (kp a _ q (ne' a l.1))
  .exact .inr ⟨u,kp a _ q (ne' a l.1)⟩
 have key:=R.change (new:=[]) (as':=[a']) (t':=.dc t ks' ds') (H':=upd H a' ob'.ho) hi hv (λb o e nb=>kp b o e λz=>nb (by rw[z];exact hm)) (λb e=>by
   by_cases q:b=a'
   .subst q;rw[Zx]at e;cases e
   .rwa[Zu q]at e) (.dc Zx dk o') (Zbe a') (λa m=>.inl (sub a m)) (λa m=>nomatch m)
 exact⟨key.1.drop λa z=>.inl z,key.2⟩
def Z7q(i:Nat)(m mi:MEt):MSt:=λD δ=>m δ λr δ1=>match δ1[i]? with
 | some (YB (.dc t ks ds))=>mi δ1 λn _=>match Zlj n.data with
  | some k=>(Z0w k=t/\ks.length<Xv)/\D.nx (δ1.set i (YB (.dc t (Zle k ks) (Zly k r.data ks ds))))
  | none=>False
 | _=>False
theorem Z21(i:Nat)(hu:X.A.units+64<UV)(he:ME X io p YD e m)(hj:ME X io YD c a mi)(hN:X.N[i]? =YB x:=by rfl)(hv:Vis X.env.scope x:=by first|exact QG rfl|exact Qt (QG rfl)|exact Qt (Qt rfl))(hd:(x==("__debug__" : Str))=YF:=by decide)
  (hcd:(x==("__classdict__" : Str))=YF:=by decide)
  (hs:VL e (YB (.Subscript (.Name x px) a pp)) pos.line X.env=pure YF:=by rfl):MS X io (.Assign [.Subscript (.Name x px) a pp] e pos) (Z7q i m mi):=by
 obtain⟨_,A,s⟩:=he;obtain⟨_,B,sj⟩:=hj;refine⟨_,Z3p (hu1 hu) (pv i hN hv hd hcd) B A hs,λC H O δ fp ex D D' R h E=>?_⟩;refine s C H O δ fp ex _ _ R h λH1 v r δ1 fp1 new r1 h1=>?_;have R1:=r1.base;have q:=(r1.da R).wide (L':=Lf C fp1 ex) λa l _=>l rfl;split at h1
 case h_2=>exact h1.elim
 rename_i t ks ds hi;obtain⟨a',_,_,hv0,_⟩:=R1.ownDc hi;refine⟨_,hv0,?_⟩;refine sj.pureAfter R1 h1 λH2 w n R2 s2 q2 h2=>?_;split at h2
 case h_2=>exact h2.elim
 rename_i k hk;obtain⟨⟨ht,hl⟩,h2⟩:=h2;obtain⟨a2,ob,xs,hv2,hx,dk,o,hf⟩:=R2.ownDc hi;rw[hv0]at hv2;cases hv2;have q':=q.same s2;have kpp:Kp H1 fp1 H2 fp1:=⟨λb o e _=>s2 _ _ e,λz=>(nomatch z),λa z=>.inl z,s2.al⟩;cases ob with
 | lst _=>exact dk.elim
 | dK kv=>
  obtain⟨rfl,rfl,rfl⟩:=dk;rw[Xe]at hl;cases k with
  | inr _=>cases ht
  | inl k=>
   obtain⟨R3,S3⟩:=R2.topD (ob':=.dK (putK kv k v)) hi hv0 hf hx ⟨rfl,(Zob Zm8 k v kv).symm,rfl⟩ (Zon Zm8 k q' kv o);exact⟨a',_,rfl,.inl ⟨kv,k,hx,q2.keyS hk,hl,rfl⟩,E.nx _ O _ _ R3 (r1.stp.kp.trans (Kp.trans kpp S3.kp)) h2⟩
 | dT kv=>
  obtain⟨rfl,rfl,rfl⟩:=dk;rw[Xe]at hl;cases k with
  | inl _=>cases ht
  | inr k=>
   obtain⟨b',hb,eb⟩:=q2.keyT hk;obtain⟨R3,S3⟩:=R2.topD (ob':=.dT (putK kv k v)) hi hv0 hf hx ⟨rfl,(Zob Zn3 k v kv).symm,rfl⟩ (Zon Zn3 k q' kv o);exact⟨a',_,rfl,.inr ⟨kv,k,b',hx,hb,eb,hl,rfl⟩,E.nx _ O _ _ R3 (r1.stp.kp.trans (Kp.trans kpp S3.kp)) h2⟩
def Zua(i:Nat)(e j:FE):FS:=wE e λr δ1=>match δ1[i]? with
 | some (YB (.dc t ks ds))=>wE j (λn _=>match Zlj n.data with
  | some k=>if Z0w k=t/\ks.length<Xv then .nx (δ1.set i (YB (.dc t (Zle k ks) (Zly k r.data ks ds))))else .bad
  | none=>.bad) δ1
 | _=>.bad
theorem Z3y(h:MS X io st (Z7q i (o2 fa) (o2 fb))):MS X io st (oS (Zua i fa fb)):=h.weak λD δ h=>by
 refine(Zqt h).imp λr δ' z=>?_;split at z
 case h_2=>exact z.elim
 rename_i q;(try rw[q]);refine(Zqt z).imp λn δ2 z=>?_;split at z
 case h_2=>exact z.elim
 rename_i k q2;(try rw[q2]);exact Zj4 z
end
end L2
namespace L2
open PySem PySem.Spec PyProof.Rows PySem.W PySem.SeqAt
theorem Paired.at{α β:Type}{R:α->β->Prop}{as:List α}{bs:List β}(h:PySem.Paired R as bs):∀{i:Nat} {y:β},bs[i]? =YB y->∃x,as[i]? =YB x/\R x y:=by
 induction h with
 | nil=>intro i y z;cases z
 | cons h t ih=>
  intro i y z;cases i with
  | zero=>cases z;exact⟨_,rfl,h⟩
  | succ i=>exact ih z
end L2
namespace L2
open PySem PySem.Spec PyProof.Rows
def Z9i(K:Xc):R2:=λx y H Q=>Ybw K x y H Q\/∃a b ys,x= .ref a/\y= .ref b/\SqT K H a []/\SqT K H b ys/\Q (.ref b) H
theorem Z7a:OpR X (VM .Add) (Z9i X.K):=by
 intro pins s O H x y v u Q I rx ry h;rcases h with h|h
 .exact Z2d pins s O H x y v u Q I rx ry h
 .obtain⟨a,b,ys,rfl,rfl,ha,hb,q⟩:=h
  cases rx;cases ry;obtain⟨its,r1,p1,_⟩:=I.tuple ha;obtain⟨its2,r2,p2,_⟩:=I.tuple hb;cases r1;obtain⟨⟨cls,dd,data,sl⟩,ho,hc,n,hd⟩:=id p1;obtain⟨⟨cls2,dd2,data2,sl2⟩,ho2,hc2,n2,hd2⟩:=id p2;simp only at hc hd hc2 hd2;subst hc hd hc2 hd2;exact concat_meets ⟨_,ho,rfl⟩ ⟨_,ho2,rfl⟩ noFill_tuple_add seq_tuple_add PySem.F.slot_tuple_add PySem.F.entry_tuple_add (PySem.F.args_tuple_add_2 _ _)
   (tuple_addW0 a b _ its2.toArray n n2 dd dd2 sl sl2 rfl) ⟨ho,ho2,.ref b,H,I,rfl,q⟩
def Zrk:Xa->Xa->Option OT:=λd e=>match d,e with| .tuple ds,.tuple es=>if ds.length+es.length<=Xv then YB (.fz (.tuple (ds++es)))else YC|_,_=>YC
def Z89:Xa->Xa->(OT->Prop)->Prop:=λd e k=>∃r,Zrk d e=YB r/\k r
theorem Z8k:ByO Zrk Z89:=λ_ _ r _ h hk=>⟨r,h,hk⟩
theorem Z2u:P2 G (Z9i G) Z89:=λH L x y d e k Q hx hy h kk=>by
 obtain⟨r,h,hk⟩:=h;unfold Zrk at h;split at h
 case h_2=>cases h
 rename_i ds es
 by_cases c:ds.length+es.length<=Xv
 .rw[YL c]at h
  cases h;have same:∀v,Da G H L v (.tuple (ds++es))->Q v H:=λv q=>kk H v _ [] (Same.refl _) (.fz (q.wide λa l _=>⟨.inl l,λm=>nomatch m⟩)) .nil (λa m=>nomatch m) hk;cases hx with
  | tup e1 r1=>
   cases hy with
   | tup e2 r2=>
    rename_i a1 xs1 a2 xs2
    by_cases z:xs1=[]
    .subst z
     cases r1;exact .inr ⟨_,_,_,rfl,rfl,.inl (.inl e1),.inl (.inl e2),same _ (.tup e2 r2)⟩
    .refine .inl ⟨_,_,_,_,rfl,rfl,.inl (.inl e1),.inl (.inl e2),z,by rw[r1.length,r2.length];exact c,λw=>?_,λw p hp=>?_⟩
     .subst w
      cases r2;rw[JP]at same;exact same _ (.tup e1 r1)
     .exact kk _ _ _ [] (Zz hp _) (.fz (.tup Zx (((r1.append r2).wide λa l _=>⟨.inl l,λm=>nomatch m⟩).same (Zz hp _)))) .nil (λa m=>nomatch m) hk
 .rw[YM c]at h;cases h
def Yio(o:Option (Option OT))(δ:Zi):Option (OT×Zi):=match o with|some (YB (.fz d))=>YB (.fz d,δ)|_=>YC
theorem Zsw(d:Xa)(δ:Zi):Yio (YB (YB (.fz d))) δ=YB (.fz d,δ):=rfl
def Z8a(o:Option (Option OT))(δ:Zi):Option (OT×Zi):=match o with|some (YB t)=>YB (.fz t.data,δ)|_=>YC
theorem Z5i(t:OT)(δ:Zi):Z8a (YB (YB t)) δ=YB (.fz t.data,δ):=rfl
theorem Zwa(i:Nat)(δ:Zi):Ze i δ=Yio δ[i]? δ:=rfl
theorem Z5n(i:Nat)(δ:Zi):Zkr i δ=Z8a δ[i]? δ:=rfl
theorem Yfd(d:Xa)(δ:Zi):fC d δ=YB (.fz d,δ):=rfl
theorem Zy9(g:Xa->Xa->Option Xa)(a b:FE)(δ:Zi):Zj g a b δ=(a δ).bind λp=>(b p.2).bind λq=>(g p.1.data q.1.data).bind λd=>YB (.fz d,q.2):=rfl
theorem Z28(g:Xa->Xa->Option OT)(a b:FE)(δ:Zi):Ym g a b δ=(a δ).bind λp=>(b p.2).bind λq=>(g p.1.data q.1.data).bind λd=>YB (d,q.2):=rfl
theorem Z77(g:Xa->Option Xa)(a:FE)(δ:Zi):fUn g a δ=(a δ).bind λp=>(g p.1.data).bind λd=>YB (.fz d,p.2):=rfl
def onB(d:Xa)(x y:Option α):Option α:=match d with| .bool YD=>x| .bool YF=>y|_=>YC
theorem Yfo(x y:Option α):onB (.bool YD) x y=x:=rfl
theorem Yj4(x y:Option α):onB (.bool YF) x y=y:=rfl
theorem Z69(a b:FE)(δ:Zi):Zw6 a b δ=(a δ).bind λp=>onB p.1.data (b p.2) (YB (.fz (.bool YF),p.2)):=by
 unfold Zw6 onB;cases a δ with
 | none=>rfl
 | some p=>first|rfl|(simp only[Xh];done)|(simp only[Xh];generalize p.1.data=d;cases d<;>first|rfl|(rename_i b;cases b<;>rfl))
theorem Yhl(a b:FE)(δ:Zi):fOr a b δ=(a δ).bind λp=>onB p.1.data (YB (.fz (.bool YD),p.2)) (b p.2):=by
 unfold fOr onB;cases a δ with
 | none=>rfl
 | some p=>first|rfl|(simp only[Xh];done)|(simp only[Xh];generalize p.1.data=d;cases d<;>first|rfl|(rename_i b;cases b<;>rfl))
theorem Z0z(t:FT)(a b:FE)(δ:Zi):fIf t a b δ=(t δ).bind λp=>if p.1=YD then a p.2 else b p.2:=rfl
def Ye4(t:OT)(δ:Zi):Option (Bool×Zi):=match t with| .fz (.bool b)=>YB (b,δ)|_=>YC
theorem Yb8(b:Bool)(δ:Zi):Ye4 (.fz (.bool b)) δ=YB (b,δ):=rfl
theorem Yfk(e:FE)(δ:Zi):tV e δ=(e δ).bind λp=>Ye4 p.1 p.2:=by
 unfold tV Ye4;cases e δ with
 | none=>rfl
 | some p=>rfl
theorem Yci(t:FT)(δ:Zi):tNo t δ=(t δ).bind λp=>YB (!p.1,p.2):=rfl
theorem Z1k(t u:FT)(δ:Zi):tAn t u δ=(t δ).bind λp=>if p.1=YD then u p.2 else YB (YF,p.2):=rfl
theorem Yem(t u:FT)(δ:Zi):tO t u δ=(t δ).bind λp=>if p.1=YD then YB (YD,p.2)else u p.2:=rfl
theorem Ydz(e:FE)(δ:Zi):tD e δ=(e δ).bind λp=>(Zxe p.1.data).bind λb=>YB (b,p.2):=rfl
theorem Yf3(δ:Zi):Zil δ=YB (YD,δ):=rfl
theorem Z4p(δ:Zi):Zo δ=YB ([],δ):=rfl
theorem Zge(e:FE)(a:FA)(δ:Zi):Zc e a δ=(e δ).bind λp=>(a p.2).bind λq=>YB (p.1::q.1,q.2):=rfl
theorem Z6h(a:FA)(δ:Zi):Zgn a δ=(a δ).bind λp=>if p.1.length<=Xv then YB (.fz (.tuple (OT.datas p.1)),p.2)else YC:=rfl
theorem Zuh(a:FA)(δ:Zi):Zek a δ=(a δ).bind λp=>if p.1.length<=Xv then YB (.nd p.1,p.2)else YC:=rfl
theorem Ydb(a:FA)(δ:Zi):Ygg a δ=(a δ).bind λp=>if p.1.length<=Xv then YB (.tp p.1,p.2)else YC:=rfl
theorem Ydm(e:FE)(δ:Zi):Ydv e δ=(e δ).bind λp=>if Zf5 p.1.data=YD then YB (.fz p.1.data,p.2)else YC:=rfl
theorem Ybm(e:FE)(δ:Zi):Ycf e δ=(e δ).bind λp=>if Z48 p.1=YD then YB (p.1,p.2)else YC:=rfl
def okO(x:RF)(δ:Zi):Option (OT×Zi):=match x with| .ok r=>YB (r,δ)|_=>YC
theorem Yal(r:OT)(δ:Zi):okO (.ok r) δ=YB (r,δ):=rfl
theorem Zzs(F:FD)(a:FA)(δ:Zi):Z4 F a δ=(a δ).bind λp=>okO (F (OT.datas p.1)) p.2:=by
 unfold Z4 okO;cases a δ with
 | none=>rfl
 | some p=>rfl
def atO(o:Option (Option OT))(k:OT->Option α):Option α:=match o with|some (YB t)=>k t|_=>YC
theorem Yjy(t:OT)(k:OT->Option α):atO (YB (YB t)) k=k t:=rfl
theorem Z71(i:Nat)(F:FIO)(a:FA)(δ:Zi):Z0f i F a δ=atO δ[i]? λ_=>(a δ).bind λp=>atO p.2[i]? λt=>(F t (OT.datas p.1)).bind λq=>YB (q.1,p.2.set i (YB q.2)):=by
 unfold Z0f;generalize δ[i]? =o;rcases o with _|_|t
 .rfl
 .rfl
 .show(a δ).bind _=(a δ).bind _
  cases a δ with
  | none=>rfl
  | some p=>
   show(λo:Option (Option OT)=>(match o with|some (YB t)=>(F t (OT.datas p.1)).bind λq=>YB (q.1,p.2.set i (YB q.2))|_=>YC)) p.2[i]? =atO p.2[i]? _;generalize p.2[i]? =o;rcases o with _|_|t<;>rfl
theorem Z26(g:List Xa->Option Xa)(a:FA)(δ:Zi):J1 g a δ=(a δ).bind λp=>(g (OT.datas p.1)).bind λd=>YB (.fz d,p.2):=rfl
theorem Zu5(g:List Xa->Option OT)(a:FA)(δ:Zi):fBl g a δ=(a δ).bind λp=>(g (OT.datas p.1)).bind λd=>YB (d,p.2):=rfl
theorem Z66(T:String)(e:FE)(δ:Zi):Znm T e δ=(e δ).bind λp=>if Zgq p.1.data=YD then YC else YB (.fz (.bool (Zo9 T p.1.data)),p.2):=rfl
theorem Yka(δ:Zi):oN δ=YB (YC,δ):=rfl
def asInt(d:Xa)(k:Int->Option α):Option α:=match d with| .int i=>k i|_=>YC
theorem Zve(i:Int)(k:Int->Option α):asInt (.int i) k=k i:=rfl
def Zrz(d:Xa)(k:List Xa->Option α):Option α:=match d with| .list i=>k i|_=>YC
theorem Zs5(i:List Xa)(k:List Xa->Option α):Zrz (.list i) k=k i:=rfl
def Z2q(d:Xa)(k:List Xa->Option α):Option α:=match d with| .tuple i=>k i|_=>YC
theorem Yft(i:List Xa)(k:List Xa->Option α):Z2q (.tuple i) k=k i:=rfl
theorem Yd2(e:FE)(δ:Zi):oI e δ=(e δ).bind λp=>asInt p.1.data λi=>YB (YB i,p.2):=by
 unfold oI asInt;cases e δ with
 | none=>rfl
 | some p=>rfl
theorem Yb3(e:FE)(lo hi:FO)(δ:Zi):fSl e lo hi δ=(e δ).bind λp=>(lo p.2).bind λq=>(hi q.2).bind λr=>Zrz p.1.data λds=>YB (.nd ((cutD ds q.1 r.1).map OT.fz),r.2):=by
 unfold fSl Zrz;rfl
theorem Z53(e:FE)(δ:Zi):Zfz e δ=(e δ).bind λp=>Zrz p.1.data λds=>YB (ds,p.2):=by
 unfold Zfz Zrz;rfl
theorem Yia(e:FE)(δ:Zi):iTp e δ=(e δ).bind λp=>Z2q p.1.data λds=>YB (ds,p.2):=by
 unfold iTp Z2q;rfl
def as1(ds:List Xa)(k:Int->Option α):Option α:=match ds with|[.int i]=>k i|_=>YC
theorem Z60(i:Int)(k:Int->Option α):as1 [.int i] k=k i:=rfl
def as2(ds:List Xa)(k:Int->Int->Option α):Option α:=match ds with|[.int i,.int j]=>k i j|_=>YC
theorem Yfe(i j:Int)(k:Int->Int->Option α):as2 [.int i,.int j] k=k i j:=rfl
theorem Z04(a:FA)(δ:Zi):iRa a δ=(a δ).bind λp=>as1 (OT.datas p.1) λj=>if rOk j=YD then YB (Zda 0 j.toNat,p.2)else YC:=by
 unfold iRa as1;rfl
theorem Yai(a:FA)(δ:Zi):iRb a δ=(a δ).bind λp=>as2 (OT.datas p.1) λi j=>if(rOk i&&rOk j)=YD then YB (Zda i (j-i).toNat,p.2)else YC:=by
 unfold iRb as2;rfl
theorem Z6e(a:FA)(δ:Zi):Yck a δ=(a δ).bind λp=>as1 (OT.datas p.1) λj=>if rOk j=YD/\j.toNat<=Xv then YB (.nd ((Zda 0 j.toNat).map OT.fz),p.2)else YC:=by
 unfold Yck as1;rfl
theorem Z6y(a b:FE)(δ:Zi):Z7k a b δ=(a δ).bind λp=>(b p.2).bind λq=>asInt q.1.data λk=>if rOk k=YD/\k.toNat<=Xv then YB (.nd (X7 k.toNat (.fz p.1.data)),p.2)else YC:=by
 unfold Z7k asInt;rfl
def Yen(ds:List Xa)(k:List Xa->List Xa->Option α):Option α:=match ds with|[.list i,.list j]=>k i j|_=>YC
theorem Yi9(i j:List Xa)(k:List Xa->List Xa->Option α):Yen [.list i,.list j] k=k i j:=rfl
theorem Ydi(a:FA)(δ:Zi):Yac a δ=(a δ).bind λp=>Yen (OT.datas p.1) λas bs=>YB (Zks as bs,p.2):=by
 unfold Yac Yen;rfl
theorem Yhq(i:Nat)(d:Xa)(δ:Zi):gNm i d δ=YB (δ.set i (YB (.fz d))):=rfl
theorem Yfm(i:Nat)(d:Xa)(δ:Zi):Ykp i d δ=if Zf5 d=YD then YB (δ.set i (YB (.fz d)))else YC:=rfl
theorem Yiq(δ:Zi):gNl [] δ=YB δ:=rfl
theorem Yhp(g:FG)(gs:FGs)(d:Xa)(r:List Xa)(δ:Zi):gCn g gs (d::r) δ=(g d δ).bind (gs r):=rfl
theorem Yi0(n:Nat)(gs:FGs)(ds:List Xa)(δ:Zi):gTp n gs (.tuple ds) δ=if ds.length=n then gs ds δ else YC:=rfl
theorem Yg0(n:Nat)(gs:FGs)(ds:List Xa)(δ:Zi):gLs n gs (.list ds) δ=if ds.length=n then gs ds δ else YC:=rfl
def RS.thn(r:RS)(g:FS):RS:=match r with| .nx δ=>g δ|r=>r
theorem Ybi(δ:Zi)(g:FS):(RS.nx δ).thn g=g δ:=rfl
theorem Yab(r:OT)(δ:Zi)(g:FS):(RS.rt r δ).thn g= .rt r δ:=rfl
theorem Ygw(δ:Zi)(g:FS):(RS.bk δ).thn g= .bk δ:=rfl
theorem Yhc(δ:Zi)(g:FS):(RS.ct δ).thn g= .ct δ:=rfl
theorem Yic(c:Str)(δ:Zi)(g:FS):(RS.ex c δ).thn g= .ex c δ:=rfl
theorem Zvx(f g:FS)(δ:Zi):Z5 f g δ=(f δ).thn g:=rfl
theorem Yh5(δ:Zi):fNx δ= .nx δ:=rfl
theorem Ygv(δ:Zi):Ylo δ= .bk δ:=rfl
theorem Yfn(δ:Zi):Yks δ= .ct δ:=rfl
theorem Z9x(c:Str)(δ:Zi):Zol c δ= .ex c δ:=rfl
theorem Yc1(δ:Zi):Yfw δ= .rt (.fz .none) δ:=rfl
def onO(o:Option (α×Zi))(k:α->Zi->RS):RS:=match o with|some (r,δ')=>k r δ'|none=>.bad
theorem Wa(r:α)(δ:Zi)(k:α->Zi->RS):onO (YB (r,δ)) k=k r δ:=rfl
theorem Zc4(e:FE)(k:OT->Zi->RS)(δ:Zi):wE e k δ=onO (e δ) k:=by
 unfold wE onO;cases e δ<;>rfl
def onF(x:RF)(δ:Zi)(k:OT->Zi->RS):RS:=match x with| .ok r=>k r δ| .exn c=>.ex c δ| .bad=>.bad
theorem Yhf(r:OT)(δ:Zi)(k:OT->Zi->RS):onF (.ok r) δ k=k r δ:=rfl
theorem Yjd(c:Str)(δ:Zi)(k:OT->Zi->RS):onF (.exn c) δ k= .ex c δ:=rfl
theorem Yk8(F:FD)(a:FA)(k:OT->Zi->RS)(δ:Zi):wX F a k δ=onO (a δ) λrs δ1=>onF (F (OT.datas rs)) δ1 k:=by
 unfold wX onO onF;cases a δ with
 | none=>rfl
 | some p=>rfl
theorem Zwu(t:FT)(u w:FS)(δ:Zi):Zbg t u w δ=onO (t δ) λb δ'=>if b=YD then u δ' else w δ':=by
 unfold Zbg onO;cases t δ<;>rfl
theorem Z4n(it:FI)(g:FG)(u:FS)(δ:Zi):J5 it g u δ=onO (it δ) λds δ1=>forLoop g u ds δ1:=by
 unfold J5 onO;cases it δ<;>rfl
theorem Yc7(r:OT)(δ:Zi):Yd5 r δ= .nx δ:=rfl
theorem Z2b(r:OT)(δ:Zi):Jm r δ= .rt r δ:=rfl
theorem Ydt(r:OT)(δ:Zi):Yep r δ=if Zf5 r.data=YD then .rt (.fz r.data) δ else .bad:=rfl
theorem Zvr(i:Nat)(r:OT)(δ:Zi):Y9 i r δ= .nx (δ.set i (YB (.fz r.data))):=rfl
theorem Yda(i:Nat)(r:OT)(δ:Zi):Yf5 i r δ=if Zf5 r.data=YD then .nx (δ.set i (YB (.fz r.data)))else .bad:=rfl
theorem Zwz(i:Nat)(r:OT)(δ:Zi):Zas i r δ= .nx (δ.set i (YB r)):=rfl
def onD(o:Option Zi):RS:=match o with|some δ=>.nx δ|none=>.bad
theorem Yds(δ:Zi):onD (YB δ)= .nx δ:=rfl
theorem Yf4(g:FG)(r:OT)(δ:Zi):Yke g r δ=onD (g r.data δ):=rfl
def onT(o:Option (Option OT))(k:OT->RS):RS:=match o with|some (YB t)=>k t|_=>.bad
theorem Z7c(t:OT)(k:OT->RS):onT (YB (YB t)) k=k t:=rfl
theorem Zo5(i:Nat)(δ:Zi):Zdf i δ=onT δ[i]? λt=>.rt t (δ.set i YC):=rfl
theorem Zqz(i:Nat)(u:FS)(δ:Zi):Zhg i u δ=onT δ[i]? λt=>u (δ.set i (YB (.fz t.data))):=rfl
def onN(o:Option (Option OT))(k:List OT->RS):RS:=match o with|some (YB (.nd ts))=>k ts|_=>.bad
theorem Zx4(t:List OT)(k:List OT->RS):onN (YB (YB (.nd t))) k=k t:=rfl
theorem Zix(i:Nat)(e:FE)(δ:Zi):Wf i e δ=onN δ[i]? λ_=>onO (e δ) λr δ1=>onN δ1[i]? λts=>if ts.length<Xv then .nx (δ1.set i (YB (.nd (ts++[.fz r.data]))))else .bad:=by
 unfold Wf;generalize δ[i]? =o;rcases o with _|_|(_|_|_|_)
 .rfl
 .rfl
 .rfl
 .show wE e _ δ=onO (e δ) _
  rw[Zc4];congr 1
 .rfl
 .rfl
theorem Z2l(i:Nat)(e:FE)(δ:Zi):Zoc i e δ=onN δ[i]? λ_=>onO (e δ) λr δ1=>onN δ1[i]? λts=>if ts.length<Xv then .nx (δ1.set i (YB (.nd (ts++[r]))))else .bad:=by
 unfold Zoc;generalize δ[i]? =o;rcases o with _|_|(_|_|_|_)
 .rfl
 .rfl
 .rfl
 .show wE e _ δ=onO (e δ) _
  rw[Zc4];congr 1
 .rfl
 .rfl
def onI(d:Xa)(k:Int->RS):RS:=match d with| .int i=>k i|_=>.bad
theorem Yku(i:Int)(k:Int->RS):onI (.int i) k=k i:=rfl
def onX(o:Option Nat)(k:Nat->RS):RS:=match o with|some i=>k i|_=>.bad
theorem Ykw(i:Nat)(k:Nat->RS):onX (YB i) k=k i:=rfl
theorem Yey(i:Nat)(e j:FE)(δ:Zi):Yjg i e j δ=onO (e δ) λr δ1=>onN δ1[i]? λts=>onO (j δ1) λn _=>onI n.data λk=>onX (ixN ts.length k) λj=>.nx (δ1.set i (YB (.nd (ts.set j (.fz r.data))))):=by
 unfold Yjg;rw[Zc4];congr 1;funext r δ1;generalize δ1[i]? =o;rcases o with _|_|(_|_|_|_)
 .rfl
 .rfl
 .rfl
 .show wE j _ δ1=onO (j δ1) _
  rw[Zc4];congr 1;funext n δ2;generalize n.data=d;cases d<;>try rfl
  show(match ixN _ _ with|some j=>_|none=>_)=onX (ixN _ _) _;generalize ixN _ _=x;cases x<;>rfl
 .rfl
 .rfl
def onU(o:Option OT)(k:List OT->RS):RS:=match o with|some (.nd ts)=>k ts|_=>.bad
theorem Ykc(t:List OT)(k:List OT->RS):onU (YB (.nd t)) k=k t:=rfl
def onP(o:Option (Option OT))(k:List OT->RS):RS:=match o with|some (YB (.tp ts))=>k ts|_=>.bad
theorem Yk0(t:List OT)(k:List OT->RS):onP (YB (YB (.tp t))) k=k t:=rfl
theorem Z9c(i c:Nat)(e:FE)(δ:Zi):Z1n i c e δ=onP δ[i]? λts=>onU ts[c]? λus=>onO (e δ) λr _=>if us.length<Xv then .nx (δ.set i (YB (.tp (ts.set c (.nd (us++[.fz r.data]))))))else .bad:=by
 unfold Z1n;generalize δ[i]? =o;rcases o with _|_|(_|_|ts|_)
 .rfl
 .rfl
 .rfl
 .rfl
 .show(match ts[c]? with|some (.nd us)=>wE e _ δ|_=>_)=onU ts[c]? _
  generalize ts[c]? =o;rcases o with _|(_|_|_|_)
  .rfl
  .rfl
  .show wE e _ δ=onO (e δ) _
   rw[Zc4]
  .rfl
  .rfl
 .rfl
def on2(ds:List Xa)(k:Xa->Xa->RS):RS:=match ds with|[d,e]=>k d e|_=>.bad
theorem Yle(d e:Xa)(k:Xa->Xa->RS):on2 [d,e] k=k d e:=rfl
theorem Yfg(i j:Nat)(a:FA)(δ:Zi):Yh4 i j a δ=onO (a δ) λrs δ1=>on2 (OT.datas rs) λd e=>.nx ((δ1.set i (YB (.fz d))).set j (YB (.fz e))):=by
 unfold Yh4 onO on2;cases a δ<;>rfl
theorem Zu2{n:Nat}{S:FS}(h:ds.length=np):Jt np n S ds=(S (Zf0 n ds)).told:=by
 unfold Jt;rw[YL h]
theorem Yf8(δ:Zi):(RS.nx δ).told= .ok (.fz .none):=rfl
theorem Zus(r:OT)(δ:Zi):(RS.rt r δ).told= .ok r:=rfl
theorem Ygb(c:Str)(δ:Zi):(RS.ex c δ).told= .exn c:=rfl
theorem Yim(i j:Int):Zcb (.int i) (.int j)=YB (.int (i+j)):=rfl
theorem Yj0(i j:Int):gSb (.int i) (.int j)=YB (.int (i-j)):=rfl
theorem Yjw(i j:Int):gLt (.int i) (.int j)=YB (.bool (decide (i<j))):=rfl
theorem Ykt(i j:Int):gLe (.int i) (.int j)=YB (.bool (decide (i<=j))):=rfl
theorem Ygo(i j:Int):gGt (.int i) (.int j)=YB (.bool (decide (j<i))):=rfl
theorem Yeg(i j:Int):gGe (.int i) (.int j)=YB (.bool (decide (j<=i))):=rfl
theorem Zel{i j:Int}(h:Z5v i j=YD):Zfy (.int i) (.int j)=YB (.int (i*j)):=by
 unfold Zfy i2c;dsimp only;rw[YL h]
theorem Zhc{i j:Int}(h:Z8h i j=YD):Zat (.int i) (.int j)=YB (.int (i.fdiv j)):=by
 unfold Zat i2c;dsimp only;rw[YL h]
theorem Yaj{i j:Int}(h:j≠0):Zej (.int i) (.int j)=YB (.int (i.fmod j)):=by
 unfold Zej i2c Yh8;dsimp only;rw[YL (YQ h)]
theorem Zd9{m n:Nat}{x:Int}(h:Bt m x)(k:Bt n y)(hmn:m+n<=100000000:=by decide):Z5v x y=YD:=Zgb.mpr (h.mulOk k hmn)
theorem Z72{x:Int}(h:x.natAbs<2^64):Z5v x y=YD:=Zgb.mpr (.of_left (intBits_le_64 (by omega) (by omega)))
theorem Yak{x:Int}(h:y.natAbs<2^64):Z5v x y=YD:=Zgb.mpr (.of_right (intBits_le_64 (by omega) (by omega)))
theorem Zhq{n:Nat}{i j:Int}(h0:j≠0)(h:Bt n j)(hn:n<=9000:=by decide):Z8h i j=YD:=by
 obtain⟨h1,h2⟩:=DivOk.of (i:=i) h0 h hn;unfold Z8h;rw[YQ h1,YQ h2];rfl
theorem Ygf(i j:Int):gEq (.int i) (.int j)=YB (.bool (decide (i=j))):=by
 show YB (PyData.bool (i==j))=_;rw[show(i==j)=decide (i=j)from rfl]
theorem Yea(i j:Int):gNe (.int i) (.int j)=YB (.bool (!decide (i=j))):=by
 show YB (PyData.bool (!(i==j)))=_;rw[show(i==j)=decide (i=j)from rfl]
theorem Yln(d:Xa):gIs d .none=YB (.bool (Ze9 d)):=rfl
theorem Yde(d:Xa):Zmo d .none=YB (.bool (!Ze9 d)):=rfl
theorem Zrg(ds:List Xa)(i:Int):gIx (.list ds) (.int i)=(atI ds i).bind λx=>YB (.fz x):=rfl
theorem Ygc(ds:List Xa)(i:Int):gIx (.tuple ds) (.int i)=(atI ds i).bind λx=>YB (.fz x):=rfl
theorem Zlu(ds:List Xa):Zac [.list ds]=YB (.int ds.length):=rfl
theorem Z16(ds:List Xa):Zac [.tuple ds]=YB (.int ds.length):=rfl
theorem Zwn(i:Int):Z7l [.int i]=YB (.int (i.natAbs:Int)):=by
 show YB (Xl (if i<0 then -i else i))=_;congr 2;split<;>omega
theorem Yiv(i j:Int):Ylj [.int i,.int j]=YB (.int (if j>i then j else i)):=rfl
theorem Ya8(i j:Int):Z1o [.int i,.int j]=YB (.int (if j<i then j else i)):=rfl
theorem Yh0(i:Int):Yie [.int i]=YB (.int i):=rfl
theorem Yil(b:Bool):Yie [.bool b]=YB (.int (if b then 1 else 0)):=rfl
theorem Yfp(ds:List Xa):Zs0 [.list ds]=YB (.nd (ds.map OT.fz)):=rfl
theorem Z5y(ds:List Xa):Zs0 [.tuple ds]=YB (.nd (ds.map OT.fz)):=rfl
theorem Yb2{es:List Xa}(h:ds.length+es.length<=Xv):Zwy (.list ds) (.list es)=YB (.nd ((ds++es).map OT.fz)):=by
 unfold Zwy;dsimp only;rw[YL h]
theorem Ycm(i:Int):Zw2 (.int i)=YB (.int (-i)):=rfl
theorem Yh2(b:Bool):Ydc (.bool b)=YB (.bool (!b)):=rfl
theorem Yg9(b:Bool):Zxe (.bool b)=YB b:=rfl
theorem Yhj(i:Int):Zxe (.int i)=YB (i !=0):=rfl
theorem Yih:Zxe .none=YB YF:=rfl
theorem Yi5(ds:List Xa):Zxe (.list ds)=YB (!ds.isEmpty):=rfl
theorem Zn6{u:FS}(I:Nat->Zi->Prop)(h0:I 0 δ)
  (turn:∀(i:Nat) (d:Xa) (δ:Zi),ds[i]? =YB d->I i δ->∃δ1 δ2,gg d δ=YB δ1/\(u δ1= .nx δ2\/u δ1= .ct δ2)/\I (i+1) δ2):∃δ',forLoop gg u ds δ= .nx δ'/\I ds.length δ':=by
 induction ds generalizing δ I with
 | nil=>exact⟨δ,rfl,h0⟩
 | cons d ds ih=>
  obtain⟨δ1,δ2,e1,e2,h1⟩:=turn 0 d δ rfl h0;obtain⟨δ',e3,h3⟩:=ih (δ:=δ2) (λi δ=>I (i+1) δ) h1 λi d' δ hd hi=>turn (i+1) d' δ (by simpa using hd) hi;refine⟨δ',?_,h3⟩;rw[Jz,e1];dsimp only;rcases e2 with e2|e2<;>rw[e2]<;>exact e3
def Goes(r:RS)(Q:Zi->Prop):Prop:=∃δ,(r= .nx δ\/r= .ct δ)/\Q δ
theorem Goes.nx{Q:Zi->Prop}(h:Q δ):Goes (.nx δ) Q:=⟨δ,.inl rfl,h⟩
theorem Goes.ct{Q:Zi->Prop}(h:Q δ):Goes (.ct δ) Q:=⟨δ,.inr rfl,h⟩
theorem Zv2{cs:Zi}(mk:α->Xa)(f:α->OT):∀(xs:List α) (z:Option OT),(∀x∈xs,me (YB (.fz (mk x))::cs)=YB (f x,YB (.fz (mk x))::cs)) ->
  ∃z',compLoop (gNm 0) Zil me (xs.map mk) (z::cs)=YB (xs.map f,z'::cs)
 | [],z,_=>⟨z,rfl⟩
 | x::xs,z,h=>by
  obtain⟨z',e⟩:=Zv2 mk f xs (YB (.fz (mk x))) λy hy=>h y (.tail _ hy);refine⟨z',?_⟩;rw[XC,compLoop];show(YB (YB (OT.fz (mk x))::cs)).bind _=_;rw[Xh];show(YB (YD,YB (OT.fz (mk x))::cs)).bind _=_;rw[Xh,YL rfl,h x (.head _),Xh,e];rfl
theorem Zoa{t:FT}{cs:Zi}(mk:α->Xa)(p:α->Bool)(f:α->OT):∀(xs:List α) (z:Option OT),(∀x∈xs,t (YB (.fz (mk x))::cs)=YB (p x,YB (.fz (mk x))::cs))->(∀x∈xs,p x=YD->me (YB (.fz (mk x))::cs)=YB (f x,YB (.fz (mk x))::cs)) ->
  ∃z',compLoop (gNm 0) t me (xs.map mk) (z::cs)=YB ((xs.filter p).map f,z'::cs)
 | [],z,_,_=>⟨z,rfl⟩
 | x::xs,z,ht,h=>by
  obtain⟨z',e⟩:=Zoa mk p f xs (YB (.fz (mk x))) (λy hy=>ht y (.tail _ hy)) λy hy=>h y (.tail _ hy);refine⟨z',?_⟩;rw[XC,compLoop];show(YB (YB (OT.fz (mk x))::cs)).bind _=_;rw[Xh,ht x (.head _),Xh];dsimp only
  by_cases hp:p x=YD
  .rw[YL hp,h x (.head _) hp,Xh,e,Vz hp];rfl
  .rw[YM hp,e,VB hp]
theorem Zor{cs:Zi}(xs:List α)(mk:α->Xa)(f:α->OT)(hi:it δ=YB (xs.map mk,δ1))(hz:xs.length<=Xv)(hb:blk 1 caps δ1=YC::cs)
  (h:∀x∈xs,me (YB (.fz (mk x))::cs)=YB (f x,YB (.fz (mk x))::cs)):Yu 1 caps it (gNm 0) Zil me δ=YB (.nd (xs.map f),δ1):=by
 unfold Yu;rw[hi,Xh];dsimp only;rw[YL (by rw[Xe];exact hz),hb];obtain⟨z',e⟩:=Zv2 (me:=me) (cs:=cs) mk f xs YC h;rw[e];rfl
theorem Zuz{t:FT}{cs:Zi}(xs:List α)(mk:α->Xa)(p:α->Bool)(f:α->OT)(hi:it δ=YB (xs.map mk,δ1))(hz:xs.length<=Xv)(hb:blk 1 caps δ1=YC::cs)
  (ht:∀x∈xs,t (YB (.fz (mk x))::cs)=YB (p x,YB (.fz (mk x))::cs)) (h:∀x∈xs,p x=YD->me (YB (.fz (mk x))::cs)=YB (f x,YB (.fz (mk x))::cs)):Yu 1 caps it (gNm 0) t me δ=YB (.nd ((xs.filter p).map f),δ1):=by
 unfold Yu;rw[hi,Xh];dsimp only;rw[YL (by rw[Xe];exact hz),hb];obtain⟨z',e⟩:=Zoa (t:=t) (me:=me) (cs:=cs) mk p f xs YC ht h;rw[e];rfl
theorem Yjk:(2<=Xv)=True:=by simp[Qh]
theorem Ylm:(1<=Xv)=True:=by simp[Qh]
theorem Ykm:(0<=Xv)=True:=by simp
theorem Ygl:(3<=Xv)=True:=by simp[Qh]
theorem Zqa(f:α->Xa)(xs:List α):(xs.map λx=>OT.fz (f x)).map OT.data=xs.map f:=by
 rw[XQ];exact Xr λx _=>OT.data_fz _
theorem Z29{j:Int}{x:α}(h0:0<=j)(h1:j<=1000000):(if rOk j=YD then YB x else YC)=YB x:=YL (Ziz (by omega) h1)
theorem Z67{i j:Int}{x:α}(h0:0<=i)(h1:i<=1000000)(h2:0<=j)(h3:j<=1000000):(if(rOk i&&rOk j)=YD then YB x else YC)=YB x:=YL (by rw[Ziz (by omega) h1,Ziz (by omega) h3];rfl)
theorem Z1e{r:RS}{k:Nat}(h:k<=1000000):(if k<Xv then r else .bad)=r:=YL (by rw[Qh];omega)
def EvV(e:FE)(δ:Zi)(d:Xa):Prop:=∃t,e δ=YB (t,δ)/\t.data=d
def EvA(a:FA)(δ:Zi)(ds:List Xa):Prop:=∃ts,a δ=YB (ts,δ)/\OT.datas ts=ds
def EvT(t:FT)(δ:Zi)(b:Bool):Prop:=t δ=YB (b,δ)
def Told(F:FD)(ds:List Xa)(d:Xa):Prop:=∃t,F ds= .ok t/\t.data=d
end L2
variable {S':FS}{cs:Zi}
namespace L2
open PySem PySem.Spec PyProof.Rows
section
variable {e a b:FE}{as:FA}{x y d:Xa}{xs:List Xa}{t u:FT}{S:FS}{r:RS}
theorem EvV.cast{e:FE}{x y:Xa}(h:EvV e δ x)(k:x=y):EvV e δ y:=k▸h
theorem Za(h:δ[i]? =YB (YB (.fz d)):=by rfl):EvV (Ze i) δ d:=⟨_,by rw[Zwa,h,Zsw],OT.data_fz _⟩
theorem Zlp{t:OT}(h:δ[i]? =YB (YB t))(hd:t.data=d):EvV (Zkr i) δ d:=⟨_,by rw[Z5n,h,Z5i],by rw[OT.data_fz,hd]⟩
theorem Yb:EvV (fC d) δ d:=⟨_,rfl,OT.data_fz _⟩
theorem Zy{g:Xa->Xa->Option Xa}(ha:EvV a δ x)(hb:EvV b δ y)(h:g x y=YB d):EvV (Zj g a b) δ d:=by
 obtain⟨_,e1,d1⟩:=ha;obtain⟨_,e2,d2⟩:=hb;exact⟨_,by rw[Zy9,e1,Xh,e2,Xh,d1,d2,h,Xh],OT.data_fz _⟩
theorem Ztu{g:Xa->Xa->Option OT}(ha:EvV a δ x)(hb:EvV b δ y)(h:g x y=YB o)(hd:o.data=d):EvV (Ym g a b) δ d:=by
 obtain⟨_,e1,d1⟩:=ha;obtain⟨_,e2,d2⟩:=hb;exact⟨_,by rw[Z28,e1,Xh,e2,Xh,d1,d2,h,Xh],hd⟩
theorem Zaa(ha:EvV a δ x)(hb:EvV b δ y)(h:gIx x y=YB (.fz d)):EvV (Ym gIx a b) δ d:=Ztu ha hb h (OT.data_fz _)
theorem Ws{i j:Int}(ha:EvV a δ (.int i))(hb:EvV b δ (.int j)):EvV (Zj Zcb a b) δ (.int (i+j)):=Zy ha hb rfl
theorem Zof{i j:Int}(ha:EvV a δ (.int i))(hb:EvV b δ (.int j)):EvV (Zj gSb a b) δ (.int (i-j)):=Zy ha hb rfl
theorem Ybe{g:Xa->Option Xa}(ha:EvV a δ x)(h:g x=YB d):EvV (fUn g a) δ d:=by
 obtain⟨_,e1,d1⟩:=ha;exact⟨_,by rw[Z77,e1,Xh,d1,h,Xh],OT.data_fz _⟩
theorem Zgd(ha:EvV a δ (.bool YD))(hb:EvV b δ d):EvV (Zw6 a b) δ d:=by
 obtain⟨_,e1,d1⟩:=ha;obtain⟨_,e2,d2⟩:=hb;exact⟨_,by rw[Z69,e1,Xh,d1,Yfo,e2],d2⟩
theorem Zet{T:String}(ha:EvV a δ x)(hf:Zgq x=YF:=by rfl):EvV (Znm T a) δ (.bool (Zo9 T x)):=by
 obtain⟨_,e1,d1⟩:=ha;exact⟨_,by rw[Z66,e1,Xh,d1,YM (by rw[hf];decide)],OT.data_fz _⟩
theorem Zm:EvA Zo δ []:=⟨_,rfl,Zcp⟩
theorem Zb(h:EvV e δ d)(k:EvA as δ ds):EvA (Zc e as) δ (d::ds):=by
 obtain⟨_,e1,d1⟩:=h;obtain⟨_,e2,d2⟩:=k;exact⟨_,by rw[Zge,e1,Xh,e2,Xh],by rw[Zbh,d1,d2]⟩
theorem Zq(h:EvA as δ ds)(k:Told F ds d):EvV (Z4 F as) δ d:=by
 obtain⟨_,e1,d1⟩:=h;obtain⟨_,e2,d2⟩:=k;exact⟨_,by rw[Zzs,e1,Xh,d1,e2,Yal],d2⟩
theorem Zay{g:List Xa->Option Xa}(h:EvA as δ ds)(k:g ds=YB d):EvV (J1 g as) δ d:=by
 obtain⟨_,e1,d1⟩:=h;exact⟨_,by rw[Z26,e1,Xh,d1,k,Xh],OT.data_fz _⟩
theorem Zqv{g:List Xa->Option OT}(h:EvA as δ ds)(k:g ds=YB o)(hd:o.data=d):EvV (fBl g as) δ d:=by
 obtain⟨_,e1,d1⟩:=h;exact⟨_,by rw[Zu5,e1,Xh,d1,k,Xh],hd⟩
theorem Zew:∀ts:List OT,(OT.datas ts).length=ts.length
 | []=>by rw[Zcp];rfl
 | t::ts=>by rw[Zbh,Vh,Vh,Zew ts]
theorem datas_map:∀ts:List OT,OT.datas ts=ts.map OT.data
 | []=>Zcp
 | t::ts=>by rw[Zbh,XC,datas_map ts]
theorem Zbd(h:EvA as δ ds)(hl:ds.length<=1000):EvV (Zgn as) δ (.tuple ds):=by
 obtain⟨ts,e1,d1⟩:=h;have:=Zew ts;rw[d1]at this;exact⟨_,by rw[Z6h,e1,Xh,YL (by rw[Qh];show ts.length<=_;omega)],by rw[OT.data_fz];exact YT _ d1⟩
theorem Zei(h:EvA as δ ds)(hl:ds.length<=1000):EvV (Zek as) δ (.list ds):=by
 obtain⟨ts,e1,d1⟩:=h;have:=Zew ts;rw[d1]at this;exact⟨_,by rw[Zuh,e1,Xh,YL (by rw[Qh];show ts.length<=_;omega)],by rw[OT.data_nd,<-datas_map,d1]⟩
theorem Zmn{b:Bool}(h:o.data= .bool b):o= .fz (.bool b):=by
 cases o with
 | fz d=>rw[OT.data_fz]at h;rw[h]
 | nd ts=>rw[OT.data_nd]at h;cases h
 | tp ts=>rw[OT.data_tp]at h;cases h
 | dc _ _ _=>rw[OT.data_dc]at h;cases h
theorem Zdm(h:EvV e δ (.bool p)):EvT (tV e) δ p:=by
 obtain⟨_,e1,d1⟩:=h;unfold EvT;rw[Yfk,e1,Xh,Zmn d1,Yb8]
theorem Yc4(h:EvV e δ d)(k:Zxe d=YB p):EvT (tD e) δ p:=by
 obtain⟨_,e1,d1⟩:=h;unfold EvT;rw[Ydz,e1,Xh,d1,k,Xh]
theorem Zj7(h:EvV e δ (.bool p)):EvT (tD e) δ p:=Yc4 h rfl
theorem Zwp(h:EvT t δ p):EvT (tNo t) δ (!p):=by
 unfold EvT at h|-
 rw[Yci,h,Xh]
theorem Ybz(h:EvT t δ YD)(k:EvT u δ p):EvT (tAn t u) δ p:=by
 unfold EvT at h k|-
 rw[Z1k,h,Xh,YL rfl,k]
theorem Z3t(h:EvT t δ YF):EvT (tAn t u) δ YF:=by
 unfold EvT at h|-
 rw[Z1k,h,Xh,YM Xn]
theorem Ygj(h:EvT t δ YF)(k:EvT u δ p):EvT (tO t u) δ p:=by
 unfold EvT at h k|-
 rw[Yem,h,Xh,YM Xn,k]
theorem Y0(h:S δ= .nx δ')(k:S' δ'=r):Z5 S S' δ=r:=by rw[Zvx,h,Ybi,k]
theorem Zvt(h:S δ= .rt o δ'):Z5 S S' δ= .rt o δ':=by rw[Zvx,h,Yab]
theorem Zw(h:EvV e δ d):wE e (Y9 i) δ= .nx (δ.set i (YB (.fz d))):=by
 obtain⟨_,e1,d1⟩:=h;rw[Zc4,e1,Wa,Zvr,d1]
theorem Z08(h:EvV e δ d):∃o,wE e Jm δ= .rt o δ/\o.data=d:=by
 obtain⟨_,e1,d1⟩:=h;exact⟨_,by rw[Zc4,e1,Wa,Z2b],d1⟩
theorem Za8(h:EvT t δ YD)(k:S δ=r):Zbg t S S' δ=r:=by
 unfold EvT at h;rw[Zwu,h,Wa,YL rfl,k]
theorem Yn(h:EvT t δ YF)(k:S' δ=r):Zbg t S S' δ=r:=by
 unfold EvT at h;rw[Zwu,h,Wa,YM (by decide),k]
def Zjn(S:FS)(δ:Zi)(d:Xa):Prop:=∃o δ',S δ= .rt o δ'/\o.data=d
theorem Z2(h:S δ= .nx δ')(k:Zjn S' δ' d):Zjn (Z5 S S') δ d:=by
 obtain⟨o,δ2,e,hd⟩:=k;exact⟨o,δ2,Y0 h e,hd⟩
theorem Zb2(k:Zjn S δ d):Zjn (Z5 S S') δ d:=by
 obtain⟨o,δ2,e,hd⟩:=k;exact⟨o,δ2,Zvt e,hd⟩
theorem Yg(h:EvV e δ d):Zjn (wE e Jm) δ d:=by
 obtain⟨o,e1,hd⟩:=Z08 h;exact⟨o,δ,e1,hd⟩
theorem Zfg(h:EvT t δ YD)(k:Zjn S δ d):Zjn (Zbg t S S') δ d:=by
 obtain⟨o,δ2,e,hd⟩:=k;exact⟨o,δ2,Za8 h e,hd⟩
theorem Z1{n:Nat}(hl:xs.length=np)(k:Zjn S (Zf0 n xs) d):Told (Jt np n S) xs d:=by
 obtain⟨o,δ2,e,hd⟩:=k;exact⟨o,by rw[Zu2 hl,e,Zus],hd⟩
def EvO(o:FO)(δ:Zi)(l:Option Int):Prop:=o δ=YB (l,δ)
theorem Ylr:EvO oN δ YC:=rfl
theorem Ykq{i:Int}(h:EvV e δ (.int i)):EvO (oI e) δ (YB i):=by
 obtain⟨_,e1,d1⟩:=h;unfold EvO;rw[Yd2,e1,Xh,d1,Zve]
theorem Yd9{lo:FO}{l h:Option Int}(he:EvV e δ (.list ds))(hl:EvO lo δ l)(hh:EvO hi δ h):EvV (fSl e lo hi) δ (.list (cutD ds l h)):=by
 obtain⟨_,e1,d1⟩:=he;unfold EvO at hl hh;exact⟨_,by rw[Yb3,e1,Xh,hl,Xh,hh,Xh,d1,Zs5],by rw[OT.data_nd,OT.map_fz]⟩
theorem Zo8{es:List Xa}(ha:EvV a δ (.list ds))(hb:EvV b δ (.list es))(h:ds.length+es.length<=1000000):EvV (Ym Zwy a b) δ (.list (ds++es)) :=
 Ztu ha hb (Yb2 (by rw[Qh];omega)) (by rw[OT.data_nd,OT.map_fz])
def EvI(it:FI)(δ:Zi)(ds:List Xa):Prop:=it δ=YB (ds,δ)
theorem Jw(h:EvV e δ (.list ds)):EvI (Zfz e) δ ds:=by
 obtain⟨_,e1,d1⟩:=h;unfold EvI;rw[Z53,e1,Xh,d1,Zs5]
theorem Zkf{n:Nat}(h:EvA as δ [.int n])(hn:n<=1000000):EvI (iRa as) δ (Zda 0 n):=by
 obtain⟨_,e1,d1⟩:=h;unfold EvI;rw[Z04,e1,Xh,d1,Z60,Z29 (by omega) (by omega),QV]
theorem Zfx(h:EvI it δ ds)(k:forLoop g S ds δ=r):J5 it g S δ=r:=by
 unfold EvI at h;rw[Z4n,h,Wa,k]
theorem Zd1(xs:List α)(mk f:α->Xa)(hi:EvI it δ (xs.map mk))(hz:xs.length<=1000000)(hb:blk 1 caps δ=YC::cs)(h:∀x∈xs,EvV me (YB (.fz (mk x))::cs) (f x)):EvV (Yu 1 caps it (gNm 0) Zil me) δ (.list (xs.map f)):=by
 have g:∀x,∃o:OT,x∈xs->me (YB (.fz (mk x))::cs)=YB (o,YB (.fz (mk x))::cs)/\o.data=f x:=λx=>by
  by_cases c:x∈xs
  .obtain⟨o,h1,h2⟩:=h x c
   exact⟨o,λ_=>⟨h1,h2⟩⟩
  .exact⟨.fz .none,λz=>YX z c⟩
 obtain⟨o,ho⟩:=Classical.axiomOfChoice g;unfold EvI at hi;refine⟨_,Zor (cs:=cs) xs mk o hi (by rw[Qh];omega) hb (λx hx=>(ho x hx).1),?_⟩;rw[OT.data_nd,XQ];exact YT _ (Xr λx hx=>(ho x hx).2)
theorem Zig(h:EvV e δ d)(hi:δ[i]? =YB (YB (.nd ts)))(hl:ts.length<=1000000):Wf i e δ= .nx (δ.set i (YB (.nd (ts++[.fz d])))):=by
 obtain⟨_,e1,d1⟩:=h;rw[Zix,hi,Zx4,e1,Wa,hi,Zx4,Z1e hl,d1]
theorem Ze2(h:e δ=YB (o,δ)):wE e (Zas i) δ= .nx (δ.set i (YB o)):=by rw[Zc4,h,Wa,Zwz]
theorem Ydh(h:δ[i]? =YB (YB o))(hd:o.data=d):Zjn (Zdf i) δ d:=⟨o,_,by rw[Zo5,h,Z7c],hd⟩
theorem Zt5(h:δ[i]? =YB (YB o))(k:S (δ.set i (YB (.fz o.data)))=r):Zhg i S δ=r:=by rw[Zqz,h,Z7c,k]
theorem Told.ok{F:FD}{b:Bool}(h:Told F ds (.bool b)):F ds= .ok (.fz (.bool b)):=by
 obtain⟨o,e1,d1⟩:=h;rw[e1,Zmn d1]
theorem Zov{i:Int}(h:o.data= .int i):o= .fz (.int i):=by
 cases o with
 | fz d=>rw[OT.data_fz]at h;rw[h]
 | nd ts=>rw[OT.data_nd]at h;cases h
 | tp ts=>rw[OT.data_tp]at h;cases h
 | dc _ _ _=>rw[OT.data_dc]at h;cases h
theorem Told.int{F:FD}{i:Int}(h:Told F ds (.int i)):F ds= .ok (.fz (.int i)):=by
 obtain⟨o,e1,d1⟩:=h;rw[e1,Zov d1]
theorem Zs3(h:o.data= .none):o= .fz .none:=by
 cases o with
 | fz d=>rw[OT.data_fz]at h;rw[h]
 | nd ts=>rw[OT.data_nd]at h;cases h
 | tp ts=>rw[OT.data_tp]at h;cases h
 | dc _ _ _=>rw[OT.data_dc]at h;cases h
theorem Told.of(h:F ds= .ok o)(hd:o.data=d):Told F ds d:=⟨o,h,hd⟩
end
section
variable {e a b:FE}{as:FA}{x y d:Xa}{xs:List Xa}{i j:Int}{k:Nat}{t u:FT}{S:FS}{r:RS}{Q:Xa->Prop}
theorem Ji(ha:EvV a δ (.int i))(hb:EvV b δ (.int j))(h:j≠0):EvV (Zj Zej a b) δ (.int (i.fmod j)):=Zy ha hb (Yaj h)
theorem Z97{i j:Int}(h:(decide (0<j)&&decide (j<18446744073709551616))=YD):Zat (.int i) (.int j)=YB (.int (i.fdiv j)):=by
 rw[Xp,decide_eq_true_eq,decide_eq_true_eq]at h;exact Zhc (Zhq (n:=64) (by omega) (Bt.of_lt (by omega) (by omega)))
theorem Zc7(ha:EvV a δ (.int i))(hb:EvV b δ (.int j))(h:(decide (0<j)&&decide (j<18446744073709551616))=YD:=by decide):EvV (Zj Zat a b) δ (.int (i.fdiv j)):=Zy ha hb (Z97 h)
theorem Zd6(ha:EvV a δ (.int i))(hb:EvV b δ (.int j))(h:i.natAbs<2^64:=by decide):EvV (Zj Zfy a b) δ (.int (i*j)):=Zy ha hb (Zel (Z72 h))
theorem Zsf(ha:EvV a δ (.int i))(hb:EvV b δ (.int j))(h:j.natAbs<2^64:=by decide):EvV (Zj Zfy a b) δ (.int (i*j)):=Zy ha hb (Zel (Yak h))
theorem Zmk(ha:EvV a δ (.int i))(hb:EvV b δ (.int j))(h:decide (i<j)=p):EvV (Zj gLt a b) δ (.bool p):=h▸Zy ha hb rfl
theorem Yba(ha:EvV a δ (.int i))(hb:EvV b δ (.int j))(h:decide (i<=j)=p):EvV (Zj gLe a b) δ (.bool p):=h▸Zy ha hb rfl
theorem Zne(ha:EvV a δ (.int i))(hb:EvV b δ (.int j))(h:decide (j<i)=p):EvV (Zj gGt a b) δ (.bool p):=h▸Zy ha hb (Ygo _ _)
theorem Ybb(ha:EvV a δ (.int i))(hb:EvV b δ (.int j))(h:decide (j<=i)=p):EvV (Zj gGe a b) δ (.bool p):=h▸Zy ha hb (Yeg _ _)
theorem Zup(ha:EvV a δ (.int i))(hb:EvV b δ (.int j))(h:decide (i=j)=p):EvV (Zj gEq a b) δ (.bool p):=h▸Zy ha hb (Ygf _ _)
theorem Z6v(ha:EvV a δ (.int i))(hb:EvV b δ (.int j))(h:(!decide (i=j))=p):EvV (Zj gNe a b) δ (.bool p):=h▸Zy ha hb (Yea _ _)
theorem Zs7(ha:EvV a δ (.int i)):EvV (fUn Zw2 a) δ (.int (-i)):=Ybe ha (Ycm _)
theorem Zeq(h:EvV e δ (.list ds)):EvV (J1 Zac (Zc e Zo)) δ (.int ds.length):=Zay (Zb h Zm) (Zlu ds)
theorem Z0p(ha:EvV a δ (.list ds))(hb:EvV b δ (.int i))(h:atI ds i=YB d):EvV (Ym gIx a b) δ d:=Zaa ha hb (by rw[Zrg,h];rfl)
def Zpz(S:FS)(δ:Zi)(Q:Xa->Prop):Prop:=∃d,Zjn S δ d/\Q d
theorem Jh(h:S δ= .nx δ')(k:Zpz S' δ' Q):Zpz (Z5 S S') δ Q:=k.imp λ_ k=>⟨Z2 h k.1,k.2⟩
theorem Zxp(k:Zpz S δ Q):Zpz (Z5 S S') δ Q:=k.imp λ_ k=>⟨Zb2 k.1,k.2⟩
theorem Zox(h:EvV e δ d)(k:Q d):Zpz (wE e Jm) δ Q:=⟨d,Yg h,k⟩
theorem Z2z(h:EvT t δ YD)(k:Zpz S δ Q):Zpz (Zbg t S S') δ Q:=k.imp λ_ k=>⟨Zfg h k.1,k.2⟩
theorem Ydp(h:δ[k]? =YB (YB o))(hd:Q o.data):Zpz (Zdf k) δ Q:=⟨_,Ydh h rfl,hd⟩
theorem Zm1{n:Nat}(hl:xs.length=np)(h:Zpz S (Zf0 n xs) Q):∃d,Told (Jt np n S) xs d/\Q d:=h.imp λ_ k=>⟨Z1 hl k.1,k.2⟩
theorem Zif(I:Nat->Zi->Prop)(hi:EvI it δ ds)(h0:I 0 δ)(turn:∀(i:Nat) (d:Xa) (δ:Zi),ds[i]? =YB d->I i δ->∃δ1 δ2,g d δ=YB δ1/\(S δ1= .nx δ2\/S δ1= .ct δ2)/\I (i+1) δ2)(k:∀δ',I ds.length δ'->Zpz S' δ' Q):Zpz (Z5 (J5 it g S) S') δ Q:=by
 obtain⟨δ',e,h⟩:=Zn6 I h0 turn;exact Jh (Zfx hi e) (k δ' h)
theorem Zi2(I:Nat->Zi->Prop)(hi:EvI it δ ds)(h0:I 0 δ)(turn:∀(i:Nat) (d:Xa) (δ:Zi),ds[i]? =YB d->I i δ->∃δ1 δ2,g d δ=YB δ1/\(S δ1= .nx δ2\/S δ1= .ct δ2)/\I (i+1) δ2)(k:∀δ',I ds.length δ'->Zjn S' δ' d):Zjn (Z5 (J5 it g S) S') δ d:=by
 obtain⟨δ',e,h⟩:=Zn6 I h0 turn;exact Z2 (Zfx hi e) (k δ' h)
theorem Zdy(I:Nat->Zi->Prop)(hi:EvI it δ ds)(h0:I 0 δ)(turn:∀(i:Nat) (d:Xa) (δ:Zi),ds[i]? =YB d->I i δ->∃δ1 δ2,g d δ=YB δ1/\(S δ1= .nx δ2\/S δ1= .ct δ2)/\I (i+1) δ2):∃δ',J5 it g S δ= .nx δ'/\I ds.length δ':=by
 obtain⟨δ',e,h⟩:=Zn6 I h0 turn;exact⟨δ',Zfx hi e,h⟩
theorem Z49{m n:Nat}(h:EvA as δ [.int m,.int n])(hm:m<=1000000)(hn:n<=1000000):EvI (iRb as) δ (Zda m (n-m)):=by
 obtain⟨_,e1,d1⟩:=h;unfold EvI;rw[Yai,e1,Xh,d1,Yfe,Z67 (by omega) (by omega) (by omega) (by omega),show((n:Int)-(m:Int)).toNat=n-m by omega]
theorem Zhi:wE (Zek Zo) (Zas k) δ= .nx (δ.set k (YB (.nd []))):=Ze2 (by rw[Zuh];rfl)
theorem Zdu{i:Int}(h:0<j):0<=i.fmod j:=by rw[Zgl h];exact Int.emod_nonneg _ (by omega)
theorem Zds{i:Int}(h:0<j):i.fmod j<j:=by rw[Zgl h];exact Int.emod_lt_of_pos _ h
theorem Zeo(i:Int){n:Nat}(h:0<n):∃m:Nat,i.fmod (n:Int)=m/\m<n:=by
 have h0:=Zdu (i:=i) (j:=n) (by omega);have h1:=Zds (i:=i) (j:=n) (by omega);exact⟨(i.fmod n).toNat,by omega,by omega⟩
theorem Z6i{ts0:List OT}(h:e δ=YB (o,δ'))(h0:δ[k]? =YB (YB (.nd ts0)))(h1:δ'[k]? =YB (YB (.nd ts)))(hl:ts.length<=1000000):Wf k e δ= .nx (δ'.set k (YB (.nd (ts++[.fz o.data])))):=by
 rw[Zix,h0,Zx4,h,Wa,h1,Zx4,Z1e hl]
theorem Zsk{es:List Xa}(h:EvA as δ ds)(hz:Z7p ds=YB es):EvI (Zkp as) δ es:=by
 obtain⟨_,e1,d1⟩:=h;unfold EvI Zkp;rw[e1,Xh,d1,hz,Xh]
theorem Z81{n:Nat}(hn:n<=1000000){v:Option OT}:(Z7k (fC d) (Ze 1)) [v,YB (.fz (.int n))]=YB (.nd (X7 n (.fz d)),[v,YB (.fz (.int n))]):=by
 obtain⟨_,e1,d1⟩:=Za (δ:=[v,YB (.fz (.int n))]) (i:=1) (d:=.int n);rw[Z6y,Yfd,Xh,e1,Xh,d1,Zve,YL ⟨Ziz (by omega) (by omega),by rw[Qh];omega⟩,QV,OT.data_fz]
theorem Zyv(I:Nat->Zi->Prop){J:Zi->Prop}(hg:gg d δ=YB δ1)(hi:EvI it δ1 ds)(h0:I 0 δ1)(turn:∀(i:Nat) (d:Xa) (δ:Zi),ds[i]? =YB d->I i δ->∃δ1 δ2,g d δ=YB δ1/\(S δ1= .nx δ2\/S δ1= .ct δ2)/\I (i+1) δ2)(hJ:∀δ',I ds.length δ'->J δ'):∃δ1 δ2,gg d δ=YB δ1/\(J5 it g S δ1= .nx δ2\/J5 it g S δ1= .ct δ2)/\J δ2:=by
 obtain⟨δ',e,h⟩:=Zn6 I h0 turn;exact⟨δ1,δ',hg,.inl (Zfx hi e),hJ δ' h⟩
theorem Zo7{T:String}(ha:EvV a δ x)(h:Zo9 T x=p)(hf:Zgq x=YF:=by rfl):EvV (Znm T a) δ (.bool p):=(Zet ha hf).cast (by rw[h])
theorem Zvb{a b:FE}{bs es:List Xa}{as:List Xa}(ha:EvV a δ (.list as))(hb:EvV b δ (.list bs))(hz:Zks as bs=es):EvI (Zkp (Zc a (Zc b Zo))) δ es:=Zsk (Zb ha (Zb hb Zm)) (YT YB hz)
theorem Z4t(ha:EvV a δ (.list ds)):EvI (Zxd (Zc a Zo)) δ (Zjp ds):=by
 obtain⟨_,e1,d1⟩:=Zb ha Zm;unfold EvI Zxd;rw[e1,Xh];dsimp only;rw[d1]
theorem Zyu{y:Str}(h:δ[k]? =YB (YB (.fz (fnD y))))(ha:EvA as δ ds)(hF:Told F ds d):EvV (Zer k y F as) δ d:=by
 obtain⟨o,e1,d1⟩:=Zq ha hF;refine⟨o,?_,d1⟩;unfold Zer;rw[h];dsimp only;rw[YL (Z6a y),e1]
theorem Zja{t:FT}(xs:List α)(mk:α->Xa)(pr:α->Bool)(hi:EvI it δ (xs.map mk))(hz:xs.length<=1000000)(hb:blk 1 caps δ=YC::cs)(ht:∀x∈xs,EvT t (YB (.fz (mk x))::cs) (pr x))(h:∀x∈xs,pr x=YD->me (YB (.fz (mk x))::cs)=YB (.fz (mk x),YB (.fz (mk x))::cs)):EvV (Yu 1 caps it (gNm 0) t me) δ (.list ((xs.filter pr).map mk)):=by
 unfold EvI at hi;refine⟨_,Zuz (cs:=cs) xs mk pr (λx=>.fz (mk x)) hi (by rw[Qh];omega) hb (λx hx=>ht x hx) h,?_⟩;rw[OT.data_nd,XQ];exact YT _ (Xr λx _=>OT.data_fz _)
theorem Told.none{F:FD}(h:Told F ds .none):F ds= .ok (.fz .none):=by
 obtain⟨o,e1,d1⟩:=h;rw[e1,Zs3 d1]
end
end L2
namespace My
open PySem L2 PySem.Spec
def Ja:FS :=
 (Z5 (wE (J1 Z7l (Zc (Ze 0) Zo)) (Y9 0))
  (Z5 (wE (J1 Z7l (Zc (Ze 1) Zo)) (Y9 1))
  (Z5 (Zi1 (tV (Zj gNe (Ze 1) (fC (.int 0)))) (Z5 (wE (Zj Zej (Ze 0) (Ze 1)) (Y9 2))
  (Z5 (wE (Ze 1) (Y9 0))
  (wE (Ze 2) (Y9 1)))))
  (wE (Ze 0) Jm))))
def Z8:FD:=Jt 2 3 Ja
theorem Zjw{f1 f2:Int->Int->Option OT->Zi}{t:FT}{u:FS}(ht:∀x y z,t (f1 x y z)=YB (!decide (y=0),f1 x y z))(hu:∀x y z,y≠0->∃z',u (f1 x y z)= .nx (f1 y (x.fmod y) z')) :
  ∀(n:Nat) (x y:Int) (z:Option OT),0<=x->0<=y->y.toNat<n->∃z',whileLoop t u n (f1 x y z)= .nx (f1 (Bs x y:Int) 0 z')
 | 0,_,_,_,_,_,h=>YX h (Vp _)
 | n+1,x,y,z,hx,hy,h=>by
  unfold whileLoop;rw[ht];dsimp only
  by_cases c:y=0
  .subst c
   refine⟨z,?_⟩;simp only[decide_true,Bool.not_true,Vk,if_false];rw[Int.gcd_zero_right];congr 2;omega
  .simp only[c,decide_false,Bool.not_false,if_true]
   obtain⟨z1,e1⟩:=hu x y z c;rw[e1];dsimp only;have hm:x.fmod y=x%y:=Zgl (by omega);have h1:0<=x%y:=Int.emod_nonneg x c;have h2:x%y<y:=Int.emod_lt_of_pos x (by omega);obtain⟨z2,e2⟩:=Zjw (f1:=f1) (f2:=f2) ht hu n y (x.fmod y) z1 hy (by omega) (by omega);exact⟨z2,by rw[e2,Zyz hx (by omega)]⟩
theorem Zao(a b:Int):Z8 [.int a,.int b]= .ok (.fz (.int (Bs a b:Int))):=by
 obtain⟨z',e⟩:=Zjw (f1:=λx y z=>[YB (.fz (.int x)),YB (.fz (.int y)),z]) (f2:=λx y z=>[]) (t:=tV (Zj gNe (Ze 1) (fC (.int 0)))) (u:=Z5 (wE (Zj Zej (Ze 0) (Ze 1)) (Y9 2)) (Z5 (wE (Ze 1) (Y9 0)) (wE (Ze 2) (Y9 1)))) (λx y z=>Zdm (Z6v Za Yb rfl)) (λx y z hy=>⟨_,Y0 (Zw (Ji Za Za hy)) (Y0 (Zw Za) (Zw Za))⟩) ((b.natAbs:Int).toNat+1) (a.natAbs:Int) (b.natAbs:Int) YC (by omega) (by omega) (by omega);rw[VN,Int.natAbs_natCast,Int.natAbs_natCast]at e;exact Told.int<|Z1 rfl<|Z2 (Zw (Zay (Zb Za Zm) (Zwn a)))<|Z2 (Zw (Zay (Zb Za Zm) (Zwn b)))<|Z2 (Zl2 _ e (by intro z;cases z)) (Yg Za)
def Zcc:FS :=
 (Z5 (wE (Z4 Z8 (Zc (Ze 0) (Zc (Ze 1) Zo))) (Y9 2))
  (Z5 (Zbg (tV (Zj gLt (Ze 1) (fC (.int 0))))
  (wE (fUn Zw2 (Ze 2)) (Y9 2))
  fNx)
  (wE (Zgn (Zc (Zj Zat (Ze 0) (Ze 2)) (Zc (Zj Zat (Ze 1) (Ze 2)) Zo))) Jm)))
def Jf:FD:=Jt 2 3 Zcc
theorem Ybt{n:Nat}{t:Int}(hb:b≠0)(hB:Bt n b)(hn:n<=9000)(s:Int)(e:s=shr t b):Zat (.int t) (.int s)=YB (.int (XR t b).num)/\Zat (.int b) (.int s)=YB (.int ((XR t b).den:Int)):=by
 subst e;rw[Zhc (Zhq (Z15 hb) (Z1h hb hB) hn),Zhc (Zhq (Z15 hb) (Z1h hb hB) hn),Z3g hb,Z3k hb];exact⟨rfl,rfl⟩
theorem Zhh{n:Nat}{t:Int}(hb:b≠0)(hB:Bt n b)(hn:n<=9000:=by decide):Told Jf [.int t,.int b] (frD (XR t b)):=by
 have fin:∀{δ:Zi} {s:Int},s=shr t b->δ[0]? =YB (YB (.fz (.int t)))->δ[1]? =YB (YB (.fz (.int b)))->δ[2]? =YB (YB (.fz (.int s)))->Zjn (wE (Zgn (Zc (Zj Zat (Ze 0) (Ze 2)) (Zc (Zj Zat (Ze 1) (Ze 2)) Zo))) Jm) δ (frD (XR t b)):=λe h0 h1 h2=>by
  obtain⟨e1,e2⟩:=Ybt hb hB hn _ e;exact Yg (Zbd (Zb (Zy (Za h0) (Za h2) e1) (Zb (Zy (Za h1) (Za h2) e2) Zm)) (show 2<=1000 by decide))
 have g:Told Z8 [.int t,.int b] _:=.of (Zao t b) (OT.data_fz _)
 by_cases c:b<0
 .exact Z1 rfl<|Z2 (Zw (Zq (Zb Za (Zb Za Zm)) g))<|Z2 (Za8 (Zdm (Zmk Za Yb (YQ c))) (Zw (Zs7 Za))) (fin (by unfold shr;rw[YL c]) rfl rfl rfl)
 .exact Z1 rfl<|Z2 (Zw (Zq (Zb Za (Zb Za Zm)) g))<|Z2 (Yn (Zdm (Zmk Za Yb (YS c))) rfl) (fin (by unfold shr;rw[YM c]) rfl rfl rfl)
def Zce:FS :=
 (wE (Zw6 (Znm "int" (Ze 0)) (fUn Ydc (Znm "bool" (Ze 0)))) Jm)
def Wk:FD:=Jt 1 1 Zce
theorem Zl9(i:Int):Wk [.int i]= .ok (.fz (.bool YD)):=rfl
def Zcl:FS :=
 (Z5 (Zbg (tO (tNo (tD (Z4 Wk (Zc (Ze 0) Zo)))) (tO (tNo (tD (Z4 Wk (Zc (Ze 1) Zo)))) (tV (Zj gEq (Ze 1) (fC (.int 0))))))
  (Zol "NoNumber")
  fNx)
  (wE (Z4 Jf (Zc (Ze 0) (Zc (Ze 1) Zo))) Jm))
def Wz:FD:=Jt 2 2 Zcl
theorem Znv{n:Nat}{t:Int}(hb:b≠0)(hB:Bt n b)(hn:n<=9000:=by decide):Told Wz [.int t,.int b] (frD (XR t b)):=by
 have w:∀{i:Int},Told Wk [.int i] (.bool YD):=fun{i}=>.of (Zl9 i) (OT.data_fz _);exact Z1 rfl<|Z2 (Yn (Ygj (Zwp (p:=YD) (Zj7 (Zq (Zb Za Zm) w))) (Ygj (Zwp (p:=YD) (Zj7 (Zq (Zb Za Zm) w))) (Zdm (Zup Za Yb (YS hb))))) rfl) (Yg (Zq (Zb Za (Zb Za Zm)) (Zhh hb hB hn)))
def J9:FS :=
 (Z5 (wE (fC (.int 1)) (Y9 1))
  (Z5 (J5 (Zfz (Ze 0)) (gNm 2)
  (wE (Zj Zfy (Zj Zat (Ze 1) (Z4 Z8 (Zc (Ze 1) (Zc (Ym gIx (Ze 2) (fC (.int 1))) Zo)))) (Ym gIx (Ze 2) (fC (.int 1)))) (Y9 1)))
  (wE (Ze 1) Jm)))
def Yv:FD:=Jt 1 3 J9
def prD(p:Int×Int):Xa:=.tuple [.int p.1,.int p.2]
theorem Zzg{a B:Int}(ha:0<a)(hb:0<b)(h1:a∣B)(h2:b∣B)(hB:0<B):0<a.fdiv (Bs a b)*b/\a∣a.fdiv (Bs a b)*b/\b∣a.fdiv (Bs a b)*b/\a.fdiv (Bs a b)*b∣B:=by
 have hg:0<(Bs a b:Int):=Zes (by omega);have d1:(Bs a b:Int)∣a:=Int.gcd_dvd_left ..;have d2:(Bs a b:Int)∣b:=Int.gcd_dvd_right ..;rw[Jj hg];have e:a/(Bs a b:Int)*b=(Int.lcm a b:Int):=by
  have q:=Int.gcd_mul_lcm a b;have h3:(Bs a b:Int)*(Int.lcm a b:Int)=a*b:=by
   rw[<-Int.natCast_mul,q,Int.natCast_mul,Int.natAbs_of_nonneg (by omega),Int.natAbs_of_nonneg (by omega)]
  obtain⟨k,hk⟩:=d1;have e1:a/(Bs a b:Int)=k:=Int.ediv_eq_of_eq_mul_right (by omega) hk;rw[e1];apply Int.eq_of_mul_eq_mul_left (a:=(Bs a b:Int)) (by omega);rw[h3,<-Int.mul_assoc,<-hk]
 rw[e];refine⟨?_,Int.dvd_lcm_left ..,Int.dvd_lcm_right ..,Int.coe_lcm_dvd h1 h2⟩;have:Int.lcm a b≠0:=by
  rw[Ne,Int.lcm_eq_zero_iff];omega
 omega
theorem Zlz{n:Nat}{a B:Int}(hB:0<B)(h:a∣B)(b:Bt n B):Bt n a:=by
 refine Bt.of_le b ?_;have:=Int.natAbs_dvd_natAbs.mpr h;exact Nat.le_of_dvd (by omega) this
theorem Zf9{n:Nat}{B:Int}(hB:0<B)(bB:Bt n B)(hn:n<=9000:=by decide)(ps:List (Int×Int))(h:∀p∈ps,0<p.2/\p.2∣B) :
  ∃m,Told Yv [.list (ps.map prD)] (.int m)/\0<m/\(∀p∈ps,p.2∣m)/\m∣B:=by
 have key:∃d,Told Yv [.list (ps.map prD)] d/\∃m,d= .int m/\0<m/\(∀p∈ps,p.2∣m)/\m∣B:=by
  refine Zm1 rfl<|Jh (Zw Yb)<|Zif (ds:=ps.map prD) (λi δ=>∃m z,δ=[YB (.fz (.list (ps.map prD))),YB (.fz (.int m)),z]/\0<m/\(∀j p,j<i->ps[j]? =YB p->p.2∣m)/\m∣B) (Jw Za) ⟨1,YC,rfl,by decide,λj p hj=>YX hj (Vp j),Int.one_dvd _⟩ (λi d δ hd hi=>?_) λδ' hi=>?_
  .obtain⟨m,z,hδ,h1,h2,h3⟩:=hi
   subst hδ;rw[Xm]at hd;cases e:ps[i]? with
   | none=>rw[e]at hd;cases hd
   | some p=>
    rw[e]at hd;cases hd;obtain⟨q1,q2⟩:=h p (Qy e);obtain⟨s1,s2,s3,s4⟩:=Zzg h1 q1 h3 q2 hB;have g0:0<(Bs m p.2:Int):=Zes (by omega);have bg:Bt n (Bs m p.2:Int):=Zlz hB (Int.dvd_trans (Int.gcd_dvd_right ..) q2) bB;have bm:Bt n (m.fdiv (Bs m p.2)):=by
     rw[Jj g0];exact Bt.of_le (Zlz hB h3 bB) (Int.natAbs_ediv_le_natAbs _ _)
    have at1:∀{δ:Zi},δ[2]? =YB (YB (.fz (prD p)))->EvV (Ym gIx (Ze 2) (fC (.int 1))) δ (.int p.2):=λh=>Zaa (Za h) Yb rfl;refine⟨_,_,rfl,.inl (Zw (Zy (Zy Za (Zq (Zb Za (Zb (at1 rfl) Zm)) (.of (Zao m p.2) (OT.data_fz _))) (Zhc (Zhq (by omega) bg hn))) (at1 rfl) (Zel (Zd9 bm (Zlz hB q2 bB) (by omega))))),_,_,rfl,s1,λj p' hj hp=>?_,s4⟩
    by_cases z:j=i
    .subst z
     rw[e]at hp;cases hp;exact s3
    .exact Int.dvd_trans (h2 j p' (by omega) hp) s2
  .obtain⟨m,z,rfl,h1,h2,h3⟩:=hi
   refine Zox Za ⟨m,rfl,h1,λp hp=>?_,h3⟩;obtain⟨j,hj⟩:=Vr hp;exact h2 j p (by have:=(Xu.mp hj).1;rwa[Xe]) hj
 obtain⟨d,h,m,rfl,hm⟩:=key;exact⟨m,h,hm⟩
def Zan:FS :=
 (Z5 (wE (fC (.int 1)) (Y9 1))
  (Z5 (J5 (Zfz (Ze 0)) (gNm 2)
  (wE (Z4 Yv (Zc (Ym Zwy (Zek (Zc (Zgn (Zc (fC (.int 1)) (Zc (Ze 1) Zo))) Zo)) (Ze 2)) Zo)) (Y9 1)))
  (wE (Ze 1) Jm)))
def Yd:FD:=Jt 1 3 Zan
theorem Z40(r:List Rat):r.map frD=(r.map λq=>(q.num,(q.den:Int))).map prD:=by rw[XQ];rfl
def Z9r(T:List (List Rat))(B:Int):Prop:=∀r∈T,∀q∈r,(q.den:Int)∣B
theorem Zha{n:Nat}{B:Int}(hB:0<B)(bB:Bt n B)(hn:n<=9000:=by decide)(T:List (List Rat))(hz:∀r∈T,r.length<=1000)(h:Z9r T B) :
  ∃m,Told Yd [tbD T] (.int m)/\0<m/\Z9r T m/\m∣B:=by
 have key:∃d,Told Yd [.list (T.map Zpy)] d/\∃m,d= .int m/\0<m/\Z9r T m/\m∣B:=by
  refine Zm1 rfl<|Jh (Zw Yb)<|Zif (ds:=T.map Zpy) (λi δ=>∃m z,δ=[YB (.fz (.list (T.map Zpy))),YB (.fz (.int m)),z]/\0<m/\(∀j r,j<i->T[j]? =YB r->∀q∈r,(q.den:Int)∣m)/\m∣B) (Jw Za) ⟨1,YC,rfl,by decide,λj p hj=>YX hj (Vp j),Int.one_dvd _⟩ (λi d δ hd hi=>?_) λδ' hi=>?_
  .obtain⟨m,z,hδ,h1,h2,h3⟩:=hi
   subst hδ;rw[Xm]at hd;cases e:T[i]? with
   | none=>rw[e]at hd;cases hd
   | some r=>
    rw[e]at hd;cases hd;have hr:=Qy e;obtain⟨m',e1,p1,p2,p3⟩:=Zf9 hB bB hn ((1,m)::r.map λq=>(q.num,(q.den:Int))) λp hp=>by
     rcases Xo.mp hp with rfl|hp
     .exact⟨h1,h3⟩
     .obtain⟨q,hq,rfl⟩:=XM.mp hp
      exact⟨Zb3 q,h r hr q hq⟩
    rw[XC,<-Z40]at e1;have hl:=hz r hr;refine⟨_,_,rfl,.inl (Zw (Zq (Zb (Zo8 (ds:=[prD (1,m)]) (es:=r.map frD) (Zei (Zb (Zbd (Zb Yb (Zb Za Zm)) (show 2<=1000 by decide)) Zm) (show 1<=1000 by decide)) Za (by rw[Xe,U0];omega)) Zm) e1)),m',_,rfl,p1,λj r' hj hr' q hq=>?_,p3⟩
    by_cases z:j=i
    .subst z
     rw[e]at hr';cases hr';exact p2 (q.num,(q.den:Int)) (.tail _ (XM.mpr ⟨q,hq,rfl⟩))
    .exact Int.dvd_trans (h2 j r' (by omega) hr' q hq) (p2 (1,m) (.head _))
  .obtain⟨m,z,rfl,h1,h2,h3⟩:=hi
   refine Zox Za ⟨m,rfl,h1,λr hr q hq=>?_,h3⟩;obtain⟨j,hj⟩:=Vr hr;exact h2 j r (by have:=(Xu.mp hj).1;rwa[Xe]) hj q hq
 obtain⟨d,h,m,rfl,hm⟩:=key;exact⟨m,h,hm⟩
def scI(m:Int)(q:Rat):Int:=q.num*(m/(q.den:Int))
theorem Ybv{m:Int}{q:Rat}(h:(q.den:Int)∣m):(scI m q:Rat)=q*(m:Rat):=by
 obtain⟨k,rfl⟩:=h;unfold scI;rw[Int.mul_ediv_cancel_left _ (Zwh q)];rw[Rat.intCast_mul,Rat.intCast_mul,Yjt,Rat.mul_assoc]
def Zb8:FS :=
 (wE (Yu 1 [0] (Zfz (Ze 1)) (gNm 0) Zil (Zj Zfy (Ym gIx (Ze 0) (fC (.int 0))) (Zj Zat (Ze 1) (Ym gIx (Ze 0) (fC (.int 1)))))) Jm)
def J3:FD:=Jt 2 2 Zb8
theorem Zk2{n:Nat}{m:Int}(hm:0<m)(bm:Bt n m)(r:List Rat)(hz:r.length<=1000)(h:∀q∈r,(q.den:Int)∣m/\Bt n q.num)(hn:n<=9000:=by decide) :
  Told J3 [.int m,Zpy r] (.list (r.map λq=>.int (scI m q))) :=
 Z1 rfl<|Yg<|Zd1 (cs:=[YB (.fz (.int m))]) r frD (λq=>.int (scI m q)) (Jw Za) (by omega) rfl λq hq=>by
  obtain⟨h1,h2⟩:=h q hq;refine(Zy (Zaa (d:=.int q.num) Za Yb rfl) (Zy Za (Zaa (d:=.int (q.den:Int)) Za Yb rfl) (Zhc (Zhq (Zwh q) (Zlz hm h1 bm) hn))) (Zel ?_)).cast ?_
  .rw[Jj (Zb3 q)]
   exact Zd9 h2 (Bt.of_le bm (Int.natAbs_ediv_le_natAbs _ _)) (by omega)
  .rw[Jj (Zb3 q)];rfl
def Zbc:FS :=
 (wE (Yu 1 [0] (Zfz (Ze 1)) (gNm 0) Zil (Z4 J3 (Zc (Ze 1) (Zc (Ze 0) Zo)))) Jm)
def Yw:FD:=Jt 2 2 Zbc
theorem Zkn{n:Nat}{m:Int}(hm:0<m)(bm:Bt n m)(T:List (List Rat))(hT:T.length<=1000)(hz:∀r∈T,r.length<=1000)(h:Z9r T m)(hb:∀r∈T,∀q∈r,Bt n q.num)(hn:n<=9000:=by decide) :
  Told Yw [.int m,tbD T] (.list (T.map λr=>.list (r.map λq=>.int (scI m q)))) :=
 Z1 rfl<|Yg<|Zd1 (cs:=[YB (.fz (.int m))]) T Zpy (λr=>.list (r.map λq=>.int (scI m q))) (Jw Za) (by omega) rfl λr hr=>Zq (Zb Za (Zb Za Zm)) (Zk2 hm bm r (hz r hr) (λq hq=>⟨h r hr q hq,hb r hr q hq⟩) hn)
def Zg9:FS :=
 (Z5 (wE (Zek Zo) (Zas 1))
  (Z5 (J5 (iRa (Zc (Ze 0) Zo)) (gNm 2)
  (J5 (iRb (Zc (Zj Zcb (Ze 2) (fC (.int 1))) (Zc (Ze 0) Zo))) (gNm 3)
  (Wf 1 (Zgn (Zc (Ze 2) (Zc (Ze 3) Zo))))))
  (Zdf 1)))
def Zvc:FD:=Jt 1 4 Zg9
end My
namespace My
open PySem L2 PySem.Spec
def Zau:FS :=
 (Z5 (Zbg (tV (Zj gLt (Ze 1) (J1 Zac (Zc (Ze 0) Zo))))
  (wE (Ym gIx (Ze 0) (Ze 1)) Jm)
  fNx)
  (wE (fC (.int 0)) Jm))
def Yp:FD:=Jt 2 2 Zau
def Zcu:FS :=
 (Z5 (Zbg (tV (Zj gEq (Zj Zej (Zj Zat (Ze 0) (fC (.int 7))) (fC (.int 8))) (fC (.int 3))))
  (wE (Zj Zcb (Zj Zcb (Ze 2) (fC (.int 1))) (Zj Zej (Zj Zat (Ze 0) (fC (.int 56))) (Zj gSb (Ze 3) (Ze 2)))) Jm)
  fNx)
  (wE (Zj Zcb (Ze 1) (Zj Zej (Ze 0) (Zj gSb (Zj Zcb (Ze 2) (fC (.int 1))) (Ze 1)))) Jm))
def Jd:FD:=Jt 4 4 Zcu
def Zcg:FS :=
 (Z5 (wE (Zj Zej (Zj Zfy (Zj Zcb (Zj Zcb (Zj Zej (Ze 0) (fC (.int 2147483629))) (Zj Zfy (fC (.int 9973)) (Ze 1))) (fC (.int 5))) (fC (.int 48271))) (fC (.int 2147483647))) (Y9 2))
  (Z5 (wE (Zj Zej (Zj Zfy (Ze 2) (Ze 2)) (fC (.int 2147483587))) (Y9 2))
  (wE (Zj Zat (Zj Zej (Zj Zfy (Zj Zcb (Ze 2) (Zj Zfy (fC (.int 7919)) (Ze 1))) (fC (.int 16807))) (fC (.int 2147483563))) (fC (.int 8))) Jm)))
def Wi:FD:=Jt 2 3 Zcg
def Za1:FS :=
 (Z5 (wE (Zek Zo) (Zas 2))
  (Z5 (wE (Ze 0) (Y9 3))
  (Z5 (J5 (iRa (Zc (Ze 1) Zo)) (gNm 4)
  (Z5 (wE (Z4 Wi (Zc (Ze 0) (Zc (Ze 4) Zo))) (Y9 5))
  (Z5 (Zbg (tV (Zj gGe (Ze 0) (Zj Zzw (fC (.int 10)) (fC (.int 18)))))
  (wE (Zj Zej (Ze 3) (fC (.int 720720))) (Y9 5))
  fNx)
  (Z5 (wE (Zj Zat (Ze 3) (fC (.int 720720))) (Y9 3))
  (Wf 2 (Ze 5))))))
  (Zdf 2))))
def Yq:FD:=Jt 2 6 Za1
def Zg(p:List Int):Xa:=.list (p.map Xl)
theorem Zop{p:List Int}{i:Int}(h0:0<=i)(h1:i<p.length):atI (p.map Xl) i=YB (.int (p.getD i.toNat 0)):=by
 rw[Zln h0,Xm,Xi (by omega)];simp[Xb,Xi (show i.toNat<p.length by omega)]
theorem Wb{a b:FE}{p:List Int}{i:Int}(ha:EvV a δ (Zg p))(hb:EvV b δ (.int i))(h0:0<=i)(h1:i<p.length):EvV (Ym gIx a b) δ (.int (p.getD i.toNat 0)):=Z0p ha hb (Zop h0 h1)
theorem Zc9{a:FE}{p:List Int}(ha:EvV a δ (Zg p)):EvV (J1 Zac (Zc a Zo)) δ (.int p.length):=by
 have:=Zeq (ds:=p.map Xl) ha
 rwa[Xe]at this
theorem Yhg:Zzw (.int 10) (.int 18)=YB (.int 1000000000000000000):=rfl
theorem Zfp(ns:List Int){k:Int}(h0:0<=k):∃c,Yp [Zg ns,.int k]= .ok (.fz (.int c)):=by
 by_cases c:k<ns.length
 .exact⟨_,Told.int<|Z1 rfl<|Zb2 (Zfg (Zdm (Zmk Za (Zc9 Za) (YQ c))) (Yg (Wb Za Za h0 c)))⟩
 .exact⟨_,Told.int<|Z1 rfl<|Z2 (Yn (Zdm (Zmk Za (Zc9 Za) (YS c))) rfl) (Yg Yb)⟩
theorem Z5w(c:Int){a d:Int}(h1:a<=b)(h2:b<d):∃n:Int,Jd [.int c,.int a,.int b,.int d]= .ok (.fz (.int n))/\a<=n/\n<=d:=by
 by_cases k:(c.fdiv 7).fmod 8=3
 .have q0:=Zdu (i:=c.fdiv 56) (j:=d-b) (by omega)
  have q1:=Zds (i:=c.fdiv 56) (j:=d-b) (by omega);exact⟨_,Told.int<|Z1 rfl<|Zb2 (Zfg (Zdm (Zup (Ji (Zc7 Za Yb) Yb (by decide)) Yb (YQ k)))
   (Yg (Ws (Ws Za Yb) (Ji (Zc7 Za Yb) (Zof Za Za) (by omega))))),by omega,by omega⟩
 .have q0:=Zdu (i:=c) (j:=b+1-a) (by omega)
  have q1:=Zds (i:=c) (j:=b+1-a) (by omega);exact⟨_,Told.int<|Z1 rfl<|Z2 (Yn (Zdm (Zup (Ji (Zc7 Za Yb) Yb (by decide)) Yb (YS k))) rfl)
   (Yg (Ws Za (Ji Za (Zof (Ws Za Yb) Za) (by omega)))),by omega,by omega⟩
theorem Zun(c k:Int):∃v,Told Wi [.int c,.int k] (.int v):=by
 have n0:=Zdu (i:=(c.fmod 2147483629+9973*k+5)*48271) (j:=2147483647) (by decide);have n1:=Zds (i:=(c.fmod 2147483629+9973*k+5)*48271) (j:=2147483647) (by decide);exact⟨_,Z1 rfl<|Z2 (Zw (Ji (Zsf (Ws (Ws (Ji Za Yb (by decide)) (Zd6 Yb Za)) Yb) Yb) Yb (by decide)))<|
  Z2 (Zw (Ji (Zd6 Za Za (by omega)) Yb (by decide)))<|
  Yg (Zc7 (Ji (Zsf (Ws Za (Zd6 Yb Za)) Yb) Yb (by decide)) Yb)⟩
theorem Zjv{e:FE}{vs:List Int}{v:Int}(h:EvV e δ (.int v))(hi:δ[i]? =YB (YB (.nd (vs.map λv=>.fz (.int v)))))(hl:vs.length<=1000000):Wf i e δ= .nx (δ.set i (YB (.nd ((vs++[v]).map λv=>.fz (.int v))))):=by
 rw[Zig h hi (by rw[Xe];exact hl),Qg];rfl
theorem Znj(p:List Int):(OT.nd ((p.map Xl).map OT.fz)).data=Zg p:=by
 rw[OT.data_nd,OT.map_fz];rfl
theorem Zji(vs:List Int):(OT.nd (vs.map λv=>OT.fz (.int v))).data=Zg vs:=by rw[OT.data_nd,Zqa];rfl
theorem Zik(c:Int)(m:Nat)(hm:m<=1000):∃vs:List Int,Told Yq [.int c,.int m] (Zg vs)/\vs.length=m:=by
 have key:∃d,Told Yq [.int c,.int m] d/\∃vs,d=Zg vs/\vs.length=m :=
  Zm1 rfl<|Jh Zhi<|Jh (Zw Za)<|Zif (ds:=Zda 0 m) (λi δ=>∃(vs:List Int) (x:Int) (z1 z2:Option OT),δ=[YB (.fz (.int c)),YB (.fz (.int m)),YB (.nd (vs.map λv=>.fz (.int v))),YB (.fz (.int x)),z1,z2]/\vs.length=i)
   (Zkf (Zb Za Zm) (by omega)) ⟨[],c,YC,YC,rfl,rfl⟩ (λi d δ hd q91=>by
    obtain⟨vs,x,z1,z2,e,hl⟩:=q91;subst e;obtain⟨hi,rfl⟩:=Zab hd;obtain⟨v,ev⟩:=Zun c (0+(i:Int))
    by_cases q:1000000000000000000<=c
    .exact⟨_,_,rfl,.inl (Y0 (Zw (Zq (Zb Za (Zb Za Zm)) ev))<|Y0 (Za8 (Zdm (Ybb Za (Zy Yb Yb Yhg) (YQ q))) (Zw (Ji Za Yb (by decide))))<|
      Y0 (Zw (Zc7 Za Yb)) (Zjv (vs:=vs) Za rfl (by omega))),_,_,_,_,rfl,by rw[XH,hl];rfl⟩
    .exact⟨_,_,rfl,.inl (Y0 (Zw (Zq (Zb Za (Zb Za Zm)) ev))<|Y0 (Yn (Zdm (Ybb Za (Zy Yb Yb Yhg) (YS q))) rfl)<|
      Y0 (Zw (Zc7 Za Yb)) (Zjv (vs:=vs) Za rfl (by omega))),_,_,_,_,rfl,by rw[XH,hl];rfl⟩)
   λδ' q92=>by
    obtain⟨vs,x,z1,z2,e,hl⟩:=q92;subst e;rw[Wl]at hl;exact Ydp rfl ⟨vs,Zji vs,hl⟩
 obtain⟨d,h,vs,rfl,hl⟩:=key;exact⟨vs,h,hl⟩
end My
namespace L2
open PySem PySem.Spec PyProof.Rows
def Zku:List Xa->Option OT:=λds=>match ds with|[d]=>(Zf2 d).map λes=>.fz (.tuple es)|_=>YC
def Z92:List Xa->(OT->Prop)->Prop:=λds k=>n1 (λd=>match Zf2 d with|some es=>k (.fz (.tuple es))|none=>False) ds
theorem Zwe:PN G (Z0n G) Z92:=λH L xs ds k Q hx h kk=>by
 obtain⟨v,d,rfl,rfl,q,h⟩:=hx.one h;have nw:∀{xs:List V} {es:List Xa},Das G H L xs es->k (.fz (.tuple es))->∀p,H p=YC->Q (.ref p) (upd H p (.tup xs)):=λr h p hp=>
  kk _ _ _ [] (Zz hp _) (.fz (.tup Zx ((r.same (Zz hp _)).wide λa l _=>⟨.inl l,λm=>nomatch m⟩))) .nil (λa m=>nomatch m) h
 cases q with
 | lst l e r=>exact⟨_,_,rfl,.inl ⟨.inl e,nw r h⟩⟩
 | tup e r=>exact⟨_,_,rfl,.inr ⟨.inl (.inl e),kk H _ _ [] (Same.refl H) (.fz (.tup e (r.wide λa l _=>⟨.inl l,λm=>nomatch m⟩))) .nil (λa m=>nomatch m) h⟩⟩
 | scr ks=>exact⟨_,_,rfl,.inl ⟨ks.sq,nw (Das.ints _) h⟩⟩
 | _=>exact h.elim
theorem Z0t:∀(ds:List Xa) (r:OT) (k:OT->Prop),Zku ds=YB r->k r->Z92 ds k:=λds r k h hk=>by
 unfold Zku at h;split at h
 case h_2=>cases h
 rename_i d;show match Zf2 d with|some es=>k (.fz (.tuple es))|none=>False
 cases e:Zf2 d with
 | none=>rw[e]at h;cases h
 | some es=>rw[e]at h;cases h;exact hk
section
variable {a b:YJ}
end
def Sg(z:Str)(t:Tok)(it:YG)(i:Nat)(h:YH):Prop:=h.IsStrIter it "str_ascii_iterator" z t i\/h.IsStrIter it "str_iterator" z t i
structure Ap(z TI TO i1 i2:YG):Prop where
 a1:TI≠z
 a2:TO≠z
 a3:i1≠z
 a4:i2≠z
 a5:i1≠TO
 a6:i2≠TO
 a7:i1≠i2
 a8:TI≠TO
 a9:TI≠i1
 a10:TI≠i2
abbrev yT1(h:YH)(x:Str)(t:Tok):YH:=h.push { cls:=.type (strIterType x),data:=.fields #[.str x t,.int 0 0] }
abbrev yT2(h:YH)(x y:Str)(t u:Tok):YH:=yT1 (yT1 h x t) y u
abbrev yT3(h:YH)(x y:Str)(t u:Tok):YH:=(yT2 h x y t u).push { cls:=.type "tuple",data:=.seq #[.ref h.objs.size,.ref (yT1 h x t).objs.size] }
abbrev yT4(h:YH)(x y:Str)(t u:Tok):YH:=(yT3 h x y t u).push { cls:=.type "tuple",data:=.seq #[.none,.none] }
abbrev yT5(h:YH)(x y:Str)(t u:Tok):YH:=(yT4 h x y t u).push { cls:=.type "zip",data:=.fields #[.none,.bool YF,.bool YF,.ref (yT2 h x y t u).objs.size,.ref (yT3 h x y t u).objs.size] }
theorem Sg.at{h:YH}{x:Str}{t:Tok}{it:YG}(e:h.get? it=YB { cls:=.type (strIterType x),data:=.fields #[.str x t,.int 0 0] }):Sg x t it 0 h:=by
 unfold strIterType at e;split at e
 .exact .inl ⟨_,e,rfl,rfl⟩
 .exact .inr ⟨_,e,rfl,rfl⟩
section
variable {a b:YJ}
end
end L2
namespace L2
open PySem PySem.Spec PyProof.Rows PySem.W
theorem Zez{lt:Nat->Nat->Bool}{f:α->KasT β}(t:KasT α):kEv lt (t.bind f)=kEv lt (f (kEv lt t)):=by
 induction t with
 | ret a=>rfl
 | ask i j k ih=>exact ih _
structure Tot(lt:Nat->Nat->Bool)(n:Nat):Prop where
 tr:∀i j k,i<n->j<n->k<n->lt i j=YD->lt j k=YD->lt i k=YD
 tot:∀i j,i<n->j<n->i≠j->lt i j=YF->lt j i=YD
 asy:∀i j,i<n->j<n->lt i j=YD->lt j i=YF
section
variable {lt:Nat->Nat->Bool}{n:Nat}
abbrev gD(p:Array Nat)(i:Nat):Nat:=p.getD i 0
theorem kP.size{p:Array Nat}(h:kP n p):p.size=n:=by rw[<-BZ,List.Perm.length_eq h,Qd]
theorem Zm4{p:Array Nat}(h:i<p.size):p[i]? =YB (gD p i):=by rw[Array.getElem?_eq_getElem h];simp[gD,Array.getD,h]
theorem Zw1{p q:Array Nat}(h:p[i]? =q[j]?):gD p i=gD q j:=by
 show p.getD i 0=q.getD j 0;rw[Array.getD_eq_getD_getElem?,Array.getD_eq_getD_getElem?,h]
theorem kP.blw{p:Array Nat}(h:kP n p)(hi:i<n):gD p i<n:=h.at (Nat.lt_of_le_of_lt (QS _) hi) i
theorem kP.ne{p:Array Nat}(h:kP n p)(hi:i<j)(hj:j<n):gD p i≠gD p j:=λe=>by
 have nd:p.toList.Nodup:=(List.Perm.nodup_iff h).mpr List.nodup_range;have sz:=h.size;have a:=Zm4 (p:=p) (i:=i) (by omega);have b:=Zm4 (p:=p) (i:=j) (by omega);rw[<-Q3]at a b;obtain⟨a1,a2⟩:=Xu.mp a;obtain⟨b1,b2⟩:=Xu.mp b;exact List.pairwise_iff_getElem.mp nd i j a1 b1 hi (by rw[a2,b2,e])
def Ri(lt:Nat->Nat->Bool)(p:Array Nat)(m:Nat):Prop:=∀i j,i<j->j<m->lt (gD p i) (gD p j)=YD
def Fa(lt:Nat->Nat->Bool)(p:Array Nat)(m:Nat):Prop:=∀i j,i<j->j<m->lt (gD p j) (gD p i)=YD
variable (T:Tot lt n)
include T
theorem Z0d{p:Array Nat}(h:kP n p)(f:Nat):∀m,1<=m->m+f<=n->Ri lt p m->Ri lt p (kEv lt (kas_asc p f m))/\m<=kEv lt (kas_asc p f m)/\kEv lt (kas_asc p f m)<=m+f/\(kEv lt (kas_asc p f m)<m+f->lt (gD p (kEv lt (kas_asc p f m))) (gD p (kEv lt (kas_asc p f m)-1))=YD):=by
 induction f with
 | zero=>exact λm _ _ r=>⟨r,XJ _,XJ _,λz=>YX z (Vw _)⟩
 | succ f ih=>
  intro m h1 hn r;show _/\_;rw[kas_asc,kEv];cases c:lt (p.getD m 0) (p.getD (m-1) 0)with
  | true=>
   rw[YL rfl,kEv];exact⟨r,XJ _,Ud _ _,λ_=>c⟩
  | false=>
   rw[YM Xn];have up:lt (gD p (m-1)) (gD p m)=YD:=T.tot _ _ (h.blw (by omega)) (h.blw (by omega)) (h.ne (by omega) (by omega)).symm c;have r2:Ri lt p (m+1):=λi j hij hj=>by
    rcases Uc j m with q|q
    .exact r i j hij q
    .have:j=m:=by omega
     subst this;rcases Uc i (j-1)with q2|q2
     .exact T.tr _ _ _ (h.blw (by omega)) (h.blw (by omega)) (h.blw (by omega)) (r i (j-1) q2 (by omega)) up
     .have:i=j-1:=by omega
      subst this;exact up
   obtain⟨a,b,c,d⟩:=ih (m+1) (by omega) (by omega) r2;exact⟨a,by omega,by omega,λz=>d (by omega)⟩
theorem Z37{p:Array Nat}(h:kP n p)(f:Nat):∀m,1<=m->m+f<=n->Fa lt p m->∃m',kEv lt (kas_desc f p m 0)=(p,m',0)/\Fa lt p m'/\m<=m'/\m'<=m+f:=by
 induction f with
 | zero=>exact λm _ _ r=>⟨m,rfl,r,XJ _,XJ _⟩
 | succ f ih=>
  intro m h1 hn r;rw[kas_desc,kEv];cases c:lt (p.getD m 0) (p.getD (m-1) 0)with
  | true=>
   rw[YL rfl,YM (Vw _)];have r2:Fa lt p (m+1):=λi j hij hj=>by
    rcases Uc j m with q|q
    .exact r i j hij q
    .have:j=m:=by omega
     subst this;rcases Uc i (j-1)with q2|q2
     .exact T.tr _ _ _ (h.blw (by omega)) (h.blw (by omega)) (h.blw (by omega)) c (r i (j-1) q2 (by omega))
     .have:i=j-1:=by omega
      subst this;exact c
   obtain⟨m',e,a,b,d⟩:=ih (m+1) (by omega) (by omega) r2;exact⟨m',e,a,by omega,by omega⟩
  | false=>
   rw[YM Xn,kEv];have up:lt (p.getD (m-1) 0) (p.getD m 0)=YD:=T.tot _ _ (h.blw (by omega)) (h.blw (by omega)) (h.ne (by omega) (by omega)).symm c;rw[up,YL rfl,kEv];exact⟨m,rfl,r,XJ _,Ud _ _⟩
theorem Zym{p:Array Nat}(h:kP n p)(h0:0<n):∃m p',kEv lt (kas_count n p)=(m,p')/\kP n p'/\Ri lt p' m/\1<=m/\m<=n:=by
 rw[kas_count,Zez];obtain⟨a,b,c,d⟩:=Z0d T h (n-1) 1 (XJ _) (by omega) λi j _ _=>by omega
 generalize kEv lt (kas_asc p (n-1) 1)=m at a b c d
 by_cases e:m=n
 .rw[YL (by rw[e];exact beq_self_eq_true _),kEv]
  exact⟨m,p,rfl,h,a,b,by omega⟩
 rw[YM (λz=>e (YZ.mp z))]
 by_cases m1:m>1
 .rw[YL m1,kEv,a 0 (m-1) (by omega) (by omega),YL rfl,kEv]
  exact⟨m,p,rfl,h,a,b,by omega⟩
 rw[YM m1];have em:m=1:=by omega
 subst em;have lt1:=d (by omega);rw[kas_descPart,Zez];obtain⟨m',e2,f2,b2,d2⟩:=Z37 T h (n-(1+1)) (1+1) (by omega) (by omega) λi j hij hj=>by
  have:i=0:=by omega
  have:j=1:=by omega
  subst i j;exact lt1
 rw[e2,YM (Vw _),kas_tail3,Zez,kEv];have kr:kP n (kas_rev p 0 m'):=h.rev _ _;have rr:Ri lt (kas_rev p 0 m') m':=λi j hij hj=>by
  have ge:∀k,k<m'->gD (kas_rev p 0 m') k=gD p (m'-1-k):=λk hk=>Zw1 (by
   have:=getElem?_mirror_all (xs:=p) (i:=0) (j:=m') (by rw[h.size];omega) k;rw[YL ⟨QS _,hk⟩,Nat.zero_add]at this;exact this)
  rw[ge i (by omega),ge j hj];exact f2 _ _ (by omega) (by omega)
 obtain⟨a,b,c,_⟩:=Z0d T kr (n-m') m' (by omega) (by omega) rr;have n2:2<=n:=by omega
 have:m'<=n:=by omega
 refine⟨_,_,rfl,kr,a,?_,?_⟩
 .exact QB (by omega) b
 .exact QB c (by omega)
theorem Zzb{p:Array Nat}(h:kP n p){k:Nat}(hk:k<n)(f:Nat):∀l r,l<=r->r<=k->r-l<=f->(∀i,i<l->lt (gD p i) (gD p k)=YD)->(∀i,r<=i->i<k->lt (gD p k) (gD p i)=YD)->Ri lt p k ->
  kEv lt (kas_place p k f l r)<=k/\(∀i,i<kEv lt (kas_place p k f l r)->lt (gD p i) (gD p k)=YD)/\∀i,kEv lt (kas_place p k f l r)<=i->i<k->lt (gD p k) (gD p i)=YD:=by
 induction f with
 | zero=>
  intro l r lr rk z a b R;have:l=r:=by omega
  subst this;exact⟨rk,a,b⟩
 | succ f ih=>
  intro l r lr rk z a b R;rw[kas_place]
  by_cases c:l>=r
  .rw[YL c,kEv]
   exact⟨by omega,a,λi x y=>b i (by omega) y⟩
  rw[YM c,kEv];have hm:(l+r)/2<k:=by omega
  cases q:lt (p.getD k 0) (p.getD ((l+r)/2) 0)with
  | true=>
   rw[YL rfl];refine ih _ _ (by omega) (by omega) (by omega) a (λi x y=>?_) R
   by_cases e:i=(l+r)/2
   .subst e;exact q
   .exact T.tr _ _ _ (h.blw hk) (h.blw (by omega)) (h.blw (by omega)) q (R _ _ (by omega) y)
  | false=>
   rw[YM Xn];have up:lt (gD p ((l+r)/2)) (gD p k)=YD:=T.tot _ _ (h.blw hk) (h.blw (by omega)) (h.ne hm hk).symm q;refine ih _ _ (by omega) (by omega) (by omega) (λi x=>?_) b R
   by_cases e:i=(l+r)/2
   .subst e;exact up
   .exact T.tr _ _ _ (h.blw (by omega)) (h.blw (by omega)) (h.blw hk) (R _ _ (by omega) hm) up
theorem Z8z(f:Nat):∀{p:Array Nat} (h:kP n p) (k:Nat),k+f<=n->Ri lt p k->Ri lt (kEv lt (kas_bin f p k)) (k+f):=by
 induction f with
 | zero=>exact λh k _ r=>r
 | succ f ih=>
  intro p h k hn r;rw[kas_bin,Zez];obtain⟨a,b,c⟩:=Zzb T h (k:=k) (by omega) k 0 k (QS _) (XJ _) (by omega) (λi z=>YX z (Vp _)) (λi x y=>YX y (by omega)) r;generalize kEv lt (kas_place p k k 0 k)=l at a b c;have ge:∀j,gD (bubble p k (k-l)) j=if j=l then gD p k else if l<j/\j<=k then gD p (j-1)else gD p j:=λj=>by
   have e:=getElem?_bubble (xs:=p) (src:=k) (by rw[h.size];omega) (k-l) (by omega) j;have e0:k-(k-l)=l:=by omega
   rw[e0]at e
   by_cases c1:j=l
   .rw[YL c1]at e|-
    exact Zw1 e
   .rw[YM c1]at e|-
    by_cases c2:l<j/\j<=k
    .rw[YL c2]at e|-
     exact Zw1 e
    .rw[YM c2]at e|-
     exact Zw1 e
  have:=ih (h.bub k (k-l)) (k+1) (by omega) λi j hij hj=>?_
  .rw[show k+1+f=k+(f+1) by omega]at this
   exact this
  rw[ge,ge];rcases Nat.lt_trichotomy j l with q|q|q
  .rw[YM (by omega),YM (by omega),YM (by omega),YM (by omega)]
   exact r i j hij (by omega)
  .rw[YM (by omega),YM (by omega),YL q]
   exact b i (by omega)
  .rw[YM (show¬j=l by omega),YL (show l<j/\j<=k by omega)]
   rcases Nat.lt_trichotomy i l with q2|q2|q2
   .rw[YM (by omega),YM (by omega)]
    exact r i (j-1) (by omega) (by omega)
   .rw[YL q2]
    exact c (j-1) (by omega) (by omega)
   .rw[YM (by omega),YL (by omega)]
    exact r (i-1) (j-1) (by omega) (by omega)
theorem Z47(h0:0<n):Ri lt (kEv lt (kas_sort n)) n:=by
 rw[kas_sort,Zez];obtain⟨m,p,e,kp,r,l1,l2⟩:=Zym T (p:=Bm (Xw n)) (List.Perm.refl _) h0;rw[e]
 by_cases c:m<n
 .rw[YL c]
  have em:max m 1=m:=by omega
  rw[em];have:=Z8z T (n-m) kp m (by omega) r;rw[show m+(n-m)=n by omega]at this;exact this
 .rw[YM c,kEv]
  have:m=n:=by omega
  rw[this]at r;exact r
theorem Z3i(h0:0<n):(Zwx lt n).Pairwise λi j=>lt i j=YD:=by
 have h:kP n (kEv lt (kas_sort n)):=(Zg1 h0).ev (P:=kP n);have r:=Z47 T h0;refine List.pairwise_iff_getElem.mpr λi j hi hj hij=>?_;have sz:=h.size;rw[<-BZ]at sz;have l2:(Zwx lt n).length=n:=sz;have ge:∀k (hk:k<(Zwx lt n).length),(Zwx lt n)[k]=gD (kEv lt (kas_sort n)) k:=λk hk=>by
  have:=Zm4 (p:=kEv lt (kas_sort n)) (i:=k) (by rw[h.size];omega);rw[<-Q3]at this;exact(Xu.mp this).2
 rw[ge,ge];exact r i j hij (by omega)
end
theorem Ztx{β:Type}{d:α}{lt:Nat->Nat->Bool}{vs:List α}{R:α->α->Prop}(T:Tot lt vs.length)(hR:∀i j,i<vs.length->j<vs.length->lt i j=YD->R (vs.getD i d) (vs.getD j d)):(sLay d lt vs).Pairwise R:=by
 unfold sLay;split
 .rename_i c
  match vs,c with
  | [],_=>exact .nil
  | [a],_=>exact Bb _ _
 .rename_i c
  have pm:=Zee (lt:=lt) (n:=vs.length) (by omega);have up:=Z3i T (by omega);have h:=List.Pairwise.imp_of_mem (fun{i j} hi hj e=>hR i j (XF.mp (pm.mem_iff.mp hi)) (XF.mp (pm.mem_iff.mp hj)) e) up;exact Bo.mpr h
end L2
namespace L2
open PySem PySem.Spec PyProof.Rows
def Z3v(m:MEt):MEt:=λδ K=>m δ λr δ1=>match r with| .nd ts=>K (.nd ((OT.datas ts).map OT.fz)) δ1|_=>False
section
variable {b:YJ}
theorem Yef{t:TE}(s:SE G io p YD t m):SE G io p YD t (Z3v m):=by
 refine λC H O δ fp ex K Q R h kk=>s C H O δ fp ex _ _ R h λH1 v r δ1 fp1 new r1 h1=>?_;split at h1
 case h_2=>exact h1.elim
 rename_i ts;obtain⟨rel,stp,own,nd,fresh⟩:=r1;generalize et:OT.nd ts=o at own;cases own with
 | nd e1 ow=>
  rename_i a xs ts' bs;cases et;have hn:=Qn.mp nd;refine kk H1 (.ref a) _ δ1 fp1 [a] ⟨rel.drop λb z=>z.imp id λz=>by rw[Xj.mp z];exact .head _,stp,.nd e1 (Das.owns (ow.das (λb l q hc=>?_) λb hb hc=>?_)),Qn.mpr ⟨(λz=>nomatch z),.nil⟩,λb hb=>by rw[Xj.mp hb];exact fresh a (.head _)⟩ h1
  .exact⟨(l hc).1,λz=>(l hc).2.1 (z.imp id λz=>by rw[Xj.mp z];exact .head _),(l hc).2.2⟩
  .have ok:=R.newOk (fresh b (.tail _ hb))
   refine⟨λz=>?_,λz=>z.elim ok.2.1 λz=>hn.1 (by rw[<-Xj.mp z];exact hb),.inr ok.2.2⟩;obtain⟨j,z⟩:=z;exact rel.dx j b z (.inr (.tail _ hb))
 | _=>cases et
theorem Zm2{pt:Bool}{g:MGt}{mt:MTt}{me:MEt}{sc:UW}{y:Str}(hN:X.N.Nodup)(hy:X.N[i]? =YB y)(hx:Loc X.env.scope y)(S:CompScope X own caps N' sc)(hc:X.calm=YD)(nd:caps.Nodup)(hi:MI X io p ci tg iter mi)
  (hg:∀C cells s₂ H₂ fp,MG (Yt X N' sc C cells s₂ H₂ fp) (Jv own.length caps) ci tg g) (ht:∀C cells s₂ H₂ fp,MIfs (Yt X N' sc C cells s₂ H₂ fp) (Jv own.length caps) pt ifs mt) (he:∀C cells s₂ H₂ fp,ME (Yt X N' sc C cells s₂ H₂ fp) (Jv own.length caps) pe YD elt me)
  (hp:(pt&&pe)=YD:=by rfl) (hio:i∉io:=by decide)
  (hsw:VL (.ListComp elt [⟨tg,iter,ifs,0⟩] sc pos) (YB (.Name y py)) spos.line X.env=pure YD:=by rfl)
  (hs:∀x,Bv iter X.env x=pure x:=by intro _;rfl) (hf:X.fn y=YD\/X.env.scope.names.lookup y=YB .local:=by first|exact .inl rfl|exact .inr rfl|assumption) :
  MS X io (.Assign [.Name y py] (.ListComp elt [⟨tg,iter,ifs,0⟩] sc pos) spos) (Zmi i (Z3v (Zfm own.length caps mi g mt me))):=by
 obtain⟨_,A,si⟩:=hi;exact⟨_,Zi5 (g:=gM X.K (Jv own.length caps) ci g) (tt:=ttM X.K (Jv own.length caps) pt mt) (te:=tM X.K (Jv own.length caps) pe YD me) hN hy hx S hc A (λC cells s₂ H₂ fp=>(hg C cells s₂ H₂ fp).canon) (λC cells s₂ H₂ fp=>(ht C cells s₂ H₂ fp).canon) (λC cells s₂ H₂ fp=>(he C cells s₂ H₂ fp).canon) hsw hs hf,Z5m (Yef (Zxx si nd hp)) hio⟩
def Z1a(i:Nat):MEt:=λδ K=>∃ts,δ[i]? =YB (YB (.nd ts))/\Zld ts=YD/\K (.nd ((OT.datas ts).map OT.fz)) δ
theorem Z5a(i:Nat)(hg:Gl X "list")(hm:X.mg "list"=YC)(hvb:Qk "list"=YB (.type "list"))
  (hN:X.N[i]? =YB x:=by rfl) (hv:Vis X.env.scope x:=by first|exact QG rfl|exact Qt (QG rfl)|exact Qt (Qt rfl)) (hd:(x==("__debug__" : Str))=YF:=by decide) (hcd:(x==("__classdict__" : Str))=YF:=by decide)
  (he:Xq [.Name x px] X.env=(YF,eval (.Name x px) X.env)::Xq [] X.env:=by rfl) (hpl:(JK pos (Xq [] X.env)).any (·.1)=YF:=by rfl):ME X io YD YD (.Call (.Name "list" pp) [.Name x px] [] pos) (Z1a i):=by
 refine⟨_,Zc1 (Zid rfl) hg hm hvb (Za6 (pv i hN hv hd hcd) Zeu he) (by decide) (by decide) he hpl,λC H O δ fp ex K Q R h kk=>?_⟩;obtain⟨ts,hi,hz,h⟩:=h;obtain⟨a',xs,bs,hv0,hx,ow,hfp⟩:=R.ownNd hi;refine⟨_,hv0,a',xs,rfl,.inl (.inl (.inl hx)),λl hl=>?_⟩;have s:=Zz hl (.lst xs);refine kk _ (.ref l) _ δ fp [l] (RE.tree R R (Stp.refl YD H δ fp) s (λa m=>by rw[Xj.mp m];exact hl) (Qn.mpr ⟨(λz=>nomatch z),.nil⟩) (.nd Zx (Das.owns (((ow.fz_das hz).wide (L':=λa=>((YD=YD->Lf C fp ex a)\/H a=YC)/\a∉[l]) λa q n=>⟨.inl λ_=>q,λz=>n (by rw[Xj.mp z];exact hl)⟩).same s)))) h
def Yig(i:Nat)(mb:MEt):MEt:=λδ K=>∃ts,δ[i]? =YB (YB (.nd ts))/\Zld ts=YD/\mb δ λn δ1=>asI n.data λk=>match atI (OT.datas ts) k with|some d=>K (.fz d) δ|none=>False
theorem Yfv(i:Nat)(hb:ME X io YD c b mb)(hs:Zgr b)
  (hN:X.N[i]? =YB x:=by rfl) (hv:Vis X.env.scope x:=by first|exact QG rfl|exact Qt (QG rfl)|exact Qt (Qt rfl)) (hd:(x==("__debug__" : Str))=YF:=by decide) (hcd:(x==("__classdict__" : Str))=YF:=by decide):ME X io YD YD (.Subscript (.Name x px) b pos) (Yig i mb):=by
 obtain⟨_,B,sb⟩:=hb;refine⟨_,Z5x (Ztz rfl) (pv i hN hv hd hcd) B hs,λC H O δ fp ex K Q R h kk=>?_⟩;obtain⟨ts,hi,hz,h⟩:=h;obtain⟨a',xs,bs,hv0,hx,ow,hfp⟩:=R.ownNd hi;refine⟨_,hv0,sb.pureAfter R h λH2 w n R2 s2 q2 h2=>?_⟩;obtain⟨k,e2,h2⟩:=q2.intInv h2;subst e2;split at h2
 case h_2=>exact h2.elim
 rename_i d ed;have qs:=(ow.fz_das hz).same s2;obtain⟨v,e3,q⟩:=qs.atI ed;exact .inl ⟨a',xs,k,v,rfl,rfl,.inl (.inl (s2 _ _ hx)),e3,kk H2 v _ δ fp [] (.fz R2 (.same s2 s2.al) (q.wide λa l _ _=>l)) h2⟩
end
def Zz4(e:FE):FE:=λδ=>(e δ).bind λp=>match p.1 with| .nd ts=>YB (.nd ((OT.datas ts).map OT.fz),p.2)|_=>YC
def Zot(i:Nat):FE:=λδ=>(Z96 δ[i]?).bind λts=>YB (.nd ((OT.datas ts).map OT.fz),δ)
def Ycv(i:Nat)(b:FE):FE:=λδ=>(Z96 δ[i]?).bind λts=>(b δ).bind λq=>match q.1.data with
 | .int k=>(atI (OT.datas ts) k).bind λd=>YB (.fz d,δ)
 | _=>YC
theorem Zyi{n:Nat}{t:FT}(h:MS X io st (Zmi i (Z3v (Zfm n caps (o2 it) (oG gg) (o2 t) (o2 me))))):MS X io st (oS (wE (Zz4 (Yu n caps it gg t me)) (Zas i))):=h.weak λD δ h=>by
 obtain⟨r,δ',h,k⟩:=Zqt h;obtain⟨⟨x,δ1⟩,h1,h⟩:=bs h;refine Zpd ⟨x,δ1,h1,?_⟩
 try dsimp only at h|-
 split at h
 case h_2=>cases h
 cases h;exact k
theorem Zw0(h:ME X io p c e (Z1a i)):ME X io p c e (o2 (Zot i)):=h.weak λδ K h=>by
 obtain⟨r,δ',h,k⟩:=h;obtain⟨ts,h1,h⟩:=bs h;obtain⟨e1,e2⟩:=Zu8 h1;cases h;exact⟨ts,e1,e2,k⟩
theorem Ycq(h:ME X io p c e (Yig i (o2 fb))):ME X io p c e (o2 (Ycv i fb)):=h.weak λδ K h=>by
 obtain⟨r,δ',h,k⟩:=h;obtain⟨ts,h1,h⟩:=bs h;obtain⟨e1,e2⟩:=Zu8 h1;obtain⟨⟨y,δ2⟩,h2,h⟩:=bs h;refine⟨ts,e1,e2,y,δ2,h2,?_⟩
 try dsimp only at h|-
 split at h
 case h_2=>cases h
 rename_i n q;obtain⟨d,h3,h⟩:=bs h;cases h;rw[q];show(match atI (OT.datas ts) n with|some d=>K (.fz d) δ|none=>False);rw[h3];exact k
def Zre(h:YH)(vs:List Xf):YH:=(h.push (QQ "list" #[] 0)).update h.objs.size (QM (·++vs.toArray))
theorem Zmx{Q:List Xf->Xg->Prop}(hl:IsTup s.heap l vs.toArray)(hz:vs.length<=Xv)(h:Q vs { s with heap:=Zre s.heap vs }):XX (Qi prog w) A (collect (.ref l)) Q E s:=by
 obtain⟨o,o1,oc,n,od⟩:=id hl;have o2:(s.heap.push (QQ "list" #[] 0)).get? l=YB o:=Xk _ o1;have o3:(s.heap.push (QQ "list" #[] 0)).get? s.heap.objs.size=YB (QQ "list" #[] 0):=XN _ rfl;unfold collect;refine Xd (wpAny_runValue (codeAny_builtin entry_proto_collect' ?_));show XX _ _ (do again (.builtin "list.__iadd__" ⟨[<-newList [],.ref l],[]⟩)) _ _ s;refine Xd (wpAny_newList (Xy ⟨Code.quiet_builtin _ (by decide +kernel),codeAny_builtin entry_list_iadd' ?_⟩));show XX _ _ (Builtin.List.listExtendWith (.ref s.heap.objs.size) (.ref l) (.ref s.heap.objs.size)) _ _ { s with heap:=s.heap.push (QQ "list" #[] 0) };unfold Builtin.List.listExtendWith;refine Xd (wpAny_typeOf (T :="tuple") ⟨o,o2,oc⟩ ?_);rw[YL (by rw[show(Value.type "tuple"==Value.type "tuple")=YD from rfl,Bool.or_true])];refine Xd (listItems_at o2 od (Xd (listItems_at (xs:=#[]) (n:=0) o3 rfl ?_)));rw[YM (by simp)];refine Xd (listUpdate_at (xs:=#[]) (n:=0) o3 rfl (Xy ?_) (QS _) (by show(#[]++vs.toArray).size<=Xv+1;simp only[Array.size_append,Xx,List.length_nil];omega));refine Xd (wpAny_load (get?_update_seq o3 _) ?_);show XX _ _ (pure ((#[]:Array Xf)++vs.toArray).toList) Q E _;have ev:((#[]:Array Xf)++vs.toArray).toList=vs:=by simp
 rw[ev];exact Xy h
theorem Zq0(hl:IsTup s.heap l vs.toArray)(hI:BL vs ns)(h64:vs.length<64)
  (h:∀(out:Array Xf) (ns':List Int),BL out.toList ns'->ns'.Perm ns->ns'.Pairwise (·<=·)->Q (.ref (s.heap.objs.size+1)) { s with heap:=sortedAll s.heap vs out }):XX (Qi prog w) A (call (.builtin "sorted") [.ref l]) Q E s:=by
 have zs:(Zre s.heap vs).objs.size=s.heap.objs.size+1:=by unfold Zre;rw[Heap.size_update,size_push']
 have oL:((Zre s.heap vs).push (QQ "list" vs.toArray 0)).get? (s.heap.objs.size+1)=YB (QQ "list" vs.toArray 0):=by rw[<-zs];exact XN _ rfl
 refine Calls.call_function_entry kind_sorted plain_sorted entry_sorted (args_sorted1 _) ?_;unfold VG.«sorted»;refine Xd (m:=checkCount "sorted" 1 1 _) (Xy (Xd (Zmx hl (by rw[Qh];omega) (Xd (wpAny_newList ?_ (by rw[Qh];omega))))));show XX _ _ _ _ _ { s with heap:=(Zre s.heap vs).push (QQ "list" vs.toArray 0) };rw[show({ s with heap:=Zre s.heap vs }:Xg).heap.objs.size=s.heap.objs.size+1 from zs];exact Xd (VD (JT slot_list_sort ⟨_,oL,rfl⟩ entry_list_sort (list_sort_tree oL hI h64 λout ns' a1 a2 a3=>⟨_,rfl,Xy ⟨_,rfl,h out ns' a1 a2 a3⟩⟩) (args_list_sort _)))
def Z1z(K:Xc):List V->Hp->VK->Prop:=λxs H Q=>∃(a:YG) (ns:List Int),xs=[.ref a]/\SqT K H a (ns.map V.int)/\ns.length<64/\∀l,H l=YC->Q (.ref l) (upd H l (.lst ((Yz ns).map V.int)))
theorem Zrd(hK:X.K=K):Zar X (.builtin "sorted") (Z1z K):=by
 subst hK;intro pins s O H xs us Q I r h;obtain⟨l,ns,rfl,hs,h64,q⟩:=h;obtain⟨u,rfl,ru⟩:=vals1 r;cases(show u=Qq l from ru);obtain⟨its,rv,pl,hz⟩:=I.tuple hs;have hl:=rv.length;rw[Xe]at hl;refine Zq0 pl (Zgc rv) (by omega) λout ns' a1 a2 a3=>?_;obtain⟨e,he⟩:=sortedAll_at s.heap its out;cases(Zbs (a2.trans (Wo ns).symm) a3 (Zaw ns):ns'=Yz ns);refine⟨.ref (s.heap.objs.size+1),_,I.laid (t':=s.toks) (o:=.lst ((Yz ns).map V.int)) (λb ob q=>sortedAll_old q) (by omega) ⟨?_,out.toList,e,Z5z a1,he⟩,rfl,q _ (I.hok.fresh (by omega))⟩;rw[Xe,(Wo ns).length_eq,Qh];omega
def Z1d:List Xa->(OT->Prop)->Prop:=λds k=>n1 (λd=>∃ns:List Int,d= .tuple (ns.map Xl)/\ns.length<64/\k (.nd (((Yz ns).map Xl).map OT.fz))) ds
theorem Z0b:PN G (Z1z G) Z1d:=λH L xs ds k Q hx h kk=>by
 obtain⟨v,d,rfl,rfl,q,ns,e,h64,h⟩:=hx.one h;have fin:∀(p:YG),H p=YC->Q (.ref p) (upd H p (.lst ((Yz ns).map V.int))):=λp hp=>kk _ _ _ [p] (Zz hp _) (Own.list hp (Das.ints _)) (Zbe p) (J6 hp) h;subst e;generalize ed:PyData.tuple (ns.map Xl)=d at q;cases q with
 | tup e r=>
  cases ed;exact⟨_,ns,rfl,.inl (.inl (by rw[r.int_inv]at e;exact e)),h64,fin⟩
 | _=>cases ed
def Zp2:List Xa->Option OT:=λds=>match ds with|[.tuple es]=>(Zc5 es).bind λns=>if ns.length<64 then YB (.nd (((Yz ns).map Xl).map OT.fz))else YC|_=>YC
theorem Z3q:∀ds r k,Zp2 ds=YB r->k r->Z1d ds k:=λds r k h hk=>by
 unfold Zp2 at h;split at h
 case h_2=>cases h
 obtain⟨ns,h1,h⟩:=bs h
 (try split at h)
 case isFalse=>cases h
 rename_i h2;cases h;exact⟨ns,by rw[Zbr h1],h2,hk⟩
end L2
namespace L2
open PySem PySem.Spec PyProof.Rows PySem.W
structure TmS where
 p:Array Nat
 q:Array (Nat×Nat×Nat)
 g:Nat
def TM(α:Type):Type:=TmS->KasT (Option (α×TmS))
def TM.nxt(f:α->TM β):Option (α×TmS)->KasT (Option (β×TmS))
 | none=>.ret YC
 | some r=>f r.1 r.2
noncomputable instance:Monad TM where
 pure a:=λt=>.ret (YB (a,t))
 bind m f:=λt=>(m t).bind (TM.nxt f)
def Ztn:TM α:=λ_=>.ret YC
def Z7n(i j:Nat):TM (Option Bool):=λt=>.ask i j λb=>.ret (YB (YB b,t))
def Yg1(l:List Nat):Nat->Option Nat:=List.rec (motive:=λ_=>Nat->Option Nat) (λ_=>YC) (λx _ ih i=>Nat.rec (motive:=λ_=>Option Nat) (YB x) (λj _=>ih j) i) l
theorem Zwd:∀(l:List Nat) (i:Nat),Yg1 l i=l[i]?
 | [],_=>rfl
 | _::_,0=>rfl
 | x::l,i+1=>(Zwd l i).trans (List.getElem?_cons_succ ..).symm
def Zfv(a:Array Nat)(i:Nat):TM Nat:=match Yg1 a.toList i with|some x=>pure x|none=>Ztn
def fcN(n:Nat)(k:Nat->β):β:=Nat.rec (motive:=λ_=>β) (k 0) (λm _=>k (m+1)) n
theorem Zmc(n:Nat)(k:Nat->β):fcN n k=k n:=by cases n<;>rfl
def fcL(l:List Nat):(List Nat->β)->β:=List.rec (motive:=λ_=>(List Nat->β)->β) (λk=>k []) (λx _ ih k=>fcN x λy=>ih λm=>k (y::m)) l
theorem Z06(l:List Nat)(k:List Nat->β):fcL l k=k l:=by
 induction l generalizing k with
 | nil=>rfl
 | cons x l ih=>
  show fcN x (λy=>fcL l λm=>k (y::m))=_;rw[Zmc];exact ih _
def fcQ(l:List (Nat×Nat×Nat)):(List (Nat×Nat×Nat)->β)->β:=List.rec (motive:=λ_=>(List (Nat×Nat×Nat)->β)->β) (λk=>k []) (λx _ ih k=>fcN x.1 λa=>fcN x.2.1 λb=>fcN x.2.2 λc=>ih λm=>k ((a,b,c)::m)) l
theorem Z8q(l:List (Nat×Nat×Nat))(k:List (Nat×Nat×Nat)->β):fcQ l k=k l:=by
 induction l generalizing k with
 | nil=>rfl
 | cons x l ih=>
  show fcN x.1 (λa=>fcN x.2.1 λb=>fcN x.2.2 λc=>fcQ l λm=>k ((a,b,c)::m))=_;rw[Zmc,Zmc,Zmc];exact ih _
def fcT(t:TmS)(k:TmS->β):β:=fcL t.p.toList λp=>fcQ t.q.toList λq=>fcN t.g λg=>k ⟨⟨p⟩,⟨q⟩,g⟩
theorem Zoe(t:TmS)(k:TmS->β):fcT t k=k t:=by
 unfold fcT;rw[Z06,Z8q,Zmc]
def Zbm:TM TmS:=λt=>.ret (YB (t,t))
def Zfs(f:TmS->TmS):TM PUnit:=λt=>fcT (f t) λt=>.ret (YB (⟨⟩,t))
def Zdx:List Nat->β->(Nat->β->TM (ForInStep β))->TM β
 | [],b,_=>pure b
 | x::l,b,f=>do
  match<-f x b with
  | .done b=>pure b
  | .yield b=>Zdx l b f
def stM(f:α->β):ForInStep α->ForInStep β
 | .done a=>.done (f a)
 | .yield a=>.yield (f a)
section
variable {it:Array Uo}
def toS(κ:Vj)(it:Array Uo)(t:TmS):Ve:=Vg κ (t.p.map (X8 it)) t.q t.g YC
def Sim(prog:X5)(w:Qu)(A:Qv)(E:Xf->Xg->Prop)(κ:Vj)(it:Array Uo)(φ:β->α)(m:StateT Ve Sem α)(t:TM β):Prop:=∀(u:TmS) (s:Xg) (Q:α->Ve->Xg->Prop),
 (t u).kasWp (kas_cmp prog w A κ it) (λo s'=>∃r,o=YB r/\Q (φ r.1) (toS κ it r.2) s') s->kasC (Qi prog w) A E m Q (toS κ it u) s
variable {α' β':Type}
theorem Zd{φ:β->α}{a:α}{b:β}(h:φ b=a):Sim prog w A E κ it φ (pure a) (pure b):=λu s Q h1=>by
 obtain⟨r,e,h2⟩:=h1;cases e;rw[h]at h2;exact kasC_pure h2
theorem Zh{φ:β->α}{ψ:β'->α'}{m:StateT Ve Sem α}{t:TM β}{f:α->StateT Ve Sem α'}{g:β->TM β'}(h:Sim prog w A E κ it φ m t)(k:∀b,Sim prog w A E κ it ψ (f (φ b)) (g b)):Sim prog w A E κ it ψ (m>>=f) (t>>=g):=λu s Q h1=>by
 have h2:((t u).bind (TM.nxt g)).kasWp (kas_cmp prog w A κ it) (λo s'=>∃r,o=YB r/\Q (ψ r.1) (toS κ it r.2) s') s:=h1;rw[KasT.kasWp_bind]at h2;refine kasC_bind (h u s _ (kas_wp_mono h2 λo s' h3=>?_));cases o with
 | none=>
  obtain⟨r,e,_⟩:=h3;cases e
 | some r=>exact⟨r,rfl,k r.1 r.2 s' Q h3⟩
theorem Zbz:Sim prog w A E κ it (toS κ it) (get:StateT Ve Sem Ve) Zbm:=λu s Q h1=>by
 obtain⟨r,e,h2⟩:=h1;cases e;exact kasC_get h2
theorem Zdv{f:Ve->Ve}{g:TmS->TmS}(h:∀t,f (toS κ it t)=toS κ it (g t)):Sim prog w A E κ it _root_.id (modify f:StateT Ve Sem PUnit) (Zfs g):=λu s Q h1=>by
 unfold Zfs at h1;rw[Zoe]at h1;obtain⟨r,e,h2⟩:=h1;cases e;refine kasC_modify ?_;rw[h];exact h2
theorem Zgw{φ:β->α}{m:StateT Ve Sem α}:Sim prog w A E κ it φ m Ztn:=λu s Q h1=>by
 obtain⟨r,e,_⟩:=h1;cases e
theorem Wm{a:Array Nat}:Sim prog w A E κ it (X8 it) (elem' (a.map (X8 it)) i) (Zfv a i):=by
 rw[elem'_eq];unfold Zfv;rw[Array.getElem?_map,Zwd,Q3];cases a[i]? with
 | none=>exact Zgw
 | some x=>exact Zd rfl
theorem Zlm:Sim prog w A E κ it _root_.id (lt' (X8 it i) (X8 it j)) (Z7n i j):=λu s Q h1=>by
 have h2:kas_cmp prog w A κ it i j (λb s'=>∃r,YB (YB b,u)=YB r/\Q (_root_.id r.1) (toS κ it r.2) s') s:=h1;rw[lt'_eq];refine kasC_bind (kasC_get ?_);refine kasC_bind (kasC_lift (wpAny_attempt (Vd h2 (λc s' hc=>?_) λ_ _ hF=>hF.elim)));obtain⟨r,e,h3⟩:=hc;cases e;exact kasC_pure h3
theorem Zw8{φ:β->α}{f:Nat->α->StateT Ve Sem (ForInStep α)}{g:Nat->β->TM (ForInStep β)}(h:∀x b,Sim prog w A E κ it (stM φ) (f x (φ b)) (g x b))(l:List Nat)(b:β):Sim prog w A E κ it φ (forIn l (φ b) f) (Zdx l b g):=by
 induction l generalizing b with
 | nil=>rw[Ux];exact Zd rfl
 | cons x l ih=>
  rw[List.forIn_cons];refine Zh (h x b) λr=>?_;cases r with
  | done b=>exact Zd rfl
  | yield b=>exact ih b
theorem Ztg{φ:β->α}{f:Nat->α->StateT Ve Sem (ForInStep α)}{g:Nat->β->TM (ForInStep β)}{x y:Nat}{a:α}{b:β}(e:φ b=a)(h:∀x b,Sim prog w A E κ it (stM φ) (f x (φ b)) (g x b)):Sim prog w A E κ it φ (forIn [x:y] a f) (Zdx (List.range' x (y-x)) b g):=λu s Q h1=>by
 refine kasC_range ?_;rw[<-e];exact Zw8 h _ b u s Q h1
theorem Zr{φ:β->α}{c:Prop}[Decidable c]{m n:StateT Ve Sem α}{t v:TM β}(h1:Sim prog w A E κ it φ m t)(h2:Sim prog w A E κ it φ n v):Sim prog w A E κ it φ (if c then m else n) (if c then t else v):=by
 split
 .exact h1
 .exact h2
end
end L2
namespace L2
open PySem PySem.Spec PyProof.Rows PySem.W
structure Rg where
 a:Nat
 b:Nat
noncomputable instance:ForIn TM Rg Nat where
 forIn r b f:=Zdx (List.range' r.a (r.b-r.a)) b f
def Yit:Bool->Uo->Array Uo->Nat->Nat->Nat->StateT Ve Sem (Option Nat):=sortPriv%PySem.Builtin.gallop
def Ztw(le:Bool)(key:Nat)(arr:Array Nat)(base i:Nat):TM (Option Bool):=do
 let x<-Zfv arr (base+i)
 if le then Z7n x key else return(<-Z7n key x).map (!·)
def Zkl(le:Bool)(key:Nat)(arr:Array Nat)(base n hint:Nat):TM (Option Nat):=do
 let mut last:=0
 let mut ofs:=1
 let mut lo:=0
 let mut hi:=0
 let YB right<-Ztw le key arr base hint|return YC
 if right then
  let most:=n-hint
  for _ in Rg.mk 0 n do
   if ofs>=most then break
   let YB more<-Ztw le key arr base (hint+ofs)|return YC
   if !more then break
   last:=ofs
   ofs:=2*ofs+1
  lo:=hint+last+1
  hi:=hint+min ofs most
 else
  let most:=hint+1
  for _ in Rg.mk 0 n do
   if ofs>=most then break
   let YB more<-Ztw le key arr base (hint-ofs)|return YC
   if more then break
   last:=ofs
   ofs:=2*ofs+1
  lo:=hint+1-min ofs most
  hi:=hint-last
 for _ in Rg.mk 0 n do
  if lo>=hi then break
  let m:=lo+(hi-lo)/2
  let YB more<-Ztw le key arr base m|return YC
  if more then lo:=m+1 else hi:=m
 return YB hi
section
variable {it:Array Uo}
theorem Zb7{φ:β->α}{f:Nat->α->StateT Ve Sem (ForInStep α)}{g:Nat->β->TM (ForInStep β)}{x y:Nat}{a:α}{b:β}(e:φ b=a)(h:∀x b,Sim prog w A E κ it (stM φ) (f x (φ b)) (g x b)):Sim prog w A E κ it φ (forIn [x:y] a f) (forIn (Rg.mk x y) b g):=Ztg e h
theorem Zhd{le:Bool}{key:Nat}{arr:Array Nat}{base n hint:Nat}:Sim prog w A E κ it _root_.id (Yit le (X8 it key) (arr.map (X8 it)) base n hint) (Zkl le key arr base n hint):=by
 have bey:∀i,Sim prog w A E κ it _root_.id (do
   let x<-elem' (arr.map (X8 it)) (base+i)
   if le then lt' x (X8 it key)else return(<-lt' (X8 it key) x).map (!·)) (Ztw le key arr base i):=λi=>Zh Wm λx=>Zr Zlm (Zh Zlm λo=>Zd rfl)
 unfold Zkl;refine Zh (bey hint) λo=>?_;cases o with
 | none=>exact Zd rfl
 | some right=>
  refine Zr ?_ ?_
  .refine Zh (Zb7 (φ:=_root_.id) rfl λx b=>?_) λr=>?_
   .exact Zr (Zd rfl) (Zh (bey _) λo=>by
     cases o with
     | none=>exact Zd rfl
     | some m=>exact Zr (Zd rfl) (Zd rfl))
   .obtain⟨r1,last,ofs⟩:=r
    cases r1 with
    | some v=>exact Zd rfl
    | none=>
     refine Zh (Zb7 (φ:=_root_.id) rfl λx b=>?_) λr=>?_
     .exact Zr (Zd rfl) (Zh (bey _) λo=>by
       cases o with
       | none=>exact Zd rfl
       | some m=>exact Zr (Zd rfl) (Zd rfl))
     .obtain⟨r1,lo,hi⟩:=r
      cases r1 with
      | some v=>exact Zd rfl
      | none=>exact Zd rfl
  .refine Zh (Zb7 (φ:=_root_.id) rfl λx b=>?_) λr=>?_
   .exact Zr (Zd rfl) (Zh (bey _) λo=>by
     cases o with
     | none=>exact Zd rfl
     | some m=>exact Zr (Zd rfl) (Zd rfl))
   .obtain⟨r1,last,ofs⟩:=r
    cases r1 with
    | some v=>exact Zd rfl
    | none=>
     refine Zh (Zb7 (φ:=_root_.id) rfl λx b=>?_) λr=>?_
     .exact Zr (Zd rfl) (Zh (bey _) λo=>by
       cases o with
       | none=>exact Zd rfl
       | some m=>exact Zr (Zd rfl) (Zd rfl))
     .obtain⟨r1,lo,hi⟩:=r
      cases r1 with
      | some v=>exact Zd rfl
      | none=>exact Zd rfl
end
end L2
namespace L2
open PySem PySem.Spec PyProof.Rows PySem.W
def Yiz:Array Uo->Array Uo->StateT Ve Sem (Array Uo):=sortPriv%PySem.Builtin.mergeLo
def Yf1:Nat->StateT Ve Sem PUnit:=sortPriv%PySem.Builtin.setMinGallop
def Zl8(g:Nat):TM PUnit:=Zfs λt=>{ t with g:=g }
def Yc9(a b:Array Nat):TM (Array Nat):=do
 let total:=a.size+b.size;let fin (out:Array Nat) (i j:Nat):=out++a.extract i a.size++b.extract j b.size;let lst (out:Array Nat) (i j:Nat):=out++b.extract j b.size++a.extract i a.size
 let mut out:Array Nat:=#[<-Zfv b 0]
 let mut i:=0
 let mut j:=1
 if j==b.size then return fin out i j
 if i+1==a.size then return lst out i j
 let mut mg:=(<-Zbm).g
 for _ in Rg.mk 0 total do
  let mut na:=0
  let mut nb:=0
  for _ in Rg.mk 0 total do
   let YB c<-Z7n (<-Zfv b j) (<-Zfv a i)|return fin out i j
   if c then
    out:=out.push (<-Zfv b j);j:=j+1;nb:=nb+1;na:=0
    if j==b.size then return fin out i j
    if nb>=mg then break
   else
    out:=out.push (<-Zfv a i);i:=i+1;na:=na+1;nb:=0
    if i+1==a.size then return lst out i j
    if na>=mg then break
  mg:=mg+1
  for _ in Rg.mk 0 total do
   if mg>1 then mg:=mg-1
   Zl8 mg
   let YB k<-Zkl YF (<-Zfv b j) a i (a.size-i) 0|return fin out i j
   na:=k
   if k>0 then
    out:=out++a.extract i (i+k);i:=i+k
    if i+1==a.size then return lst out i j
    if i==a.size then return fin out i j
   out:=out.push (<-Zfv b j);j:=j+1
   if j==b.size then return fin out i j
   let YB k<-Zkl YD (<-Zfv a i) b j (b.size-j) 0|return fin out i j
   nb:=k
   if k>0 then
    out:=out++b.extract j (j+k);j:=j+k
    if j==b.size then return fin out i j
   out:=out.push (<-Zfv a i);i:=i+1
   if i+1==a.size then return lst out i j
   if na<7&&nb<7 then break
  mg:=mg+1
  Zl8 mg
 Ztn
section
variable {it:Array Uo}{γ:Type}
theorem Zde{φ:β->α}{x:String}{f:PUnit->StateT Ve Sem α}{t:TM β}(h:Sim prog w A E κ it φ (f ⟨⟩) t):Sim prog w A E κ it φ ((liftM (rule x):StateT Ve Sem PUnit)>>=f) t:=λu s Q h1=>kasC_bind (kasC_lift (wpAny_rule (h u s Q h1)))
theorem W9{φ:β->α}{c d:Prop}[Decidable c][Decidable d]{m n:StateT Ve Sem α}{t v:TM β}(e:c↔d)(h1:Sim prog w A E κ it φ m t)(h2:Sim prog w A E κ it φ n v):Sim prog w A E κ it φ (if c then m else n) (if d then t else v):=by
 by_cases q:d
 .rw[YL q,YL (e.mpr q)];exact h1
 .rw[YM q,YM λz=>q (e.mp z)];exact h2
theorem Zfn{φ:β->α}{f:Nat->α->StateT Ve Sem (ForInStep α)}{g:Nat->β->TM (ForInStep β)}{x y y':Nat}{a:α}{b:β}(ey:y'=y)(e:φ b=a)(h:∀x b,Sim prog w A E κ it (stM φ) (f x (φ b)) (g x b)):Sim prog w A E κ it φ (forIn [x:y'] a f) (forIn (Rg.mk x y) b g):=ey▸Ztg e h
theorem Zn5{le:Bool}{key:Nat}{arr:Array Nat}{base n n' hint:Nat}(e:n'=n):Sim prog w A E κ it _root_.id (Yit le (X8 it key) (arr.map (X8 it)) base n' hint) (Zkl le key arr base n hint):=e▸Zhd
def mpS(f:Nat->Uo)(b:Option (Array Nat)×Array Nat×γ):Option (Array Uo)×Array Uo×γ:=(b.1.map (Array.map f),b.2.1.map f,b.2.2)
theorem Zgi{g:Nat}:Sim prog w A E κ it _root_.id (Yf1 g) (Zl8 g):=Zdv λt=>rfl
theorem Yk{φ:β->α}{m:StateT Ve Sem (Option γ)}{t:TM (Option γ)}{f:Option γ->StateT Ve Sem α}{g:Option γ->TM β}(h:Sim prog w A E κ it _root_.id m t)(k0:Sim prog w A E κ it φ (f YC) (g YC))(k:∀c,Sim prog w A E κ it φ (f (YB c)) (g (YB c))):Sim prog w A E κ it φ (m>>=f) (t>>=g):=Zh h λo=>by
 cases o with
 | none=>exact k0
 | some c=>exact k c
theorem Yad{a b:Array Nat}:Sim prog w A E κ it (Array.map (X8 it)) (Yiz (a.map (X8 it)) (b.map (X8 it))) (Yc9 a b):=by
 have sz:∀(a:Array Nat) (k:Nat),(k==(a.map (X8 it)).size)=YD↔(k==a.size)=YD:=λa k=>by rw[Ql]
 have tot:(a.map (X8 it)).size+(b.map (X8 it)).size=a.size+b.size:=by rw[Ql,Ql]
 have m1:∀x,Array.map (X8 it) #[x]=#[X8 it x]:=λx=>by simp
 unfold Yc9;refine Zde (Zh Wm λx0=>?_);refine W9 (sz _ _) (Zd (by simp only[Qc,X4,Ql,m1])) (W9 (sz _ _) (Zd (by simp only[Qc,X4,Ql,m1])) (Zh Zbz λt0=>?_));refine Zh (Zfn (φ:=mpS (X8 it)) tot (by simp only[mpS,m1];rfl) λx b=>?_) λr=>?_
 .refine Zh (Zfn (φ:=mpS (X8 it)) tot rfl λx b=>?_) λr=>?_
  .refine Zh Wm λx=>Zh Wm λy=>Yk Zlm ?_ λc=>?_
   .exact Zd (by simp only[stM,mpS,Qc,X4,Ql,Qj])
   .refine Zr (Zh Wm λz=>W9 (sz _ _) (Zd ?_) (Zr (Zd ?_) (Zd ?_))) (Zh Wm λz=>W9 (sz _ _) (Zd ?_) (Zr (Zd ?_) (Zd ?_)))<;>simp only[stM,mpS,QC,Qc,X4,Ql,Qj,Qx]
  .obtain⟨r1,r2⟩:=r
   cases r1 with
   | some v=>exact Zd rfl
   | none=>
    refine Zde (Zh (Zfn (φ:=mpS (X8 it)) tot rfl λx b=>?_) λr=>?_)
    .refine Zr ?_ ?_<;>(
      refine Zh Zgi λ_=>Zh Wm λy=>Yk (Zn5 (by rw[Ql];rfl)) (Zd (by simp only[stM,mpS,QC,Qc,X4,Ql,Qj,Qx])) λk=>?_;refine Zr (W9 (sz _ _) (Zd (by simp only[stM,mpS,QC,Qc,X4,Ql,Qj,Qx])) (W9 (sz _ _) (Zd (by simp only[stM,mpS,QC,Qc,X4,Ql,Qj,Qx])) ?_)) ?_<;>(
       refine Zh Wm λz=>W9 (sz _ _) (Zd (by simp only[stM,mpS,QC,Qc,X4,Ql,Qj,Qx])) (Zh Wm λy2=>Yk (Zn5 (by rw[Ql];rfl)) (Zd (by simp only[stM,mpS,QC,Qc,X4,Ql,Qj,Qx])) λk2=>?_);refine Zr (W9 (sz _ _) (Zd (by simp only[stM,mpS,QC,Qc,X4,Ql,Qj,Qx])) ?_) ?_<;>(
        refine Zh Wm λz2=>W9 (sz _ _) (Zd (by simp only[stM,mpS,QC,Qc,X4,Ql,Qj,Qx])) (Zr (Zd (by simp only[stM,mpS,QC,Qc,X4,Ql,Qj,Qx])) (Zd (by simp only[stM,mpS,QC,Qc,X4,Ql,Qj,Qx]))))))
    .obtain⟨r1,r2⟩:=r
     cases r1 with
     | some v=>exact Zd rfl
     | none=>exact Zh Zgi λ_=>Zd rfl
 .obtain⟨r1,r2⟩:=r
  cases r1 with
  | some v=>exact Zd rfl
  | none=>exact Zgw
end
end L2
namespace L2
open PySem PySem.Spec PyProof.Rows PySem.W
def Yiy:Array Uo->Array Uo->StateT Ve Sem (Array Uo):=sortPriv%PySem.Builtin.mergeHi
def Yc5(a b:Array Nat):TM (Array Nat):=do
 let total:=a.size+b.size;let fin (out:Array Nat) (i j:Nat):=a.extract 0 i++b.extract 0 j++out.reverse;let fst (out:Array Nat) (i j:Nat):=b.extract 0 j++a.extract 0 i++out.reverse
 let mut i:=a.size-1
 let mut j:=b.size
 let mut out:Array Nat:=#[<-Zfv a i]
 if i==0 then return fin out i j
 if j==1 then return fst out i j
 let mut mg:=(<-Zbm).g
 for _ in Rg.mk 0 total do
  let mut na:=0
  let mut nb:=0
  for _ in Rg.mk 0 total do
   let YB c<-Z7n (<-Zfv b (j-1)) (<-Zfv a (i-1))|return fin out i j
   if c then
    i:=i-1;out:=out.push (<-Zfv a i);na:=na+1;nb:=0
    if i==0 then return fin out i j
    if na>=mg then break
   else
    j:=j-1;out:=out.push (<-Zfv b j);nb:=nb+1;na:=0
    if j==1 then return fst out i j
    if nb>=mg then break
  mg:=mg+1
  for _ in Rg.mk 0 total do
   if mg>1 then mg:=mg-1
   Zl8 mg
   let YB x<-Zkl YF (<-Zfv b (j-1)) a 0 i (i-1)|return fin out i j
   let k:=i-x
   na:=k
   if k>0 then
    out:=out++(a.extract x i).reverse;i:=x
    if i==0 then return fin out i j
   j:=j-1;out:=out.push (<-Zfv b j)
   if j==1 then return fst out i j
   let YB x<-Zkl YD (<-Zfv a (i-1)) b 0 j (j-1)|return fin out i j
   let k:=j-x
   nb:=k
   if k>0 then
    out:=out++(b.extract x j).reverse;j:=x
    if j==1 then return fst out i j
    if j==0 then return fin out i j
   i:=i-1;out:=out.push (<-Zfv a i)
   if i==0 then return fin out i j
   if na<7&&nb<7 then break
  mg:=mg+1
  Zl8 mg
 Ztn
section
variable {it:Array Uo}{γ:Type}
def mpH(f:Nat->Uo)(b:Option (Array Nat)×Nat×Nat×Array Nat×γ):Option (Array Uo)×Nat×Nat×Array Uo×γ:=(b.1.map (Array.map f),b.2.1,b.2.2.1,b.2.2.2.1.map f,b.2.2.2.2)
theorem Z17{a:Array Nat}(e:j=i):Sim prog w A E κ it (X8 it) (elem' (a.map (X8 it)) j) (Zfv a i):=e▸Wm
theorem Ybg{a b:Array Nat}:Sim prog w A E κ it (Array.map (X8 it)) (Yiy (a.map (X8 it)) (b.map (X8 it))) (Yc5 a b):=by
 have tot:(a.map (X8 it)).size+(b.map (X8 it)).size=a.size+b.size:=by rw[Ql,Ql]
 have m1:∀x,Array.map (X8 it) #[x]=#[X8 it x]:=λx=>by simp
 unfold Yc5;refine Zde (Zh (Z17 (by rw[Ql])) λx0=>?_);refine W9 (by rw[Ql]) (Zd (by simp only[Qc,X4,QX,Ql,m1])) (W9 (by rw[Ql]) (Zd (by simp only[Qc,X4,QX,Ql,m1])) (Zh Zbz λt0=>?_));refine Zh (Zfn (φ:=mpH (X8 it)) tot (by simp only[mpH,m1,Ql];rfl) λx b=>?_) λr=>?_
 .refine Zh (Zfn (φ:=mpH (X8 it)) tot rfl λx b=>?_) λr=>?_
  .refine Zh Wm λx=>Zh Wm λy=>Yk Zlm ?_ λc=>?_
   .exact Zd (by simp only[stM,mpH,Qc,X4,QX,Qj])
   .refine Zr (Zh Wm λz=>Zr (Zd ?_) (Zr (Zd ?_) (Zd ?_))) (Zh Wm λz=>Zr (Zd ?_) (Zr (Zd ?_) (Zd ?_)))<;>simp only[stM,mpH,QC,Qc,X4,QX,Qj,Qx]
  .obtain⟨r1,r2⟩:=r
   cases r1 with
   | some v=>exact Zd rfl
   | none=>
    refine Zde (Zh (Zfn (φ:=mpH (X8 it)) tot rfl λx b=>?_) λr=>?_)
    .refine Zr ?_ ?_<;>(
      refine Zh Zgi λ_=>Zh Wm λy=>Yk Zhd (Zd (by simp only[stM,mpH,QC,Qc,X4,QX,Qj,Qx])) λk=>?_;refine Zr (Zr (Zd (by simp only[stM,mpH,QC,Qc,X4,QX,Qj,Qx])) ?_) ?_<;>(
       refine Zh Wm λz=>Zr (Zd (by simp only[stM,mpH,QC,Qc,X4,QX,Qj,Qx])) (Zh Wm λy2=>Yk Zhd (Zd (by simp only[stM,mpH,QC,Qc,X4,QX,Qj,Qx])) λk2=>?_);refine Zr (Zr (Zd (by simp only[stM,mpH,QC,Qc,X4,QX,Qj,Qx])) (Zr (Zd (by simp only[stM,mpH,QC,Qc,X4,QX,Qj,Qx])) ?_)) ?_<;>(
        refine Zh Wm λz2=>Zr (Zd (by simp only[stM,mpH,QC,Qc,X4,QX,Qj,Qx])) (Zr (Zd (by simp only[stM,mpH,QC,Qc,X4,QX,Qj,Qx])) (Zd (by simp only[stM,mpH,QC,Qc,X4,QX,Qj,Qx]))))))
    .obtain⟨r1,r2⟩:=r
     cases r1 with
     | some v=>exact Zd rfl
     | none=>exact Zh Zgi λ_=>Zd rfl
 .obtain⟨r1,r2⟩:=r
  cases r1 with
  | some v=>exact Zd rfl
  | none=>exact Zgw
end
end L2
namespace L2
open PySem PySem.Spec PyProof.Rows PySem.W
def Znk(i j:Nat):TM (Option Bool):=do
 let t<-Zbm
 let x<-Zfv t.p i
 let y<-Zfv t.p j
 Z7n x y
def Zt9(i j:Nat):TM PUnit:=Zfs λt=>{ t with p:=kas_rev t.p i j }
def mvL(l:List Nat)(i d:Nat):List Nat:=l.take (i-d)++((l.drop i).take 1++((l.drop (i-d)).take d++l.drop (i+1)))
theorem Z5l{l:List Nat}{d:Nat}(hi:i<l.length)(hd:d<=i)(k:Nat):(mvL l i d)[k]? =if k=i-d then l[i]? else if i-d<k/\k<=i then l[k-1]? else l[k]?:=by
 unfold mvL;have l1:(l.take (i-d)).length=i-d:=by rw[Vy];omega
 have l2:((l.drop i).take 1).length=1:=by rw[Vy,JG];omega
 have l3:((l.drop (i-d)).take d).length=d:=by rw[Vy,JG];omega
 rw[V7,V7,V7,l1,l2,l3]
 by_cases a:k<i-d
 .rw[YL a,YM (by omega),YM (by omega),List.getElem?_take,YL a]
 rw[YM a]
 by_cases b:k=i-d
 .rw[YL (by omega),YL b,List.getElem?_take,YL (by omega),List.getElem?_drop,show i+(k-(i-d))=i by omega]
 rw[YM (by omega),YM b]
 by_cases c:k<=i
 .rw[YL (by omega),YL (by omega),List.getElem?_take,YL (by omega),List.getElem?_drop,show i-d+(k-(i-d)-1)=k-1 by omega]
 .rw[YM (by omega),YM (by omega),List.getElem?_drop,show i+1+(k-(i-d)-1-d)=k by omega]
def Yc2(p:Array Nat)(i j:Nat):Array Nat:=if(UJ i p.toList.length&&Nat.ble j i)=YD then⟨mvL p.toList i (i-j)⟩else bubble p i (i-j)
theorem Z3o(p:Array Nat)(i j:Nat):Yc2 p i j=bubble p i (i-j):=by
 unfold Yc2
 by_cases c:(UJ i p.toList.length&&Nat.ble j i)=YD
 .rw[YL c]
  rw[Xp]at c;have h1:i<p.size:=JL c.1;have h2:j<=i:=JL c.2;apply Array.ext_getElem?;intro k;rw[getElem?_bubble h1 (i-j) (by omega)];have:=Z5l (l:=p.toList) h1 (show i-j<=i by omega) k;simp only[Q3]at this;rw[<-this,<-Q3]
 .rw[YM c]
def Ycb(i j:Nat):TM PUnit:=Zfs λt=>{ t with p:=Yc2 t.p i j }
def Zt3(lo m:Nat):TM (Option Nat):=do
 let mut n:=1
 for _ in Rg.mk 1 m do
  let YB c<-Znk (lo+n) (lo+n-1)|return YC
  if c then break
  n:=n+1
 if n==m then return YB n
 if n>1 then
  let YB c<-Znk lo (lo+n-1)|return YC
  if c then return YB n
  Zt9 lo (lo+n)
 n:=n+1
 let mut e:=0
 for _ in Rg.mk n m do
  let YB c<-Znk (lo+n) (lo+n-1)|return YC
  if c then
   if e>0 then Zt9 (lo+n-(e+1)) (lo+n)
   e:=0
  else
   let YB d<-Znk (lo+n-1) (lo+n)|return YC
   if d then break
   e:=e+1
  n:=n+1
 if e>0 then Zt9 (lo+n-(e+1)) (lo+n)
 Zt9 lo (lo+n)
 for _ in Rg.mk n m do
  let YB c<-Znk (lo+n) (lo+n-1)|return YC
  if c then break
  n:=n+1
 return YB n
def Zv3(lo n ok:Nat):TM Bool:=do
 for k in Rg.mk (max ok 1) n do
  let mut l:=0
  let mut r:=k
  for _ in Rg.mk 0 k do
   if l>=r then break
   let m:=(l+r)/2
   let YB c<-Znk (lo+k) (lo+m)|return YF
   if c then r:=m else l:=m+1
  Ycb (lo+k) (lo+l)
 return YD
section
variable {it:Array Uo}{γ:Type}
theorem Ze3:Sim prog w A E κ it _root_.id (ltAt' i j) (Znk i j):=Zh Zbz λt=>Zh Wm λx=>Zh Wm λy=>Zlm
theorem Zjd:Sim prog w A E κ it _root_.id (reverseSlice' i j) (Zt9 i j):=by
 rw[reverseSlice'_eq];exact Zdv λt=>by
  show Vg κ (mirror (t.p.map (X8 it)) i j ((j-i)/2)) t.q t.g YC=Vg κ ((mirror t.p i j ((j-i)/2)).map (X8 it)) t.q t.g YC;rw[show mirror (t.p.map (X8 it)) i j ((j-i)/2)=(mirror t.p i j ((j-i)/2)).map (X8 it)from kas_swaps_map (X8 it) (λk=>i+k) (λk=>j-1-k) _ t.p]
theorem Z5d:Sim prog w A E κ it _root_.id (moveDown' i j) (Ycb i j):=by
 rw[moveDown'_eq];exact Zdv λt=>by
  show Vg κ (bubble (t.p.map (X8 it)) i (i-j)) t.q t.g YC=Vg κ ((Yc2 t.p i j).map (X8 it)) t.q t.g YC;rw[Z3o];rw[show bubble (t.p.map (X8 it)) i (i-j)=(bubble t.p i (i-j)).map (X8 it)from kas_swaps_map (X8 it) (λk=>i-k) (λk=>i-k-1) _ t.p]
theorem Z4a{lo m:Nat}:Sim prog w A E κ it _root_.id (countRun' lo m) (Zt3 lo m):=by
 unfold Zt3;refine Zh (Zb7 (φ:=_root_.id) rfl λx b=>Yk Ze3 (Zd rfl) λc=>Zr (Zd rfl) (Zd rfl)) λr=>?_;obtain⟨r1,n⟩:=r;cases r1 with
 | some v=>exact Zd rfl
 | none=>
  refine Zr (Zd rfl) (Zr (Yk Ze3 (Zd rfl) λc=>Zr (Zd rfl) (Zh Zjd λ_=>?_)) ?_)<;>(
   refine Zde (Zh (Zb7 (φ:=_root_.id) rfl λx b=>Yk Ze3 (Zd rfl) λc=>Zr (Zr (Zh Zjd λ_=>Zd rfl) (Zd rfl)) (Yk Ze3 (Zd rfl) λd=>Zr (Zd rfl) (Zd rfl))) λr=>?_);obtain⟨r1,n,e⟩:=r;cases r1 with
   | some v=>exact Zd rfl
   | none=>
    refine Zr (Zh Zjd λ_=>?_) ?_<;>(
     refine Zh Zjd λ_=>Zh (Zb7 (φ:=_root_.id) rfl λx b=>Yk Ze3 (Zd rfl) λc=>Zr (Zd rfl) (Zd rfl)) λr=>?_;obtain⟨r1,n⟩:=r;cases r1 with
     | some v=>exact Zd rfl
     | none=>exact Zd rfl))
theorem Z4f{lo n ok:Nat}:Sim prog w A E κ it _root_.id (binarySort' lo n ok) (Zv3 lo n ok):=by
 unfold Zv3;refine Zh (Zb7 (φ:=_root_.id) rfl λk b=>?_) λr=>?_
 .refine Zh (Zb7 (φ:=_root_.id) rfl λx b=>Zr (Zd rfl) (Yk Ze3 (Zd rfl) λc=>Zr (Zd rfl) (Zd rfl))) λr=>?_
  obtain⟨r1,l,m⟩:=r;cases r1 with
  | some v=>exact Zd rfl
  | none=>exact Zh Z5d λ_=>Zd rfl
 .obtain⟨r1,r2⟩:=r
  cases r1 with
  | some v=>exact Zd rfl
  | none=>exact Zd rfl
end
end L2
namespace L2
open PySem PySem.Spec PyProof.Rows PySem.W
def layA{γ:Type}(k:Nat)(m a:Array γ):Array γ:=m.toList.zipIdx.foldl (λa q=>a.setIfInBounds (k+q.2) q.1) a
def Z7j(i:Nat):TM Bool:=do
 let t<-Zbm
 let(YB (c,n,u),YB (d,m,_)):=(t.q[i]?,t.q[i+1]?)|Ztn
 Zfs λ_=>{ t with q:=(t.q.setIfInBounds i (c,n+m,u)).eraseIdxIfInBounds (i+1) }
 let YB k<-Zkl YF (<-Zfv t.p d) t.p c n 0|return YF
 let(c,n):=(c+k,n-k)
 if n==0 then return YD
 let YB m<-Zkl YD (<-Zfv t.p (c+n-1)) t.p d m (m-1)|return YF
 if m==0 then return YD
 let x:=t.p.extract c d;let y:=t.p.extract d (d+m)
 let z<-if n<=m then Yc9 x y else Yc5 x y
 Zfs λt=>{ t with p:=layA c z t.p }
 let _<-Zbm
 return YD
section
variable {it:Array Uo}{γ:Type}
theorem Z7f{a:Ve}{t:TmS}(h:toS κ it t=a):Sim prog w A E κ it _root_.id (set a:StateT Ve Sem PUnit) (Zfs λ_=>t):=λu s Q h1=>by
 unfold Zfs at h1;rw[Zoe]at h1;obtain⟨r,e,h2⟩:=h1;cases e;unfold kasC;rw[StateT.run_set,<-h];exact Xy h2
theorem Z5q(f:α->β)(xs:Array α)(i:Nat)(v:α):(xs.map f).setIfInBounds i (f v)=(xs.setIfInBounds i v).map f:=by
 apply Array.ext_getElem?;intro k;rw[Array.getElem?_map,Array.getElem?_setIfInBounds,Array.getElem?_setIfInBounds,Ql];split
 .split<;>rfl
 .rw[Array.getElem?_map]
theorem Zyo(f:α->β)(k:Nat)(m a:Array α):layA k (m.map f) (a.map f)=(layA k m a).map f:=by
 unfold layA;rw[Array.toList_map,List.zipIdx_map,List.foldl_map];generalize m.toList.zipIdx=l
 induction l generalizing a with
 | nil=>rfl
 | cons q l ih=>
  rw[List.foldl_cons,List.foldl_cons];show List.foldl _ ((a.map f).setIfInBounds (k+q.2) (f q.1)) l=_;rw[Z5q];exact ih _
theorem Z2f{a b:Array Nat}{c d:Array Uo}(e:c=a.map (X8 it))(e':d=b.map (X8 it)):Sim prog w A E κ it (Array.map (X8 it)) (Yiz c d) (Yc9 a b):=e▸e'▸Yad
theorem Z5p{a b:Array Nat}{c d:Array Uo}(e:c=a.map (X8 it))(e':d=b.map (X8 it)):Sim prog w A E κ it (Array.map (X8 it)) (Yiy c d) (Yc5 a b):=e▸e'▸Ybg
theorem Z1r:Sim prog w A E κ it _root_.id (mergeAt' i) (Z7j i):=by
 unfold Z7j;refine Zh Zbz λt=>?_;have e1:(UL (toS κ it t))[i]? =t.q[i]?:=rfl;have e2:(UL (toS κ it t))[i+1]? =t.q[i+1]?:=rfl;generalize(UL (toS κ it t))[i]? =o1 at e1|-
 generalize(UL (toS κ it t))[i+1]? =o2 at e2|-
 subst e1 e2;cases t.q[i]? with
 | none=>exact Zgw
 | some x=>
  cases t.q[i+1]? with
  | none=>exact Zgw
  | some y=>
   obtain⟨c,n,u⟩:=x;obtain⟨d,m,v⟩:=y;refine Zh (Z7f rfl) λ_=>Zh Wm λx=>Yk Zhd (Zd rfl) λk=>Zr (Zd rfl) (Zh Wm λy=>Yk Zhd (Zd rfl) λm=>Zr (Zd rfl) ?_);have ex:∀i j,(t.p.map (X8 it)).extract i j=(t.p.extract i j).map (X8 it):=λi j=>by rw[X4]
   refine Zr (Zh (Z2f (ex _ _) (ex _ _)) λz=>?_) (Zh (Z5p (ex _ _) (ex _ _)) λz=>?_)<;>(
    refine Zh (Zdv λt=>?_) λ_=>Zh Zbz λt=>Zd rfl;show Vg κ (layA (c+k) (z.map (X8 it)) (t.p.map (X8 it))) t.q t.g YC=Vg κ ((layA (c+k) z t.p).map (X8 it)) t.q t.g YC;rw[Zyo])
def Zht:TM PUnit:=do
 let sz:=(<-Zbm).p.size
 let mr:=minRun' sz sz 0
 let mut lo:=0
 for _ in Rg.mk 0 sz do
  if lo>=sz then break
  let YB f<-Zt3 lo (sz-lo)|return
  let mut n:=f
  if n<mr then
   let fo:=min (sz-lo) mr
   if !(<-Zv3 lo fo n)then return
   n:=fo
  if let YB (c,m,_):=(<-Zbm).q.back? then
   let u:=power' sz (2*c+m) (2*c+m+m+n) sz
   for _ in Rg.mk 0 sz do
    let z:=(<-Zbm).q
    let YB (_,_,v):=(if z.size>1 then z[z.size-2]? else YC)|break
    if v<=u then break
    if !(<-Z7j (z.size-2))then return
   Zfs λt=>{ t with q:=t.q.modify (t.q.size-1) λ(c,m,_)=>(c,m,u) }
  Zfs λt=>{ t with q:=t.q.push (lo,n,0) }
  lo:=lo+n
 for _ in Rg.mk 0 sz do
  let z:=(<-Zbm).q
  if z.size<=1 then break
  let k:=z.size-2;let bf:=if k>0 then z[k-1]?.map (·.2.1)else YC
  let k:=if bf.any (·<(z[k+1]?.elim 0 (·.2.1)))then k-1 else k
  if !(<-Z7j k)then return
theorem Zxl:Sim prog w A E κ it _root_.id sortRuns' Zht:=by
 rw[sortRuns'_eq];unfold Zht;refine Zh Zbz λt=>?_;have sz:(arrOf (toS κ it t)).size=t.p.size:=Ql ..;generalize(arrOf (toS κ it t)).size=n1 at sz|-
 subst sz;refine Zh (Zb7 (φ:=_root_.id) rfl λx b=>?_) λr=>?_
 .refine Zr (Zd rfl) (Yk Z4a (Zd rfl) λf=>?_)
  refine Zr (Zde (Zh Z4f λc=>Zr (Zd rfl) ?_)) ?_<;>(
   refine Zh Zbz λt2=>?_;have e1:(UL (toS κ it t2)).back? =t2.q.back?:=rfl;generalize(UL (toS κ it t2)).back? =o1 at e1|-
   subst e1;cases t2.q.back? with
   | none=>exact Zh (Zdv λt=>rfl) λ_=>Zd rfl
   | some y=>
    obtain⟨c,m,v⟩:=y;refine Zh (Zb7 (φ:=_root_.id) rfl λx b=>?_) λr=>?_
    .refine Zh Zbz λt3=>?_
     have e1:UL (toS κ it t3)=t3.q:=rfl;generalize UL (toS κ it t3)=z at e1|-
     subst e1;show Sim prog w A E κ it _ (match(if t3.q.size>1 then t3.q[t3.q.size-2]? else YC)with|some (_,_,_)=>_|_=>_) (match(if t3.q.size>1 then t3.q[t3.q.size-2]? else YC)with|some (_,_,_)=>_|_=>_);generalize(if t3.q.size>1 then t3.q[t3.q.size-2]? else YC)=o;cases o with
     | none=>exact Zd rfl
     | some y=>
      obtain⟨_,_,v⟩:=y;exact Zr (Zd rfl) (Zh Z1r λc=>Zr (Zd rfl) (Zd rfl))
    .obtain⟨r1,r2⟩:=r
     cases r1 with
     | some v=>exact Zd rfl
     | none=>exact Zh (Zdv λt=>rfl) λ_=>Zh (Zdv λt=>rfl) λ_=>Zd rfl)
 .obtain⟨r1,lo⟩:=r
  cases r1 with
  | some v=>exact Zd rfl
  | none=>
   refine Zh (Zb7 (φ:=_root_.id) rfl λx b=>?_) λr=>?_
   .refine Zh Zbz λt3=>?_
    have e1:UL (toS κ it t3)=t3.q:=rfl;generalize UL (toS κ it t3)=z at e1|-
    subst e1;exact Zr (Zd rfl) (Zh Z1r λc=>Zr (Zd rfl) (Zd rfl))
   .obtain⟨r1,r2⟩:=r
    cases r1 with
    | some v=>exact Zd rfl
    | none=>exact Zd rfl
end
end L2
namespace L2
open PySem PySem.Spec PyProof.Rows PySem.W
def Zj0(lt:Nat->Nat->Bool)(n:Nat):KasT α->Option α
 | .ret a=>YB a
 | .ask i j k=>if(UJ i n&&UJ j n)=YD then Zj0 lt n (k (lt i j))else YC
theorem Z55{lt:Nat->Nat->Bool}{n:Nat}{cmp:Nat->Nat->(Bool->Xg->Prop)->Xg->Prop}{Q:α->Xg->Prop}(hc:∀i j C,i<n->j<n->C (lt i j) s->cmp i j C s){t:KasT α}{a:α}(h:Zj0 lt n t=YB a)(q:Q a s):t.kasWp cmp Q s:=by
 induction t with
 | ret b=>cases h;exact q
 | ask i j k ih=>
  rw[Zj0]at h;split at h
  .rename_i c
   rw[Xp]at c;exact hc i j _ (JL c.1) (JL c.2) (ih _ h)
  .cases h
theorem Zrs{lt lt':Nat->Nat->Bool}{n:Nat}(h:∀i<n,∀j<n,lt i j=lt' i j)(t:KasT α):Zj0 lt n t=Zj0 lt' n t:=by
 induction t with
 | ret b=>rfl
 | ask i j k ih=>
  rw[Zj0,Zj0];split
  .rename_i c
   rw[Xp]at c;rw[h i (JL c.1) j (JL c.2)];exact ih _
  .rfl
def Zdh(lt:Nat->Nat->Bool)(n:Nat):Option (List Nat):=(Zj0 lt n (Zht ⟨(Xw n).toArray,#[],7⟩)).bind λo=>o.map λr=>r.2.p.toList
theorem Zm5{lt lt':Nat->Nat->Bool}{n:Nat}(h:∀i<n,∀j<n,lt i j=lt' i j):Zdh lt n=Zdh lt' n:=by
 unfold Zdh;rw[Zrs h]
def tLay(d:α)(l:List Nat)(vs:List α):List α:=l.map λi=>vs.getD i d
theorem Zrf{lt:Nat->Nat->Bool}{n:Nat}{P:PySem.Fin->Xg->Prop}{l:List Nat}(ho:s.heap.get? a=YB (QQ "list" vs.toArray n))
  (k0:∀b o,h0.get? b=YB o->s.heap.get? b=YB o) (ha0:h0.get? a=YC) (h2:2<=vs.length) (hz:vs.length<=10000) (hl:Zdh lt vs.length=YB l) (hp:l.length=vs.length)
  (hk:∀s':Xg,(∀b o,h0.get? b=YB o->s'.heap.get? b=YB o)->∀Q:Vj->Xg->Prop,Q κ s'->XX (Qi prog w) A (keyKind' vs.toArray) Q E s')
  (hc:∀s':Xg,(∀b o,h0.get? b=YB o->s'.heap.get? b=YB o)->∀i j C,i<vs.length->j<vs.length->C (lt i j) s'->kas_ask prog w A κ vs i j C s')
  (h:P (.done (.ret .none)) { s with heap:=sortedHeap s.heap a vs (Bm (tLay QH l vs)) }):XX (Qi prog w) A (VG.«list.sort» ⟨[.ref a],[]⟩) P E s:=by
 have ha:a<s.heap.objs.size:=XD ho;obtain⟨e1,ho1⟩:∃e1,(s.heap.update a (QM λ_=>(#[]:Array Xf))).get? a=YB (QQ "list" #[] e1):=⟨_,get?_update_seq ho λ_=>#[]⟩;have ho6:(((s.heap.update a (QM λ_=>(#[]:Array Xf))).push (QQ "tuple" vs.toArray 0)).push (QQ "list" #[] 0)).get? a=YB (QQ "list" #[] e1):=Xk _ (Xk _ ho1);have k6:∀b o,h0.get? b=YB o->(((s.heap.update a (QM λ_=>(#[]:Array Xf))).push (QQ "tuple" vs.toArray 0)).push (QQ "list" #[] 0)).get? b=YB o:=λb o e=>by
  refine Xk _ (Xk _ ?_);rw[Heap.get?_update_ne _ _ _ _ (λq=>by rw[q,ha0]at e;cases e)];exact k0 b o e
 rw[list_sort_plain];refine Xd (listItems_at ho rfl ?_);refine Xd (listUpdate_at ho rfl ?_ (by rw[Xx,Qh];omega) (QS _));refine Xd (seqEpoch_at ho1 rfl ?_);refine Xd (wpAny_newTuple ?_ (by show vs.length<=_;rw[Qh];omega));refine Xd (wpAny_newList ?_ (QS _));refine VD ?_;show XX (Qi prog w) A _ P E { s with heap:=((s.heap.update a (QM λ_=>(#[]:Array Xf))).push (QQ "tuple" vs.toArray 0)).push (QQ "list" #[] 0) };dsimp only;have hs:vs.toArray.size=vs.length:=Xx ..;have n2:¬vs.toArray.size<2:=by omega
 rw[YM n2,YM n2];refine Xd (hk _ k6 _ ?_);have est:Vg κ (vs.toArray.zip vs.toArray) #[] 7 YC=toS κ (Uv vs) ⟨(Xw vs.length).toArray,#[],7⟩:=by
  have e:=kas_range (Uv vs);rw[pairsOf_size]at e;show Vg κ (Uv vs) #[] 7 YC=Vg κ ((Bm (Xw vs.length)).map (X8 (Uv vs))) #[] 7 YC;rw[e]
 obtain⟨o,eo,hl⟩:=Option.bind_eq_some_iff.mp hl;obtain⟨r0,er,hq⟩:=JQ.mp hl;subst er;have run:=Zxl (prog:=prog) (w:=w) (A:=A) (E:=E) (κ:=κ) (it:=Uv vs) ⟨(Xw vs.length).toArray,#[],7⟩ { s with heap:=((s.heap.update a (QM λ_=>(#[]:Array Xf))).push (QQ "tuple" vs.toArray 0)).push (QQ "list" #[] 0) }
  (λ_ st' s'=>arrOf st'=r0.2.p.map (X8 (Uv vs))/\failedOf st'=YC/\s'={ s with heap:=((s.heap.update a (QM λ_=>(#[]:Array Xf))).push (QQ "tuple" vs.toArray 0)).push (QQ "list" #[] 0) })
  (Z55 (λi j C hi hj hC=>by
   have:=hc _ k6 i j C hi hj hC;rw[kas_ask_eq]at this;exact this) eo ⟨r0,rfl,rfl,rfl,rfl⟩)
 rw[<-est]at run;refine Xd (Vd run ?_ λ_ _ e=>e);intro r s' z;obtain⟨har,hf,rfl⟩:=z;have hout:(arrOf r.2).map (·.2)=Bm (tLay QH l vs):=by
  apply Array.toList_inj.mp;rw[har,Array.map_map,Array.toList_map,<-hq];exact Xr λi _=>by show(X8 (Uv vs) i).2=_;rw[kas_item_eq]
 rw[hout];refine Xd (seqEpoch_at ho6 rfl ?_);refine Xd (listUpdate_at ho6 rfl ?_ (QS _) (by rw[Xx,tLay,Xe,hp,Qh];omega));rw[hf];simp only[bne_self_eq_false,Vk,if_false];exact Xy h
theorem Z38{lt:Nat->Nat->Bool}{p:List Nat}(hl:s.heap.IsList l vs.toArray)(h2:2<=vs.length)(hz:vs.length<=10000)(ho:Zdh lt vs.length=YB p)(hp:p.length=vs.length)
  (hk:∀s':Xg,(∀b o,s.heap.get? b=YB o->s'.heap.get? b=YB o)->∀Q:Vj->Xg->Prop,Q κ s'->XX (Qi prog w) A.in1.in1 (keyKind' vs.toArray) Q E s')
  (hc:∀s':Xg,(∀b o,s.heap.get? b=YB o->s'.heap.get? b=YB o)->∀i j C,i<vs.length->j<vs.length->C (lt i j) s'->kas_ask prog w A.in1.in1 κ vs i j C s')
  (h:Q (.ref (s.heap.objs.size+1)) { s with heap:=sortedAll s.heap vs (Bm (tLay QH p vs)) }):XX (Qi prog w) A (call (.builtin "sorted") [.ref l]) Q E s:=by
 refine Calls.call_function_entry kind_sorted plain_sorted entry_sorted (args_sorted1 _) ?_;unfold VG.«sorted»;refine Xd (m:=checkCount "sorted" 1 1 _) (Xy ?_);refine Xd (collect_list hl ?_ (by rw[Qh];omega));refine Xd (wpAny_newList ?_ (by rw[Qh];omega));have hsz:((s.heap.push (QQ "list" #[] 0)).update s.heap.objs.size (QM (·++vs.toArray))).objs.size=s.heap.objs.size+1:=by
  rw[Heap.size_update,size_push']
 have hoL:(((s.heap.push (QQ "list" #[] 0)).update s.heap.objs.size (QM (·++vs.toArray))).push (QQ "list" vs.toArray 0)).get? (s.heap.objs.size+1)=YB (QQ "list" vs.toArray 0):=by
  rw[<-hsz];exact XN _ rfl
 have keep:∀b o,s.heap.get? b=YB o->(((s.heap.push (QQ "list" #[] 0)).update s.heap.objs.size (QM (·++vs.toArray))).push (QQ "list" vs.toArray 0)).get? b=YB o:=λb o q=>by
  have hlt:b<s.heap.objs.size:=XD q;rw[Heap.get?_push_ne _ _ _ (by rw[hsz];exact Xz (Nat.lt_succ_of_lt hlt)),Heap.get?_update_ne _ _ _ _ (Xz hlt),Heap.get?_push_ne _ _ _ (Xz hlt)];exact q
 show XX _ _ _ _ _ { s with heap:=((s.heap.push (QQ "list" #[] 0)).update s.heap.objs.size (QM (·++vs.toArray))).push (QQ "list" vs.toArray 0) };rw[hsz];refine Xd (VD (JT slot_list_sort ⟨_,hoL,rfl⟩ entry_list_sort (Zrf (h0:=s.heap) hoL keep (Heap.get?_none_of_le (Nat.le_succ _)) h2 hz ho hp hk hc ⟨_,rfl,?_⟩) (args_list_sort _)));exact Xy ⟨_,rfl,h⟩
theorem Ztr{p:List Nat}(h:Vals xs us):Vals (tLay .non p xs) (tLay .none p us):=by
 unfold tLay
 induction p with
 | nil=>exact .nil
 | cons i l ih=>
  refine .cons ?_ ih;show RelV (xs.getD i V.non) (us.getD i QH);rw[Xb,Xb];cases e:xs[i]? with
  | some x=>
   obtain⟨u,e',r⟩:=h.get e;rw[e'];exact r
  | none=>
   have:us[i]? =YC:=QL (by rw[<-h.length];exact Qz.mp e);rw[this];exact rfl
theorem Das.tLay{p:List Nat}(h:Das G H L xs ds):Das G H L (L2.tLay .non p xs) (L2.tLay .none p ds):=by
 unfold L2.tLay
 induction p with
 | nil=>exact .nil
 | cons i l ih=>
  refine .cons ?_ ih;show Da G H L (xs.getD i .non) (ds.getD i .none);rw[Xb,Xb];cases e:xs[i]? with
  | some x=>
   obtain⟨u,e',r⟩:=h.get' e;rw[e'];exact r
  | none=>
   have:ds[i]? =YC:=QL (by rw[<-h.length];exact Qz.mp e);rw[this];exact .non
def Zpg(kd:Xa->Option α)(lt:α->α->Bool)(K:Xc):List V->Hp->VK->Prop:=λxs H Q=>∃(a:YG) (vs:List V) (L:YG->Prop) (es:List Xa) (p:List Nat),xs=[.ref a]/\SqL K H a vs/\Das K H L vs es/\2<=vs.length/\vs.length<=10000/\Zdh (lk kd lt es) vs.length=YB p/\p.length=vs.length/\keyed kd es/\∀l,H l=YC->Q (.ref l) (upd H l (.lst (tLay .non p vs)))
section
variable {kd:Xa->Option α}{lt:α->α->Bool}
theorem Zp7(S:Z9o kd lt)(hK:X.K=K)(hu:X.A.units+64<UV):Zar X (.builtin "sorted") (Zpg kd lt K):=by
 subst hK;intro pins s O H xs us Q I r h;obtain⟨l,vs,L,es,p,rfl,hs,hd,h2,hz0,ho,hp,hk,q⟩:=h;obtain⟨u,rfl,ru⟩:=vals1 r;cases(show u=Qq l from ru);obtain⟨its,rv,pl,hz⟩:=I.list hs;have hl:=rv.length;obtain⟨as,ra⟩:=hd.reads rfl I rv (Zih λd m=>by obtain⟨k,e⟩:=hk d m;exact S.lay d k e);obtain⟨κ,S1,S2⟩:=S.run;obtain⟨z1,z2⟩:=readsAll_get ra;rw[hl]at h2 hz0 ho hp;refine Z38 (κ:=κ) (lt:=lk kd lt es) pl.isList h2 hz0 ho hp (λs' k Q q=>S1 _ _ _ _ s' _ es as Q h2 (ReadsAll.keeps k ra) hk q) (λs' k i j C hi hj hc=>?_) ?_
 .rw[z1]at hi hj
  obtain⟨v,b1,e1,r1⟩:=z2 i _ (Xi hi);obtain⟨w,b2,e2,r2⟩:=z2 j _ (Xi hj);obtain⟨k1,q1⟩:=hk _ (JH hi);obtain⟨k2,q2⟩:=hk _ (JH hj);have ek:lk kd lt es i j=lt k1 k2:=by
   unfold lk;rw[Xb,Xb,Xi hi,Xi hj];show((kd es[i]).bind λa=>(kd es[j]).map λb=>lt a b).getD YF=_;rw[q1,q2];rfl
  rw[ek]at hc;unfold kas_ask;rw[Xb,Xb,e1,e2];exact S2 _ _ _ _ s' v w _ _ _ _ k1 k2 C (show X.A.units+1+1+32<UV by omega) (Reads.keeps k r1) (Reads.keeps k r2) q1 q2 hc
 .obtain⟨e,he⟩:=sortedAll_at s.heap its (Bm (tLay QH p its))
  refine⟨.ref (s.heap.objs.size+1),_,I.laid (t':=s.toks) (o:=.lst (tLay .non p vs)) (λb ob q=>sortedAll_old q) (by omega) ⟨?_,tLay QH p its,e,Ztr rv,he⟩,rfl,q _ (I.hok.fresh (by omega))⟩;rw[tLay,Xe,hp,Qh];omega
theorem Zp3(S:Z9o kd lt)(hK:X.K=K)(hu:X.A.units+64<UV):Zar X (.builtin "sorted") (λxs H Q=>Zoj kd lt K xs H Q\/Zpg kd lt K xs H Q):=by
 intro pins s O H xs us Q I r h;rcases h with h|h
 .exact Ziy S hK hu pins s O H xs us Q I r h
 .exact Zp7 S hK hu pins s O H xs us Q I r h
def Zsr(kd:Xa->Option α)(lt:α->α->Bool):List Xa->(OT->Prop)->Prop:=λds k=>n1 (λd=>∃(es:List Xa) (p:List Nat),d= .list es/\2<=es.length/\es.length<=10000/\Zdh (lk kd lt es) es.length=YB p/\p.length=es.length/\keyed kd es/\k (.nd ((tLay .none p es).map OT.fz))) ds
theorem Zxy:PN G (Zpg kd lt G) (Zsr kd lt):=λH L xs ds k Q hx h kk=>by
 obtain⟨v,d,rfl,rfl,q,es,p,e,h2,hz,ho,hp,hk,h⟩:=hx.one h;have fin:∀(vs:List V) (r:YG),Das G H L vs es->H r=YC->Q (.ref r) (upd H r (.lst (tLay .non p vs))):=λvs r hv hr=>kk _ _ _ [r] (Zz hr _) (Own.list hr hv.tLay) (Zbe r) (J6 hr) h;subst e;generalize ed:QJ es=d at q;cases q with
 | lst l e r=>
  cases ed;exact⟨_,_,L,es,p,rfl,.inl e,r,by rw[r.length];exact h2,by rw[r.length];exact hz,by rw[r.length];exact ho,by rw[r.length];exact hp,hk,λp hp=>fin _ p r hp⟩
 | scr ks=>
  cases ed;exact⟨_,_,L,_,p,rfl,ks.sq,Das.ints _,by rw[(Das.ints (G:=G) (H:=H) (L:=L) _).length];exact h2,by rw[(Das.ints (G:=G) (H:=H) (L:=L) _).length];exact hz,by rw[(Das.ints (G:=G) (H:=H) (L:=L) _).length];exact ho,by rw[(Das.ints (G:=G) (H:=H) (L:=L) _).length];exact hp,hk,λp hp=>fin _ p (Das.ints _) hp⟩
 | _=>cases ed
theorem Zyl:PN G (λxs H Q=>Zoj kd lt G xs H Q\/Zpg kd lt G xs H Q) (λds k=>Zo4 kd lt ds k\/Zsr kd lt ds k):=λH L xs ds k Q hx h kk=>by
 rcases h with h|h
 .exact .inl (Zoh H L xs ds k Q hx h kk)
 .exact .inr (Zxy H L xs ds k Q hx h kk)
def Z0q(kd:Xa->Option α)(lt:α->α->Bool):List Xa->Option OT:=λds=>match ds with
 | [.list es]=>(Zdh (lk kd lt es) es.length).bind λp=>if(decide (2<=es.length)&&decide (es.length<=10000)&&decide (p.length=es.length)&&es.all λd=>(kd d).isSome)=YD then YB (.nd ((tLay .none p es).map OT.fz))else YC
 | _=>YC
def Zf1(kd:Xa->Option α)(lt:α->α->Bool):List Xa->Option OT:=λds=>match Zg0 kd lt ds with|some o=>YB o|none=>Z0q kd lt ds
theorem Z4x:∀ds r k,Zf1 kd lt ds=YB r->k r->Zo4 kd lt ds k\/Zsr kd lt ds k:=λds r k h hk=>by
 unfold Zf1 at h;split at h
 .rename_i e
  cases h;exact .inl (Zss ds _ k e hk)
 .refine .inr ?_
  unfold Z0q at h;split at h
  case h_2=>cases h
  obtain⟨p,hp,h⟩:=Option.bind_eq_some_iff.mp h;split at h
  case isFalse=>cases h
  rename_i c;rw[Xp,Xp,Xp]at c;cases h;exact⟨_,p,rfl,YW c.1.1.1,YW c.1.1.2,hp,YW c.1.2,λd m=>Option.isSome_iff_exists.mp (Vi.mp c.2 d m),hk⟩
end
end L2
namespace L2
open PySem PySem.Spec PyProof.Rows PySem.W
def Ev(lt:Nat->Nat->Bool)(n:Nat)(m:TM α)(t:TmS)(a:α)(t':TmS):Prop:=Zj0 lt n (m t)=YB (YB (a,t'))
end L2
variable {t1:TmS}{γ:Type}
namespace L2
open PySem PySem.Spec PyProof.Rows PySem.W
section
variable {lt:Nat->Nat->Bool}{n:Nat}
theorem Zuo(t:KasT α)(f:α->KasT β):Zj0 lt n (t.bind f)=(Zj0 lt n t).bind λa=>Zj0 lt n (f a):=by
 induction t with
 | ret a=>rfl
 | ask i j k ih=>
  show(if(UJ i n&&UJ j n)=YD then Zj0 lt n ((k (lt i j)).bind f)else YC)=(if(UJ i n&&UJ j n)=YD then Zj0 lt n (k (lt i j))else YC).bind _;split
  .exact ih _
  .rfl
theorem Ev.bind{m:TM α}{f:α->TM β}{t t2:TmS}{a:α}{b:β}(h:Ev lt n m t a t1)(k:Ev lt n (f a) t1 b t2):Ev lt n (m>>=f) t b t2:=by
 show Zj0 lt n ((m t).bind (TM.nxt f))=_;rw[Zuo,show Zj0 lt n (m t)=YB (YB (a,t1))from h];exact k
theorem Ev.get{t:TmS}:Ev lt n Zbm t t t:=rfl
theorem Ev.pure{t:TmS}{a:α}:Ev lt n (pure a:TM α) t a t:=rfl
theorem Ev.step{B:β->TM (ForInStep β)}{x:Nat}{l:List Nat}{b b1 r:β}{t t2:TmS}(h:Ev lt n (B b) t (.yield b1) t1)(k:Ev lt n (Zdx l b1 λ_=>B) t1 r t2):Ev lt n (Zdx (x::l) b λ_=>B) t r t2:=Ev.bind h k
theorem Ev.fin{B:β->TM (ForInStep β)}{x:Nat}{l:List Nat}{b b1:β}{t:TmS}(h:Ev lt n (B b) t (.done b1) t1):Ev lt n (Zdx (x::l) b λ_=>B) t b1 t1:=Ev.bind h rfl
end
def Z2h(sz mr:Nat)(s:Option PUnit.{1}×Nat):TM (ForInStep (Option PUnit.{1}×Nat)) :=
 let lo:=s.snd
 if lo>=sz then pure (.done (YC,lo))else do
  match<-Zt3 lo (sz-lo)with
  | some f=>
   let jp:PUnit.{1}->Nat->TM (ForInStep (Option PUnit.{1}×Nat)):=λ_ n=>do
    let t<-Zbm
    let jp2:Unit->TM (ForInStep (Option PUnit.{1}×Nat)):=λ_=>do
     Zfs λt=>{ t with q:=t.q.push (lo,n,0) }
     pure (.yield (YC,lo+n))
    match t.q.back? with
    | some (c,m,_)=>
     let u:=power' sz (2*c+m) (2*c+m+m+n) sz
     let s2<-forIn (Rg.mk 0 sz) ((YC,()):Option PUnit.{1}×Unit) λ_ _=>do
      let t<-Zbm
      let z:=t.q
      match if z.size>1 then z[z.size-2]? else YC with
      | some (_,_,v)=>
       if v<=u then pure (.done (YC,()))else do
        let c<-Z7j (z.size-2)
        if(!c)=YD then pure (.done (YB (),()))else pure (.yield (YC,()))
      | _=>pure (.done (YC,()))
     match s2.fst with
     | some r=>pure (.done (YB r,lo))
     | none=>do
      let r<-Zfs λt=>{ t with q:=t.q.modify (t.q.size-1) λ(c,m,_)=>(c,m,u) }
      jp2 r
    | _=>jp2 ()
   if f<mr then
    let fo:=min (sz-lo) mr
    do
     let c<-Zv3 lo fo f
     if(!c)=YD then pure (.done (YB (),lo))else jp () fo
   else jp () f
  | _=>pure (.done (YB (),lo))
def Z7m(_:Option PUnit.{1}×Unit):TM (ForInStep (Option PUnit.{1}×Unit)):=do
 let t<-Zbm
 let z:=t.q
 if z.size<=1 then pure (.done (YC,()))else
  let k:=z.size-2;let bf:=if k>0 then z[k-1]?.map (·.2.1)else YC
  let k:=if bf.any (·<(z[k+1]?.elim 0 (·.2.1)))then k-1 else k
  do
   let c<-Z7j k
   if(!c)=YD then pure (.done (YB (),()))else pure (.yield (YC,()))
def Zwf(sz mr:Nat):TM PUnit.{1}:=do
 let s<-Zdx (List.range' 0 sz) ((YC,0):Option PUnit.{1}×Nat) λ_=>Z2h sz mr
 match s.fst with
 | some r=>pure r
 | none=>do
  let s<-Zdx (List.range' 0 sz) ((YC,()):Option PUnit.{1}×Unit) λ_=>Z7m
  match s.fst with
  | some r=>pure r
  | none=>pure ()
theorem Z84{m m':TM α}{f f':α->TM β}(h:m=m')(k:∀a,f a=f' a):(m>>=f)=(m'>>=f'):=by rw[h,funext k]
theorem Zut:Zht=(Zbm>>= λt=>Zwf t.p.size (minRun' t.p.size t.p.size 0)):=by
 unfold Zht Zwf;refine YT (Zbm>>=·) (funext λt=>?_);dsimp only;show bind _ _=bind _ _;refine congr (YT bind ?_) (funext λs=>?_)
 .refine YT (Zdx _ _) (funext λx=>funext λs=>?_)
  unfold Z2h;dsimp only;split
  .rfl
  .refine YT (Zt3 _ _>>=·) (funext λo=>?_)
   cases o with
   | none=>rfl
   | some f=>
    dsimp only;split
    .refine YT (Zv3 _ _ _>>=·) (funext λc=>?_)
     split
     .rfl
     .refine YT (Zbm>>=·) (funext λt=>?_)
      generalize t.q.back? =o
      (try dsimp only)
      cases o with
      | none=>rfl
      | some y=>
       obtain⟨c,m,v⟩:=y;dsimp only;refine Z84 ?_ λs=>?_
       .refine YT (Zdx _ _) (funext λx=>funext λs=>YT (Zbm>>=·) (funext λt=>?_))
        (try dsimp only)
        all_goals generalize(if t.q.size>1 then t.q[t.q.size-2]? else YC)=o
        all_goals rcases o with _|⟨c,m,v⟩<;>rfl
       .obtain⟨r,l⟩:=s
        cases r<;>rfl
    .refine YT (Zbm>>=·) (funext λt=>?_)
     generalize t.q.back? =o
     (try dsimp only)
     cases o with
     | none=>rfl
     | some y=>
      obtain⟨c,m,v⟩:=y;dsimp only;refine Z84 ?_ λs=>?_
      .refine YT (Zdx _ _) (funext λx=>funext λs=>YT (Zbm>>=·) (funext λt=>?_))
       (try dsimp only)
       all_goals generalize(if t.q.size>1 then t.q[t.q.size-2]? else YC)=o
       all_goals rcases o with _|⟨c,m,v⟩<;>rfl
      .obtain⟨r,l⟩:=s
       cases r<;>rfl
 .obtain⟨r,l⟩:=s
  cases r with
  | some r=>rfl
  | none=>
   dsimp only;refine congr (YT bind ?_) (funext λs=>?_)
   .refine YT (Zdx _ _) (funext λx=>funext λs=>?_)
    unfold Z7m;rfl
   .obtain⟨r,l⟩:=s
    cases r<;>rfl
def dc:Nat->Nat->List Nat
 | 0,_=>[]
 | n+1,P=>P%1024::dc n (P/1024)
theorem Z0o:∀(n P:Nat),(dc n P).length=n
 | 0,_=>rfl
 | n+1,P=>YT (·+1) (Z0o n _)
def tmK(n P:Nat)(q:List (Nat×Nat×Nat))(g:Nat):TmS:=⟨⟨dc n P⟩,⟨q⟩,g⟩
def eqL:List Nat->List Nat->Bool
 | [],[]=>YD
 | x::xs,y::ys=>Nat.beq x y&&eqL xs ys
 | _,_=>YF
theorem Zpx:∀{a b:List Nat},eqL a b=YD->a=b
 | [],[],_=>rfl
 | x::xs,y::ys,h=>by
  rw[eqL,Xp]at h;rw[JM h.1,Zpx h.2]
 | [],_::_,h=>by cases h
 | _::_,[],h=>by cases h
def eqQ:List (Nat×Nat×Nat)->List (Nat×Nat×Nat)->Bool
 | [],[]=>YD
 | x::xs,y::ys=>(Nat.beq x.1 y.1&&(Nat.beq x.2.1 y.2.1&&Nat.beq x.2.2 y.2.2))&&eqQ xs ys
 | _,_=>YF
theorem Z1y:∀{a b:List (Nat×Nat×Nat)},eqQ a b=YD->a=b
 | [],[],_=>rfl
 | (x,y,z)::xs,(x',y',z')::ys,h=>by
  rw[eqQ,Xp,Xp,Xp]at h;have h1:=JM h.1.1;have h2:=JM h.1.2.1;have h3:=JM h.1.2.2;dsimp only at h1 h2 h3;rw[Z1y h.2,h1,h2,h3]
 | [],_::_,h=>by cases h
 | _::_,[],h=>by cases h
def eqT(t:TmS)(n P:Nat)(q:List (Nat×Nat×Nat))(g:Nat):Bool:=eqL t.p.toList (dc n P)&&(eqQ t.q.toList q&&Nat.beq t.g g)
theorem Z11{t:TmS}{n P:Nat}{q:List (Nat×Nat×Nat)}{g:Nat}(h:eqT t n P q g=YD):t=tmK n P q g:=by
 unfold eqT at h;rw[Xp,Xp]at h;obtain⟨⟨p⟩,⟨r⟩,k⟩:=t;unfold tmK;have h1:=Zpx h.1;have h2:=Z1y h.2.1;have h3:=JM h.2.2;dsimp only at h1 h2 h3;rw[h1,h2,h3]
def ck1(lt:Nat->Nat->Bool)(n mr lo P:Nat)(q:List (Nat×Nat×Nat))(g lo' P':Nat)(q':List (Nat×Nat×Nat))(g':Nat):Bool :=
 match Zj0 lt n (fcT (tmK n P q g) λt=>Z2h n mr (YC,lo) t)with
 | some (YB (.yield (YC,l),t))=>Nat.beq l lo'&&eqT t n P' q' g'
 | _=>YF
def ck2(lt:Nat->Nat->Bool)(n P:Nat)(q:List (Nat×Nat×Nat))(g P':Nat)(q':List (Nat×Nat×Nat))(g':Nat):Bool :=
 match Zj0 lt n (fcT (tmK n P q g) λt=>Z7m (YC,()) t)with
 | some (YB (.yield (YC,_),t))=>eqT t n P' q' g'
 | _=>YF
section
variable {lt:Nat->Nat->Bool}{n mr lo P g lo' P' g':Nat}{q q':List (Nat×Nat×Nat)}
theorem Zb6(h:ck1 lt n mr lo P q g lo' P' q' g'=YD):Ev lt n (Z2h n mr (YC,lo)) (tmK n P q g) (.yield (YC,lo')) (tmK n P' q' g'):=by
 unfold ck1 at h;rw[Zoe]at h;split at h
 .rename_i l t e
  rw[Xp]at h;rw[<-Z11 h.2,<-JM h.1];exact e
 .cases h
theorem Zkt(h:ck2 lt n P q g P' q' g'=YD):Ev lt n (Z7m (YC,())) (tmK n P q g) (.yield (YC,())) (tmK n P' q' g'):=by
 unfold ck2 at h;rw[Zoe]at h;split at h
 .rename_i l t e
  rw[<-Z11 h];exact e
 .cases h
theorem Yi6(h:Nat.ble n lo=YD):Ev lt n (Z2h n mr (YC,lo)) (tmK n P q g) (.done (YC,lo)) (tmK n P q g):=by
 unfold Z2h;dsimp only;rw[YL (JL h)];exact .pure
theorem Yhh{x:Nat×Nat×Nat}:Ev lt n (Z7m (YC,())) (tmK n P [x] g) (.done (YC,())) (tmK n P [x] g):=rfl
theorem Z1t{z:List (Nat×Nat×Nat)}{x:Nat}(hm:minRun' n n 0=mr)(hs:dc n P=Xw n)(h1:Ev lt n (Zdx (List.range' 0 n) (YC,0) λ_=>Z2h n mr) (tmK n P [] 7) (YC,x) (tmK n P' q' g'))
  (h2:Ev lt n (Zdx (List.range' 0 n) ((YC,()):Option PUnit.{1}×Unit) λ_=>Z7m) (tmK n P' q' g') (YC,()) (tmK n lo' z g)):Zdh lt n=YB (dc n lo'):=by
 have e:Ev lt n Zht (tmK n P [] 7) ⟨⟩ (tmK n lo' z g):=by
  rw[Zut];refine Ev.bind Ev.get ?_;have:(tmK n P [] 7).p.size=n:=Z0o n P;rw[this,hm];exact Ev.bind h1 (Ev.bind h2 .pure)
 unfold Zdh;rw[show(⟨(Xw n).toArray,#[],7⟩:TmS)=tmK n P [] 7 by unfold tmK;rw[hs],show Zj0 lt n (Zht (tmK n P [] 7))=YB (YB (⟨⟩,tmK n lo' z g))from e];rfl
end
def Yh3(p:List Nat):Nat:=p.foldl (λm i=>m|||1<<<i) 0
theorem Yag{p:List Nat}{m:Nat}:(p.foldl (λm i=>m|||1<<<i) m).testBit j=YD->m.testBit j=YD\/j∈p:=by
 induction p generalizing m with
 | nil=>exact .inl
 | cons i p ih=>
  intro h;rcases ih h with h|h
  .rw[Nat.testBit_or,Bool.or_eq_true]at h
   rcases h with h|h
   .exact .inl h
   .rw[Nat.one_shiftLeft,Nat.testBit_two_pow,decide_eq_true_eq]at h
    exact .inr (h▸ .head _)
  .exact .inr (.tail _ h)
theorem Zxb{l:List Nat}:∀{p:List Nat},l.Nodup->l ⊆ p->p.length<=l.length->l.Perm p:=by
 induction l with
 | nil=>
  intro p _ _ h;rw[List.length_eq_zero_iff.mp (Nat.le_zero.mp h)]
 | cons a l ih=>
  intro p nd sub h;have n:=Qn.mp nd;have ma:=sub (.head _);refine .trans (.cons a (ih (p:=p.erase a) n.2 (λx m=>?_) ?_)) (List.perm_cons_erase ma).symm
  .exact(List.mem_erase_of_ne (show x≠a from λz=>n.1 (z▸m))).mpr (sub (.tail _ m))
  .rw[List.length_erase_of_mem ma]
   rw[Vh]at h;omega
def Z3r(n:Nat)(p:List Nat):Bool:=Nat.beq (Yh3 p) (2^n-1)&&Nat.beq p.length n
theorem Zj6{n:Nat}{p:List Nat}(h:Z3r n p=YD):p.Perm (Xw n):=by
 unfold Z3r at h;rw[Xp]at h;refine(Zxb List.nodup_range (λj m=>?_) (by rw[Qd,JM h.2];exact XJ _)).symm;have e:=JM h.1;rcases Yag (p:=p) (m:=0) (j:=j) (by
  show(Yh3 p).testBit j=YD;rw[e,Nat.testBit_two_pow_sub_one,decide_eq_true_eq];exact XF.mp m)with z|z
 .rw[Nat.zero_testBit]at z;cases z
 .exact z
end L2
namespace L2
open PySem PySem.Spec PyProof.Rows PySem.W PySem.SeqAt
def LiesD(h:YH)(d:YG)(es:Array DictEntry)(ep:Nat):Prop:=∃o,h.get? d=YB o/\o.ExactDict/\o.data= .dict es ep
def Zk5(d:YG):Obj:={ cls:=.type "dict_items",data:=.fields #[.ref d] }
def Zit(first:Xf)(d:YG)(i n ep:Nat)(x y:Xf):Obj:={ cls:=.type "dict_itemiterator",data:=.fields #[first,.bool YF,.ref d,.int i 0,.int n 0,.int ep 0,x,y] }
section
variable {d it:YG}{es:Array DictEntry}{ep:Nat}
theorem LiesD.ty(x:LiesD s.heap d es ep):s.TypeIs (.ref d) "dict" :=let⟨o,ho,e,_⟩:=x;⟨o,ho,e.1⟩
theorem LiesD.ext(x:LiesD h d es ep)(k:∀o,h.get? d=YB o->h'.get? d=YB o):LiesD h' d es ep:=let⟨o,ho,r⟩:=x;⟨o,k o ho,r⟩
theorem Zqo(x:LiesD s.heap d es ep)(nd:(d==VF)=YF)(h:Q (.ref s.heap.objs.size) { s with heap:=s.heap.push (Zk5 d) }):XX (Qi prog w) A (call (.builtin "dict.items") [.ref d]) Q E s:=by
 refine call_meetsIn PySem.F.slot_dict_items x.ty PySem.F.entry_dict_items (PySem.F.args_dict_items_1 _) (S:=λ_ R s=>LiesD s.heap d es ep/\R (.ok (.ret (.ref s.heap.objs.size))) { s with heap:=s.heap.push (Zk5 d) }) (.of_wp λA R s q=>?_) ⟨x,h⟩;unfold VG.«dict.items» VG.Dict.noArgs VG.Dict.showsAll;refine Xd (Xd (wpAny_notOrdered_dict q.1.ty (Xy ?_)));rw[YM (by rw[nd];exact Xn)];exact Xd (Xy (Xd (Va (Xy ⟨_,rfl,q.2⟩))))
theorem Zqn{v:YG}(hv:s.heap.get? v=YB (Zk5 d))(x:LiesD s.heap d es ep)(h:Q (.ref s.heap.objs.size) { s with heap:=s.heap.push (Zit .none d 0 es.size ep .none .none) }):XX (Qi prog w) A (pyIter (.ref v)) Q E s:=by
 obtain⟨o,ho,_,dat⟩:=x;have tv:s.TypeIs (.ref v) "dict_items" :=⟨_,hv,rfl⟩;refine wpAny_pyIter_slot tv PySem.F.slot_dict_items_iter (JT PySem.F.slot_dict_items_iter tv PySem.F.entry_dict_items_iter ?_ (PySem.F.args_dict_items_iter_1 _));unfold VG.«dict_items.__iter__» Builtin.Dict_items.dictOf Builtin.Dict_items.newIterator;refine Xd (Xy (Xd (Xd (Ba hv rfl (x:=.ref d) rfl (Xy ?_)))));refine Xd (Xd (wpAny_dictEntries ho dat (Xd (wpAny_dictEpoch ho dat ?_))));dsimp only;rw[YL (show Bu "dict_itemiterator"=YD by decide)];refine Va (Xy ⟨_,rfl,"dict_itemiterator",_,⟨_,XN _ rfl,rfl⟩,Q5.lookup,?_⟩) (by simp only[sizeOk,Builtin.Dict_items.ownedTupleFields,Xx,XH,Vh,List.length_nil,Qh];omega);exact h
theorem Zq9{o:Obj}(hv:s.heap.get? it=YB o)(hc:o.cls= .type "dict_itemiterator")(h:Q (.ref it) s):XX (Qi prog w) A (pyIter (.ref it)) Q E s:=by
 have hT:s.TypeIs (.ref it) "dict_itemiterator" :=⟨_,hv,hc⟩;refine wpAny_pyIter_slot hT PySem.F.slot_dict_itemiterator_iter (JT PySem.F.slot_dict_itemiterator_iter hT (entryFor_alias (id' :="dict_keyiterator.__iter__") (b:=VG.«dict_keyiterator.__iter__») (by kernel_rfl) rfl (by decide +kernel) (by kernel_rfl)) ?_ (PySem.F.args_dict_itemiterator_iter_1 _));exact Xy ⟨_,rfl,"dict_itemiterator",_,hT,Q5.lookup,h⟩
theorem Zq8{n:Nat}{x y:Xf}{elts:List YJ}{x1}{Q:Unit->Xg->Prop}(he:s.heap.get? it=YB (Zit (rawInt a) d i n ep x y))(h:∀h',h'.get? it=YB (Zit .none d i n ep x y)->Vc it s.heap h'->Q () { s with heap:=h' }) :
  XX (Qi prog w) A (Uw (.Tuple elts x1 pos) (.ref it) (.ref a)) Q E s:=wpAny_letOwnedTupleGo_items he h
theorem Zp6{x y:Xf}{e:DictEntry}{Q:Option Xf->Xg->Prop}(hit:s.heap.get? it=YB (Zit .none d i es.size ep x y))(l:LiesD s.heap d es ep)(hx:es[i]? =YB e)
  (h:∀h',h'.get? it=YB (Zit (rawInt s.heap.objs.size) d (i+1) es.size ep e.key e.val)->h'.get? s.heap.objs.size=YB { cls:=.type "tuple",data:=.seq #[e.key,e.val] }->h'.objs.size=s.heap.objs.size+1 ->
   (∀ b o,b≠it->s.heap.get? b=YB o->h'.get? b=YB o)->Q (YB (.ref s.heap.objs.size)) { s with heap:=h' }):XX (Qi prog w) A (pyNext (.ref it)) Q E s:=by
 obtain⟨hp,g,dr,tk,os⟩:=s;obtain⟨od,hod,_,dat⟩:=l;have ty:∀{H:YH} {f:Xf} {j:Nat} {u v:Xf},H.get? it=YB (Zit f d j es.size ep u v)->Xg.TypeIs ⟨H,g,dr,tk,os⟩ (.ref it) "dict_itemiterator" := λk=>⟨_,k,rfl⟩;have hT:=ty hit;have lt:i<es.size:=by
  rcases Uc i es.size with q|q
  .exact q
  .rw[Array.getElem?_eq_none q]at hx;cases hx
 refine Xd (wpAny_attempt (Vb (name:=Str.ofString "__next__") hT Q5 (JT Q5 hT PySem.F.entry_dict_itemiterator_next ?_ (PySem.F.args_dict_itemiterator_next_1 _))));refine Xd (Xy (Xd (Xd ?_)));refine Xd (VH hT (Xy ?_));refine Xd (wpAny_fieldsOf hit rfl ?_);rw[YL (show Bu "dict_itemiterator"=YD by decide)];show XX _ _ (if(Qq d==QH)=YD then _ else _) _ _ _;rw[YM (show¬((Qq d==QH)=YD)from Xn)];refine Xd (Xy (Xd (wpAny_dictEntries hod dat ?_)));rw[YM (by simp)];refine Xd (Xy (Xd (wpAny_dictEpoch hod dat ?_)));rw[YM (by simp)];refine Xy ?_;simp only[show¬((i:Int)<0)from by omega,if_false,QV,hx];refine Xd (Xd (VH hT (Xy ?_)));rw[YL (show Bu "dict_itemiterator"=YD by decide)];refine Xd (wpAny_isOneOf_itemiter hT ?_);show XX _ _ (setField (.ref it) 3 (rawInt ((i:Int)+1))>>=_) _ _ _;refine Xd (JF hit (by simp[Zit]) λh₁ e₁ s₁=>?_);have e₁:h₁.get? it=YB (Zit .none d (i+1) es.size ep x y):=e₁;have s₁:Vc it hp h₁:=s₁;refine Xd (VD (Xd (wpAny_isOneOf_itemiter (ty e₁) (Xd (wpAny_isOneOf_itemiter (ty e₁) ?_)))));show XX _ _ (Builtin.Dict_items.pairFromOwner (.ref it) 6 e.key e.val) _ _ _;unfold Builtin.Dict_items.pairFromOwner;refine Xd (wpAny_newTuple ?_);have z₁:h₁.objs.size=hp.objs.size:=s₁.1;have il:it<hp.objs.size:=XD hit;obtain⟨h₂,eh₂⟩:∃h₂,h₂=h₁.push { cls:=.type "tuple",data:=.seq #[e.key,e.val] }:=⟨_,rfl⟩;have e₂:h₂.get? it=YB (Zit .none d (i+1) es.size ep x y):=by rw[eh₂];exact Xk _ e₁
 have t₂:h₂.get? hp.objs.size=YB { cls:=.type "tuple",data:=.seq #[e.key,e.val] }:=by rw[eh₂,<-z₁];exact XN _ rfl
 have z₂:h₂.objs.size=hp.objs.size+1:=by rw[eh₂,JD,z₁]
 have k₂:∀b o,b≠it->hp.get? b=YB o->h₂.get? b=YB o:=λb o n q=>by rw[eh₂];exact Xk _ (s₁.extBut b o n q)
 show XX _ _ _ _ _ { heap:=h₁.push { cls:=.type "tuple",data:=.seq #[e.key,e.val] },gens:=g,drawn:=dr,toks:=tk,os:=os };rw[<-eh₂];show XX _ _ (Builtin.Dict_items.ownedTupleIsFree (.ref it)>>=_) _ _ _;unfold Builtin.Dict_items.ownedTupleIsFree;refine Xd (Xd (Ba e₂ rfl (x:=.none) rfl (Xy ?_)));rw[YL rfl];refine Xd (Ba e₂ rfl (x:=x) rfl (Xd (Ba e₂ rfl (x:=y) rfl ?_)));refine Xd (JF e₂ (by simp[Zit]) λh₃ e₃ s₃=>?_);have e₃:h₃.get? it=YB (Zit .none d (i+1) es.size ep e.key y):=e₃;refine Xd (JF e₃ (by simp[Zit]) λh₄ e₄ s₄=>?_);have e₄:h₄.get? it=YB (Zit .none d (i+1) es.size ep e.key e.val):=e₄;refine Xd (JF e₄ (by simp[Zit]) λh₅ e₅ s₅=>?_);have e₅:h₅.get? it=YB (Zit (rawInt h₁.objs.size) d (i+1) es.size ep e.key e.val):=e₅;refine Xd (JF e₅ (by simp[Zit]) λh₆ e₆ s₆=>?_);have e₆:h₆.get? it=YB (Zit (rawInt h₁.objs.size) d (i+1) es.size ep e.key e.val):=e₆;rw[z₁]at e₆;have up:∀b o,b≠it->h₂.get? b=YB o->h₆.get? b=YB o:=λb o n q=>s₆.extBut b o n (s₅.extBut b o n (s₄.extBut b o n (s₃.extBut b o n q)));refine Xd (wpAny_letGo (Xy (Xy ⟨_,rfl,Xy ?_⟩)));show Q (YB (.ref h₁.objs.size)) _;rw[z₁];refine h h₆ e₆ (up _ _ (X6 il) t₂) ?_ λb o n q=>up b o n (k₂ b o n q);show h₆.objs.size=hp.objs.size+1;rw[<-z₂];exact s₆.1.trans (s₅.1.trans (s₄.1.trans s₃.1))
theorem Zr6{x y:Xf}{Q:Option Xf->Xg->Prop}(hh:A.handled=YC)(hit:s.heap.get? it=YB (Zit .none d i es.size ep x y))(l:LiesD s.heap d es ep)(hx:es.size<=i)
  (h:∀h',Heap.ExtBut it s.heap h'->Q YC { s with heap:=h' }):XX (Qi prog w) A (pyNext (.ref it)) Q E s:=by
 obtain⟨od,hod,_,dat⟩:=l;have hT:s.TypeIs (.ref it) "dict_itemiterator" :=⟨_,hit,rfl⟩;refine Xd (wpAny_attempt (Vb (name:=Str.ofString "__next__") hT Q5 (JT Q5 hT PySem.F.entry_dict_itemiterator_next ?_ (PySem.F.args_dict_itemiterator_next_1 _))));refine Xd (Xy (Xd (Xd ?_)));refine Xd (VH hT (Xy ?_));refine Xd (wpAny_fieldsOf hit rfl ?_);rw[YL (show Bu "dict_itemiterator"=YD by decide)];show XX _ _ (if(Qq d==QH)=YD then _ else _) _ _ _;rw[YM (show¬((Qq d==QH)=YD)from Xn)];refine Xd (Xy (Xd (wpAny_dictEntries hod dat ?_)));rw[YM (by simp)];refine Xd (Xy (Xd (wpAny_dictEpoch hod dat ?_)));rw[YM (by simp)];refine Xy ?_;simp only[show¬((i:Int)<0)from by omega,if_false,QV,Array.getElem?_eq_none hx];refine Xd (Xd (VH hT (Xy ?_)));rw[YL (show Bu "dict_itemiterator"=YD by decide)];show XX _ _ (setField (.ref it) 2 .none>>=_) _ _ s;refine Xd (wpAny_setField hit rfl (by simp) (Xd ?_));simp only[newExc,newTuple];refine Xd (Va ?_ (by size_fits));refine Xd (m:=firstArgMember _ _) (wpAny_of_eq (a:=QH) (by first|rfl|(simp only[firstArgMember];rfl)) (Va ?_ (by size_fits)));unfold raiseNew;refine Xd (wpAny_handled ?_);rw[show A.in1.handled=YC from hh];refine Xd (Xy (wpAny_throw ?_));refine Xd (wpAny_isInstance (T :="StopIteration") (b:=YD) ⟨_,XN _ rfl,rfl⟩ isSubtype_stop ?_);exact Xy (h _ (((Heap.SameBut.update ..).extBut.push _).push _))
end
section
variable {O:St}{d:YG}
theorem Inv.froze(I:Inv X pins O H s)(e:H d=YB (.dT kvs)):∃o,Inv X pins O (upd H d (.frz o (.dT kvs))) s:=by
 have ok:=I.hok d _ e;obtain⟨o,ho⟩:∃o,s.heap.get? d=YB o:=by
  obtain⟨_,_,_,_,o,_,_,h,_⟩:=(show ObjOk X.prog X.w H s.heap d (.dT kvs)from ok);exact⟨o,h⟩
 have ne:∀{b:YG} {u:HO},H b=YB u->(∀q,u≠ .dT q)->b≠d:=λh n z=>by
  rw[z,e]at h;cases h;exact n _ rfl
 have u:Un X.fs [] H (upd H d (.frz o (.dT kvs))) s.heap s.heap:=⟨λb ob q _ _ _=>q,λb ob q _ _ _=>⟨ob.slots,q⟩,λb ob q n _=>by rw[Zu (λz=>by rw[z,e]at n;cases n)];exact n,λb ob q _=>⟨ob,q⟩,
  λb xs q=>by rw[Zu (ne q λ_ z=>by cases z)];exact q,λb ob v q=>by rw[Zu (ne q λ_ z=>by cases z)];exact q,λb ps q=>⟨#[],by rw[Zu (ne q λ_ z=>by cases z),q];simp⟩⟩
 refine⟨o,I.un (h':=s.heap) (t':=s.toks) u (I.hok.write (x:=d) (e:=d) (by rw[e];exact V6) (.inl rfl) (λb v _ q=>q) ⟨o,ho⟩ ⟨ho,ok.stay (λb v _ q=>q) (λb q=>?_) λb xs q=>?_⟩)⟩
 .rw[Zu (ne q λ_ z=>by cases z)];exact q
 .rw[Zu (ne q λ_ z=>by cases z)];exact q
theorem Inv.frozen(I:Inv X pins O H s)(e:Rd H d (.dT kvs)):∃o,Inv X pins O (upd H d (.frz o (.dT kvs))) s:=by
 rcases e with e|⟨o,e⟩
 .exact I.froze e
 .refine⟨o,?_⟩
  have:upd H d (.frz o (.dT kvs))=H:=by
   funext b;unfold upd;split
   .rename_i z;rw[z,e]
   .rfl
  rw[this];exact I
end
def Ydj(d:YG)(o:Obj)(zs:List (YG×V)):It :=
 ⟨λi H=>(∃kvs,H d=YB (.frz o (.dT kvs)))/\i<zs.length,
   λi H v H'=>∃p b x,H p=YC/\v= .ref p/\H'=upd H p (.tup [.ref b,x])/\zs[i]? =YB (b,x),
   λi H=>(∃kvs,H d=YB (.frz o (.dT kvs)))/\zs.length<=i⟩
theorem Zqf{it d:YG}{o:Obj}{zs:List (YG×V)}{en:Array DictEntry}{ep:Nat}(hx:o.ExactDict)(hd:o.data= .dict en ep)(sz:en.size=zs.length)
  (hz:∀(i:Nat) (b:YG) (x:V),zs[i]? =YB (b,x)->∃e:DictEntry,en[i]? =YB e/\e.key= .ref b/\RelV x e.val):Turn P w K (.Tuple es kk pos) (Ydj d o zs) [it] it (λi h=>∃x y,h.get? it=YB (Zit .none d i en.size ep x y)) where
 mem:=.head _
 obj:=λi h st b hb=>by
  obtain⟨x,y,s1⟩:=st;rcases Xj.mp hb with rfl;exact⟨_,s1,λv q=>by cases q⟩
 keep:=λi h h' st k=>by
  obtain⟨x,y,s1⟩:=st;exact⟨x,y,k it (.head _) _ s1⟩
 item:=by
  intro X hP hw hK hc i pins s O H E I hf st hg;subst hP hw hK;obtain⟨x,y,s1⟩:=st;obtain⟨⟨kvs,e⟩,hi⟩:=hg;have L:LiesD s.heap d en ep:=⟨o,(I.hok d _ e).1,hx,hd⟩;obtain⟨⟨b,v⟩,hzi⟩:∃q,zs[i]? =YB q:=⟨_,Xi hi⟩;obtain⟨r,hr,hkey,hval⟩:=hz i b v hzi;refine Zp6 s1 L hr λh' g1 g2 g3 g4=>?_;refine⟨_,rfl,Zq8 (s:={ s with heap:=h' }) g1 λh2 z2 sb=>?_⟩;have hTz:s.heap.objs.size≠it:=X6 (XD s1);have up:∀c o,c≠it->h'.get? c=YB o->h2.get? c=YB o:=λc o n e=>(sb.2 c n).trans e;have t5:=up _ _ hTz g2;have I2:Inv X pins O (upd H s.heap.objs.size (.tup [.ref b,v])) { s with heap:=h2 }:=I.turnTup (ch:=[it]) (its:=[r.key,r.val]) hf (λc o n e=>up c o (λq=>n (q▸ .head _)) (g4 c o (λq=>n (q▸ .head _)) e)) (λc hc=>by
   rcases Xj.mp hc with rfl;exact⟨_,z2⟩) (XJ _) Zuk (.cons (show RelV (.ref b) r.key by rw[hkey];rfl) (.cons hval .nil)) ⟨_,t5,rfl,0,rfl⟩
  refine⟨.ref s.heap.objs.size,_,I2,rfl,⟨_,b,v,I.fresh,rfl,rfl,hzi⟩,⟨_,_,z2⟩,λc hc=>?_⟩;rcases Xj.mp hc with rfl;rw[Zu (Vn hTz)];exact(hf _ (.head _)).1
 done:=by
  intro X hP hw hK hc i pins s O H E I hf st hg;subst hP hw hK;obtain⟨x,y,s1⟩:=st;obtain⟨⟨kvs,e⟩,hi⟩:=hg;exact Zr6 (I.ok.hd hc) s1 ⟨o,(I.hok d _ e).1,hx,hd⟩ (by omega) λh' k=>⟨rfl,I.turnAll (ch:=[it]) hf λb o n e=>k b o (λq=>n (q▸ .head _)) e⟩
 self:=λA i s Q E st h=>by
  obtain⟨x,y,s1⟩:=st;exact Zq9 s1 rfl h
def KZ(H:Hp)(kvs:List (List Key×V))(zs:List (YG×V)):Prop:=zs.length=kvs.length/\∀(i:Nat) (k:List Key) (x:V),kvs[i]? =YB (k,x)->∃b,zs[i]? =YB (b,x)/\H b=YB (.tup (k.map kV))
def Yld(td:TE):TI:=λO H R=>td O H λx H1=>∃d kvs,x= .ref d/\Rd H1 d (.dT kvs)/\∀(o:Obj) (zs:List (YG×V)),KZ H1 kvs zs->R (Ydj d o zs) (upd H1 d (.frz o (.dT kvs)))
theorem Zv0{F:α->β->Prop}{l:List α}{m:List β}(h:Paired F l m):l.length=m.length/\∀(i:Nat) (a:α),l[i]? =YB a->∃b:β,m[i]? =YB b/\F a b:=by
 induction h with
 | nil=>exact⟨rfl,λi a h=>by cases h⟩
 | cons r _ ih=>
  refine⟨YT (·+1) ih.1,λi a h=>?_⟩;cases i with
  | zero=>cases h;exact⟨_,rfl,r⟩
  | succ i=>exact ih.2 i a h
theorem Zzh{o:YJ}{pt:Pos}(ho:PE X o td)(base:V5 o "items" X.env (eval o X.env)=eval o X.env)
  (few:((JK cpos (Xq [] X.env)).all (λx=>!x.1)&&(backToKw cpos (UT [] X.env)).all (λx=>x.1.isSome)&&decide (([]:List YJ).length+([]:List V0).length+(if([]:List V0).isEmpty then 0 else 1)<30))=YD)
  (line:(apos.endLine==cpos.line)=YD) (trees:JK cpos (Xq [] X.env)=[]):PI X (.Tuple es kk pt) (.Call (.Attribute o "items" apos) [] [] cpos) (Yld td):=by
 intro pins s O H R I h;refine wpAny_Call_method base few line PySem.F.plainAttrs_dict PySem.F.slot_dict_items PySem.F.type_dict_items (thn (ho pins s O H _ I h) λu s1 ⟨x,H1,I1,rx,d,kvs,ex,rd,q⟩=>?_);subst ex;obtain rfl:u=Qq d:=rx;obtain⟨t1,t2,nsys⟩:=Z0i I1 (.inr ⟨kvs,rd⟩);refine⟨t1,t2,?_⟩;rw[trees];obtain⟨ob,I2⟩:=I1.frozen rd;obtain⟨ho1,ok⟩:=(show ObjOk X.prog X.w _ s1.heap d (.frz ob (.dT kvs))from I2.hok d _ Zx);obtain⟨_,_,xs,pr,o',en,ep,ho2,ex,dat,el,_⟩:=(show ObjOk X.prog X.w _ s1.heap d (.dT kvs)from ok);rw[ho1]at ho2;cases ho2;obtain⟨lx,ax⟩:=Zv0 pr;have sz:en.size=xs.length:=by rw[<-BZ,el,Xe]
 obtain⟨zs,hzs⟩:∃zs:List (YG×V),zs=(kvs.zip xs).map λz=>(z.2.2.1,z.1.2):=⟨_,rfl⟩;have at':∀(i:Nat) (k:List Key) (x:V),kvs[i]? =YB (k,x)->∃q:List Key×YG×Xf,xs[i]? =YB q/\zs[i]? =YB (q.2.1,x)/\(upd H1 d (.frz ob (.dT kvs))) q.2.1=YB (.tup (k.map kV))/\RelV x q.2.2:=λi k x h=>by
  obtain⟨q,hq,r1,r2,r3⟩:=ax i (k,x) h;exact⟨q,hq,by rw[hzs,Xm,Ue (z:=((k,x),q))|>.mpr ⟨h,hq⟩];rfl,r2,r3⟩
 have lz:zs.length=kvs.length:=by rw[hzs,Xe,Uk,lx,Nat.min_self]
 have KZ':KZ H1 kvs zs:=⟨lz,λi k x h=>by
  obtain⟨q,_,h2,h3,_⟩:=at' i k x h;refine⟨q.2.1,h2,?_⟩
  by_cases z:q.2.1=d
  .rw[z,Zx]at h3;cases h3
  .rwa[Zu z]at h3⟩
 have L:LiesD s1.heap d en ep:=⟨ob,ho1,ex,dat⟩;refine Calls.callWith_builtin rfl (PySem.evalArgs_none (Zqo L nsys ?_));have L2:LiesD (s1.heap.push (Zk5 d)) d en ep:=L.ext λo e=>Xk _ e;refine Zqn (s:={ s1 with heap:=s1.heap.push (Zk5 d) }) (v:=s1.heap.objs.size) (XN _ rfl) L2 ?_;have k3:∀b u,s1.heap.get? b=YB u->((s1.heap.push (Zk5 d)).push (Zit .none d 0 en.size ep .none .none)).get? b=YB u:=λb u e=>Xk _ (Xk _ e);have I3:=I2.kept (t':=s1.toks) k3;refine⟨(s1.heap.push (Zk5 d)).objs.size,[_],_,Ydj d ob zs,_,rfl,I3,Zqf ex dat (by rw[sz,<-lx,lz]) (λi b x h=>?_),⟨_,_,XN _ rfl⟩,λb hb=>?_,q ob zs KZ'⟩
 .have hi:i<kvs.length:=by rw[<-lz];exact(Xu.mp h).1
  obtain⟨r,h2,h3,_,h4⟩:=at' i (kvs[i]).1 (kvs[i]).2 (Xi hi);rw[h]at h3;cases h3;refine⟨entryOfKey (tupleKind (Wj X.prog X.w)) r,?_,rfl,h4⟩;rw[<-Q3,el,Xm,h2];rfl
 .rcases Xj.mp hb with rfl
  have hb':s1.heap.objs.size<=(s1.heap.push (Zk5 d)).objs.size:=by rw[JD];exact Nat.le_succ _
  exact I2.fpOk hb' (I2.hok.fresh hb')
theorem Zj8:∀ks:List Key,Das G H L (ks.map kV) (ks.map Z3h)
 | []=>.nil
 | .inl i::ks=>.cons (.int i) (Zj8 ks)
 | .inr x::ks=>.cons (.str x) (Zj8 ks)
def Zzy(ks:List KY)(ds:List Xa):List Xa:=((ks.map kyD).zip ds).map λz=>.tuple [z.1,z.2]
def Ycu(i:Nat):MIt:=λδ K=>match δ[i]? with
 | some (YB (.dc YD ks ds))=>K (Zzy ks ds) (δ.set i (YB (.fz (dcD YD ks ds))))
 | _=>False
theorem Z9k(q:Das G H L (kvs.map (·.2)) ds){d:Xa}(h:(Zzy (kvs.map λp=>(.inr p.1:KY)) ds)[i]? =YB d):∃k x e,kvs[i]? =YB (k,x)/\Da G H L x e/\d= .tuple [keyT k,e]:=by
 unfold Zzy at h;rw[Xm]at h;cases e:((kvs.map λp=>(.inr p.1:KY)).map kyD|>.zip ds)[i]? with
 | none=>rw[e]at h;cases h
 | some z=>
  rw[e]at h;cases h;obtain⟨h1,h2⟩:=Ue.mp e;rw[Xm,Xm]at h1;cases e2:kvs[i]? with
  | none=>rw[e2]at h1;cases h1
  | some p=>
   rw[e2]at h1;have h1:keyT p.1=z.1:=QD h1;have:∃u,(kvs.map (·.2))[i]? =YB u/\Da G H L u z.2:=q.get h2;obtain⟨u,hu,qu⟩:=this;rw[Xm,e2]at hu;cases hu;exact⟨p.1,p.2,z.2,rfl,qu,by rw[h1]⟩
theorem Z62{ks:List KY}(h:ks.length=ds.length):(Zzy ks ds).length=ks.length:=by
 unfold Zzy;rw[Xe,Uk,Xe,<-h,Nat.min_self]
theorem Zxm(i:Nat){pt:Pos}(hio:i∉io:=by decide)(hN:X.N[i]? =YB x:=by rfl)(hv:Vis X.env.scope x:=by first|exact QG rfl|exact Qt (QG rfl)|exact Qt (Qt rfl))(hd:(x==("__debug__" : Str))=YF:=by decide)
  (hcd:(x==("__classdict__" : Str))=YF:=by decide) (base:V5 (.Name x px) "items" X.env (eval (.Name x px) X.env)=eval (.Name x px) X.env:=by rfl)
  (few:((JK cpos (Xq [] X.env)).all (λx=>!x.1)&&(backToKw cpos (UT [] X.env)).all (λx=>x.1.isSome)&&decide (([]:List YJ).length+([]:List V0).length+(if([]:List V0).isEmpty then 0 else 1)<30))=YD:=by rfl)
  (line:(apos.endLine==cpos.line)=YD:=by rfl) (trees:JK cpos (Xq [] X.env)=[]:=by rfl):MI X io YF YD (.Tuple es kk pt) (.Call (.Attribute (.Name x px) "items" apos) [] [] cpos) (Ycu i):=by
 refine⟨_,Zzh (pv i hN hv hd hcd) base few line trees,λC H O δ fp ex K Q R h kq=>?_⟩;unfold Ycu at h;split at h
 case h_2=>exact h.elim
 rename_i ks ds hi;obtain⟨d,ob,xs,sv,hd,dk,das,hf⟩:=R.ownDc hi;cases ob with
 | lst _=>exact dk.elim
 | dK _=>exact nomatch dk.1
 | dT kvs=>
  obtain⟨_,rfl,rfl⟩:=dk;have hm:d∈fp i:=by rw[hf];exact .head _
  have hd:H d=YB (.dT kvs):=hd;refine⟨.ref d,sv,d,kvs,rfl,.inl hd,λo zs kz=>?_⟩;have ne:∀{b:YG} {u:HO},H b=YB u->(∀q,u≠ .dT q)->b≠d:=λh n z=>by
   rw[z,hd]at h;cases h;exact n _ rfl
  have nf:∀j,d∉fpu fp i [] j:=λj m=>by
   by_cases ej:j=i
   .subst ej;rw[Yc]at m;exact nomatch m
   .rw[Yy ej]at m;exact ej (R.dj j i d m hm)
  have l0:C.H₀ d=YC:=by
   rcases R.new i d hm with z|z
   .exact YX z.1 hio
   .exact z
  have das2:Das X.K (upd H d (.frz o (.dT kvs))) (Lf C (fpu fp i []) (exu ex [])) (kvs.map (·.2)) ds:=das.frame (λa ys l r=>⟨⟨λ⟨j,z⟩=>l.1 ⟨j,by
    by_cases ej:j=i
    .subst ej;rw[Yc]at z;exact nomatch z
    .rwa[Yy ej]at z⟩,λz=>l.2.1 (J2.mp z),l.2.2⟩,by
    have n:a≠d:=λz=>l.1 ⟨i,z▸hm⟩;rcases r with r|⟨u,r⟩
    .exact .inl (by rw[Zu n];exact r)
    .exact .inr ⟨u,by rw[Zu n];exact r⟩⟩) λa ys r=>by
   have n:a≠d:=λz=>ImO.nm (y:=.dT kvs) r (show H a=YB (.dT kvs) by rw[z];exact hd);rw[Zu n];exact r
  obtain⟨R2,S2⟩:=R.change (new:=[]) (as':=[]) (t':=.fz (dcD YD (kvs.map λp=>(.inr p.1:KY)) ds)) (H':=upd H d (.frz o (.dT kvs))) hi sv (λb u e nb=>by rw[Zu (λz=>nb (by rw[z];exact hm))];exact e) (λb e=>by
   by_cases q:b=d
   .subst q;rw[Zx]at e;cases e
   .rwa[Zu q]at e) (.fz (.dic (o:=.dT kvs) ⟨λ⟨j,z⟩=>nf j z,λz=>R.dx i d hm (J2.mp z),.inr l0⟩ (.inr ⟨o,Zx⟩) ⟨rfl,rfl,rfl⟩ das2)) .nil (λa m=>nomatch m) (λa m=>nomatch m)
  have R3:=R2.drop (ex':=ex) λa z=>.inl z;refine kq (Ydj d o zs) _ _ _ _ R3 S2 (λH' kp j=>?_) h;obtain⟨f1,f2⟩:=R3.kept (c:=YD) λb u e z=>kp b u e z;have g1:H' d=YB (.frz o (.dT kvs)):=kp d _ Zx (.inr λ⟨j,z⟩=>nf j z);have lk:(kvs.map (·.2)).length=ds.length:=das.length;rw[Xe]at lk;refine⟨λe he=>?_,λhe=>⟨⟨kvs,g1⟩,?_⟩⟩
  .obtain⟨k,v,e2,h1,h2,rfl⟩:=Z9k das2 he
   obtain⟨b,hz,hb⟩:=kz.2 j k v h1;refine⟨⟨⟨kvs,g1⟩,(Xu.mp hz).1⟩,λw H'' y=>?_⟩;obtain⟨p,b',x',hp,rfl,rfl,hz'⟩:=y;rw[hz]at hz';cases hz';have sm:=Zz hp (.tup [.ref b,v]);have hb':H' b=YB (.tup (k.map kV)):=f2 b (.tup _) (by rw[ImO.ho,Zu (ne hb λ_ z=>by cases z)];exact hb);have q2:Da X.K H' (λa=>YD=YD->(Lf C (fpu fp i []) ex a/\(upd H d (.frz o (.dT kvs))) a≠YC)) v e2:=h2.frame (λa ys l r=>f1 a ys (λ_=>⟨l.1,λz=>l.2.1 (J2.mpr z),l.2.2⟩) r) f2;exact⟨sm,.tup Zx (.cons (.tup (sm _ _ hb') (Zj8 k)) (.cons (q2.same sm) .nil))⟩
  .have:=Qz.mp he
   rw[Z62 (by rw[Xe];exact lk),Xe]at this;rw[kz.1];exact this
def Ycx(i:Nat):FI:=λδ=>match δ[i]? with
 | some (YB (.dc YD ks ds))=>YB (Zzy ks ds,δ.set i (YB (.fz (dcD YD ks ds))))
 | _=>YC
theorem Zzx(h:MI X io p c tg e (Ycu i)):MI X io p c tg e (o2 (Ycx i)):=h.weak λδ K z=>by
 obtain⟨ds,δ',h,k⟩:=z;unfold Ycu;unfold Ycx at h;split at h
 .rename_i q
  cases h
  (try rw[q]);exact k
 .cases h
end L2
namespace My
open PySem L2 PySem.Spec
def Wc(R:FD):FS :=
 (Z5 (Zbg (tD (Znm "int" (Ze 1)))
  (wE (Zw6 (Znm "int" (Ze 0)) (Zw6 (fUn Ydc (Znm "bool" (Ze 0))) (Zj gEq (Ze 0) (Ze 1)))) Jm)
  fNx)
  (Z5 (Zbg (tD (Znm "str" (Ze 1)))
  (wE (Zw6 (Znm "str" (Ze 0)) (Zj gEq (Ze 0) (Ze 1))) Jm)
  fNx)
  (Z5 (Zbg (tO (tV (Zj gNe (Znm "tuple" (Ze 1)) (Znm "tuple" (Ze 0)))) (tV (Zj gNe (Znm "list" (Ze 1)) (Znm "list" (Ze 0)))))
  (wE (fC (.bool YF)) Jm)
  fNx)
  (Z5 (Zbg (tV (Zj gNe (J1 Zac (Zc (Ze 0) Zo)) (J1 Zac (Zc (Ze 1) Zo))))
  (wE (fC (.bool YF)) Jm)
  fNx)
  (Z5 (J5 (Zkp (Zc (Ze 0) (Zc (Ze 1) Zo))) (gTp 2 (gCn (gNm 2) (gCn (gNm 3) gNl)))
  (Zbg (tNo (tD (Z4 R (Zc (Ze 2) (Zc (Ze 3) Zo)))))
  (wE (fC (.bool YF)) Jm)
  fNx))
  (wE (fC (.bool YD)) Jm))))))
def Zt:Nat->FD
 | 0=>λ_=>RF.bad
 | k+1=>Jt 2 4 (Wc (Zt k))
def Zbi:FS :=
 (wE (Ym gIx (Zek (Zc (fC (.int 1)) (Zc (fC (.int 2)) (Zc (fC (.int 6)) (Zc (Zj Zcb (Zj Zzw (fC (.int 10)) (fC (.int 15))) (fC (.int 37))) Zo))))) (Zj Zej (Zj Zat (Ze 0) (fC (.int 3))) (fC (.int 4)))) Jm)
def Wq:FD:=Jt 1 1 Zbi
def Zai:FS :=
 (Z5 (wE (Z4 Yq (Zc (Ze 0) (Zc (Zj Zfy (fC (.int 2)) (Ze 1)) Zo))) (Y9 2))
  (Z5 (wE (Zz4 (Yu 1 [] (iRb (Zc (fC (.int 1)) (Zc (Ze 1) Zo))) (gNm 0) Zil (Zek (Zc (Ze 0) Zo)))) (Zas 3))
  (Z5 (wE (Zot 3) (Zas 4))
  (Z5 (J5 (iRa (Zc (Zj gSb (Ze 1) (fC (.int 2))) Zo)) (gNm 5)
  (Z5 (wE (Zy8 3 (Zj Zej (Ym gIx (Ze 2) (Zj Zfy (fC (.int 2)) (Ze 5))) (J1 Zac (Zc (Zkr 3) Zo)))) (Y9 6))
  (Z5 (wE (Zy8 3 (Zj Zej (Ym gIx (Ze 2) (Zj Zcb (Zj Zfy (fC (.int 2)) (Ze 5)) (fC (.int 1)))) (J1 Zac (Zc (Zkr 3) Zo)))) (Y9 7))
  (Z5 (Wf 3 (fBl Zpq (Zc (Ym Zwy (Ze 6) (Ze 7)) Zo)))
  (Wf 4 (Ycv 3 (fUn Zw2 (fC (.int 1)))))))))
  (Zdf 4)))))
def Y8:FD:=Jt 2 8 Zai
def Zdj:FS :=
 (Z5 (wE (J1 Z7l (Zc (Ze 0) Zo)) (Y9 2))
  (Z5 (wE (Ze 1) (Y9 3))
  (Z5 (Zi1 (tV (Zj gNe (Ze 3) (fC (.int 0)))) (Z5 (wE (Zj Zej (Ze 2) (Ze 3)) (Y9 4))
  (Z5 (wE (Ze 3) (Y9 2))
  (wE (Ze 4) (Y9 3)))))
  (wE (Zgn (Zc (Zj Zat (Ze 0) (Ze 2)) (Zc (Zj Zat (Ze 1) (Ze 2)) Zo))) Jm))))
def Js:FD:=Jt 2 5 Zdj
def Zdn:FS :=
 (Z5 (wE (Z90 YD) (Zas 4))
  (Z5 (J5 (Zkp (Zc (Ze 0) (Zc (Ze 1) Zo))) (gTp 2 (gCn (gNm 5) (gCn (gNm 6) gNl)))
  (Z5 (wE (Yu 1 [2,5] (iRa (Zc (J1 Zac (Zc (Ze 2) Zo)) Zo)) (gNm 0) (tV (Zj (Zir YF) (Ym gIx (Ze 1) (Ze 0)) (Ze 2))) (Ze 0)) (Y9 7))
  (Z5 (Zbg (tV (Zj (Zir YF) (fC (.int 0)) (Ze 7)))
  (wE (Yu 1 [2,5] (iRa (Zc (J1 Zac (Zc (Ze 2) Zo)) Zo)) (gNm 0) (tV (Zj (Zir YD) (Ym gIx (Ze 1) (Ze 0)) (Ze 2))) (Ze 0)) (Y9 7))
  fNx)
  (Zbg (tAn (tV (Zj gNe (Ze 7) (Zek Zo))) (tV (Zj gGt (Ze 6) (fC (.int 0)))))
  (Zua 4 (Zj Zcb (Zue (Zkr 4) (fBl Zku (Zc (Ze 7) Zo)) (fC (.int 0))) (Ze 6)) (fBl Zku (Zc (Ze 7) Zo)))
  fNx))))
  (wE (fBl (Zg0 kdT ltT) (Zc (Yu 2 [3] (Ycx 4) (gTp 2 (gCn (gNm 0) (gCn (gNm 1) gNl))) Zil (Zgn (Zc (fBl Zs0 (Zc (Ze 0) Zo)) (Zc (Z4 Js (Zc (Ze 1) (Zc (Ze 2) Zo))) Zo)))) Zo)) Jm)))
def Za5:FD:=Jt 4 8 Zdn
def Zbk:FS :=
 (Z5 (wE (Z4 Yq (Zc (Ze 0) (Zc (Zj Zcb (Ze 1) (fC (.int 1))) Zo))) (Y9 2))
  (Z5 (wE (Yck (Zc (Ze 1) Zo)) (Zas 3))
  (Z5 (wE (Zek Zo) (Zas 4))
  (Z5 (J5 (iRa (Zc (Zj Zcb (fC (.int 1)) (Zj Zej (Ym gIx (Ze 2) (Ze 1)) (Ze 1))) Zo)) (gNm 5)
  (Wf 4 (Zy8 3 (Zj Zej (Ym gIx (Ze 2) (Ze 5)) (J1 Zac (Zc (Zkr 3) Zo))))))
  (Zdf 4)))))
def Wn:FD:=Jt 2 6 Zbk
def Zc3:FS :=
 (Z5 (wE (Yu 1 [0] (iRa (Zc (Ze 0) Zo)) (gNm 0) Zil (Z7k (fC (.int 0)) (Ze 1))) (Zas 3))
  (Z5 (J5 (Zkp (Zc (Ze 1) (Zc (Ze 2) Zo))) (gTp 2 (gCn (gNm 4) (gCn (gNm 5) gNl)))
  (J5 (iRa (Zc (Ze 0) Zo)) (gNm 6)
  (J5 (iRa (Zc (Ze 0) Zo)) (gNm 7)
  (Zbg (tV (Zj gNe (Zj (Zir YF) (Ze 6) (Ze 4)) (Zj (Zir YF) (Ze 7) (Ze 4))))
  (Zv9 3 (Zj Zcb (Ym gIx (Ym gIx (Zkr 3) (Ze 6)) (Ze 7)) (Ze 5)) (Ze 6) (Ze 7))
  fNx))))
  (Zdf 3)))
def Zaq:FD:=Jt 3 8 Zc3
def Zca:FS :=
 (wE (Yu 1 [1] (Zfz (Ze 0)) (gNm 0) Zil (Yu 1 [1] (Zfz (Ze 0)) (gNm 0) Zil (Z4 Js (Zc (Ze 0) (Zc (Ze 1) Zo))))) Jm)
def J4:FD:=Jt 2 2 Zca
def Za0:FS :=
 (Z5 (wE (Ym gIx (Zek (Zc (fC (.int 3)) (Zc (fC (.int 12)) (Zc (Zj Zzw (fC (.int 10)) (fC (.int 20))) Zo)))) (Zj Zej (Ze 3) (fC (.int 3)))) (Y9 4))
  (Z5 (wE (Zek Zo) (Zas 5))
  (Z5 (J5 (iRa (Zc (Ze 2) Zo)) (gNm 6)
  (Z5 (wE (Z4 Wi (Zc (Ze 3) (Zc (Zj Zcb (fC (.int 50)) (Ze 6)) Zo))) (Y9 7))
  (Z5 (Zbg (tV (Zj gLt (Zj Zcb (Ze 1) (Ze 6)) (J1 Zac (Zc (Ze 0) Zo))))
  (wE (Ym gIx (Ze 0) (Zj Zcb (Ze 1) (Ze 6))) (Y9 7))
  fNx)
  (Wf 5 (Zj Zej (Ze 7) (Ze 4))))))
  (Zdf 5))))
def W0:FD:=Jt 4 8 Za0
def Zcz:FS :=
 (wE (Zl5 (λi j=>decide (i<=j)) (λi j=>decide (i<j)) (fC (.int 0)) (Ze 1) (J1 Zac (Zc (Ze 0) Zo))) Jm)
def Zaf:FD:=Jt 2 2 Zcz
def Zdk:FS :=
 (Z5 (J5 (Zfz (Ze 1)) (gNm 2)
  (Zbg (tNo (tD (Z4 Zaf (Zc (Ze 0) (Zc (Ze 2) Zo)))))
  (wE (fC (.bool YF)) Jm)
  fNx))
  (wE (Zw6 (Zj gGt (J1 Zac (Zc (Ze 1) Zo)) (fC (.int 0))) (Zj gEq (Zjr (Zc (Ze 1) Zo)) (J1 Zac (Zc (Ze 1) Zo)))) Jm))
def Za9:FD:=Jt 2 3 Zdk
def Zdq:FS :=
 (Z5 (Zbg (tNo (tD (Z4 Za9 (Zc (Ze 0) (Zc (Ze 1) Zo)))))
  (Zol "NoPoint")
  fNx)
  (Z5 (wE (Zek Zo) (Zas 2))
  (Z5 (J5 (Zfz (Ze 1)) (gNm 3)
  (Wf 2 (Yu 1 [0,3] (Zfz (Ze 1)) (gNm 0) Zil (Ym gIx (Ym gIx (Ze 1) (Ze 2)) (Ze 0)))))
  (Zdf 2))))
def Jr:FD:=Jt 2 4 Zdq
def Wh:FS :=
 (Z5 (wE (fBl Zp2 (Zc (Ze 0) Zo)) (Y9 1))
  (wE (Zj gLt (Ym gIx (Ze 1) (fC (.int 1))) (Ym gIx (Ze 1) (fC (.int 2)))) Jm))
def Z6:FD:=Jt 1 2 Wh
def J8:FS :=
 (Z5 (wE (Zek (Zc (Zgn Zo) Zo)) (Y9 2))
  (Z5 (J5 (iRa (Zc (Ze 1) Zo)) (gNm 3)
  (Z5 (wE (Zek Zo) (Zas 4))
  (Z5 (J5 (Zfz (Ze 2)) (gNm 5)
  (Z5 (wE (fIf (tV (Zj gGt (J1 Zac (Zc (Ze 5) Zo)) (fC (.int 0)))) (Zj Zcb (Ym gIx (Ze 5) (fUn Zw2 (fC (.int 1)))) (fC (.int 1))) (fC (.int 0))) (Y9 6))
  (Zfa 4 (Yu 1 [5] (iRb (Zc (Ze 6) (Zc (Ze 0) Zo))) (gNm 0) Zil (Ym Zrk (Ze 1) (Zgn (Zc (Ze 0) Zo)))))))
  (Zhg 4 (wE (Ze 4) (Y9 2))))))
  (wE (Ze 2) Jm)))
def Wt:FD:=Jt 2 7 J8
def Zbf:FS :=
 (wE (Zgn (Zc (Zj Zcb (Ym gIx (Ym gIx (Ze 0) (Ze 1)) (Ze 2)) (Ym gIx (Ym gIx (Ze 0) (Ze 3)) (Ze 4))) (Zc (Zj Zcb (Ym gIx (Ym gIx (Ze 0) (Ze 1)) (Ze 3)) (Ym gIx (Ym gIx (Ze 0) (Ze 2)) (Ze 4))) (Zc (Zj Zcb (Ym gIx (Ym gIx (Ze 0) (Ze 1)) (Ze 4)) (Ym gIx (Ym gIx (Ze 0) (Ze 2)) (Ze 3))) Zo)))) Jm)
def Z3:FD:=Jt 5 5 Zbf
def Zbo:FS :=
 (Z5 (J5 (Zfz (Z4 Wt (Zc (J1 Zac (Zc (Ze 0) Zo)) (Zc (fC (.int 4)) Zo)))) (gTp 4 (gCn (gNm 1) (gCn (gNm 2) (gCn (gNm 3) (gCn (gNm 4) gNl)))))
  (Zbg (tD (Z4 Z6 (Zc (Z4 Z3 (Zc (Ze 0) (Zc (Ze 1) (Zc (Ze 2) (Zc (Ze 3) (Zc (Ze 4) Zo)))))) Zo)))
  (wE (Zgn (Zc (Ze 1) (Zc (Ze 2) (Zc (Ze 3) (Zc (Ze 4) Zo))))) Jm)
  fNx))
  (wE (fC .none) Jm))
def Jp:FD:=Jt 1 5 Zbo
def Zcq:FS :=
 (wE (Zj gLt (Zj Zfy (Ym gIx (Ze 0) (fC (.int 0))) (Ym gIx (Ze 1) (fC (.int 1)))) (Zj Zfy (Ym gIx (Ze 1) (fC (.int 0))) (Ym gIx (Ze 0) (fC (.int 1))))) Jm)
def Zak:FD:=Jt 2 2 Zcq
def Zgo:FS :=
 (wE (Z4 Jf (Zc (Zj Zcb (Zj Zfy (Ym gIx (Ze 0) (fC (.int 0))) (Ym gIx (Ze 1) (fC (.int 1)))) (Zj Zfy (Ym gIx (Ze 1) (fC (.int 0))) (Ym gIx (Ze 0) (fC (.int 1))))) (Zc (Zj Zfy (Ym gIx (Ze 0) (fC (.int 1))) (Ym gIx (Ze 1) (fC (.int 1)))) Zo))) Jm)
def Zdw:FD:=Jt 2 2 Zgo
def Zaz:FS :=
 (wE (Z4 Zak (Zc (Z4 Zdw (Zc (Ym gIx (Ym gIx (Ze 0) (Ze 1)) (Ze 2)) (Zc (Ym gIx (Ym gIx (Ze 0) (Ze 2)) (Ze 3)) Zo))) (Zc (Ym gIx (Ym gIx (Ze 0) (Ze 1)) (Ze 3)) Zo))) Jm)
def W7:FD:=Jt 4 4 Zaz
def Za2:FS :=
 (Z5 (wE (J1 Zac (Zc (Ze 0) Zo)) (Y9 1))
  (Z5 (J5 (iRa (Zc (Ze 1) Zo)) (gNm 2)
  (J5 (iRa (Zc (Ze 1) Zo)) (gNm 3)
  (J5 (iRa (Zc (Ze 1) Zo)) (gNm 4)
  (Zbg (tD (Z4 W7 (Zc (Ze 0) (Zc (Ze 2) (Zc (Ze 3) (Zc (Ze 4) Zo))))))
  (wE (Zgn (Zc (Ze 2) (Zc (Ze 3) (Zc (Ze 4) Zo)))) Jm)
  fNx))))
  (wE (fC .none) Jm)))
def Wg:FD:=Jt 1 5 Za2
def Zbn:FS :=
 (Z5 (wE (Z4 Wg (Zc (Ze 0) Zo)) (Y9 1))
  (Z5 (Zbg (tV (Zj Zmo (Ze 1) (fC .none)))
  (wE (Ze 1) Jm)
  fNx)
  (wE (Z4 Jp (Zc (Z4 Yw (Zc (Z4 Yd (Zc (Ze 0) Zo)) (Zc (Ze 0) Zo))) Zo)) Jm)))
def Jq:FD:=Jt 1 2 Zbn
def Zb9:FS :=
 (wE (Zj gSb (J1 Z1o (Zc (Ym gIx (Ze 0) (fC (.int 1))) (Zc (Ym gIx (Ze 0) (fC (.int 2))) Zo))) (Ym gIx (Ze 0) (fC (.int 0)))) Jm)
def Yh:FD:=Jt 1 1 Zb9
def Zcv:FS :=
 (Z5 (wE (Zek (Zc (Zek Zo) Zo)) (Y9 1))
  (Z5 (J5 (iRb (Zc (fC (.int 1)) (Zc (Ze 0) Zo))) (gNm 2)
  (wE (Ym Zwy (Ze 1) (Yu 1 [2] (Zfz (Ze 1)) (gNm 0) Zil (Ym Zwy (Ze 0) (Zek (Zc (Ze 1) Zo))))) (Y9 1)))
  (wE (Yu 1 [] (Zfz (fBl (Zf1 kdL ltI) (Zc (Ze 1) Zo))) (gNm 0) (tV (Zj gGt (J1 Zac (Zc (Ze 0) Zo)) (fC (.int 0)))) (Ze 0)) Jm)))
def Yl:FD:=Jt 1 3 Zcv
def Zbl:FS :=
 (Z5 (wE (Zek Zo) (Zas 1))
  (Z5 (J5 (Zxd (Zc (Ze 0) Zo)) (gTp 2 (gCn (gNm 2) (gCn (gNm 3) gNl)))
  (J5 (Zfz (fSl (Ze 0) (oI (Ze 2)) oN)) (gNm 4)
  (Wf 1 (Zgn (Zc (Ze 3) (Zc (Ze 4) Zo))))))
  (Zdf 1)))
def Wr:FD:=Jt 1 5 Zbl
def W2:FS :=
 (Z5 (wE (Yu 1 [1] (iRa (Zc (J1 Zac (Zc (Ze 0) Zo)) Zo)) (gNm 0) (tV (Zj (Zir YD) (Ze 0) (Ze 1))) (Ze 0)) (Y9 3))
  (Z5 (wE (Z4 Wr (Zc (Ze 3) Zo)) (Y9 4))
  (Z5 (wE (Zer 2 "tree_rule" Yh (Zc (Z4 Z3 (Zc (Ze 0) (Zc (Ym gIx (Ze 1) (fC (.int 0))) (Zc (Ym gIx (Ze 1) (fC (.int 0))) (Zc (fC (.int 0)) (Zc (fC (.int 0)) Zo)))))) Zo)) (Y9 5))
  (Z5 (J5 (Zfz (Z4 Wr (Zc (Ze 1) Zo))) (gTp 2 (gCn (gNm 6) (gCn (gNm 7) gNl)))
  (Z5 (J5 (Zfz (Ze 4)) (gTp 2 (gCn (gNm 8) (gCn (gNm 9) gNl)))
  (wE (J1 Z1o (Zc (Ze 5) (Zc (Zer 2 "tree_rule" Yh (Zc (Z4 Z3 (Zc (Ze 0) (Zc (Ze 6) (Zc (Ze 7) (Zc (Ze 8) (Zc (Ze 9) Zo)))))) Zo)) Zo))) (Y9 5)))
  (Zbg (tV (Zj gLe (Ze 5) (fC (.int 0))))
  (wE (fC (.int 0)) Jm)
  fNx)))
  (wE (Ze 5) Jm)))))
def Z9:FD:=Jt 3 10 W2
def Zav:FS :=
 (Z5 (wE (Z4 Yd (Zc (Ze 0) Zo)) (Y9 2))
  (Z5 (wE (Z4 Yw (Zc (Ze 2) (Zc (Ze 0) Zo))) (Y9 3))
  (Z5 (wE (Zek Zo) (Zas 4))
  (Z5 (J5 (Zfz (Z4 Yl (Zc (J1 Zac (Zc (Ze 0) Zo)) Zo))) (gNm 5)
  (Z5 (wE (Z4 Z9 (Zc (Ze 3) (Zc (Ze 5) (Zc (Ze 1) Zo)))) (Y9 6))
  (Zbg (tV (Zj gGt (Ze 6) (fC (.int 0))))
  (Wf 4 (Zgn (Zc (Ze 5) (Zc (Z4 Wz (Zc (Ze 6) (Zc (Zj Zfy (fC (.int 2)) (Ze 2)) Zo))) Zo))))
  fNx)))
  (Zdf 4)))))
def W6:FD:=Jt 2 7 Zav
def Zb5:FS :=
 (Z5 (wE (Z4 Jq (Zc (Ze 0) Zo)) (Y9 1))
  (Z5 (Zbg (tV (Zj Zmo (Ze 1) (fC .none)))
  (wE (Zgn (Zc (fC (.str "bars")) (Zc (Ze 1) Zo))) Jm)
  fNx)
  (wE (Zgn (Zc (fC (.str "tree")) (Zc (Z4 W6 (Zc (Ze 0) (Zc (fC (fnD "tree_rule")) Zo))) Zo))) Jm)))
def Ww:FD:=Jt 1 2 Zb5
def Zic:FS :=
 (Z5 (wE (Z4 Jd (Zc (Z4 Yp (Zc (Ze 0) (Zc (fC (.int 0)) Zo))) (Zc (fC (.int 2)) (Zc (fC (.int 7)) (Zc (fC (.int 9)) Zo))))) (Y9 1))
  (Z5 (wE (Z4 Yp (Zc (Ze 0) (Zc (fC (.int 1)) Zo))) (Y9 2))
  (Z5 (wE (Z4 Y8 (Zc (Zj Zat (Ze 2) (fC (.int 12))) (Zc (Ze 1) Zo))) (Y9 3))
  (Z5 (wE (Z4 W0 (Zc (Ze 0) (Zc (fC (.int 3)) (Zc (J1 Zac (Zc (Ze 3) Zo)) (Zc (Ze 2) Zo))))) (Y9 4))
  (Z5 (wE (Z4 Wq (Zc (Ze 2) Zo)) (Y9 5))
  (Z5 (wE (Z4 J4 (Zc (Z4 Zaq (Zc (Ze 1) (Zc (Ze 3) (Zc (Ze 4) Zo)))) (Zc (Ze 5) Zo))) (Y9 6))
  (Z5 (wE (Z4 Wn (Zc (Z4 Yp (Zc (Ze 0) (Zc (fC (.int 2)) Zo))) (Zc (Ze 1) Zo))) (Y9 7))
  (Z5 (wE (Z4 Za5 (Zc (Ze 3) (Zc (Ze 4) (Zc (Ze 7) (Zc (Ze 5) Zo))))) (Y9 8))
  (wE (Z4 (Zt 8) (Zc (Z4 Ww (Zc (Z4 Jr (Zc (Ze 6) (Zc (Ze 7) Zo))) Zo)) (Zc (Zgn (Zc (fC (.str "tree")) (Zc (Ze 8) Zo))) Zo))) Jm)))))))))
def Ze1:FD:=Jt 1 9 Zic
end My
namespace My
open PySem L2 PySem.Spec
theorem Ztj(p:List Int):Sh 1 (Zg p):=Zs6 λd m=>by
 obtain⟨x,_,rfl⟩:=XM.mp m;exact Zt1 x
theorem Zp5(h:∀d∈ds,Y4 d=YD):Y4 (.list ds)=YD:=by
 rw[Y4]
 induction ds with
 | nil=>rfl
 | cons d ds ih=>rw[Zd3,h d (.head _),ih λe he=>h e (.tail _ he)];rfl
theorem Zfr(p:List Int):Y4 (Zg p)=YD:=Zp5 λd m=>by
 obtain⟨x,_,rfl⟩:=XM.mp m;rfl
theorem Zxa{a b:List Int}(h:Zg a=Zg b):a=b:=by
 unfold Zg at h;injection h with h;exact Um (λx y z=>by injection z)|>.mp h
theorem Zxr(a b:List Int):gNe (Zg a) (Zg b)=YB (.bool (!decide (a=b))):=by
 have s:Ut (Zg a)=YD:=((Ztj a).shp (by omega)).ok;have t:Ut (Zg b)=YD:=((Ztj b).shp (by omega)).ok;unfold gNe;rw[YL (by rw[s,t];rfl)]
 by_cases c:a=b
 .subst c
  rw[Zpj (Zfr a)];simp
 .have:QT (Zg a) (Zg b)=YF:=by
   cases e:QT (Zg a) (Zg b)with
   | false=>rfl
   | true=>exact YX (Zxa ((Zju _ _ (Zfr a) (Zfr b)).mp e)) c
  rw[this,YS c]
theorem Zq2{p:List Int}(h:p.length<64):Zpq [Zg p]=YB (.nd (((Yz p).map Xl).map OT.fz)):=by
 show((Zc5 (p.map Xl)).bind λns=>if ns.length<64 then YB (OT.nd (((Yz ns).map Xl).map OT.fz))else YC)=_;rw[Ju,Xh,YL h]
theorem Zos{p:List Int}{i:Int}(h0:0<=i)(h1:i<p.length):gIx (Zg p) (.int i)=YB (.fz (.int (p.getD i.toNat 0))):=by
 unfold Zg;rw[Zrg,Zop h0 h1];rfl
def Zlh(n:Int):List Int:=(Xw n.toNat).map λi:Nat=>(i:Int)
def Zya(n:Nat)(f:Nat->Int):Xa:=.list ((Xw n).map λj=>.int (f j))
def Jo(n:Nat)(r:Nat->Nat->Int):Xa:=.list ((Xw n).map λi=>Zya n (r i))
theorem Zo1{n:Nat}(f:Nat->α)(h:i<n):atI ((Xw n).map f) (i:Int)=YB (f i):=by
 rw[Zum,Xm,JR h];rfl
theorem Z59{n:Nat}{f:Nat->Int}(h:j<n):gIx (Zya n f) (.int (j:Int))=YB (.fz (.int (f j))):=by
 unfold Zya;rw[Zrg,Zo1 _ h];rfl
theorem Zz0{n:Nat}{r:Nat->Nat->Int}(h:i<n):gIx (Jo n r) (.int (i:Int))=YB (.fz (Zya n (r i))):=by
 unfold Jo;rw[Zrg,Zo1 _ h];rfl
theorem Zlw(n:Nat)(r:Nat->Nat->Int):Zac [Jo n r]=YB (.int n):=by
 unfold Jo;rw[Zlu,Xe,Qd]
theorem Z6q{t:Int}(hb:b≠0):((XR t b).den:Int)∣b:=by
 rw[Rat.den_divInt,YM hb];have:(b.natAbs/b.gcd t:Nat)∣b.natAbs:=Nat.div_dvd_of_dvd (by rw[VN];exact Nat.gcd_dvd_left ..);exact Int.ofNat_dvd_left.mpr this
theorem Zi4{a m k:Int}(hk:0<k)(hm:0<m):XR (k*a) (m*k)=XR a m:=by
 rw[Int.mul_comm k a];exact Rat.divInt_mul_right (by omega)
def tw(S:Nat->Nat->Int)(x p y q:Nat):Int:=S x y+S p q-S x q-S p y
def pn(p:List Int)(i:Nat):Nat:=(p.getD i 0).toNat
def InR(n:Nat)(p:List Int):Prop:=p.length=n/\∀i,i<n->0<=p.getD i 0/\p.getD i 0<n
theorem InR.at{n:Nat}{p:List Int}(h:InR n p){i:Nat}(hi:i<n):gIx (Zg p) (.int (i:Int))=YB (.fz (.int (pn p i:Nat)))/\pn p i<n:=by
 obtain⟨h1,h2⟩:=h;obtain⟨a,b⟩:=h2 i hi;rw[Zos (by omega) (by omega),QV];unfold pn;rw[JX a];exact⟨rfl,by omega⟩
theorem Zi3{n x y:Nat}{S:Nat->Nat->Int}(hx:x<n)(hy:y<n)(h0:δ[0]? =YB (YB (.fz (Jo n S))))(h1:δ[i]? =YB (YB (.fz (.int x))))(h2:δ[j]? =YB (YB (.fz (.int y)))):EvV (Ym gIx (Ym gIx (Ze 0) (Ze i)) (Ze j)) δ (.int (S x y)):=Zaa (Zaa (Za h0) (Za h1) (Zz0 hx)) (Za h2) (Z59 hy)
def Zcm(n:Nat)(R:Nat->Nat->Int)(b:Int):List (List Rat):=(Xw n).map λi=>(Xw n).map λj=>XR (R i j) b
theorem Z2w(T:List (List Rat)):Zac [tbD T]=YB (.int T.length):=by
 unfold tbD;rw[Zlu,Xe]
theorem Zo6(n:Nat)(R:Nat->Nat->Int)(b:Int):(Zcm n R b).length=n:=by unfold Zcm;simp
theorem Zi6{n:Nat}{t:Int}(hb:0<b)(hB:Bt n b)(hn:n<=9000:=by decide):Told Js [.int t,.int b] (frD (XR t b)):=by
 obtain⟨z',e⟩:=Zjw (f1:=λx y z=>[YB (.fz (.int t)),YB (.fz (.int b)),YB (.fz (.int x)),YB (.fz (.int y)),z]) (f2:=λx y z=>[]) (t:=tV (Zj gNe (Ze 3) (fC (.int 0)))) (u:=Z5 (wE (Zj Zej (Ze 2) (Ze 3)) (Y9 4)) (Z5 (wE (Ze 3) (Y9 2)) (wE (Ze 4) (Y9 3)))) (λx y z=>Zdm (Z6v Za Yb rfl)) (λx y z hy=>⟨_,Y0 (Zw (Ji Za Za hy)) (Y0 (Zw Za) (Zw Za))⟩) (b.toNat+1) (t.natAbs:Int) b YC (by omega) (by omega) (by omega);have eg:(Bs (t.natAbs:Int) b:Int)=shr t b:=by
  unfold shr;rw[YM (by omega),VN,VN,Int.natAbs_natCast]
 obtain⟨e1,e2⟩:=Ybt (t:=t) (b:=b) (by omega) hB hn _ eg;exact Z1 rfl<|Z2 (Zw (Zay (Zb Za Zm) (Zwn t)))<|Z2 (Zw Za)<|Z2 (Zl2 _ e (by intro z;cases z)) (Yg (Zbd (Zb (Zy Za Za e1) (Zb (Zy Za Za e2) Zm)) (show 2<=1000 by decide)))
theorem Ylq:Zzw (.int 10) (.int 20)=YB (.int 100000000000000000000):=rfl
theorem Ykx:Zzw (.int 10) (.int 15)=YB (.int 1000000000000000):=rfl
theorem btc{n:Nat}{m:Int}(h1:decide (-(2^n)<m)=YD)(h2:decide (m<2^n)=YD):Bt n m:=Bt.of_lt (YW h1) (YW h2)
def Zv7(r:List Int):OT:=.nd (r.map λx=>.fz (.int x))
def Dr(n:Nat)(base:Int)(L:List (List Int)):Prop:=L.length=n/\∀r∈L,r.length=n/\∀x∈r,0<=x/\x<base
theorem Dr.put{n:Nat}{base v:Int}{L:List (List Int)}(h:Dr n base L)(h0:0<=v)(h1:v<base)(a b:Nat):Dr n base (L.set a ((L.getD a []).set b v)):=by
 refine⟨by rw[Vo];exact h.1,λr hr=>?_⟩;rcases List.mem_or_eq_of_mem_set hr with hr|rfl
 .exact h.2 r hr
 .by_cases c:a<L.length
  .have m:L.getD a []∈L:=by rw[Xb,Xi c];exact JH c
   obtain⟨h3,h4⟩:=h.2 _ m;refine⟨by rw[Vo];exact h3,λx hx=>?_⟩;rcases List.mem_or_eq_of_mem_set hx with hx|rfl
   .exact h4 x hx
   .exact⟨h0,h1⟩
  .rw[List.set_eq_of_length_le (by omega)]at hr
   exact h.2 _ hr
theorem Z3d{e j j2:FE}{d:Int}{L:List (List Int)}{a b:Nat}(he:EvV e δ (.int d))(hi:δ[i]? =YB (YB (.nd (L.map Zv7))))(hj:EvV j δ (.int a))(ha:a<L.length)(hk:EvV j2 δ (.int b))(hb:b<(L.getD a []).length) :
  Zv9 i e j j2 δ= .nx (δ.set i (YB (.nd ((L.set a ((L.getD a []).set b d)).map Zv7)))):=by
 have e1:(L.map Zv7)[a]? =YB (.nd ((L.getD a []).map λx=>.fz (.int x))):=by
  rw[Xm,Xi ha,Xb,Xi ha];rfl
 obtain⟨_,e2,d2⟩:=he;obtain⟨_,e3,d3⟩:=hj;obtain⟨_,e4,d4⟩:=hk;unfold Zv9;rw[Zc4,e2,Wa,hi];dsimp only;rw[Zc4,e3,Wa,d3];dsimp only;rw[Zma (by rw[Xe];exact ha)];dsimp only;rw[e1];dsimp only;rw[Zc4,e4,Wa,d4];dsimp only;rw[Zma (by rw[Xe];exact hb)];dsimp only;rw[d2];refine YT RS.nx (YT (δ.set i) (YT YB (YT OT.nd ?_)));rw[List.map_set];refine YT _ ?_;show _=OT.nd _;rw[List.map_set]
def fnL(L:List (List Int))(i j:Nat):Int:=(L.getD i []).getD j 0
theorem Z6k{L:List (List Int)}{a b:Nat}{v:Int}(ha:a<L.length)(hb:b<(L.getD a []).length)(x y:Nat):fnL (L.set a ((L.getD a []).set b v)) x y=if x=a/\y=b then v else fnL L x y:=by
 unfold fnL;rw[Xb (l:=L.set a _),List.getElem?_set]
 by_cases c:a=x
 .subst c
  rw[YL rfl,YL ha];show(((L.getD a []).set b v).getD y 0)=_;rw[Xb,List.getElem?_set]
  by_cases e:b=y
  .subst e
   rw[YL rfl,YL hb,YL ⟨rfl,rfl⟩];rfl
  .rw[YM e,YM λz=>e z.2.symm,<-Xb]
 .rw[YM c,YM λz=>c z.1.symm,<-Xb]
def Z8o(p:List Int)(lo hi:Option Int):List Int:=(p.drop (HT.sIx p.length 0 lo)).take (HT.sIx p.length p.length hi-HT.sIx p.length 0 lo)
theorem Zyf(p:List Int)(lo hi:Option Int):cutD (p.map Xl) lo hi=(Z8o p lo hi).map Xl:=by
 unfold cutD Z8o;rw[Xe,List.map_take,List.map_drop]
theorem Zwl{p:List Int}{k:Nat}(h:k<=p.length):Z8o p (YB (k:Int)) YC=p.drop k:=by
 unfold Z8o;rw[HT.sIx_none,HT.sIx_nat,Nat.min_eq_left h,List.take_of_length_le (by rw[JG];omega)]
def Pm(n:Nat)(p:List Int):Prop:=p.Perm (Zlh n)
theorem Zrb{n:Nat}{x:Int}:x∈Zlh n↔0<=x/\x<n:=by
 unfold Zlh;rw[QV,XM];constructor
 .rintro⟨i,hi,rfl⟩
  have:=XF.mp hi;omega
 .rintro⟨h0,h1⟩
  exact⟨x.toNat,XF.mpr (by omega),by omega⟩
theorem Zra(n:Nat):(Zlh n).length=n:=by unfold Zlh;simp
theorem Pm.len{n:Nat}{p:List Int}(h:Pm n p):p.length=n:=by rw[h.length_eq,Zra]
theorem getD_mem{p:List Int}(h:i<p.length):p.getD i 0∈p:=by
 rw[Xb,Xi h];exact JH h
theorem Ye8{e:FE}{r p:List Int}{lo:FO}{l h:Option Int}(he:EvV e δ (Zg r))(hl:EvO lo δ l)(hh:EvO hi δ h)(hp:Z8o r l h=p):EvV (fSl e lo hi) δ (Zg p):=hp▸(Yd9 (ds:=r.map Xl) he hl hh).cast (by rw[Zyf];rfl)
theorem Ybf{a b:FE}{p q:List Int}(ha:EvV a δ (Zg p))(hb:EvV b δ (Zg q))(h:p.length<=1000)(k:q.length<=1000):EvV (Ym Zwy a b) δ (Zg (p++q)):=(Zo8 (ds:=p.map Xl) (es:=q.map Xl) ha hb (by rw[Xe,Xe];omega)).cast (by rw[<-Qg];rfl)
theorem Ybo{e:FE}{x:Int}(h:EvV e δ (.int x)):EvV (Zek (Zc e Zo)) δ (Zg [x]):=Zei (Zb h Zm) (show 1<=1000 by decide)
theorem Zhl(f:α->β):∀(l:List α) (j:Nat),(l.map f).eraseIdx j=(l.eraseIdx j).map f
 | [],_=>rfl
 | _::_,0=>rfl
 | a::l,j+1=>by
  show f a::(l.map f).eraseIdx j=f a::(l.eraseIdx j).map f;rw[Zhl f l j]
def cl(lo hi x:Nat):Nat:=if x<lo then lo else if x<hi then x else hi
theorem Zt8{e:FE}{rs:List OT}(h:e δ=YB (.nd rs,δ))(hd:OT.datas rs=ds)(hi:δ[i]? =YB (YB (.nd ts)))(hl:ts.length+ds.length<=1000000):Zfa i e δ= .nx (δ.set i (YB (.nd (ts++ds.map OT.fz)))):=by
 unfold Zfa;rw[hi];dsimp only;rw[Zc4,h,Wa,hi];dsimp only;have lr:rs.length=ds.length:=by rw[<-hd,Zew]
 rw[YL (by rw[Qh,lr];omega),hd]
theorem Zuw(xs:List α)(mk f:α->Xa)(hi:EvI it δ (xs.map mk))(hz:xs.length<=1000000)(hb:blk 1 caps δ=YC::cs)(h:∀x∈xs,EvV me (YB (.fz (mk x))::cs) (f x)):∃rs,Yu 1 caps it (gNm 0) Zil me δ=YB (.nd rs,δ)/\OT.datas rs=xs.map f:=by
 obtain⟨t,e1,e2⟩:=Zd1 xs mk f hi hz hb h;cases t with
 | fz d=>
  unfold Yu at e1;unfold EvI at hi;rw[hi,Xh]at e1;split at e1
  .obtain⟨z,h1,h2⟩:=bs e1
   cases h2
  .cases e1
 | tp ts=>rw[OT.data_tp]at e2;cases e2
 | dc _ _ _=>rw[OT.data_dc]at e2;cases e2
 | nd rs=>
  rw[OT.data_nd,<-datas_map]at e2;injection e2 with e2;exact⟨rs,e1,e2⟩
theorem Zc2(neg:Bool)(x:Int)(p:List Int):Zir neg (.int x) (Zg p)=YB (.bool (if neg then !decide (x∈p)else decide (x∈p))):=by
 have e:memS (.int x) (p.map Xl)=decide (x∈p):=by
  unfold memS;rw[List.any_map];rw[Bool.eq_iff_iff,List.any_eq_true,decide_eq_true_eq];constructor
  .rintro⟨y,hy,h⟩
   have:(y==x)=YD:=h;rw[<-eq_of_beq this];exact hy
  .intro h
   exact⟨x,h,(show(x==x)=YD from beq_self_eq_true x)⟩
 have s:(p.map Xl).all scD=YD:=by
  rw[Vi];intro d hd;obtain⟨y,_,rfl⟩:=XM.mp hd;rfl
 show(if(scD (.int x)&&(p.map Xl).all scD)=YD then YB (PyData.bool (if neg then !memS (.int x) (p.map Xl)else memS (.int x) (p.map Xl)))else YC)=_;rw[s,e];rfl
theorem Ztb(x y:Bool):gNe (.bool x) (.bool y)=YB (.bool (x !=y)):=by
 cases x<;>cases y<;>rfl
theorem Pm.at{n:Nat}{p:List Int}(h:Pm n p){i:Nat}(hi:i<n):∃u,u<n/\p.getD u 0=(i:Int):=by
 have m:(i:Int)∈p:=h.mem_iff.mpr (Zrb.mpr ⟨by omega,by omega⟩);obtain⟨u,hu⟩:=Vr m;exact⟨u,by rw[<-h.len];exact(Xu.mp hu).1,by rw[Xb,hu];rfl⟩
theorem list_range(p:List α)(d:α)(f:α->β):p.map f=(Xw p.length).map λi=>f (p.getD i d):=by
 refine List.ext_getElem? λi=>?_;rw[Xm,Xm]
 by_cases c:i<p.length
 .rw[JR c,Xi c]
  simp[Xb,Xi c]
 .rw[QL (by omega),QL (by simp;omega)];rfl
theorem Z3j{n:Nat}{base:Int}{L:List (List Int)}(h:Dr n base L):QJ ((L.map Zv7).map OT.data)=Jo n (fnL L)/\∀i j,i<n->j<n->0<=fnL L i j/\fnL L i j<base:=by
 refine⟨?_,λi j hi hj=>?_⟩
 .unfold Jo
  refine YT QJ ?_;rw[XQ,list_range L [],h.1];refine Xr λi hi=>?_;have hi:i<n:=by simpa using hi
  have hr:(L.getD i []).length=n:=by
   refine(h.2 _ ?_).1;rw[Xb,Xi (by rw[h.1];exact hi)];exact JH _
  show(OT.nd _).data=Zya n _;rw[OT.data_nd];unfold Zya;refine YT QJ ?_;rw[XQ,list_range (L.getD i []) 0,hr];rfl
 .have m1:L.getD i []∈L:=by
   rw[Xb,Xi (by rw[h.1];exact hi)];exact JH _
  obtain⟨h1,h2⟩:=h.2 _ m1;exact h2 _ (getD_mem (by omega))
theorem ix3{x y z:Xa}{v:Int}(h0:0<=v)(h1:v<3):∃d,gIx (.list [x,y,z]) (.int v)=YB (.fz d)/\(d=x\/d=y\/d=z):=by
 obtain⟨n,rfl⟩:∃n:Nat,v=n:=⟨v.toNat,by omega⟩
 match n with
 | 0=>exact⟨x,rfl,.inl rfl⟩
 | 1=>exact⟨y,rfl,.inr (.inl rfl)⟩
 | 2=>exact⟨z,rfl,.inr (.inr rfl)⟩
 | n+3=>exact YX h1 (by omega)
theorem ix4{x y z w:Xa}{v:Int}(h0:0<=v)(h1:v<4):∃d,gIx (.list [x,y,z,w]) (.int v)=YB (.fz d)/\(d=x\/d=y\/d=z\/d=w):=by
 obtain⟨n,rfl⟩:∃n:Nat,v=n:=⟨v.toNat,by omega⟩
 match n with
 | 0=>exact⟨x,rfl,.inl rfl⟩
 | 1=>exact⟨y,rfl,.inr (.inl rfl)⟩
 | 2=>exact⟨z,rfl,.inr (.inr (.inl rfl))⟩
 | 3=>exact⟨w,rfl,.inr (.inr (.inr rfl))⟩
 | n+4=>exact YX h1 (by omega)
def B20:Int:=100000000000000000000
def wtB(cnt:FE):FS:=(Z5 (wE (Ym gIx (Zek (Zc (fC (.int 3)) (Zc (fC (.int 12)) (Zc (Zj Zzw (fC (.int 10)) (fC (.int 20))) Zo)))) (Zj Zej (Ze 3) (fC (.int 3)))) (Y9 4))
  (Z5 (wE (Zek Zo) (Zas 5))
  (Z5 (J5 (iRa (Zc cnt Zo)) (gNm 6)
  (Z5 (wE (Z4 Wi (Zc (Ze 3) (Zc (Zj Zcb (fC (.int 50)) (Ze 6)) Zo))) (Y9 7))
  (Z5 (Zbg (tV (Zj gLt (Zj Zcb (Ze 1) (Ze 6)) (J1 Zac (Zc (Ze 0) Zo))))
  (wE (Ym gIx (Ze 0) (Zj Zcb (Ze 1) (Ze 6))) (Y9 7))
  fNx)
  (Wf 5 (Zj Zej (Ze 7) (Ze 4))))))
  (Zdf 5))))
theorem Ygu(ns:List Int)(st:Nat)(x c:Int){cnt:FE}{m:Nat}(hm:m<=1000)(hc:∀{δ:Zi},δ[2]? =YB (YB (.fz (.int x)))->EvV cnt δ (.int m)):∃vs:List Int,Told (Jt 4 8 (wtB cnt)) [Zg ns,.int st,.int x,.int c] (Zg vs)/\vs.length=m/\∀v∈vs,0<=v/\v<B20:=by
 obtain⟨d,e,h⟩:=ix3 (x:=.int 3) (y:=.int 12) (z:=.int B20) (v:=c.fmod 3) (Zdu (by decide)) (Zds (by decide));obtain⟨b,rfl,b0,b1⟩:∃b:Int,d= .int b/\0<b/\b<=B20:=by
  unfold B20 at h|-
  rcases h with h|h|h<;>exact⟨_,h,by decide,by decide⟩
 have key:∃d,Told (Jt 4 8 (wtB cnt)) [Zg ns,.int st,.int x,.int c] d/\∃vs:List Int,d=Zg vs/\vs.length=m/\∀v∈vs,0<=v/\v<B20:=by
  refine Zm1 rfl<|Jh (Zw (Zaa (Zei (Zb Yb (Zb Yb (Zb (Zy Yb Yb Ylq) Zm))) (show 3<=1000 by decide)) (Ji Za Yb (by decide)) e))<|Jh Zhi<|Zif (ds:=Zda 0 m) (λi δ=>∃(vs:List Int) (z6 z7:Option OT),δ=[YB (.fz (Zg ns)),YB (.fz (.int st)),YB (.fz (.int x)),YB (.fz (.int c)),YB (.fz (.int b)),YB (.nd (vs.map λv=>.fz (.int v))),z6,z7]/\vs.length=i/\∀v∈vs,0<=v/\v<B20) (Zkf (Zb (hc rfl) Zm) (by omega)) ⟨[],YC,YC,rfl,rfl,λ_ h=>nomatch h⟩ (λi d δ hd q=>?_) λδ' q=>?_
  .obtain⟨vs,z6,z7,rfl,hl,hv⟩:=q
   obtain⟨hi,rfl⟩:=Zab hd;rw[Bq];obtain⟨v,ev⟩:=Zun c (50+(i:Int));obtain⟨w,e3⟩:∃w,Zbg (tV (Zj gLt (Zj Zcb (Ze 1) (Ze 6)) (J1 Zac (Zc (Ze 0) Zo)))) (wE (Ym gIx (Ze 0) (Zj Zcb (Ze 1) (Ze 6))) (Y9 7)) fNx [YB (.fz (Zg ns)),YB (.fz (.int st)),YB (.fz (.int x)),YB (.fz (.int c)),YB (.fz (.int b)),YB (.nd (vs.map λv=>.fz (.int v))),YB (.fz (.int i)),YB (.fz (.int v))]= .nx [YB (.fz (Zg ns)),YB (.fz (.int st)),YB (.fz (.int x)),YB (.fz (.int c)),YB (.fz (.int b)),YB (.nd (vs.map λv=>.fz (.int v))),YB (.fz (.int i)),YB (.fz (.int w))]:=by
    by_cases q:(st:Int)+(i:Int)<ns.length
    .exact⟨_,Za8 (Zdm (Zmk (Ws Za Za) (Zc9 Za) (YQ q))) (Zw (Wb Za (Ws Za Za) (by omega) q))⟩
    .exact⟨v,Yn (Zdm (Zmk (Ws Za Za) (Zc9 Za) (YS q))) rfl⟩
   refine⟨_,_,rfl,.inl (Y0 (Zw (Zq (Zb Za (Zb (Ws Yb Za) Zm)) ev))<|Y0 e3 (Zjv (vs:=vs) (Ji Za Za (by omega)) rfl (by omega))),vs++[w.fmod b],_,_,rfl,by rw[XH,hl];rfl,λu hu=>?_⟩;rcases Qo.mp hu with q|q
   .exact hv u q
   .rw[Xj.mp q]
    exact⟨Zdu b0,Int.lt_of_lt_of_le (Zds b0) b1⟩
  .obtain⟨vs,z6,z7,rfl,hl,hv⟩:=q
   rw[Wl]at hl;exact Ydp rfl ⟨vs,Zji vs,hl,hv⟩
 obtain⟨d,h,vs,rfl,r⟩:=key;exact⟨vs,h,r⟩
theorem Z2n{n:Nat}{S:FS}{xs:List Xa}(hl:xs.length=np)(k:S (Zf0 n xs)= .rt o δ'):Jt np n S xs= .ok o:=by rw[Zu2 hl,k,Zus]
theorem Z5t(h:δ[i]? =YB (YB o)):Zdf i δ= .rt o (δ.set i YC):=by rw[Zo5,h,Z7c]
def B25:Int:=10000000000000000000000000
def sep(s:List Int)(x y:Nat):Bool:=decide ((x:Int)∈s) !=decide ((y:Int)∈s)
theorem Dr.len{n:Nat}{base:Int}{L:List (List Int)}(h:Dr n base L){k:Nat}(hk:k<n):(L.getD k []).length=n:=by
 refine(h.2 _ ?_).1;rw[Xb,Xi (by rw[h.1];exact hk)];exact JH _
theorem Yat{a b:FE}{x y:Nat}{n:Nat}{base:Int}{L:List (List Int)}(h:Dr n base L)(hi:δ[i]? =YB (YB (.nd (L.map Zv7))))(ha:EvV a δ (.int x))(hx:x<n)(hb:EvV b δ (.int y))(hy:y<n):EvV (Ym gIx (Ym gIx (Zkr i) a) b) δ (.int (fnL L x y)):=by
 have e1:EvV (Zkr i) δ (.list (L.map Zg)):=Zlp hi (by
  rw[OT.data_nd,XQ];exact YT QJ (Xr λr _=>Zji r))
 have e2:EvV (Ym gIx (Zkr i) a) δ (Zg (L.getD x [])):=Z0p e1 ha (Z6n (by rw[Xm,Xb,Xi (by rw[h.1];exact hx)];rfl));exact(Wb e2 hb (by omega) (by rw[h.len hx];omega)).cast (by rw[show(y:Int).toNat=y by omega];rfl)
def rE(n:Nat)(A B:Xa)(L:List (List Int))(s:List Int)(w:Int)(z6 z7:Option OT):Zi:=[YB (.fz (.int n)),YB (.fz A),YB (.fz B),YB (.nd (L.map Zv7)),YB (.fz (Zg s)),YB (.fz (.int w)),z6,z7]
def Zp9:FS:=Zbg (tV (Zj gNe (Zj (Zir YF) (Ze 6) (Ze 4)) (Zj (Zir YF) (Ze 7) (Ze 4))))
  (Zv9 3 (Zj Zcb (Ym gIx (Ym gIx (Zkr 3) (Ze 6)) (Ze 7)) (Ze 5)) (Ze 6) (Ze 7))
  fNx
structure Up(n:Nat)(L0:List (List Int))(s:List Int)(w:Int)(P:Nat->Nat->Prop)(L:List (List Int)):Prop where
 dr:Dr n B25 L
 yes:∀x y,x<n->y<n->P x y->fnL L x y=fnL L0 x y+(if sep s x y=YD then w else 0)
 no:∀x y,x<n->y<n->¬P x y->fnL L x y=fnL L0 x y
theorem Up.mono{n:Nat}{L0 L:List (List Int)}{s:List Int}{w:Int}{P Q:Nat->Nat->Prop}(h:Up n L0 s w P L)(e:∀x y,x<n->y<n->(P x y↔Q x y)):Up n L0 s w Q L:=⟨h.dr,λx y hx hy q=>h.yes x y hx hy ((e x y hx hy).mpr q),λx y hx hy q=>h.no x y hx hy λz=>q ((e x y hx hy).mp z)⟩
theorem Z6b{n:Nat}{A B:Xa}{L0 L:List (List Int)}{s:List Int}{w:Int}{P:Nat->Nat->Prop}(hi:i<n)(hj:j<n)(U:Up n L0 s w P L)(np:¬P i j)(lo:0<=fnL L0 i j)(w0:0<=w)(hb:fnL L0 i j+w<B25) :
  ∃L',Zp9 (rE n A B L s w (YB (.fz (.int i))) (YB (.fz (.int j))))= .nx (rE n A B L' s w (YB (.fz (.int i))) (YB (.fz (.int j))))/\Up n L0 s w (λx y=>P x y\/(x=i/\y=j)) L':=by
 have t:=Zdm (Zy (g:=gNe) (δ:=rE n A B L s w (YB (.fz (.int i))) (YB (.fz (.int j)))) (Zy (Za (i:=6) rfl) (Za (i:=4) rfl) (Zc2 YF (i:Int) s)) (Zy (Za (i:=7) rfl) (Za (i:=4) rfl) (Zc2 YF (j:Int) s)) (Ztb _ _));have t:EvT _ _ (sep s i j):=t;cases c:sep s i j with
 | false=>
  rw[c]at t;refine⟨L,Yn t rfl,U.dr,λx y hx hy q=>?_,λx y hx hy q=>U.no x y hx hy λz=>q (.inl z)⟩;rcases q with q|⟨rfl,rfl⟩
  .exact U.yes x y hx hy q
  .rw[U.no x y hx hy np,c,YM Xn,Int.add_zero]
 | true=>
  rw[c]at t;have f:=Z6k (L:=L) (a:=i) (b:=j) (v:=fnL L i j+w) (by rw[U.dr.1];exact hi) (by rw[U.dr.len hi];exact hj);have e:=U.no i j hi hj np;refine⟨_,Za8 t (Z3d (L:=L) (a:=i) (b:=j) (d:=fnL L i j+w) (Ws (Yat U.dr rfl (Za rfl) hi (Za rfl) hj) (Za rfl)) rfl (Za rfl) (by rw[U.dr.1];exact hi) (Za rfl) (by rw[U.dr.len hi];exact hj)),U.dr.put (by rw[e];omega) (by rw[e];exact hb) i j,λx y hx hy q=>?_,λx y hx hy q=>?_⟩
  .rw[f]
   by_cases z:x=i/\y=j
   .obtain⟨rfl,rfl⟩:=z
    rw[YL ⟨rfl,rfl⟩,e,c,YL rfl]
   .rw[YM z]
    exact U.yes x y hx hy (q.resolve_right z)
  .rw[f,YM λz=>q (.inr z)]
   exact U.no x y hx hy λz=>q (.inl z)
theorem Zzv{n:Nat}{A B:Xa}{L0 L:List (List Int)}{s:List Int}{w:Int}{z7:Option OT}(n10:n<=10)(hi:i<n)(U:Up n L0 s w (λx _=>x<i) L)(lo:∀x y,x<n->y<n->0<=fnL L0 x y)(w0:0<=w)(hb:∀x y,x<n->y<n->fnL L0 x y+w<B25) :
  ∃L' z7',J5 (iRa (Zc (Ze 0) Zo)) (gNm 7) Zp9 (rE n A B L s w (YB (.fz (.int i))) z7)= .nx (rE n A B L' s w (YB (.fz (.int i))) z7')/\Up n L0 s w (λx _=>x<i+1) L':=by
 obtain⟨δ',e,L',z7',rfl,U'⟩:=Zdy (S:=Zp9) (g:=gNm 7) (it:=iRa (Zc (Ze 0) Zo)) (δ:=rE n A B L s w (YB (.fz (.int i))) z7) (ds:=Zda 0 n) (λj δ=>∃L' z7',δ=rE n A B L' s w (YB (.fz (.int i))) z7'/\Up n L0 s w (λx y=>x<i\/(x=i/\y<j)) L') (Zkf (Zb (Za rfl) Zm) (by omega)) ⟨L,z7,rfl,U.mono λx y _ _=>by omega⟩ λj d δ hd q=>by
  obtain⟨L',z7',rfl,U'⟩:=q;obtain⟨hj,rfl⟩:=Zab hd;rw[Bq];obtain⟨L2,e2,U2⟩:=Z6b (A:=A) (B:=B) hi hj U' (by omega) (lo i j hi hj) w0 (hb i j hi hj);exact⟨_,_,rfl,.inl e2,L2,_,rfl,U2.mono λx y _ _=>by omega⟩
 rw[Wl]at U';exact⟨L',z7',e,U'.mono λx y _ hy=>by omega⟩
theorem Zx0{n:Nat}{A B:Xa}{L0:List (List Int)}{s:List Int}{w:Int}{z6 z7:Option OT}(n10:n<=10)(D:Dr n B25 L0)(lo:∀x y,x<n->y<n->0<=fnL L0 x y)(w0:0<=w)(hb:∀x y,x<n->y<n->fnL L0 x y+w<B25) :
  ∃L' z6' z7',J5 (iRa (Zc (Ze 0) Zo)) (gNm 6) (J5 (iRa (Zc (Ze 0) Zo)) (gNm 7) Zp9) (rE n A B L0 s w z6 z7)= .nx (rE n A B L' s w z6' z7')/\Dr n B25 L'/\∀x y,x<n->y<n->fnL L' x y=fnL L0 x y+(if sep s x y=YD then w else 0):=by
 obtain⟨δ',e,L',z6',z7',rfl,U'⟩:=Zdy (S:=J5 (iRa (Zc (Ze 0) Zo)) (gNm 7) Zp9) (g:=gNm 6) (it:=iRa (Zc (Ze 0) Zo)) (δ:=rE n A B L0 s w z6 z7) (ds:=Zda 0 n) (λi δ=>∃L' z6' z7',δ=rE n A B L' s w z6' z7'/\Up n L0 s w (λx _=>x<i) L') (Zkf (Zb (Za rfl) Zm) (by omega)) ⟨L0,z6,z7,rfl,D,λ_ _ _ _ z=>YX z (Vp _),λ_ _ _ _ _=>rfl⟩ λi d δ hd q=>by
  obtain⟨L',z6',z7',rfl,U'⟩:=q;obtain⟨hi,rfl⟩:=Zab hd;rw[Bq];obtain⟨L2,z,e2,U2⟩:=Zzv (A:=A) (B:=B) (z7:=z7') n10 hi U' lo w0 hb;exact⟨_,_,rfl,.inl e2,L2,_,z,rfl,U2⟩
 rw[Wl]at U';exact⟨L',z6',z7',e,U'.dr,λx y hx hy=>U'.yes x y hx hy hx⟩
theorem Zp1(s:List Int)(x y:Nat):sep s x y=sep s y x:=by unfold sep;cases decide ((x:Int)∈s)<;>cases decide ((y:Int)∈s)<;>rfl
theorem Zy7(s:List Int)(x:Nat):sep s x x=YF:=by unfold sep;cases decide ((x:Int)∈s)<;>rfl
theorem Zw4{n:Nat}:Dr n B25 ((Xw n).map λ_=>X7 n 0)/\∀x y,x<n->y<n->fnL ((Xw n).map λ_=>X7 n 0) x y=0:=by
 refine⟨⟨by rw[Xe,Qd],λr hr=>?_⟩,λi j hi hj=>?_⟩
 .obtain⟨_,_,rfl⟩:=XM.mp hr
  exact⟨VP,λx hx=>by rw[List.eq_of_mem_replicate hx];decide⟩
 .unfold fnL
  rw[Xb (l:=List.map _ _),Xm,JR hi];show(X7 n (0:Int)).getD j 0=0;rw[Xb,Ur,YL hj];rfl
theorem Yf6{t:FT}(x1 x2:α->Xa)(p:α->Bool)(f:α->OT):∀(xs:List α) (z0 z1:Option OT),(∀x∈xs,∀z0 z1,g (.tuple [x1 x,x2 x]) (z0::z1::cs)=YB (YB (.fz (x1 x))::YB (.fz (x2 x))::cs))->(∀x∈xs,t (YB (.fz (x1 x))::YB (.fz (x2 x))::cs)=YB (p x,YB (.fz (x1 x))::YB (.fz (x2 x))::cs))->(∀x∈xs,p x=YD->me (YB (.fz (x1 x))::YB (.fz (x2 x))::cs)=YB (f x,YB (.fz (x1 x))::YB (.fz (x2 x))::cs)) ->
  ∃z0' z1',compLoop g t me (xs.map λx=>.tuple [x1 x,x2 x]) (z0::z1::cs)=YB ((xs.filter p).map f,z0'::z1'::cs):=by
 intro xs
 induction xs with
 | nil=>exact λz0 z1 _ _ _=>⟨z0,z1,rfl⟩
 | cons x xs ih=>
  intro z0 z1 hg ht hm;obtain⟨y0,y1,e⟩:=ih (YB (.fz (x1 x))) (YB (.fz (x2 x))) (λy hy=>hg y (.tail _ hy)) (λy hy=>ht y (.tail _ hy)) λy hy=>hm y (.tail _ hy);refine⟨y0,y1,?_⟩;rw[XC,compLoop,hg x (.head _),Xh,ht x (.head _),Xh];dsimp only;cases hp:p x with
  | true=>rw[YL rfl,hm x (.head _) hp,Xh,Vz hp,XC];dsimp only;rw[e];rfl
  | false=>rw[YM Xn,VB (by rw[hp];exact Xn)];exact e
theorem Z9e{t:FT}(xs:List α)(x1 x2:α->Xa)(p:α->Bool)(f:α->OT)(hi:EvI it δ (xs.map λx=>.tuple [x1 x,x2 x]))(hz:xs.length<=1000000)(hb:blk 2 caps δ=YC::YC::cs)
  (hg:∀x∈xs,∀z0 z1,g (.tuple [x1 x,x2 x]) (z0::z1::cs)=YB (YB (.fz (x1 x))::YB (.fz (x2 x))::cs)) (ht:∀x∈xs,t (YB (.fz (x1 x))::YB (.fz (x2 x))::cs)=YB (p x,YB (.fz (x1 x))::YB (.fz (x2 x))::cs)) (hm:∀x∈xs,p x=YD->me (YB (.fz (x1 x))::YB (.fz (x2 x))::cs)=YB (f x,YB (.fz (x1 x))::YB (.fz (x2 x))::cs)) :
  Yu 2 caps it g t me δ=YB (.nd ((xs.filter p).map f),δ):=by
 obtain⟨z0,z1,e⟩:=Yf6 x1 x2 p f xs YC YC hg ht hm;unfold EvI at hi;unfold Yu;rw[hi,Xh];dsimp only;rw[YL (by rw[Qh,Xe];omega),hb,e];rfl
theorem Zjj(f:α->Xa)(g:β->Xa)(r:List α)(s:List β):Zks (r.map f) (s.map g)=(r.zip s).map λq=>.tuple [f q.1,g q.2]:=by
 unfold Zks;rw[List.zip_map,XQ];rfl
theorem Zl7{n:Nat}(hn:n<=10)(R:Nat->Nat->Int)(hb:0<b)(bb:Bt 300 b):Told J4 [Jo n R,.int b] (tbD (Zcm n R b)):=by
 have e:tbD (Zcm n R b)= .list ((Xw n).map λi=>.list ((Xw n).map λj=>frD (XR (R i j) b))):=by
  unfold tbD Zcm;rw[XQ];refine YT QJ (Xr λi _=>?_);show Zpy _=_;unfold Zpy;rw[XQ];rfl
 rw[e];exact Z1 rfl<|Yg<|Zd1 (cs:=[YB (.fz (.int b))]) (Xw n) (λi=>Zya n (R i)) (λi=>.list ((Xw n).map λj=>frD (XR (R i j) b))) (Jw Za) (by rw[Qd];omega) rfl λi _=>
  Zd1 (cs:=[YB (.fz (.int b))]) (Xw n) (λj=>.int (R i j)) (λj=>frD (XR (R i j) b)) (Jw Za) (by rw[Qd];omega) rfl λj _=>Zq (Zb Za (Zb Za Zm)) (Zi6 hb bb)
structure Rw(n:Nat)(R:Nat->Nat->Int):Prop where
 sy:∀i j,i<n->j<n->R i j=R j i/\R i i=0
 bt:∀i j,i<n->j<n->Bt 300 (R i j)
def ctD(p:List Int×Rat):Xa:=.tuple [Zg p.1,frD p.2]
def Zrv(L:List (List Int×Rat)):Xa:=.list (L.map ctD)
theorem Z0h(p:List Int×Rat):kdT (ctD p)=YB (p.1,[p.2.num,(p.2.den:Int)]):=by
 show((Zc5 (p.1.map Xl)).bind λns=>(Zc5 [.int p.2.num,.int (p.2.den:Int)]).bind λms=>YB (ns,ms))=_;rw[Ju];rfl
theorem Ziv:∀{a b c:List Int},ltI a b=YD->ltI b c=YD->ltI a c=YD:=by
 intro a
 induction a with
 | nil=>
  intro b c h1 h2;cases b with
  | nil=>cases h1
  | cons y b=>cases c with
   | nil=>cases h2
   | cons z c=>rfl
 | cons x a ih=>
  intro b c h1 h2;cases b with
  | nil=>cases h1
  | cons y b=>cases c with
   | nil=>cases h2
   | cons z c=>
    unfold ltI at h1 h2|-
    by_cases e1:x=y
    .subst e1
     rw[YL rfl]at h1
     by_cases e2:x=z
     .rw[YL e2]at h2|-;exact ih h1 h2
     .rw[YM e2]at h2|-;exact h2
    .rw[YM e1]at h1
     have l1:=YW h1
     by_cases e2:y=z
     .subst e2
      rw[YM e1];exact h1
     .rw[YM e2]at h2
      have l2:=YW h2;rw[YM (by omega)];exact YQ (by omega)
theorem Zi7:∀a:List Int,ltI a a=YF:=by
 intro a
 induction a with
 | nil=>rfl
 | cons x a ih=>unfold ltI;rw[YL rfl];exact ih
theorem Zr9:∀{a b:List Int},a≠b->ltI a b=YF->ltI b a=YD:=by
 intro a
 induction a with
 | nil=>
  intro b ne h;cases b with
  | nil=>exact YX rfl ne
  | cons y b=>cases h
 | cons x a ih=>
  intro b ne h;cases b with
  | nil=>rfl
  | cons y b=>
   unfold ltI at h|-
   by_cases e:x=y
   .subst e
    rw[YL rfl]at h|-
    exact ih (λz=>ne (z▸rfl)) h
   .rw[YM e]at h
    rw[YM (Vn e)];have:=of_decide_eq_false h;exact YQ (by omega)
def sCt(L:List (List Int×Rat)):List (List Int×Rat):=sLay ([],0) (lk kdT ltT (L.map ctD)) L
def Dst(L:List (List Int×Rat)):Prop:=∀k l,k<l->l<L.length->(L.getD k ([],0)).1≠(L.getD l ([],0)).1
theorem Z1i{L:List (List Int×Rat)}(h:Dst L)(hi:i<L.length)(hj:j<L.length):lk kdT ltT (L.map ctD) i j=ltI (L.getD i ([],0)).1 (L.getD j ([],0)).1:=by
 have e:∀k,k<L.length->kdT ((L.map ctD).getD k .none)=YB ((L.getD k ([],0)).1,[(L.getD k ([],0)).2.num,((L.getD k ([],0)).2.den:Int)]):=λk hk=>by
  rw[Xb,Xm,Xi hk,Xb,Xi hk];exact Z0h _
 unfold lk;rw[e i hi,e j hj];show ltT _ _=_;unfold ltT
 by_cases c:i=j
 .subst c
  rw[YL rfl,YL rfl,Zi7]
 .rw[YM]
  rcases Nat.lt_or_gt_of_ne c with z|z
  .exact h i j z hj
  .exact λq=>h j i z hi q.symm
theorem Yao{L:List (List Int×Rat)}(h:Dst L):(sCt L).Pairwise λa b=>ltI a.1 b.1=YD:=by
 refine Ztx (β:=Nat) (d:=([],0)) (vs:=L) ⟨λi j k hi hj hk h1 h2=>?_,λi j hi hj c q=>?_,λi j hi hj q=>?_⟩ λi j hi hj q=>?_
 .rw[Z1i h hi hj]at h1
  rw[Z1i h hj hk]at h2;rw[Z1i h hi hk];exact Ziv h1 h2
 .rw[Z1i h hi hj]at q
  rw[Z1i h hj hi];refine Zr9 ?_ q;rcases Nat.lt_or_gt_of_ne c with z|z
  .exact h i j z hj
  .exact λq=>h j i z hi q.symm
 .rw[Z1i h hi hj]at q
  rw[Z1i h hj hi];refine Vt.mpr λz=>?_;have:=Ziv q z;rw[Zi7]at this;cases this
 .rw[Z1i h hi hj]at q
  exact q
theorem Zuf(d d':α)(lt:Nat->Nat->Bool)(vs:List α):sLay d lt vs=sLay d' lt vs:=by
 unfold sLay;split
 .rfl
 .refine Xr λi hi=>?_
  have:=XF.mp ((Zee (by omega)).mem_iff.mp hi);rw[Xb,Xb,Xi this];rfl
theorem Z6l{e:FE}{L:List (List Int×Rat)}(he:EvV e δ (Zrv L))(h:L.length<64):EvV (fBl (Zg0 kdT ltT) (Zc e Zo)) δ (Zrv (sCt L)):=by
 refine Zqv (Zb he Zm) (o:=.nd (((sCt L).map ctD).map OT.fz)) ?_ (by rw[OT.data_nd,OT.map_fz];rfl);unfold sCt;rw[<-Zpf,Zuf (ctD ([],0)) PyData.none];refine YL ?_;rw[Xp,decide_eq_true_eq,Xe,Vi];refine⟨h,λd m=>?_⟩;obtain⟨p,_,rfl⟩:=XM.mp m;rw[Z0h];rfl
structure CtB(b:Int)(c:List Int×Rat):Prop where
 n:Bt 303 c.2.num
 d:Bt 302 (c.2.den:Int)
 q:Bt 302 ((2*b).fdiv (c.2.den:Int))
structure CtG(n:Nat)(b:Int)(c:List Int×Rat):Prop where
 srt:Yz (dnc c.1)=c.1
 len:c.1.length<64
 ne:c.1≠[]
 lo:1<=c.1.getD 0 0
 hi:c.1.getD (c.1.length-1) 0<n
 pos:0<c.2.num
 dv:(2*b).fmod (c.2.den:Int)=0
theorem Z6g{d:Xa}{n:Nat}(h:Sh n d)(hn:n<=64)(hp:Y4 d=YD):gEq d d=YB (.bool YD)/\gNe d d=YB (.bool YF):=by
 have s:=(h.shp hn).ok;unfold gEq gNe;rw[YL (by rw[s];rfl),YL (by rw[s];rfl),Zpj hp];exact⟨rfl,rfl⟩
theorem Z8n{w:Str}(h:PyData.strOk w=YD):Sh 0 (.str w):=⟨by rw[BJ];exact h,Nat.le_of_eq rfl⟩
theorem Zse(w:Str):Y4 (.str w)=YD:=by rw[Y4]
theorem Zx3{w:Str}(h:PyData.strOk w=YD):gNe (.str w) (.str w)=YB (.bool YF)/\gEq (.str w) (.str w)=YB (.bool YD):=by
 have:=Z6g (Z8n h) (by decide) (Zse w);exact⟨this.2,this.1⟩
def twS(n:Nat)(S:Nat->Nat->Int)(p:List Int)(a b:Nat):Int:=tw S (pn p a) (pn p (a+1)) (pn p b) (pn p ((b+1)%n))
def Ent(n:Nat)(p:List Int):Prop:=∀x∈p,0<=x/\x<(n:Int)
theorem Ent.at{n:Nat}{p:List Int}(h:Ent n p){i:Nat}(hi:i<p.length):gIx (Zg p) (.int (i:Int))=YB (.fz (.int (pn p i:Nat)))/\pn p i<n:=by
 obtain⟨a,b⟩:=h _ (getD_mem hi);rw[Zos (by omega) (by omega),QV];unfold pn;rw[JX a];exact⟨rfl,by omega⟩
def fits(n:Nat)(S:Nat->Nat->Int)(p:List Int)(b:Nat):Bool:=((Xw b).find? λa=>decide (twS n S p a b<0)).isNone
structure Beg(n:Nat)(S:Nat->Nat->Int)(p:List Int):Prop where
 ent:Ent n p
 nd:p.Nodup
 z:∃t,p=0::t
 ok:∀b,b+1<p.length->fits n S p b=YD
theorem Z6d{t:FT}{a b:FE}{d:Xa}(h:EvT t δ YD)(k:EvV a δ d):EvV (fIf t a b) δ d:=by
 obtain⟨o,e,d1⟩:=k;exact⟨o,by rw[Z0z,h,Xh];exact e,d1⟩
theorem Z4b{t:FT}{a b:FE}{d:Xa}(h:EvT t δ YF)(k:EvV b δ d):EvV (fIf t a b) δ d:=by
 obtain⟨o,e,d1⟩:=k;exact⟨o,by rw[Z0z,h,Xh];exact e,d1⟩
def cnd(n:Nat)(S:Nat->Nat->Int)(p:List Int)(x:Int):Bool:=!decide (x∈p)&&fits n S (p++[x]) (p.length-1)
theorem Zhf(k:Nat)(i:Int):Told (Zt (k+1)) [.int i,.int i] (.bool YD) :=
 show Told (Jt 2 4 (Wc (Zt k))) [.int i,.int i] (.bool YD)from Z1 rfl<|Zb2<|Zfg (Yc4 (Zet Za) rfl)<|Yg (Zgd (Zo7 Za rfl) (Zgd (Ybe (Zet Za) rfl) (Zup Za Za (YQ rfl))))
theorem Zui(k:Nat){w:Str}(h:PyData.strOk w=YD):Told (Zt (k+1)) [.str w,.str w] (.bool YD) :=
 show Told (Jt 2 4 (Wc (Zt k))) [.str w,.str w] (.bool YD)from Z1 rfl<|Z2 (Yn (Yc4 (Zet Za) rfl) rfl)<|Zb2<|Zfg (Yc4 (Zet Za) rfl)<|Yg (Zgd (Zo7 Za rfl) (Zy Za Za (Zx3 h).2))
theorem Zcs{k:Nat}{x:Xa}(hx:x= .list ds\/x= .tuple ds)(h:∀d∈ds,Told (Zt k) [d,d] (.bool YD)):Told (Zt (k+1)) [x,x] (.bool YD):=by
 have key:Zo9 "int" x=YF->Zo9 "str" x=YF->Zgq x=YF->Zac [x]=YB (.int ds.length)->Z7p [x,x]=YB (Zks ds ds)->Told (Zt (k+1)) [x,x] (.bool YD):=λh1 h2 hf hl hz=>
  show Told (Jt 2 4 (Wc (Zt k))) [x,x] (.bool YD)from Z1 rfl<|Z2 (Yn (Zj7 (Zo7 Za h1 hf)) rfl)<|Z2 (Yn (Zj7 (Zo7 Za h2 hf)) rfl)<|
   Z2 (Yn (Ygj (Zdm (Zy (Zet Za hf) (Zet Za hf) ((Ztb _ _).trans (by rw[bne_self_eq_false])))) (Zdm (Zy (Zet Za hf) (Zet Za hf) ((Ztb _ _).trans (by rw[bne_self_eq_false]))))) rfl)<|
   Z2 (Yn (Zdm (Z6v (Zay (Zb Za Zm) hl) (Zay (Zb Za Zm) hl) (by rw[YQ rfl];rfl))) rfl)<|
   Zi2 (ds:=Zks ds ds) (λi δ=>∃z1 z2,δ=[YB (.fz x),YB (.fz x),z1,z2]) (Zsk (Zb Za (Zb Za Zm)) hz) ⟨YC,YC,rfl⟩ (λi d δ hd q=>by
    obtain⟨z1,z2,rfl⟩:=q;obtain⟨a,b,ha,hb,rfl⟩:=Zpp hd;rw[ha]at hb;cases hb;exact⟨_,_,rfl,.inl (Yn (Zwp (p:=YD) (Zj7 (Zq (Zb Za (Zb Za Zm)) (h a (Qy ha))))) rfl),_,_,rfl⟩) λδ' _=>Yg Yb
 rcases hx with rfl|rfl
 .exact key rfl rfl rfl (Zlu ds) rfl
 .exact key rfl rfl rfl (Z16 ds) rfl
theorem Zx1(k:Nat)(q:Rat):Told (Zt (k+2)) [frD q,frD q] (.bool YD):=Zcs (ds:=[.int q.num,.int (q.den:Int)]) (.inr rfl) λd m=>by
 rcases Xo.mp m with rfl|m
 .exact Zhf k _
 .rw[Xj.mp m];exact Zhf k _
theorem Zx5{t:FT}(xs:List α)(x1 x2:α->Xa)(p:α->Bool)(f:α->Xa)(hi:EvI it δ (xs.map λx=>.tuple [x1 x,x2 x]))(hz:xs.length<=1000000)(hb:blk 2 caps δ=YC::YC::cs)
  (hg:∀x∈xs,∀z0 z1,g (.tuple [x1 x,x2 x]) (z0::z1::cs)=YB (YB (.fz (x1 x))::YB (.fz (x2 x))::cs)) (ht:∀x∈xs,EvT t (YB (.fz (x1 x))::YB (.fz (x2 x))::cs) (p x)) (hm:∀x∈xs,p x=YD->EvV me (YB (.fz (x1 x))::YB (.fz (x2 x))::cs) (f x)) :
  EvV (Yu 2 caps it g t me) δ (.list ((xs.filter p).map f)):=by
 have ch:∀x,∃o:OT,x∈xs->p x=YD->me (YB (.fz (x1 x))::YB (.fz (x2 x))::cs)=YB (o,YB (.fz (x1 x))::YB (.fz (x2 x))::cs)/\o.data=f x:=λx=>by
  by_cases c:x∈xs/\p x=YD
  .obtain⟨o,h⟩:=hm x c.1 c.2
   exact⟨o,λ_ _=>h⟩
  .exact⟨.fz .none,λa b=>YX ⟨a,b⟩ c⟩
 obtain⟨F,hF⟩:=Classical.axiomOfChoice ch;refine⟨_,Z9e xs x1 x2 p F hi hz hb hg ht λx m q=>(hF x m q).1,?_⟩;rw[OT.data_nd,XQ];exact YT QJ (Xr λx m=>(hF x (Qs.mp m).1 (Qs.mp m).2).2)
def cz(Z:List (List Int×Int))(x y:Nat):Int:=(Z.map λq=>if sep q.1 x y=YD then q.2 else 0).sum
theorem Zkj(Z:List (List Int×Int))(q:List Int×Int)(x y:Nat):cz (Z++[q]) x y=cz Z x y+(if sep q.1 x y=YD then q.2 else 0):=by
 unfold cz;rw[Qg,List.sum_append];show _+(_+0)=_;rw[Int.add_zero]
theorem Znb{n:Nat}{f g:Nat->Nat->Int}(h:∀i j,i<n->j<n->f i j=g i j):Jo n f=Jo n g:=by
 unfold Jo Zya;refine YT QJ (Xr λi hi=>YT QJ (Xr λj hj=>?_));rw[h i j (XF.mp hi) (XF.mp hj)]
theorem Zto{n:Nat}(n10:n<=10){Ls:List (List Int)}{vs:List Int}(hl:Ls.length<=60)(hv:∀v∈vs,0<=v/\v<1000*B20):Told Zaq [.int n,.list (Ls.map Zg),Zg vs] (Jo n (cz (Ls.zip vs)))/\Rw n (cz (Ls.zip vs)):=by
 obtain⟨D0,f0⟩:=Zw4 (n:=n);have s1:wE (Yu 1 [0] (iRa (Zc (Ze 0) Zo)) (gNm 0) Zil (Z7k (fC (.int 0)) (Ze 1))) (Zas 3) (Zf0 8 [.int n,.list (Ls.map Zg),Zg vs])= .nx [YB (.fz (.int n)),YB (.fz (.list (Ls.map Zg))),YB (.fz (Zg vs)),YB (.nd (((Xw n).map λ_=>X7 n 0).map Zv7)),YC,YC,YC,YC]:=by
  refine(Ze2 (Zor (cs:=[YB (.fz (.int n))]) (Xw n) (λi:Nat=>Xl (0+(i:Int))) (λ_=>Zv7 (X7 n 0)) (Zkf (Zb (Za rfl) Zm) (by omega)) (by rw[Qd,Qh];omega) rfl λx _=>?_)).trans (by rw[XQ];rfl);unfold Zv7;rw[List.map_replicate];exact Z81 (by omega)
 obtain⟨δ',e,L,z4,z5,z6,z7,rfl,D,ex,bd⟩:=Zdy (S:=J5 (iRa (Zc (Ze 0) Zo)) (gNm 6) (J5 (iRa (Zc (Ze 0) Zo)) (gNm 7) Zp9)) (g:=gTp 2 (gCn (gNm 4) (gCn (gNm 5) gNl))) (it:=Zkp (Zc (Ze 1) (Zc (Ze 2) Zo))) (δ:=[YB (.fz (.int n)),YB (.fz (.list (Ls.map Zg))),YB (.fz (Zg vs)),YB (.nd (((Xw n).map λ_=>X7 n 0).map Zv7)),YC,YC,YC,YC]) (ds:=Zks (Ls.map Zg) (vs.map Xl)) (λk δ=>∃(L:List (List Int)) (z4 z5 z6 z7:Option OT),δ=[YB (.fz (.int n)),YB (.fz (.list (Ls.map Zg))),YB (.fz (Zg vs)),YB (.nd (L.map Zv7)),z4,z5,z6,z7]/\Dr n B25 L/\(∀x y,x<n->y<n->fnL L x y=cz ((Ls.zip vs).take k) x y)/\∀x y,x<n->y<n->0<=fnL L x y/\fnL L x y<=k*(1000*B20)) (Zvb (Za rfl) (Za (d:=Zg vs) rfl) rfl) ⟨_,_,_,_,_,rfl,D0,λi j hi hj=>f0 i j hi hj,λx y hx hy=>by rw[f0 x y hx hy];exact⟨Be _,Int.le_of_eq (by rw[Int.natCast_zero,Int.zero_mul])⟩⟩ λk d δ hd q=>by
  obtain⟨L,z4,z5,z6,z7,rfl,D,ex,bd⟩:=q;rw[Zjj,Xm]at hd;obtain⟨⟨s,w⟩,hq,rfl⟩:=JQ.mp hd;have ml:=List.of_mem_zip (Qy hq);have k60:k<60:=by
   have:=(Xu.mp hq).1;rw[Uk]at this;omega
  obtain⟨w0,w1⟩:=hv w ml.2;have kB:(k:Int)*(1000*B20)<=60*(1000*B20):=Int.mul_le_mul_of_nonneg_right (by omega) (by decide);obtain⟨L',y6,y7,e,D',f⟩:=Zx0 (A:=.list (Ls.map Zg)) (B:=Zg vs) (s:=s) (z6:=z6) (z7:=z7) n10 D (λx y hx hy=>(bd x y hx hy).1) w0 λx y hx hy=>by
   have:=(bd x y hx hy).2;have:B25=100000*B20:=by decide
   have:0<B20:=by decide
   omega
  refine⟨_,_,rfl,.inl e,L',_,_,y6,y7,rfl,D',λi j hi hj=>?_,λx y hx hy=>?_⟩
  .rw[f i j hi hj,ex i j hi hj,List.take_add_one,hq]
   exact(Zkj _ (s,w) i j).symm
  .have:=bd x y hx hy
   rw[f x y hx hy,Int.natCast_succ,Int.add_mul,Int.one_mul];split<;>omega
 have tk:(Ls.zip vs).take (Zks (Ls.map Zg) (vs.map Xl)).length=Ls.zip vs:=by rw[Zjj,Xe,Ua]
 rw[tk]at ex;obtain⟨e1,e2⟩:=Z3j D;refine⟨⟨_,Z2n rfl (Y0 s1 (Y0 e (Z5t (i:=3) rfl))),?_⟩,λi j hi hj=>⟨?_,?_⟩,λi j hi hj=>?_⟩
 .rw[OT.data_nd,e1]
  exact Znb ex
 .unfold cz
  exact YT List.sum (Xr λq _=>by rw[Zp1])
 .unfold cz
  rw[show(Ls.zip vs).map (λq=>if sep q.1 i i=YD then q.2 else 0)=(Ls.zip vs).map (λ_=>0)from Xr λq _=>by rw[Zy7,YM Xn]];generalize Ls.zip vs=Z
  induction Z with
  | nil=>rfl
  | cons q Z ih=>rw[XC,JZ,ih];rfl
 .rw[<-ex i j hi hj]
  have:=e2 i j hi hj;refine Bt.of_lt ?_ ?_
  .have:(0:Int)<2^300:=by decide +kernel
   omega
  .have:B25<2^300:=by decide +kernel
   omega
def wL(Z:List (List Int×Int))(b:Int):List (List Int×Rat):=(Z.filter λq=>decide (0<q.2)).map λq=>(q.1,XR q.2 b)
theorem Zr7(c:Int):∃b,Told Wq [.int c] (.int b)/\0<b/\Bt 300 b:=by
 obtain⟨d,e,h⟩:=ix4 (x:=.int 1) (y:=.int 2) (z:=.int 6) (w:=.int (1000000000000000+37)) (v:=(c.fdiv 3).fmod 4) (Zdu (by decide)) (Zds (by decide));have key:∀b:Int,d= .int b->0<b->Bt 300 b->∃b,Told Wq [.int c] (.int b)/\0<b/\Bt 300 b:=λb hd h1 h2=>⟨b,Z1 rfl (Yg (hd▸Zaa (Zei (Zb Yb (Zb Yb (Zb Yb (Zb (Ws (Zy Yb Yb Ykx) Yb) Zm)))) (show 4<=1000 by decide)) (Ji (Zc7 Za Yb) Yb (by decide)) e)),h1,h2⟩;rcases h with h|h|h|h
 .exact key _ h (by decide) (btc (by decide +kernel) (by decide +kernel))
 .exact key _ h (by decide) (btc (by decide +kernel) (by decide +kernel))
 .exact key _ h (by decide) (btc (by decide +kernel) (by decide +kernel))
 .exact key _ h (by decide) (btc (by decide +kernel) (by decide +kernel))
theorem Zqm(ns:List Int)(st:Nat)(m:Nat)(c:Int)(hm:m<=1000):∃vs:List Int,Told W0 [Zg ns,.int st,.int m,.int c] (Zg vs)/\vs.length=m/\∀v∈vs,0<=v/\v<B20:=Ygu ns st m c (cnt:=Ze 2) hm λh=>Za h
def lO(L:List (List Int)):OT:=.nd ((L.map Zg).map OT.fz)
theorem Zkb(L:List (List Int)):(lO L).data= .list (L.map Zg):=by unfold lO;rw[OT.data_nd,OT.map_fz]
theorem Zvz(L:List (List Int))(x:List Int):lO (L++[x])= .nd ((L.map Zg).map OT.fz++[OT.fz (Zg x)]):=by
 unfold lO;rw[Qg,Qg];rfl
theorem Zoz(L:List (List Int)):OT.datas ((L.map Zg).map OT.fz)=L.map Zg:=by
 have:=Zkb L;unfold lO at this;rw[OT.data_nd]at this;rw[OT.datas_map];exact PyData.list.inj this
theorem Yge(L:List (List Int)):Zld ((L.map Zg).map OT.fz)=YD:=by
 induction L with
 | nil=>rfl
 | cons x L ih=>exact ih
theorem Zsq{δ:Zi}{i:Nat}{L:List (List Int)}(h:δ[i]? =YB (YB (lO L))):Z96 δ[i]? =YB ((L.map Zg).map OT.fz):=by
 rw[h];show(if Zld ((L.map Zg).map OT.fz)=YD then YB ((L.map Zg).map OT.fz)else YC)=_;rw[YL (Yge L)]
theorem Zz7{δ:Zi}{i:Nat}{L:List (List Int)}(h:δ[i]? =YB (YB (lO L))):Zot i δ=YB (lO L,δ):=by
 unfold Zot;rw[Zsq h,Xh,Zoz];rfl
theorem Yjf{a:FE}{l:List (List Int)}(hi:δ[i]? =YB (YB (lO l)))(ha:EvV a δ (.int j))(hj:j<l.length)(hl:l.length<=1000) :
  Zy8 i a δ=YB (.fz (Zg (l.getD j [])),δ.set i (YB (lO (l.eraseIdx j)))):=by
 obtain⟨t,e0,d0⟩:=ha;rw[Zov d0]at e0;have e1:((l.map Zg).map OT.fz)[j]? =YB (.fz (Zg (l.getD j []))):=by
  rw[Xm,Xm,Xb,Xi hj];rfl
 unfold lO at hi|-
 unfold Zy8;rw[hi];dsimp only;rw[e0,Xh];dsimp only;rw[hi];dsimp only;rw[OT.data_fz];dsimp only;rw[Zma (by rw[Xe,Xe];exact hj)];dsimp only;rw[e1];dsimp only;rw[YL (by rw[Xe,Xe,Qh];omega),Zhl,Zhl]
theorem popS{e:FE}(h:e δ=YB (o,δ')):wE e (Y9 i) δ= .nx (δ'.set i (YB (.fz o.data))):=by
 rw[Zc4,h,Wa,Zvr]
theorem Zzm{δ:Zi}{i:Nat}{L:List (List Int)}{x:List Int}(h:δ[i]? =YB (YB (lO (L++[x])))):EvV (Ycv i (fUn Zw2 (fC (.int 1)))) δ (Zg x):=by
 obtain⟨t,e,d⟩:=Zs7 (Yb (δ:=δ) (d:=.int 1));refine⟨.fz (Zg x),?_,OT.data_fz _⟩;unfold Ycv;rw[Zsq h,Xh,e,Xh];dsimp only;rw[d,Zoz,Qg];dsimp only;rw[show atI (L.map Zg++[x].map Zg) (-1)=YB (Zg x)from Zx7 _ _];rfl
def sL(l:List (List Int)):Nat:=(l.map List.length).sum
theorem Zj3:∀(l:List (List Int)) (j:Nat),j<l.length->sL (l.eraseIdx j)+(l.getD j []).length=sL l
 | [],_,h=>by simp at h
 | a::l,0,_=>by unfold sL;rw[XC,JZ];exact Nat.add_comm _ _
 | a::l,j+1,h=>by
  have:=Zj3 l j (by simpa using h);unfold sL at this|-
  rw[XC,JZ,<-this];show(a.length+_)+_=_;exact Nat.add_assoc _ _ _
theorem Z5h{S:FS}{Q:Xa->Prop}(I:Nat->Zi->Prop)(hi:EvI it δ ds)(h0:I 0 δ)(turn:∀(i:Nat) (d:Xa) (δ:Zi),ds[i]? =YB d->I i δ->(∃δ1 δ2,g d δ=YB δ1/\S δ1= .nx δ2/\I (i+1) δ2)\/∃δ1,g d δ=YB δ1/\Zpz S δ1 Q)(fin:∀δ',I ds.length δ'->Zpz S' δ' Q):Zpz (Z5 (J5 it g S) S') δ Q:=by
 have key:(∃δ',forLoop g S ds δ= .nx δ'/\I ds.length δ')\/∃o δ',forLoop g S ds δ= .rt o δ'/\Q o.data:=by
  clear fin hi
  induction ds generalizing δ I with
  | nil=>exact .inl ⟨δ,rfl,h0⟩
  | cons d ds ih=>
   rcases turn 0 d δ rfl h0 with⟨δ1,δ2,e1,e2,h1⟩|⟨δ1,e1,d',⟨o,δ2,e2,hd⟩,hq⟩
   .rcases ih (δ:=δ2) (λi δ=>I (i+1) δ) h1 λi d' δ hd hi=>turn (i+1) d' δ (by simpa using hd) hi with⟨δ',e3,h3⟩|⟨o,δ',e3,h3⟩
    .refine .inl ⟨δ',?_,h3⟩
     rw[Jz,e1];dsimp only;rw[e2];exact e3
    .refine .inr ⟨o,δ',?_,h3⟩
     rw[Jz,e1];dsimp only;rw[e2];exact e3
   .refine .inr ⟨o,δ2,?_,by rw[hd];exact hq⟩
    rw[Jz,e1];dsimp only;rw[e2]
 rcases key with⟨δ',e,h⟩|⟨o,δ',e,h⟩
 .exact Jh (Zfx hi e) (fin δ' h)
 .exact Zxp ⟨_,⟨o,δ',Zfx hi e,rfl⟩,h⟩
def rl(S:Nat->Nat->Int)(i j k l:Nat):Int:=min (S i k+S j l) (S i l+S j k)-(S i j+S k l)
theorem Zeb{n k l:Nat}{S:Nat->Nat->Int}(hi:i<n)(hj:j<n)(hk:k<n)(hl:l<n):Told Z3 [Jo n S,.int i,.int j,.int k,.int l] (.tuple [.int (S i j+S k l),.int (S i k+S j l),.int (S i l+S j k)]) :=
 Z1 rfl<|Yg<|Zbd (Zb (Ws (Zi3 hi hj rfl rfl rfl) (Zi3 hk hl rfl rfl rfl)) (Zb (Ws (Zi3 hi hk rfl rfl rfl) (Zi3 hj hl rfl rfl rfl)) (Zb (Ws (Zi3 hi hl rfl rfl rfl) (Zi3 hj hk rfl rfl rfl)) Zm))) (show 3<=1000 by decide)
theorem Ybh(i j:Int):(if j<i then j else i)=min i j:=by
 by_cases c:j<i
 .rw[YL c,Ui (by omega)]
 .rw[YM c,Uq (by omega)]
theorem Z0v{a b:FE}{i j:Int}(ha:EvV a δ (.int i))(hb:EvV b δ (.int j)):EvV (J1 Z1o (Zc a (Zc b Zo))) δ (.int (min i j)):=Ybh i j▸Zay (Zb ha (Zb hb Zm)) (Ya8 i j)
theorem Zmb(x y z:Int):Told Yh [.tuple [.int x,.int y,.int z]] (.int (min y z-x)) :=
 Z1 rfl<|Yg<|Zof (Z0v (Zaa Za Yb rfl) (Zaa Za Yb rfl)) (Zaa Za Yb rfl)
def Zlf(p:List Int)(i:Nat):List (Int×Int):=(Xw i).flatMap λk=>(p.drop k).map λy=>(p.getD k 0,y)
def dbl(p:List Int):List (Int×Int):=Zlf p p.length
theorem Ziq(p:List Int)(i:Nat):Zlf p (i+1)=Zlf p i++(p.drop i).map λy=>(p.getD i 0,y):=by
 unfold Zlf;rw[List.range_succ,List.flatMap_append,List.flatMap_cons,List.flatMap_nil,JP]
theorem Zvk(p:List Int)(i:Nat):(Zlf p i).length<=i*p.length:=by
 induction i with
 | zero=>exact QS _
 | succ i ih=>
  rw[Ziq,XH,Xe,JG,Nat.succ_mul];omega
theorem Zgv{p:List Int}{x:Int×Int}:x∈dbl p↔∃k j,k<=j/\j<p.length/\x=(p.getD k 0,p.getD j 0):=by
 unfold dbl Zlf;rw[List.mem_flatMap];constructor
 .rintro⟨k,hk,h⟩
  obtain⟨y,hy,rfl⟩:=XM.mp h;obtain⟨j,hj,rfl⟩:=List.getElem_of_mem hy;rw[JG]at hj;refine⟨k,k+j,by omega,by omega,?_⟩;rw[List.getElem_drop,Xb (i:=k+j),Xi (by omega)];rfl
 .rintro⟨k,j,h1,h2,rfl⟩
  refine⟨k,XF.mpr (by omega),XM.mpr ⟨_,?_,rfl⟩⟩;have:p.getD j 0=(p.drop k).getD (j-k) 0:=by
   rw[Xb,Xb,List.getElem?_drop,show k+(j-k)=j by omega]
  rw[this];exact getD_mem (by rw[JG];omega)
theorem Ziu{p:List Int}{x:Int×Int}(h:x∈dbl p):x.1∈p/\x.2∈p:=by
 obtain⟨k,j,h1,h2,rfl⟩:=Zgv.mp h;exact⟨getD_mem (by omega),getD_mem h2⟩
theorem Zv6{p:List Int}{d:Xa}(h:(p.map Xl)[i]? =YB d):i<p.length/\d= .int (p.getD i 0):=by
 rw[Xm]at h;cases e:p[i]? with
 | none=>rw[e]at h;cases h
 | some x=>
  rw[e]at h;cases h;exact⟨(Xu.mp e).1,by rw[Xb,e];rfl⟩
theorem Zep(p:List Int)(hl:p.length<=100):Told Wr [Zg p] (.list ((dbl p).map prD)):=by
 refine Z1 rfl<|Z2 Zhi<|Zi2 (ds:=Zjp (p.map Xl)) (λi δ=>∃z1 z2 z3,δ=[YB (.fz (Zg p)),YB (.nd (((Zlf p i).map prD).map OT.fz)),z1,z2,z3]) (Z4t Za) ⟨_,_,_,rfl⟩ (λi d δ hd q=>?_) λδ' q=>?_
 .obtain⟨z1,z2,z3,rfl⟩:=q
  obtain⟨x,hx,rfl⟩:=Zmj hd;obtain⟨hi,rfl⟩:=Zv6 hx;have ln:=Zvk p i;have l2:i*p.length<=100*100:=Nat.mul_le_mul (by omega) hl;refine Zyv (ds:=(p.drop i).map Xl) (λj δ=>∃z,δ=[YB (.fz (Zg p)),YB (.nd (((Zlf p i++((p.drop i).take j).map λy=>(p.getD i 0,y)).map prD).map OT.fz)),YB (.fz (.int i)),YB (.fz (.int (p.getD i 0))),z]) rfl (Jw (Ye8 Za (Ykq Za) Ylr (Zwl (by omega)))) ⟨z3,by rw[List.take_zero,List.map_nil,JP];rfl⟩ (λj d δ hd q=>?_) λδ' q=>?_
  .obtain⟨z,rfl⟩:=q
   obtain⟨hj,rfl⟩:=Zv6 hd;refine⟨_,_,rfl,.inl (Zig (Zbd (Zb Za (Zb Za Zm)) (show 2<=1000 by decide)) rfl (by rw[Xe,Xe,XH,Xe,Vy,JG];omega)),YB (.fz (.int ((p.drop i).getD j 0))),?_⟩;have e:(p.drop i).take (j+1)=(p.drop i).take j++[(p.drop i).getD j 0]:=by
    rw[List.take_succ,Xb,Xi hj];rfl
   rw[e];simp only[Qg,BW];rfl
  .obtain⟨z,rfl⟩:=q
   rw[Xe,Ua,<-Ziq];exact⟨_,_,_,rfl⟩
 .obtain⟨z1,z2,z3,rfl⟩:=q
  refine Ydh rfl ?_;rw[OT.data_nd,OT.map_fz];unfold Zjp;rw[Xe,List.length_zipIdx,Xe];rfl
def away(n:Nat)(p:List Int):List Int:=((Xw n).filter λi:Nat=>!decide ((i:Int)∈p)).map λi:Nat=>(i:Int)
theorem Zbt{n:Nat}{p:List Int}{x:Int}:x∈away n p↔0<=x/\x<n/\x∉p:=by
 unfold away;rw[XM];constructor
 .rintro⟨i,hi,rfl⟩
  obtain⟨h1,h2⟩:=Qs.mp hi;have:=XF.mp h1;exact⟨by omega,by omega,by simpa using h2⟩
 .rintro⟨h1,h2,h3⟩
  refine⟨x.toNat,Qs.mpr ⟨XF.mpr (by omega),?_⟩,by omega⟩;rw[show((x.toNat:Nat):Int)=x by omega,YS h3];rfl
theorem Zz3(n:Nat)(p:List Int):(away n p).length<=n:=by
 unfold away;rw[Xe];exact QB (List.length_filter_le _ _) (Nat.le_of_eq Qd)
theorem Z43{n:Nat}{p:List Int}(hi:EvI it δ (Zda 0 n))(hn:n<=1000)(hb:blk 1 caps δ=[YC,YB (.fz (Zg p))]):EvV (Yu 1 caps it (gNm 0) (tV (Zj (Zir YD) (Ze 0) (Ze 1))) (Ze 0)) δ (Zg (away n p)):=by
 refine(Zja (cs:=[YB (.fz (Zg p))]) (Xw n) (λi:Nat=>Xl (0+(i:Int))) (λi=>!decide ((i:Int)∈p)) hi (by rw[Qd];omega) hb (λx _=>Zdm (Zy Za Za ?_)) λx _ _=>rfl).cast ?_
 .rw[Zc2,Bq];rfl
 .unfold away Zg
  rw[XQ];refine YT QJ (Xr λi _=>?_);show Xl (0+(i:Int))=Xl i;rw[Bq]
def rlI(S:Nat->Nat->Int)(p q:Int×Int):Int:=rl S p.1.toNat p.2.toNat q.1.toNat q.2.toNat
def Lst(S:Nat->Nat->Int)(A B:List Int)(m:Int):Prop:=(∃p∈dbl A,∃q∈dbl B,m=rlI S p q)/\∀p∈dbl A,∀q∈dbl B,m<=rlI S p q
theorem Lst.exists(S:Nat->Nat->Int){A B:List Int}{p q:Int×Int}(hp:p∈dbl A)(hq:q∈dbl B):∃m,Lst S A B m:=by
 obtain⟨vs,hv⟩:∃vs,vs=(dbl A).flatMap λp=>(dbl B).map λq=>rlI S p q:=⟨_,rfl⟩;have mem:∀x,x∈vs↔∃p∈dbl A,∃q∈dbl B,x=rlI S p q:=λx=>by
  rw[hv,List.mem_flatMap];constructor
  .rintro⟨p,hp,h⟩
   obtain⟨q,hq,rfl⟩:=XM.mp h;exact⟨p,hp,q,hq,rfl⟩
  .rintro⟨p,hp,q,hq,rfl⟩
   exact⟨p,hp,XM.mpr ⟨q,hq,rfl⟩⟩
 have hm:=(mem _).mpr ⟨p,hp,q,hq,rfl⟩;obtain⟨h1,h2⟩:=Zv8 (ns:=vs) (List.length_pos_of_mem hm);exact⟨Yfr vs,(mem _).mp h1,λp hp q hq=>h2 _ ((mem _).mpr ⟨p,hp,q,hq,rfl⟩)⟩
theorem Zvy{n:Nat}{S:Nat->Nat->Int}{ea eb ec ee:FE}{a c e:Int}(h0:δ[0]? =YB (YB (.fz (Jo n S))))(h2:δ[2]? =YB (YB (.fz (fnD "tree_rule"))))(ha:EvV ea δ (.int a))(hb:EvV eb δ (.int b))(hc:EvV ec δ (.int c))(he:EvV ee δ (.int e))(ba:0<=a/\a<n)(bb:0<=b/\b<n)(bc:0<=c/\c<n)(be:0<=e/\e<n) :
  EvV (Zer 2 "tree_rule" Yh (Zc (Z4 Z3 (Zc (Ze 0) (Zc ea (Zc eb (Zc ec (Zc ee Zo)))))) Zo)) δ (.int (rlI S (a,b) (c,e))):=by
 have t:=Zeb (S:=S) (n:=n) (i:=a.toNat) (j:=b.toNat) (k:=c.toNat) (l:=e.toNat) (by omega) (by omega) (by omega) (by omega);rw[JX ba.1,JX bb.1,JX bc.1,JX be.1]at t;exact Zyu h2 (Zb (Zq (Zb (Za h0) (Zb ha (Zb hb (Zb hc (Zb he Zm))))) t) Zm) (Zmb _ _ _)
def Yay(n:Nat)(S:Nat->Nat->Int)(A B:List Int)(least:Int)(z6 z7 z8 z9:Option OT):Zi:=[YB (.fz (Jo n S)),YB (.fz (Zg A)),YB (.fz (fnD "tree_rule")),YB (.fz (Zg B)),YB (.fz (.list ((dbl B).map prD))),YB (.fz (.int least)),z6,z7,z8,z9]
theorem Zzr{n:Nat}{S:Nat->Nat->Int}{A:List Int}(hn:n<=100)(hl:A.length<=100)(hA:∀x∈A,1<=x/\x<n)(ne:A≠[]):∃m,Lst S A (away n A) m/\Told Z9 [Jo n S,Zg A,fnD "tree_rule"] (.int (max 0 m)):=by
 have hp:0<A.length:=List.length_pos_iff.mpr ne;have n0:0<n:=by have:=hA _ (getD_mem hp);omega
 obtain⟨B,hB⟩:∃B,B=away n A:=⟨_,rfl⟩;have b0:(0:Int)∈B:=by rw[hB];exact Zbt.mpr ⟨by decide,by omega,λz=>YX (hA 0 z).1 (by decide)⟩
 have inB:∀x∈B,0<=x/\x<n:=λx hx=>by rw[hB]at hx;obtain⟨h1,h2,_⟩:=Zbt.mp hx;exact⟨h1,h2⟩
 have inA:∀x∈A,0<=x/\x<n:=λx hx=>⟨Br (by decide) (hA x hx).1,(hA x hx).2⟩;have a00:(A.getD 0 0,A.getD 0 0)∈dbl A:=Zgv.mpr ⟨0,0,XJ _,hp,rfl⟩;have b00:((0:Int),(0:Int))∈dbl B:=by
  obtain⟨j,hj,e⟩:=List.getElem_of_mem b0;exact Zgv.mpr ⟨j,j,XJ _,hj,by rw[Xb,Xi hj,e];rfl⟩
 obtain⟨m,hm⟩:=Lst.exists S a00 b00;rw[<-hB];refine⟨m,hm,?_⟩;have lB:B.length<=100:=by rw[hB];exact QB (Zz3 n A) hn
 have inner:∀(p:Int×Int) (least:Int) (z8 z9:Option OT),p∈dbl A->(∃p∈dbl A,∃q∈dbl B,least=rlI S p q)->∃δ',J5 (Zfz (Ze 4)) (gTp 2 (gCn (gNm 8) (gCn (gNm 9) gNl)))
   (wE (J1 Z1o (Zc (Ze 5) (Zc (Zer 2 "tree_rule" Yh (Zc (Z4 Z3 (Zc (Ze 0) (Zc (Ze 6) (Zc (Ze 7) (Zc (Ze 8) (Zc (Ze 9) Zo)))))) Zo)) Zo))) (Y9 5))
   (Yay n S A B least (YB (.fz (.int p.1))) (YB (.fz (.int p.2))) z8 z9)= .nx δ'/\
   ∃least' z8 z9,δ'=(Yay n S A B least' (YB (.fz (.int p.1))) (YB (.fz (.int p.2))) z8 z9)/\(∃p∈dbl A,∃q∈dbl B,least'=rlI S p q)/\least'<=least/\∀q∈dbl B,least'<=rlI S p q:=λp least z8 z9 hp hin=>by
  obtain⟨p1,p2⟩:=Ziu hp;obtain⟨δ',e,least',z8,z9,rfl,h1,h2,h3⟩:=Zdy (S:=wE (J1 Z1o (Zc (Ze 5) (Zc (Zer 2 "tree_rule" Yh (Zc (Z4 Z3 (Zc (Ze 0) (Zc (Ze 6) (Zc (Ze 7) (Zc (Ze 8) (Zc (Ze 9) Zo)))))) Zo)) Zo))) (Y9 5)) (g:=gTp 2 (gCn (gNm 8) (gCn (gNm 9) gNl))) (it:=Zfz (Ze 4)) (ds:=(dbl B).map prD) (δ:=(Yay n S A B least (YB (.fz (.int p.1))) (YB (.fz (.int p.2))) z8 z9))
   (λi δ=>∃least' z8 z9,δ=(Yay n S A B least' (YB (.fz (.int p.1))) (YB (.fz (.int p.2))) z8 z9)/\(∃p∈dbl A,∃q∈dbl B,least'=rlI S p q)/\least'<=least/\∀j q,j<i->(dbl B)[j]? =YB q->least'<=rlI S p q) (Jw Za) ⟨least,z8,z9,rfl,hin,Be _,λj q hj=>YX hj (Vp j)⟩ λi d δ hd q=>by
   obtain⟨least',z8,z9,rfl,h1,h2,h3⟩:=q;rw[Xm]at hd;cases e:(dbl B)[i]? with
   | none=>rw[e]at hd;cases hd
   | some q=>
    rw[e]at hd;cases hd;have hq:=Qy e;obtain⟨q1,q2⟩:=Ziu hq;refine⟨_,_,rfl,.inl (Zw (Z0v Za (Zvy rfl rfl Za Za Za Za (inA _ p1) (inA _ p2) (inB _ q1) (inB _ q2)))),min least' (rlI S p q),YB (.fz (.int q.1)),YB (.fz (.int q.2)),rfl,?_,Br (Int.min_le_left ..) h2,λj q' hj hq'=>?_⟩
    .rcases Int.le_total least' (rlI S p q)with z|z
     .rw[Uq z];exact h1
     .rw[Ui z];exact⟨p,hp,q,hq,rfl⟩
    .by_cases cj:j=i
     .subst cj;rw[e]at hq';cases hq';exact Int.min_le_right ..
     .exact Br (Int.min_le_left ..) (h3 j q' (Nat.lt_of_le_of_ne (Nat.le_of_lt_succ hj) cj) hq')
  refine⟨_,e,least',z8,z9,rfl,h1,h2,λq hq=>?_⟩;obtain⟨j,hj⟩:=Vr hq;exact h3 j q (by rw[Xe];exact(Xu.mp hj).1) hj
 have key:∃d,Told Z9 [Jo n S,Zg A,fnD "tree_rule"] d/\d= .int (max 0 m):=by
  refine Zm1 rfl<|Jh (Zw (hB▸Z43 (Zkf (Zb (Zay (Zb Za Zm) (Zlw n S)) Zm) (QB hn (by decide))) (QB hn (by decide)) rfl))<|Jh (Zw (Zq (Zb Za Zm) (Zep B lB)))<|
   Jh (Zw (Zvy rfl rfl (Wb Za Yb (by decide) (by omega)) (Wb Za Yb (by decide) (by omega)) Yb Yb (inA _ (getD_mem hp)) (inA _ (getD_mem hp)) ⟨by decide,by omega⟩ ⟨by decide,by omega⟩))<|
   Z5h (ds:=(dbl A).map prD) (λi δ=>∃least z6 z7 z8 z9,δ=(Yay n S A B least z6 z7 z8 z9)/\(∃p∈dbl A,∃q∈dbl B,least=rlI S p q)/\(∀j p,j<i->(dbl A)[j]? =YB p->∀q∈dbl B,least<=rlI S p q)/\(0<i->0<least))
    (Jw (Zq (Zb Za Zm) (Zep A hl))) ⟨_,YC,YC,YC,YC,rfl,⟨_,a00,_,b00,rfl⟩,λj p hj=>YX hj (Vp j),λz=>YX z (Vw 0)⟩ (λi d δ hd q=>?_) λδ' q=>?_
  .obtain⟨least,z6,z7,z8,z9,rfl,h1,h2,h3⟩:=q
   rw[Xm]at hd;cases e:(dbl A)[i]? with
   | none=>rw[e]at hd;cases hd
   | some p=>
    rw[e]at hd;cases hd;have hp':=Qy e;obtain⟨δ',e1,least',z8,z9,rfl,g1,g2,g3⟩:=inner p least z8 z9 hp' h1
    by_cases c:least'<=0
    .refine .inr ⟨_,rfl,Jh e1 (Z2z (Zdm (Yba Za Yb (YQ c))) (Zox Yb ?_))⟩
     obtain⟨p',hp2,q',hq2,e2⟩:=g1;have:=hm.2 p' hp2 q' hq2;rw[<-e2]at this;rw[Int.max_eq_left (Br this c)]
    .refine .inl ⟨_,_,rfl,Y0 e1 (Yn (Zdm (Yba Za Yb (YS c))) rfl),least',_,_,_,_,rfl,g1,λj p' hj hp2 q hq=>?_,λ_=>Int.lt_of_not_ge c⟩
     by_cases cj:j=i
     .subst cj;rw[e]at hp2;cases hp2;exact g3 q hq
     .exact Br g2 (h2 j p' (Nat.lt_of_le_of_ne (Nat.le_of_lt_succ hj) cj) hp2 q hq)
  .obtain⟨least,z6,z7,z8,z9,rfl,h1,h2,h3⟩:=q
   rw[Xe]at h2 h3;refine Zox Za ?_;have l0:=h3 (List.length_pos_of_mem a00);have e:least=m:=by
    refine Int.le_antisymm ?_ ?_
    .obtain⟨⟨p,hp',q,hq,e⟩,_⟩:=hm
     rw[e];obtain⟨j,hj⟩:=Vr hp';exact h2 j p (Xu.mp hj).1 hj q hq
    .obtain⟨p,hp',q,hq,e⟩:=h1
     rw[e];exact hm.2 p hp' q hq
   rw[<-e,Int.max_eq_right (Int.le_of_lt l0)]
 obtain⟨d,h,rfl⟩:=key;exact h
theorem Z41{k x:Int}(hk:0<k):min (k*x) (k*y)=k*min x y:=by
 rcases Int.le_total x y with h|h
 .rw[Uq h,Uq (Int.mul_le_mul_of_nonneg_left h (by omega))]
 .rw[Ui h,Ui (Int.mul_le_mul_of_nonneg_left h (by omega))]
theorem Zx2{k x:Int}(hk:0<k):max 0 (k*x)=k*max 0 x:=by
 rcases Int.le_total 0 x with h|h
 .rw[Int.max_eq_right h,Int.max_eq_right (Int.mul_nonneg (by omega) h)]
 .rw[Int.max_eq_left h,Int.max_eq_left (Us (by omega) h),Int.mul_zero]
theorem Zsl{S R:Nat->Nat->Int}{k:Int}(hk:0<k){n l m:Nat}(h:∀i j,i<n->j<n->k*S i j=R i j)(hi:i<n)(hj:j<n)(hl:l<n)(hm:m<n):rl R i j l m=k*rl S i j l m:=by
 unfold rl;rw[<-h i l hi hl,<-h j m hj hm,<-h i m hi hm,<-h j l hj hl,<-h i j hi hj,<-h l m hl hm,<-Int.mul_add,<-Int.mul_add,<-Int.mul_add,Z41 hk,<-Int.mul_sub]
theorem Lst.scaled{S R:Nat->Nat->Int}{k:Int}(hk:0<k){n:Nat}{A B:List Int}(h:∀i j,i<n->j<n->k*S i j=R i j)(hA:∀x∈A,0<=x/\x<n)(hB:∀x∈B,0<=x/\x<n){m:Int}(hm:Lst S A B m):Lst R A B (k*m):=by
 have e:∀p∈dbl A,∀q∈dbl B,rlI R p q=k*rlI S p q:=λp hp q hq=>by
  obtain⟨p1,p2⟩:=Ziu hp;obtain⟨q1,q2⟩:=Ziu hq;have:=hA _ p1;have:=hA _ p2;have:=hB _ q1;have:=hB _ q2;exact Zsl hk h (by omega) (by omega) (by omega) (by omega)
 obtain⟨⟨p,hp,q,hq,e1⟩,h2⟩:=hm;exact⟨⟨p,hp,q,hq,by rw[e p hp q hq,e1]⟩,λp hp q hq=>by rw[e p hp q hq];exact Int.mul_le_mul_of_nonneg_left (h2 p hp q hq) (by omega)⟩
def tv(R:Nat->Nat->Int)(a b c e:Int):Int:=R a.toNat c.toNat+R b.toNat e.toNat-R a.toNat b.toNat-R c.toNat e.toNat
theorem Z01{p:List Int}{x:Int}(hx:x∈p)(hy:y∈p):(x,y)∈dbl p\/(y,x)∈dbl p:=by
 obtain⟨i,hi,rfl⟩:=List.getElem_of_mem hx;obtain⟨j,hj,rfl⟩:=List.getElem_of_mem hy;have g:∀k (h:k<p.length),p[k]=p.getD k 0:=λk h=>by rw[Xb,Xi h];rfl
 rw[g i hi,g j hj];rcases Nat.le_total i j with h|h
 .exact .inl (Zgv.mpr ⟨i,j,h,hj,rfl⟩)
 .exact .inr (Zgv.mpr ⟨j,i,h,hi,rfl⟩)
theorem Zv1{R:Nat->Nat->Int}(sym:∀i j,R i j=R j i)(a b c e:Int):rlI R (a,b) (c,e)<=tv R a b c e/\rlI R (a,b) (c,e)<=tv R b a c e/\(rlI R (a,b) (c,e)=tv R a b c e\/rlI R (a,b) (c,e)=tv R a b e c):=by
 unfold rlI rl tv;dsimp only;rw[<-Int.sub_sub,sym b.toNat a.toNat,sym e.toNat c.toNat,Int.add_comm (R b.toNat c.toNat)];refine⟨U9 (U9 (Int.min_le_left ..) _) _,U9 (U9 (Int.min_le_right ..) _) _,?_⟩;rcases Int.le_total (R a.toNat c.toNat+R b.toNat e.toNat) (R a.toNat e.toNat+R b.toNat c.toNat)with z|z
 .rw[Uq z];exact .inl rfl
 .rw[Ui z];exact .inr rfl
theorem Z13{R:Nat->Nat->Int}(sym:∀i j,R i j=R j i)(a b c e:Int):tv R b a e c=tv R a b c e:=by
 unfold tv;rw[sym b.toNat a.toNat,sym e.toNat c.toNat,Int.add_comm]
def Zdg(n:Nat)(f:Nat->Nat->Xa):Xa:=.list ((Xw n).map λi=>.list ((Xw n).map λj=>f i j))
def Zgs{α:Type}(I:Zi->Prop)(u:FS)(δ1:Zi)(r:Option Xa):Prop:=match r with
 | none=>∃δ2,u δ1= .nx δ2/\I δ2
 | some v=>∃o δ2,u δ1= .rt o δ2/\o.data=v
theorem Zy0{I:Zi->Prop}{u:FS}(mk:α->Xa)(f:α->Option Xa):∀(xs:List α) (δ:Zi),I δ->(∀x∈xs,∀δ,I δ->∃δ1,g (mk x) δ=YB δ1/\Zgs (α:=α) I u δ1 (f x))->Zgs (α:=α) I (forLoop g u (xs.map mk)) δ (xs.findSome? f):=by
 intro xs
 induction xs with
 | nil=>exact λδ h _=>⟨δ,rfl,h⟩
 | cons x xs ih=>
  intro δ h t;obtain⟨δ1,e1,r⟩:=t x (.head _) δ h;rw[List.findSome?_cons];cases q:f x with
  | none=>
   rw[q]at r;obtain⟨δ2,e2,h2⟩:=r;have e:forLoop g u ((x::xs).map mk) δ=forLoop g u (xs.map mk) δ2:=by
    rw[XC,forLoop,e1];dsimp only;rw[e2]
   unfold Zgs;rw[e];exact ih δ2 h2 λy hy=>t y (.tail _ hy)
  | some v=>
   rw[q]at r;obtain⟨o,δ2,e2,d⟩:=r;refine⟨o,δ2,?_,d⟩;rw[XC,forLoop,e1];dsimp only;rw[e2]
theorem Zjo{I J:Zi->Prop}{u:FS}(mk:α->Xa)(f:α->Option Xa)(xs:List α)(hi:EvI it δ (xs.map mk))(h0:J δ)(hJ:∀δ,J δ->I δ)(t:∀x∈xs,∀δ,J δ->∃δ1,g (mk x) δ=YB δ1/\Zgs (α:=α) J u δ1 (f x)):Zgs (α:=β) I (J5 it g u) δ (xs.findSome? f):=by
 have h:=Zy0 (I:=J) (g:=g) (u:=u) mk f xs δ h0 t;cases q:xs.findSome? f with
 | none=>
  rw[q]at h;obtain⟨δ2,e,h2⟩:=h;exact⟨δ2,Zfx hi e,hJ δ2 h2⟩
 | some v=>
  rw[q]at h;obtain⟨o,δ2,e,d⟩:=h;exact⟨o,δ2,Zfx hi e,d⟩
theorem Zlt{I:Zi->Prop}{t:FT}{S:FS}{r:Option Xa}(h:EvT t δ YD)(k:Zgs (α:=α) I S δ r):Zgs (α:=α) I (Zbg t S S') δ r:=by
 cases r with
 | none=>
  obtain⟨δ2,e,h2⟩:=k;exact⟨δ2,Za8 h e,h2⟩
 | some v=>
  obtain⟨o,δ2,e,d⟩:=k;exact⟨o,δ2,Za8 h e,d⟩
theorem Zl0{I:Zi->Prop}{t:FT}{S:FS}(h:EvT t δ YF)(k:I δ):Zgs (α:=α) I (Zbg t S fNx) δ YC:=⟨δ,Yn h rfl,k⟩
theorem Zps{I:Zi->Prop}{e:FE}{v:Xa}(h:EvV e δ v):Zgs (α:=α) I (wE e Jm) δ (YB v):=by
 obtain⟨o,h1,h2⟩:=Z08 h;exact⟨o,δ,h1,h2⟩
theorem Zkw{I:Zi->Prop}{S:FS}{r:Option Xa}{v0:Xa}(h:Zgs (α:=α) I S δ r)(k:∀δ,I δ->Zjn S' δ v0):Zjn (Z5 S S') δ (r.getD v0):=by
 cases r with
 | none=>
  obtain⟨δ2,e,h2⟩:=h;exact Z2 e (k δ2 h2)
 | some v=>
  obtain⟨o,δ2,e,d⟩:=h;exact Zb2 ⟨o,δ2,e,d⟩
def frG(T:Nat->Nat->Rat):Nat->Nat->Xa:=λi j=>frD (T i j)
theorem Zxq{q r:Rat}(bq:Bt 400 q.num)(dq:Bt 400 (q.den:Int))(br:Bt 400 r.num)(dr:Bt 400 (r.den:Int)):Told Zdw [frD q,frD r] (frD (q+r)):=by
 rw[<-Zpw];exact Z1 rfl<|Yg<|Zq (Zb (Ws (Zy (Zaa (d:=.int q.num) Za Yb rfl) (Zaa (d:=.int (r.den:Int)) Za Yb rfl) (Zel (Zd9 bq dr))) (Zy (Zaa (d:=.int r.num) Za Yb rfl) (Zaa (d:=.int (q.den:Int)) Za Yb rfl) (Zel (Zd9 br dq)))) (Zb (Zy (Zaa (d:=.int (q.den:Int)) Za Yb rfl) (Zaa (d:=.int (r.den:Int)) Za Yb rfl) (Zel (Zd9 dq dr))) Zm)) (Zhh (Int.ne_of_gt (Int.mul_pos (Zb3 q) (Zb3 r))) (dq.mul dr))
theorem Zyw{q r:Rat}{m n:Nat}(bq:Bt m q.num)(dq:Bt m (q.den:Int))(br:Bt n r.num)(dr:Bt n (r.den:Int))(hmn:m+n<=100000000:=by decide):Told Zak [frD q,frD r] (.bool (decide (q<r))) :=
 Z1 rfl<|Yg<|Zmk (Zy (Zaa (d:=.int q.num) Za Yb rfl) (Zaa (d:=.int (r.den:Int)) Za Yb rfl) (Zel (Zd9 bq dr hmn))) (Zy (Zaa (d:=.int r.num) Za Yb rfl) (Zaa (d:=.int (q.den:Int)) Za Yb rfl) (Zel (Zd9 br dq (by omega)))) (decide_eq_decide.mpr (Zu1 q r))
structure Tq(T:Nat->Nat->Rat):Prop where
 num:∀i j,Bt 400 (T i j).num
 den:∀i j,Bt 400 ((T i j).den:Int)
theorem Zyj{n a b i0 i9 i10:Nat}{f:Nat->Nat->Xa}(ha:a<n)(hb:b<n)(h6:δ[i0]? =YB (YB (.fz (Zdg n f))))(h9:δ[i9]? =YB (YB (.fz (.int a))))(h10:δ[i10]? =YB (YB (.fz (.int b)))):EvV (Ym gIx (Ym gIx (Ze i0) (Ze i9)) (Ze i10)) δ (f a b):=by
 refine Zaa (Zaa (Za h6) (Za h9) (d:=.list ((Xw n).map λj=>f a j)) ?_) (Za h10) ?_
 .unfold Zdg
  rw[Zrg,Zum,Xm,JR ha];rfl
 .rw[Zrg,Zum,Xm,JR hb];rfl
theorem Zy2{n:Nat}{T:Nat->Nat->Rat}(h:Tq T){k:Nat}(hi:i<n)(hj:j<n)(hk:k<n):Told W7 [Zdg n (frG T),.int i,.int j,.int k] (.bool (decide (T i j+T j k<T i k))):=by
 have e:T i j+T j k=XR ((T i j).num*((T j k).den:Int)+(T j k).num*((T i j).den:Int)) (((T i j).den:Int)*((T j k).den:Int)):=(Zpw _ _).symm;have dp:((T i j).den:Int)*((T j k).den:Int)≠0:=Int.ne_of_gt (Int.mul_pos (Zb3 _) (Zb3 _));have bn:Bt 2000 (T i j+T j k).num:=by
  rw[e];exact Zvg dp ((((h.num i j).mul (h.den j k)).add ((h.num j k).mul (h.den i j))).mono (by decide))
 have bd:Bt 2000 ((T i j+T j k).den:Int):=by
  rw[e];exact Z07 dp (((h.den i j).mul (h.den j k)).mono (by decide))
 exact Z1 rfl<|Yg<|Zq (Zb (Zq (Zb (Zyj (i0:=0) (i9:=1) (i10:=2) hi hj rfl rfl rfl) (Zb (Zyj (i0:=0) (i9:=2) (i10:=3) hj hk rfl rfl rfl) Zm)) (Zxq (h.num i j) (h.den i j) (h.num j k) (h.den j k))) (Zb (Zyj (i0:=0) (i9:=1) (i10:=3) hi hk rfl rfl rfl) Zm)) (Zyw bn bd (h.num i k) (h.den i k))
def mkI(i:Nat):Xa:=.int (i:Int)
theorem Yc0{n:Nat}{as:FA}(h:EvA as δ [.int n])(hn:n<=10):EvI (iRa as) δ ((Xw n).map mkI):=by
 have e:Zda 0 n=(Xw n).map mkI:=by
  unfold Zda;exact Xr λi _=>YT Xl (Bq _)
 exact e▸Zkf h (by omega)
def sc3(n:Nat)(c:Nat->Nat->Nat->Bool)(v:Nat->Nat->Nat->Xa):Option Xa:=(Xw n).findSome? λi=>(Xw n).findSome? λj=>(Xw n).findSome? λk=>if c i j k=YD then YB (v i j k)else YC
theorem Ybj{n:Nat}(hn:n<=10){t:FT}{S:FS}{d0 v0:Xa}(c:Nat->Nat->Nat->Bool)(v:Nat->Nat->Nat->Xa)(ht:∀i j k,i<n->j<n->k<n->EvT t [YB (.fz d0),YB (.fz (.int n)),YB (.fz (mkI i)),YB (.fz (mkI j)),YB (.fz (mkI k))] (c i j k))(hS:∀i j k,Zgs (α:=Nat) (λ_=>False) S [YB (.fz d0),YB (.fz (.int n)),YB (.fz (mkI i)),YB (.fz (mkI j)),YB (.fz (mkI k))] (YB (v i j k)))
  (hS':∀z2 z3 z4,Zjn S' [YB (.fz d0),YB (.fz (.int n)),z2,z3,z4] v0):Zjn (Z5 (J5 (iRa (Zc (Ze 1) Zo)) (gNm 2) (J5 (iRa (Zc (Ze 1) Zo)) (gNm 3) (J5 (iRa (Zc (Ze 1) Zo)) (gNm 4) (Zbg t S fNx)))) S') [YB (.fz d0),YB (.fz (.int n)),YC,YC,YC] ((sc3 n c v).getD v0):=by
 refine Zkw (α:=Nat) (I:=λδ=>∃z2 z3 z4,δ=[YB (.fz d0),YB (.fz (.int n)),z2,z3,z4]) ?_ λδ q=>?_
 .refine Zjo (α:=Nat) (J:=λδ=>∃z2 z3 z4,δ=[YB (.fz d0),YB (.fz (.int n)),z2,z3,z4]) mkI _ (Xw n) (Yc0 (Zb Za Zm) hn) ⟨YC,YC,YC,rfl⟩ (λ_ h=>h) λi hi δ q=>?_
  obtain⟨z2,z3,z4,rfl⟩:=q;refine⟨_,rfl,Zjo (α:=Nat) (J:=λδ=>∃z3 z4,δ=[YB (.fz d0),YB (.fz (.int n)),YB (.fz (mkI i)),z3,z4]) mkI _ (Xw n) (Yc0 (Zb Za Zm) hn) ⟨z3,z4,rfl⟩ (λδ h=>by obtain⟨z3,z4,e⟩:=h;exact⟨_,z3,z4,e⟩) λj hj δ q=>?_⟩;obtain⟨z3,z4,rfl⟩:=q;refine⟨_,rfl,Zjo (α:=Nat) (J:=λδ=>∃z4,δ=[YB (.fz d0),YB (.fz (.int n)),YB (.fz (mkI i)),YB (.fz (mkI j)),z4]) mkI _ (Xw n) (Yc0 (Zb Za Zm) hn) ⟨z4,rfl⟩ (λδ h=>by obtain⟨z4,e⟩:=h;exact⟨_,z4,e⟩) λk hk δ q=>?_⟩;obtain⟨z4,rfl⟩:=q;refine⟨_,rfl,?_⟩;have:=ht i j k (XF.mp hi) (XF.mp hj) (XF.mp hk);cases e:c i j k with
  | true=>
   rw[e]at this;rw[YL rfl];exact Zlt this (hS i j k)
  | false=>
   rw[e]at this;rw[YM Xn];exact Zl0 this ⟨_,rfl⟩
 .obtain⟨z2,z3,z4,rfl⟩:=q
  exact hS' z2 z3 z4
theorem Yam{n:Nat}{f:Nat->Nat->Xa}(h:δ[0]? =YB (YB (.fz (Zdg n f)))):EvV (J1 Zac (Zc (Ze 0) Zo)) δ (.int n):=by
 have:=Zeq (δ:=δ) (e:=Ze 0) (ds:=(Xw n).map λi=>.list ((Xw n).map λj=>f i j)) (Za h)
 rwa[Xe,Qd]at this
def shR(T:Nat->Nat->Rat)(i j k:Nat):Bool:=decide (T i j+T j k<T i k)
def tpI(i j k:Nat):Xa:=.tuple [.int i,.int j,.int k]
theorem Zia{n:Nat}(hn:n<=10){T:Nat->Nat->Rat}(h:Tq T):Told Wg [Zdg n (frG T)] ((sc3 n (shR T) tpI).getD .none) :=
 Z1 rfl<|Z2 (Zw (Yam rfl))<|Ybj hn (shR T) tpI (λi j k hi hj hk=>Zj7 (Zq (Zb Za (Zb Za (Zb Za (Zb Za Zm)))) (Zy2 h hi hj hk))) (λi j k=>Zps (Zbd (Zb Za (Zb Za (Zb Za Zm))) (show 3<=1000 by decide))) λ_ _ _=>Yg Yb
def shI(R:Nat->Nat->Int)(i j k:Nat):Bool:=decide (R i j+R j k<R i k)
theorem Zm0(n:Nat)(R:Nat->Nat->Int)(b:Int):tbD (Zcm n R b)=Zdg n (frG λi j=>XR (R i j) b):=by
 unfold tbD Zcm Zdg;rw[XQ];refine YT QJ (Xr λi _=>?_);show Zpy _=_;unfold Zpy;rw[XQ];rfl
theorem Z7b{x z:Int}(hb:0<b)(h:x<=y+z):XR x b<=XR y b+XR z b:=by
 have e:XR y b+XR z b=XR (y+z) b:=by
  rw[QZ,QZ,QZ,V8,V8,V8,Rat.intCast_add,Rat.add_mul]
 rw[e];refine(Rat.le_iff_sub_nonneg _ _).mpr ?_;have e2:XR (y+z) b-XR x b=XR (y+z-x) b:=by
  rw[QZ,QZ,QZ,V8,V8,V8,Rat.intCast_sub,Rat.sub_eq_add_neg,Rat.sub_eq_add_neg,Rat.add_mul,Rat.neg_mul]
 rw[e2];exact Zsn (by omega) hb
theorem Z3n{z:Int}:XR y b+XR z b=XR (y+z) b:=by
 rw[QZ,QZ,QZ,V8,V8,V8,Rat.intCast_add,Rat.add_mul]
theorem Ybr{x z:Int}(hb:0<b):XR y b+XR z b<XR x b↔y+z<x:=by
 constructor
 .intro h
  refine Int.not_le.mp λz=>?_;exact YX h (Rat.not_lt.mpr (Z7b hb z))
 .intro h
  refine Rat.not_le.mp λw=>?_;rw[Z3n]at w;have nb:((b:Int):Rat)≠0:=by
   intro e;have:b=0:=by exact_mod_cast e
   omega
  have b0:(0:Rat)<=((b:Int):Rat):=by exact_mod_cast Int.le_of_lt hb
  have w2:=Rat.mul_le_mul_of_nonneg_right w b0;rw[QZ,QZ,Rat.div_mul_cancel nb,Rat.div_mul_cancel nb]at w2;have:x<=y+z:=by exact_mod_cast w2
  omega
theorem Yfb{R:Nat->Nat->Int}(hb:0<b):(shR λi j=>XR (R i j) b)=shI R:=by
 funext i j k;exact decide_eq_decide.mpr (Ybr hb)
theorem Ye9{R:Nat->Nat->Int}(hb:0<b)(bb:Bt 300 b)(bR:∀i j,Bt 300 (R i j)):Tq λi j=>XR (R i j) b where
 num:=λi j=>Zvg (by omega) ((bR i j).mono (by decide))
 den:=λi j=>Z07 (by omega) (bb.mono (by decide))
def Z8m(L:List (List Int×Rat)):OT:=.nd ((L.map ctD).map OT.fz)
theorem Zts(L:List (List Int×Rat)):(Z8m L).data=Zrv L:=by unfold Z8m Zrv;rw[OT.data_nd,OT.map_fz]
def sdL:Nat->List (List Int)
 | 0=>[[]]
 | k+1=>sdL k++(sdL k).map λs=>s++[(k:Int)+1]
theorem Zkd(k:Nat):(sdL k).length=2^k:=by
 induction k with
 | zero=>rfl
 | succ k ih=>rw[sdL,XH,Xe,ih,Nat.pow_succ];omega
theorem Zp0(k:Nat):∀s∈sdL k,s.length<=k/\s.Pairwise (·<·)/\∀x∈s,1<=x/\x<=k:=by
 induction k with
 | zero=>intro s hs;rw[Xj.mp hs];exact⟨XJ _,.nil,λ_ m=>nomatch m⟩
 | succ k ih=>
  intro s hs;rcases Qo.mp hs with hs|hs
  .obtain⟨h1,h2,h3⟩:=ih s hs
   exact⟨by omega,h2,λx hx=>by have:=h3 x hx;omega⟩
  .obtain⟨r,hr,rfl⟩:=XM.mp hs
   obtain⟨h1,h2,h3⟩:=ih r hr;refine⟨by rw[XH];exact Nat.succ_le_succ h1,U7.mpr ⟨h2,Bb ..,λx hx y hy=>?_⟩,λx hx=>?_⟩
   .rw[Xj.mp hy]
    have:=h3 x hx;omega
   .rcases Qo.mp hx with z|z
    .have:=h3 x z;omega
    .rw[Xj.mp z];omega
def tpN(l:List Nat):Xa:=.tuple (l.map λx:Nat=>.int (x:Int))
def lst(p:List Nat):Nat:=if p.length>0 then p.getD (p.length-1) 0+1 else 0
def ext(n:Nat)(p:List Nat):List (List Nat):=(Xw (n-lst p)).map λj=>p++[lst p+j]
def rs(n:Nat):Nat->List (List Nat)
 | 0=>[[]]
 | m+1=>(rs n m).flatMap (ext n)
theorem Z9m{n k:Nat}(hn:n<=10)(hk:k<=4):(rs n k).length<=300:=by
 have:∀m:Fin 11,∀k:Fin 5,(rs m k).length<=300:=by decide +kernel
 exact this ⟨n,by omega⟩ ⟨k,by omega⟩
theorem Ztd{n:Nat}:∀{k:Nat} {p:List Nat},p∈rs n k->p.length=k/\p.Pairwise (·<·)/\(∀x∈p,x<n)/\∀x∈p,x<lst p
 | 0,p,h=>by
  rw[Xj.mp h];exact⟨rfl,.nil,(λ_ m=>nomatch m),λ_ m=>nomatch m⟩
 | k+1,p,h=>by
  obtain⟨q,hq,hp⟩:=List.mem_flatMap.mp h;obtain⟨h1,h2,h3,h4⟩:=Ztd hq;obtain⟨j,hj,rfl⟩:=XM.mp hp;have hj:=XF.mp hj;have hl:lst (q++[lst q+j])=lst q+j+1:=by
   show(if(q++[lst q+j]).length>0 then(q++[lst q+j]).getD ((q++[lst q+j]).length-1) 0+1 else 0)=_;rw[YL (by rw[XH];exact Nat.succ_pos _),XH,U0,Nat.add_sub_cancel,Xb,JN (XJ _),Nat.sub_self];rfl
  refine⟨by rw[XH,h1];rfl,?_,λx hx=>?_,λx hx=>?_⟩
  .rw[U7]
   exact⟨h2,Bb _ _,λx hx y hy=>by rw[Xj.mp hy];have:=h4 x hx;omega⟩
  .rcases Qo.mp hx with hx|hx
   .exact h3 x hx
   .rw[Xj.mp hx];omega
  .rw[hl]
   rcases Qo.mp hx with hx|hx
   .have:=h4 x hx;omega
   .rw[Xj.mp hx];omega
theorem Yax{n:Nat}{p:List Nat}(h:∀x∈p,x<n):lst p<=n:=by
 unfold lst
 by_cases c:p.length>0
 .rw[YL c,Xb,Xi (by omega)]
  exact h _ (JH (by omega))
 .rw[YM c];exact QS _
theorem Zzt{p:List Nat}(h:δ[5]? =YB (YB (.fz (tpN p)))):EvV (fIf (tV (Zj gGt (J1 Zac (Zc (Ze 5) Zo)) (fC (.int 0)))) (Zj Zcb (Ym gIx (Ze 5) (fUn Zw2 (fC (.int 1)))) (fC (.int 1))) (fC (.int 0))) δ (.int (lst p:Nat)):=by
 have ln:Zac [tpN p]=YB (.int (p.length:Nat)):=by unfold tpN;rw[Z16,Xe]
 unfold lst
 by_cases c:p.length>0
 .rw[YL c]
  refine Z6d (Zdm (Zne (Zay (Zb (Za h) Zm) ln) Yb (YQ (by omega)))) ((Ws (Zaa (d:=.int (p.getD (p.length-1) 0:Nat)) (Za h) (Zs7 Yb) ?_) Yb).cast (by rw[Int.natCast_add];rfl));unfold tpN;rw[Ygc];have:atI (p.map λx:Nat=>Xl (x:Int)) (-1)=YB (.int (p.getD (p.length-1) 0:Nat)):=by
   unfold atI ixN;rw[Xe,YM (by decide),YL (by omega),Xh,Xm,show(-1+(p.length:Int)).toNat=p.length-1 by omega,Xb,Xi (by omega)];rfl
  rw[this];rfl
 .rw[YM c]
  exact Z4b (Zdm (Zne (Zay (Zb (Za h) Zm) ln) Yb (YS (by omega)))) Yb
theorem Zrx{n m:Nat}(hn:n<=10)(hm:m<=4):Told Wt [.int n,.int m] (.list ((rs n m).map tpN)):=by
 refine Z1 rfl<|Z2 (Zw (d:=.list [tpN []]) (Zei (Zb (Zbd Zm (show 0<=1000 by decide)) Zm) (show 1<=1000 by decide))) ?_;refine Zi2 (ds:=Zda 0 m) (λk δ=>∃z3 z4 z5 z6,δ=[YB (.fz (.int n)),YB (.fz (.int m)),YB (.fz (.list ((rs n k).map tpN))),z3,z4,z5,z6]) (Zkf (Zb Za Zm) (by omega)) ⟨YC,YC,YC,YC,rfl⟩ (λk d δ hd q=>?_) λδ' q=>by obtain⟨z3,z4,z5,z6,rfl⟩:=q;rw[Wl];exact Yg Za
 obtain⟨z3,z4,z5,z6,rfl⟩:=q;obtain⟨hk,rfl⟩:=Zab hd;rw[Bq];have L1:=Z9m (k:=k+1) hn (by omega);obtain⟨δ',e,z5',z6',rfl⟩:=Zdy (it:=Zfz (Ze 2)) (g:=gNm 5) (S:=Z5 (wE (fIf (tV (Zj gGt (J1 Zac (Zc (Ze 5) Zo)) (fC (.int 0)))) (Zj Zcb (Ym gIx (Ze 5) (fUn Zw2 (fC (.int 1)))) (fC (.int 1))) (fC (.int 0))) (Y9 6))
  (Zfa 4 (Yu 1 [5] (iRb (Zc (Ze 6) (Zc (Ze 0) Zo))) (gNm 0) Zil (Ym Zrk (Ze 1) (Zgn (Zc (Ze 0) Zo)))))) (δ:=[YB (.fz (.int n)),YB (.fz (.int m)),YB (.fz (.list ((rs n k).map tpN))),YB (.fz (.int k)),YB (.nd []),z5,z6]) (ds:=(rs n k).map tpN) (λt δ=>∃z5 z6,δ=[YB (.fz (.int n)),YB (.fz (.int m)),YB (.fz (.list ((rs n k).map tpN))),YB (.fz (.int k)),YB (.nd (((((rs n k).take t).flatMap (ext n)).map tpN).map OT.fz)),z5,z6]) (Jw Za) ⟨z5,z6,rfl⟩ (λt d δ hd q=>by
   obtain⟨z5,z6,rfl⟩:=q;rw[Xm]at hd;obtain⟨p,hp,rfl⟩:=JQ.mp hd;obtain⟨pl,_,px,_⟩:=Ztd (Qy hp);have tk:(rs n k).take (t+1)=(rs n k).take t++[p]:=by rw[List.take_succ,hp];rfl
   have ls:(((rs n k).take (t+1)).flatMap (ext n)).length<=300:=by
    have:((rs n k).take (t+1)).flatMap (ext n)++((rs n k).drop (t+1)).flatMap (ext n)=rs n (k+1):=by rw[<-List.flatMap_append,List.take_append_drop];rfl
    have:=YT List.length this;rw[XH]at this;omega
   rw[tk,List.flatMap_append,XH]at ls;have le:ext n p=[p].flatMap (ext n):=by rw[List.flatMap_cons,List.flatMap_nil,JP]
   have lx:(ext n p).length=n-lst p:=by unfold ext;rw[Xe,Qd]
   rw[<-le,lx]at ls;obtain⟨rr,e1,e2⟩:=Zuw (δ:=[YB (.fz (.int n)),YB (.fz (.int m)),YB (.fz (.list ((rs n k).map tpN))),YB (.fz (.int k)),YB (.nd (((((rs n k).take t).flatMap (ext n)).map tpN).map OT.fz)),YB (.fz (tpN p)),YB (.fz (.int (lst p:Nat)))]) (caps:=[5]) (cs:=[YB (.fz (tpN p))]) (me:=Ym Zrk (Ze 1) (Zgn (Zc (Ze 0) Zo))) (it:=iRb (Zc (Ze 6) (Zc (Ze 0) Zo))) (Xw (n-lst p)) (λj:Nat=>Xl ((lst p:Nat)+(j:Int))) (λj=>tpN (p++[lst p+j])) (by
     exact Z49 (m:=lst p) (Zb Za (Zb Za Zm)) (QB (Yax px) (by omega)) (by omega)) (by rw[Qd];omega) rfl λj _=>(Ztu (o:=.fz (tpN (p++[lst p+j]))) Za (Zbd (Zb Za Zm) (show 1<=1000 by decide)) (by
     unfold tpN;show(if(p.map λx:Nat=>Xl (x:Int)).length+[Xl ((lst p:Nat)+(j:Int))].length<=Xv then YB (OT.fz (.tuple ((p.map λx:Nat=>Xl (x:Int))++[Xl ((lst p:Nat)+(j:Int))])))else YC)=_;rw[YL (by rw[Qh,Xe,U0];omega),Qg,List.map_singleton,Int.natCast_add]) (OT.data_fz _))
   refine⟨_,_,rfl,.inl (Y0 (Zw (Zzt rfl)) (Zt8 e1 e2 rfl (by rw[Xe,Xe,Xe,Qd];omega))),YB (.fz (tpN p)),YB (.fz (.int (lst p:Nat))),?_⟩;rw[tk,List.flatMap_append,<-le,Qg,Qg];have em:(Xw (n-lst p)).map (λj=>tpN (p++[lst p+j]))=(ext n p).map tpN:=by unfold ext;rw[XQ];rfl
   rw[em];rfl)
 rw[Xe,Ua]at e;refine⟨_,_,rfl,.inl (Y0 Zhi (Y0 e (Zt5 rfl (Zw Za)))),YB (.fz (.int k)),YB (.fz (.list ((rs n (k+1)).map tpN))),z5',z6',?_⟩;rw[OT.data_nd,OT.map_fz];rfl
def Cp(s t:List Int):Prop:=(∀x∈s,x∉t)\/(∀x∈s,x∈t)\/∀x∈t,x∈s
theorem Cp.symm{s t:List Int}(h:Cp s t):Cp t s:=by
 rcases h with h|h|h
 .exact .inl λx h1 h2=>h x h2 h1
 .exact .inr (.inr h)
 .exact .inr (.inl h)
structure Zi9(n:Nat)(s:List Int):Prop where
 ne:s≠[]
 up:s.Pairwise (·<·)
 pt:∀x∈s,1<=x/\x<n
structure Lam(n:Nat)(Ls:List (List Int)):Prop where
 ok:∀s∈Ls,Zi9 n s
 cp:∀s∈Ls,∀t∈Ls,Cp s t
theorem Ztf:∀{s t:List Int},s.Pairwise (·<·)->t.Pairwise (·<·)->(∀x,x∈s↔x∈t)->s=t:=by
 intro s
 induction s with
 | nil=>
  intro t _ _ h;cases t with
  | nil=>rfl
  | cons y t=>exact YX ((h y).mpr (.head _)) (λz=>nomatch z)
 | cons x s ih=>
  intro t hs ht h;cases t with
  | nil=>exact YX ((h x).mp (.head _)) (λz=>nomatch z)
  | cons y t=>
   have h1:∀{z:Int},z∈s->x<z:=λm=>Q8 hs m;have h2:∀{z:Int},z∈t->y<z:=λm=>Q8 ht m;have e:x=y:=by
    rcases Xo.mp ((h x).mp (.head _))with e|m
    .exact e
    .rcases Xo.mp ((h y).mpr (.head _))with e|m'
     .exact e.symm
     .have:=h1 m';have:=h2 m;omega
   subst e;refine YT (x::·) (ih hs.tail ht.tail λz=>⟨λm=>?_,λm=>?_⟩)
   .rcases Xo.mp ((h z).mp (.tail _ m))with e|m'
    .have:=h1 m;omega
    .exact m'
   .rcases Xo.mp ((h z).mpr (.tail _ m))with e|m'
    .have:=h2 m;omega
    .exact m'
theorem Z0k{r:List Int->List Int->Prop}(tr:∀{a b c},r a b->r b c->r a c):∀(F:List (List Int)),F≠[]->∃S∈F,∀T∈F,r S T->r T S:=by
 intro F
 induction F with
 | nil=>exact λh=>YX rfl h
 | cons x F ih=>
  intro _
  by_cases c:F=[]
  .subst c
   exact⟨x,.head _,λT hT h=>by rw[Xj.mp hT]at h|-;exact h⟩
  .obtain⟨S,hS,mx⟩:=ih c
   by_cases q:r S x
   .refine⟨x,.head _,λT hT h=>?_⟩
    rcases Xo.mp hT with rfl|hT
    .exact h
    .exact tr (mx T hT (tr q h)) q
   .refine⟨S,.tail _ hS,λT hT h=>?_⟩
    rcases Xo.mp hT with rfl|hT
    .exact YX h q
    .exact mx T hT h
def wv(w:Int)(p q r t:Bool):Int:=(if(p !=r)=YD then w else 0)+(if(q !=t)=YD then w else 0)-(if(p !=q)=YD then w else 0)-(if(r !=t)=YD then w else 0)
def mm(s:List Int)(x:Int):Bool:=decide (x∈s)
theorem Zqd{s:List Int}{x:Int}:mm s x=YD↔x∈s:=by unfold mm;exact decide_eq_true_iff
theorem Zpn{s:List Int}{x:Int}:mm s x=YF↔x∉s:=by unfold mm;exact decide_eq_false_iff_not
theorem Zpc{s:List Int}{a:Int}(ha:0<=a)(hb:0<=b):sep s a.toNat b.toNat=(mm s a !=mm s b):=by
 unfold sep mm;rw[JX ha,JX hb]
theorem Z3w(Z:List (List Int×Int)){a c e:Int}(ha:0<=a)(hb:0<=b)(hc:0<=c)(he:0<=e):tv (cz Z) a b c e=(Z.map λq=>wv q.2 (mm q.1 a) (mm q.1 b) (mm q.1 c) (mm q.1 e)).sum:=by
 induction Z with
 | nil=>rfl
 | cons q Z ih=>
  rw[XC,JZ,<-ih];unfold tv cz;simp only[XC,JZ,Zpc ha hc,Zpc hb he,Zpc ha hb,Zpc hc he];unfold wv;omega
def wA(Z:List (List Int×Int))(A:List Int):Int:=((Z.filter λq=>decide (q.1=A)).map λq=>q.2).sum
end My
variable {z:Int}{L0 Ls:List (List Int)}{Z:List (List Int×Int)}{B:List Int}{S R:Nat->Nat->Int}{I:Zi->Prop}
namespace My
open PySem L2 PySem.Spec
theorem Zte{f g:List Int×Int->Int}(h:∀q∈Z,f q<=g q):(Z.map f).sum<=(Z.map g).sum:=by
 induction Z with
 | nil=>exact Be _
 | cons q Z ih=>
  rw[XC,XC,JZ,JZ];exact Int.add_le_add (h q (.head _)) (ih λr hr=>h r (.tail _ hr))
theorem Z1f(Z:List (List Int×Int))(A:List Int):(Z.map λq=>if q.1=A then 2*q.2 else 0).sum=2*wA Z A:=by
 unfold wA
 induction Z with
 | nil=>rfl
 | cons q Z ih=>
  rw[XC,JZ,ih]
  by_cases c:q.1=A
  .rw[Vz (p:=λq:List Int×Int=>decide (q.1=A)) (YQ c),XC,JZ,YL c];omega
  .rw[VB (p:=λq:List Int×Int=>decide (q.1=A)) (by rw[YS c];exact Xn),YM c];omega
theorem Zxh{w:Int}:wv w p q YF YF=if(p&&q)=YD then 2*w else 0:=by cases p<;>cases q<;>simp[wv]<;>omega
theorem Z0g{w:Int}{r t:Bool}:wv w YF YF r t=if(r&&t)=YD then 2*w else 0:=by cases r<;>cases t<;>simp[wv]<;>omega
theorem Yav{w:Int}{r t:Bool}:wv w YD YD r t=if(!r&& !t)=YD then 2*w else 0:=by cases r<;>cases t<;>simp[wv]<;>omega
theorem Yff{w:Int}(h:0<=w){r:Bool}(hn:¬(p=YD/\q=YD/\r=YF)):wv w p q r YF<=0:=by cases p<;>cases q<;>cases r<;>simp[wv]at hn|- <;>omega
theorem inner{n:Nat}{A:List Int}(L:∀s∈Z.map Qa,Zi9 n s)(cp:∀s∈Z.map Qa,∀t∈Z.map Qa,Cp s t)(hA:Zi9 n A):∃a∈A,∃b∈A,∀s∈Z.map Qa,(∀x∈s,x∈A)->s≠A->¬(a∈s/\b∈s):=by
 obtain⟨F,hF⟩:∃F,F=(Z.map Qa).filter λs=>decide ((∀x∈s,x∈A)/\s≠A):=⟨_,rfl⟩;have mF:∀s,s∈F↔s∈Z.map Qa/\(∀x∈s,x∈A)/\s≠A:=λs=>by rw[hF,Qs,decide_eq_true_iff]
 by_cases c:F=[]
 .obtain⟨a,ha⟩:=Q9 A hA.ne
  exact⟨a,ha,a,ha,λs hs h1 h2 _=>by have:=(mF s).mpr ⟨hs,h1,h2⟩;rw[c]at this;cases this⟩
 .obtain⟨S,hS,mx⟩:=Z0k (r:=λs t=>∀x∈s,x∈t) (λh1 h2 x hx=>h2 x (h1 x hx)) F c
  obtain⟨S1,S2,S3⟩:=(mF S).mp hS;obtain⟨a,ha⟩:=Q9 S (L S S1).ne;have eb:∃b∈A,b∉S:=Qw λz=>S3 (Ztf (L S S1).up hA.up λx=>⟨S2 x,λhx=>Qw λy=>z ⟨x,hx,y⟩⟩);obtain⟨b,hb,nb⟩:=eb;refine⟨a,S2 a ha,b,hb,λs hs h1 h2 ⟨as,bs⟩=>?_⟩;rcases cp s hs S S1 with q|q|q
  .exact q a as ha
  .exact nb (q b bs)
  .exact nb (mx s ((mF s).mpr ⟨hs,h1,h2⟩) q b bs)
theorem outer{n:Nat}{A:List Int}(L:∀s∈Z.map Qa,Zi9 n s)(cp:∀s∈Z.map Qa,∀t∈Z.map Qa,Cp s t)(h0:1<=n)(hA:Zi9 n A):∃c:Int,0<=c/\c<n/\c∉A/\∀s∈Z.map Qa,(∀x∈A,x∈s)->s≠A->c∈s:=by
 obtain⟨F,hF⟩:∃F,F=(Z.map Qa).filter λs=>decide ((∀x∈A,x∈s)/\s≠A):=⟨_,rfl⟩;have mF:∀s,s∈F↔s∈Z.map Qa/\(∀x∈A,x∈s)/\s≠A:=λs=>by rw[hF,Qs,decide_eq_true_iff]
 by_cases c:F=[]
 .refine⟨0,Be _,by omega,λz=>by have:=(hA.pt 0 z).1;omega,λs hs h1 h2=>?_⟩
  have:=(mF s).mpr ⟨hs,h1,h2⟩;rw[c]at this;cases this
 .obtain⟨U,hU,mx⟩:=Z0k (r:=λs t=>∀x∈t,x∈s) (λh1 h2 x hx=>h1 x (h2 x hx)) F c
  obtain⟨U1,U2,U3⟩:=(mF U).mp hU;have eb:∃b∈U,b∉A:=Qw λz=>U3 (Ztf (L U U1).up hA.up λx=>⟨λhx=>Qw λy=>z ⟨x,hx,y⟩,U2 x⟩);obtain⟨b,hb,nb⟩:=eb;have:=(L U U1).pt b hb;refine⟨b,by omega,this.2,nb,λs hs h1 h2=>?_⟩;obtain⟨a,ha⟩:=Q9 A hA.ne;rcases cp s hs U U1 with q|q|q
  .exact YX (U2 a ha) (q a (h1 a ha))
  .exact mx s ((mF s).mpr ⟨hs,h1,h2⟩) q b hb
  .exact q b hb
theorem Zj2{q:List Int×Int}(h:q∈Z):q.1∈Z.map Qa:=Bp h
theorem Zsx{n:Nat}{A:List Int}(LL:Lam n (Z.map Qa))(w0:∀q∈Z,0<=q.2)(h0:1<=n)(hA:Zi9 n A){m:Int}(h1:∃a∈A,∃b∈A,∃c,∃e,(0<=c/\c∉A)/\(0<=e/\e∉A)/\m=tv (cz Z) a b c e)(h2:∀a∈A,∀b∈A,∀c e:Int,0<=c->c<n->c∉A->0<=e->e<n->e∉A->m<=tv (cz Z) a b c e):max 0 m=2*wA Z A:=by
 have z0:(0:Int)∉A:=λz=>by have:=(hA.pt 0 z).1;omega
 have pA:∀x∈A,0<=x:=λx hx=>by have:=(hA.pt x hx).1;omega
 have zs:∀s∈Z.map Qa,mm s 0=YF:=λs hs=>Zpn.mpr λz=>by have:=((LL.ok s hs).pt 0 z).1;omega
 have wn:0<=wA Z A:=by
  unfold wA;have:∀F:List (List Int×Int),(∀q∈F,0<=q.2)->0<=(F.map λq=>q.2).sum:=by
   intro F
   induction F with
   | nil=>exact λ_=>Be _
   | cons q F ih=>exact λh=>by rw[XC,JZ];exact Int.add_nonneg (h q (.head _)) (ih λr hr=>h r (.tail _ hr))
  exact this _ λq hq=>w0 q (Qs.mp hq).1
 by_cases cr:∃s∈Z.map Qa,¬Cp s A
 .obtain⟨s,hs,nc⟩:=cr
  have e0:wA Z A=0:=by
   unfold wA;rw[List.filter_eq_nil_iff.mpr λq hq c=>nc (by rw[<-YW c];exact LL.cp s hs _ (Zj2 hq))];rfl
  have ea:∃a∈A,a∈s:=Qw λz=>nc (.inl λx hx hy=>z ⟨x,hy,hx⟩);have eb:∃b∈A,b∉s:=Qw λz=>nc (.inr (.inr λx hx=>Qw λy=>z ⟨x,hx,y⟩));have ec:∃c∈s,c∉A:=Qw λz=>nc (.inr (.inl λx hx=>Qw λy=>z ⟨x,hx,y⟩));obtain⟨a,aA,as⟩:=ea;obtain⟨b,bA,bs⟩:=eb;obtain⟨c,cs,cA⟩:=ec;have cp:=(LL.ok s hs).pt c cs;have:=h2 a aA b bA c 0 (by omega) cp.2 cA (by omega) (by omega) z0;rw[Z3w Z (pA a aA) (pA b bA) (by omega) (Be _)]at this;have le:(Z.map λq=>wv q.2 (mm q.1 a) (mm q.1 b) (mm q.1 c) (mm q.1 0)).sum<=(Z.map λ_=>(0:Int)).sum:=Zte λq hq=>by
   have hq1:=Zj2 hq;rw[zs _ hq1];refine Yff (w0 q hq) λ⟨x,y,z⟩=>?_;rw[Zqd]at x y;rw[Zpn]at z;rcases LL.cp s hs _ hq1 with k|k|k
   .exact k a as x
   .exact z (k c cs)
   .exact bs (k b y)
  have zz:(Z.map λ_=>(0:Int)).sum=0:=by
   clear le this w0 LL zs hs wn e0 h1 h2
   induction Z with
   | nil=>rfl
   | cons q Z ih=>rw[XC,JZ,ih];rfl
  rw[e0];omega
 .have cA:∀s∈Z.map Qa,Cp s A:=λs hs=>Qw λz=>cr ⟨s,hs,z⟩
  have lo:2*wA Z A<=m:=by
   obtain⟨a,aA,b,bA,c,e,⟨c0,nc⟩,⟨e0,ne⟩,rfl⟩:=h1;rw[Z3w Z (pA a aA) (pA b bA) c0 e0,<-Z1f];refine Zte λq hq=>?_;have hw:=w0 q hq
   by_cases eq:q.1=A
   .rw[YL eq,eq,Zqd.mpr aA,Zqd.mpr bA,Zpn.mpr nc,Zpn.mpr ne,Zxh]
    exact Be _
   .rw[YM eq]
    rcases cA _ (Zj2 hq)with k|k|k
    .rw[Zpn.mpr (λz=>k a z aA),Zpn.mpr (λz=>k b z bA),Z0g];split<;>omega
    .rw[Zpn.mpr (λz=>nc (k c z)),Zpn.mpr (λz=>ne (k e z)),Zxh];split<;>omega
    .rw[Zqd.mpr (k a aA),Zqd.mpr (k b bA),Yav];split<;>omega
  have hi:m<=2*wA Z A:=by
   obtain⟨a,aA,b,bA,nab⟩:=inner LL.ok LL.cp hA;obtain⟨c,c0,cn,nc,hc⟩:=outer LL.ok LL.cp h0 hA;refine Br (h2 a aA b bA c 0 c0 cn nc (Be _) (by omega) z0) ?_;rw[Z3w Z (pA a aA) (pA b bA) c0 (Be _),<-Z1f];refine Zte λq hq=>?_;have hq1:=Zj2 hq
   by_cases eq:q.1=A
   .rw[YL eq,eq,Zqd.mpr aA,Zqd.mpr bA,Zpn.mpr nc,Zpn.mpr z0,Zxh]
    exact Be _
   .rw[YM eq,zs _ hq1]
    rcases cA _ hq1 with k|k|k
    .rw[Zpn.mpr (λz=>k a z aA),Zpn.mpr (λz=>k b z bA),Z0g,Bool.and_false,YM Xn];exact Be _
    .have n2:=nab _ hq1 k eq
     rw[Zpn.mpr (λz=>nc (k c z)),Zxh,YM λz=>n2 (by rw[Xp]at z;exact⟨Zqd.mp z.1,Zqd.mp z.2⟩)];exact Be _
    .rw[Zqd.mpr (k a aA),Zqd.mpr (k b bA),Zqd.mpr (hc _ hq1 k eq),Yav];exact Be _
  omega
theorem Z2c(w0:∀q∈Z,0<=q.2)(i j k:Nat):cz Z i k<=cz Z i j+cz Z j k:=by
 unfold cz
 induction Z with
 | nil=>exact Be _
 | cons q Z ih=>
  have:=ih λr hr=>w0 r (.tail _ hr);have hw:=w0 q (.head _);simp only[XC,JZ];have:(if sep q.1 i k=YD then q.2 else 0)<=(if sep q.1 i j=YD then q.2 else 0)+(if sep q.1 j k=YD then q.2 else 0):=by
   unfold sep;generalize decide ((i:Int)∈q.1)=x;generalize decide ((j:Int)∈q.1)=y;generalize decide ((k:Int)∈q.1)=z;cases x<;>cases y<;>cases z<;>simp<;>omega
  omega
def kd(a b c e:Bool):Bool:=(a==b)&&(c==e)&&(a !=c)
theorem Yeb(w0:∀q∈Z,0<=q.2)(i j k l:Nat):∃C D1 D2 D3:Int,0<=D1/\0<=D2/\0<=D3/\cz Z i j+cz Z k l=C+D2+D3/\cz Z i k+cz Z j l=C+D1+D3/\cz Z i l+cz Z j k=C+D1+D2/\
  (0 < D1->∃s∈Z.map Qa,kd (mm s i) (mm s j) (mm s k) (mm s l)=YD)/\(0<D2->∃s∈Z.map Qa,kd (mm s i) (mm s k) (mm s j) (mm s l)=YD)/\(0<D3->∃s∈Z.map Qa,kd (mm s i) (mm s l) (mm s j) (mm s k)=YD):=by
 induction Z with
 | nil=>exact⟨0,0,0,0,by decide,by decide,by decide,rfl,rfl,rfl,λz=>by omega,λz=>by omega,λz=>by omega⟩
 | cons q Z ih=>
  obtain⟨C,D1,D2,D3,p1,p2,p3,e1,e2,e3,k1,k2,k3⟩:=ih λr hr=>w0 r (.tail _ hr);have hw:=w0 q (.head _);have up:∀{P:List Int->Prop},(∃s∈Z.map Qa,P s)->∃s∈(q::Z).map Qa,P s:=λ⟨s,h,p⟩=>⟨s,.tail _ h,p⟩;have hd:∀{P:List Int->Prop},P q.1->∃s∈(q::Z).map Qa,P s:=λp=>⟨q.1,.head _,p⟩;have cc:∀x y,cz (q::Z) x y=(if(mm q.1 x !=mm q.1 y)=YD then q.2 else 0)+cz Z x y:=λx y=>rfl;simp only[cc];have hk1:=hd (P:=λs=>kd (mm s i) (mm s j) (mm s k) (mm s l)=YD);have hk2:=hd (P:=λs=>kd (mm s i) (mm s k) (mm s j) (mm s l)=YD);have hk3:=hd (P:=λs=>kd (mm s i) (mm s l) (mm s j) (mm s k)=YD);have u1:=λz=>up (k1 z);have u2:=λz=>up (k2 z);have u3:=λz=>up (k3 z);generalize(∃s∈(q::Z).map Qa,kd (mm s i) (mm s j) (mm s k) (mm s l)=YD)=P1 at*
  generalize(∃s∈(q::Z).map Qa,kd (mm s i) (mm s k) (mm s j) (mm s l)=YD)=P2 at*
  generalize(∃s∈(q::Z).map Qa,kd (mm s i) (mm s l) (mm s j) (mm s k)=YD)=P3 at*
  clear up hd cc ih;generalize mm q.1 i=a at*
  generalize mm q.1 j=b at*
  generalize mm q.1 k=c at*
  generalize mm q.1 l=e at*
  cases h1:kd a b c e with
  | true=>
   refine⟨C,D1+2*q.2,D2,D3,by omega,p2,p3,?_,?_,?_,λ_=>hk1 h1,u2,u3⟩<;>(cases a<;>cases b<;>cases c<;>cases e<;>simp[kd]at h1|- <;>omega)
  | false=>
   cases h2:kd a c b e with
   | true=>
    refine⟨C,D1,D2+2*q.2,D3,p1,by omega,p3,?_,?_,?_,u1,λ_=>hk2 h2,u3⟩<;>(cases a<;>cases b<;>cases c<;>cases e<;>simp[kd]at h2|- <;>omega)
   | false=>
    cases h3:kd a e b c with
    | true=>
     refine⟨C,D1,D2,D3+2*q.2,p1,p2,by omega,?_,?_,?_,u1,u2,λ_=>hk3 h3⟩<;>(cases a<;>cases b<;>cases c<;>cases e<;>simp[kd]at h3|- <;>omega)
    | false=>
     refine⟨C+((if(a !=b)=YD then q.2 else 0)+if(c !=e)=YD then q.2 else 0),D1,D2,D3,p1,p2,p3,?_,?_,?_,u1,u2,u3⟩<;>(cases a<;>cases b<;>cases c<;>cases e<;>simp[kd]at h1 h2 h3|- <;>omega)
theorem Z7s{a b e:Bool}(h:kd a b c e=YD):a=YD/\b=YD/\c=YF/\e=YF\/a=YF/\b=YF/\c=YD/\e=YD:=by
 revert a b c e;decide
theorem Zxo{s t:List Int}(h:Cp s t){x:Int}(h1:mm s x=YD)(h2:mm t x=YD)(h3:mm s y=YD)(h4:mm t y=YF)(h5:mm s z=YF)(h6:mm t z=YD):False:=by
 rw[Zqd]at h1 h2 h3 h6;rw[Zpn]at h4 h5;rcases h with h|h|h
 .exact h x h1 h2
 .exact h4 (h y h3)
 .exact h5 (h z h6)
theorem Zuq{s t:List Int}(h:Cp s t){a c e:Int}(h1:kd (mm s a) (mm s b) (mm s c) (mm s e)=YD)(h2:kd (mm t a) (mm t c) (mm t b) (mm t e)=YD):False:=by
 rcases Z7s h1 with⟨a1,b1,c1,e1⟩|⟨a1,b1,c1,e1⟩<;>rcases Z7s h2 with⟨a2,c2,b2,e2⟩|⟨a2,c2,b2,e2⟩
 .exact Zxo h a1 a2 b1 b2 c1 c2
 .exact Zxo h b1 b2 a1 a2 e1 e2
 .exact Zxo h c1 c2 e1 e2 a1 a2
 .exact Zxo h e1 e2 c1 c2 b1 b2
theorem Z2k{a b e:Bool}(h:kd a b c e=YD):kd a b e c=YD:=by revert a b c e;decide
theorem Zt0{n:Nat}(LL:Lam n (Z.map Qa))(w0:∀q∈Z,0<=q.2)(i j k l:Nat):∃x y z:Int,x=cz Z i j+cz Z k l/\y=cz Z i k+cz Z j l/\z=cz Z i l+cz Z j k/\¬(x<z/\y<z)/\¬(x<y/\z<y)/\¬(y<x/\z<x):=by
 obtain⟨C,D1,D2,D3,p1,p2,p3,e1,e2,e3,k1,k2,k3⟩:=Yeb w0 i j k l;refine⟨_,_,_,rfl,rfl,rfl,?_⟩;rw[e1,e2,e3];have n12:¬(0<D1/\0<D2):=λ⟨x,y⟩=>by
  obtain⟨s,hs,q⟩:=k1 x;obtain⟨t,ht,r⟩:=k2 y;exact Zuq (LL.cp s hs t ht) q r
 have n13:¬(0<D1/\0<D3):=λ⟨x,y⟩=>by
  obtain⟨s,hs,q⟩:=k1 x;obtain⟨t,ht,r⟩:=k3 y;exact Zuq (LL.cp s hs t ht) (Z2k q) r
 have n23:¬(0<D2/\0<D3):=λ⟨x,y⟩=>by
  obtain⟨s,hs,q⟩:=k2 x;obtain⟨t,ht,r⟩:=k3 y;exact Zuq (LL.cp s hs t ht) (Z2k q) (Z2k r)
 omega
theorem Ybp{as:FA}{j:Int}(h:EvA as δ [.int j])(h0:-1000<=j)(h1:j<=1000000):EvI (iRa as) δ (Zda 0 j.toNat):=by
 obtain⟨_,e1,d1⟩:=h;unfold EvI;rw[Z04,e1,Xh,d1,Z60,YL (Ziz (by omega) h1)]
theorem Zea:∀(l:List (List Int)) (j:Nat),j<l.length->(l.getD j []::l.eraseIdx j).Perm l
 | [],_,h=>by simp at h
 | a::l,0,_=>.refl _
 | a::l,j+1,h=>by
  have:=Zea l j (by simpa using h);show(l.getD j []::a::l.eraseIdx j).Perm (a::l);exact(List.Perm.swap _ _ _).trans (this.cons a)
def Dj(s t:List Int):Prop:=∀x∈s,x∉t
structure Clu(n:Nat)(l f:List (List Int)):Prop where
 okl:∀s∈l,Zi9 n s
 dis:l.Pairwise Dj
 okf:Lam n f
 nd:f.Nodup
 inn:∀s∈f,∀t∈l,(∀x∈s,x∈t)\/Dj s t
theorem Yf7{l:List Int}(h:l.Pairwise (·<=·))(d:l.Nodup):l.Pairwise (·<·):=(h.and d).imp λ⟨a,b⟩=>Int.lt_iff_le_and_ne.mpr ⟨a,b⟩
theorem Clu.step{n:Nat}{l l1 l2 f:List (List Int)}{a b:List Int}(h:Clu n l f)(p1:(a::l1).Perm l)(p2:(b::l2).Perm l1):Clu n (l2++[Yz (a++b)]) (f++[Yz (a++b)]):=by
 have pd:(a::b::l2).Perm l:=(p2.cons a).trans p1;have dd:(a::b::l2).Pairwise Dj:=pd.symm.pairwise h.dis fun{s t} q x hx hy=>q x hy hx;have ma:a∈l:=pd.mem_iff.mp (.head _);have mb:b∈l:=pd.mem_iff.mp (.tail _ (.head _));have m2:∀t∈l2,t∈l:=λt ht=>pd.mem_iff.mp (.tail _ (.tail _ ht));have dab:Dj a b:=Q8 dd (.head _);have da:∀t∈l2,Dj a t:=λt ht=>Q8 dd (.tail _ ht);have db:∀t∈l2,Dj b t:=λt ht=>Q8 dd.tail ht;obtain⟨y,hy⟩:∃y,y=Yz (a++b):=⟨_,rfl⟩;rw[<-hy];have my:∀x,x∈y↔x∈a\/x∈b:=λx=>by rw[hy,(Wo _).mem_iff,Qo]
 have ca:=h.okl a ma;have cb:=h.okl b mb;have gy:Zi9 n y:=by
  refine⟨?_,?_,λx hx=>?_⟩
  .obtain⟨x,hx⟩:=Q9 a ca.ne
   exact List.ne_nil_of_mem ((my x).mpr (.inl hx))
  .rw[hy]
   refine Yf7 (Zaw _) ((Wo _).nodup_iff.mpr (JW.mpr ⟨ca.up.imp λq=>Int.ne_of_lt q,cb.up.imp λq=>Int.ne_of_lt q,λx hx z hz e=>dab x hx (e▸hz)⟩))
  .rcases(my x).mp hx with q|q
   .exact ca.pt x q
   .exact cb.pt x q
 have dy:∀t∈l2,Dj y t:=λt ht x hx=>((my x).mp hx).elim (da t ht x) (db t ht x);have sy:∀s∈f,(∀x∈s,x∈y)\/Dj s y:=λs hs=>by
  rcases h.inn s hs a ma with q|q
  .exact .inl λx hx=>(my x).mpr (.inl (q x hx))
  .rcases h.inn s hs b mb with r|r
   .exact .inl λx hx=>(my x).mpr (.inr (r x hx))
   .exact .inr λx hx hz=>((my x).mp hz).elim (q x hx) (r x hx)
 have ny:y∉f:=λhf=>by
  obtain⟨u,hu⟩:=Q9 a ca.ne;obtain⟨v,hv⟩:=Q9 b cb.ne;rcases h.inn y hf a ma with q|q
  .exact dab v (q v ((my v).mpr (.inr hv))) hv
  .exact q u ((my u).mpr (.inl hu)) hu
 refine⟨λs hs=>?_,?_,⟨λs hs=>?_,λs hs t ht=>?_⟩,?_,λs hs t ht=>?_⟩
 .rcases Qo.mp hs with hs|hs
  .exact h.okl s (m2 s hs)
  .rw[Xj.mp hs];exact gy
 .refine U7.mpr ⟨dd.tail.tail,Bb ..,λs hs t ht=>?_⟩
  rw[Xj.mp ht];exact λx hx hz=>dy s hs x hz hx
 .rcases Qo.mp hs with hs|hs
  .exact h.okf.ok s hs
  .rw[Xj.mp hs];exact gy
 .have one:∀s∈f,Cp s y:=λs hs=>(sy s hs).elim (λq=>.inr (.inl q)) .inl
  rcases Qo.mp hs with hs|hs<;>rcases Qo.mp ht with ht|ht
  .exact h.okf.cp s hs t ht
  .rw[Xj.mp ht];exact one s hs
  .rw[Xj.mp hs];exact(one t ht).symm
  .rw[Xj.mp hs,Xj.mp ht];exact .inr (.inl λ_ q=>q)
 .exact JW.mpr ⟨h.nd,Qn.mpr ⟨(λz=>nomatch z),.nil⟩,λs hs t ht e=>by rw[Xj.mp ht]at e;exact ny (e▸hs)⟩
 .rcases Qo.mp hs with hs|hs<;>rcases Qo.mp ht with ht|ht
  .exact h.inn s hs t (m2 t ht)
  .rw[Xj.mp ht];exact sy s hs
  .rw[Xj.mp hs];exact .inr (dy t ht)
  .rw[Xj.mp hs,Xj.mp ht];exact .inl λ_ q=>q
def ones(n:Nat):List (List Int):=(Xw (n-1)).map λi:Nat=>[1+(i:Int)]
theorem Clu.ones(n:Nat):Clu n (My.ones n) (My.ones n):=by
 have mo:∀s∈My.ones n,∃i:Nat,i+1<n/\s=[1+(i:Int)]:=λs hs=>by
  obtain⟨i,hi,rfl⟩:=XM.mp hs;exact⟨i,by have:=XF.mp hi;omega,rfl⟩
 have g:∀s∈My.ones n,Zi9 n s:=λs hs=>by
  obtain⟨i,hi,rfl⟩:=mo s hs;exact⟨(λz=>nomatch z),Bb ..,λx hx=>by rw[Xj.mp hx];omega⟩
 have c:∀s∈My.ones n,∀t∈My.ones n,(∀x∈s,x∈t)\/Dj s t:=λs hs t ht=>by
  obtain⟨i,hi,rfl⟩:=mo s hs;obtain⟨j,hj,rfl⟩:=mo t ht
  by_cases e:i=j
  .subst e;exact .inl λ_ q=>q
  .exact .inr λx hx hy=>e (by have:=Xj.mp hx;have:=Xj.mp hy;omega)
 refine⟨g,?_,⟨g,λs hs t ht=>(c s hs t ht).elim (λq=>.inr (.inl q)) .inl⟩,?_,c⟩
 .unfold My.ones
  rw[Bo];exact List.pairwise_lt_range.imp fun{i j} q x hx hy=>by have:=Xj.mp hx;have:=Xj.mp hy;omega
 .unfold My.ones JS
  rw[Bo];exact List.pairwise_lt_range.imp fun{i j} q e=>by injection e with e;omega
theorem Zlo(c:Int){n:Nat}(h1:1<=n)(hn:n<=10):∃Ls:List (List Int),Told Y8 [.int c,.int n] (.list (Ls.map Zg))/\Ls.length<=20/\Lam n Ls/\Ls.Nodup:=by
 obtain⟨vs,e0,hv⟩:=Zik c (2*n) (by omega);have s0:EvV (Zj Zfy (fC (.int 2)) (Ze 1)) (Zf0 8 [.int c,.int n]) (.int (2*n:Nat)):=(Zd6 Yb Za (by decide)).cast (YT Xl (by omega));have e1:Zz4 (Yu 1 [] (iRb (Zc (fC (.int 1)) (Zc (Ze 1) Zo))) (gNm 0) Zil (Zek (Zc (Ze 0) Zo))) [YB (.fz (.int c)),YB (.fz (.int n)),YB (.fz (Zg vs)),YC,YC,YC,YC,YC]=YB (lO (ones n),[YB (.fz (.int c)),YB (.fz (.int n)),YB (.fz (Zg vs)),YC,YC,YC,YC,YC]):=by
  obtain⟨rs,h1,h2⟩:=Zuw (caps:=[]) (it:=iRb (Zc (fC (.int 1)) (Zc (Ze 1) Zo))) (me:=Zek (Zc (Ze 0) Zo)) (cs:=[]) (δ:=[YB (.fz (.int c)),YB (.fz (.int n)),YB (.fz (Zg vs)),YC,YC,YC,YC,YC]) (Xw (n-1)) (λi:Nat=>Xl (1+(i:Int))) (λi:Nat=>Zg [1+(i:Int)]) (Z49 (m:=1) (n:=n) (Zb Yb (Zb Za Zm)) (by decide) (by omega)) (by rw[Qd];omega) rfl λi _=>Ybo Za;unfold Zz4;rw[h1,Xh];dsimp only;rw[h2];unfold lO ones;rw[XQ,XQ,XQ];rfl
 have lo:(ones n).length=n-1:=by unfold ones;rw[Xe,Qd]
 have key:∃d,Told Y8 [.int c,.int n] d/\∃Ls:List (List Int),d= .list (Ls.map Zg)/\Ls.length<=20/\Lam n Ls/\Ls.Nodup:=by
  refine Zm1 rfl<|Jh (Zw (Zq (Zb Za (Zb s0 Zm)) e0))<|Jh (Ze2 e1)<|Jh (Ze2 (Zz7 (i:=3) rfl))<|Zif (ds:=Zda 0 ((n:Int)-2).toNat) (λi δ=>∃(l f:List (List Int)) (z5 z6 z7:Option OT),δ=[YB (.fz (.int c)),YB (.fz (.int n)),YB (.fz (Zg vs)),YB (lO l),YB (lO f),z5,z6,z7]/\l.length+i=n-1/\sL l=n-1/\f.length=n-1+i/\Clu n l f) (Ybp (Zb (Zof Za Yb) Zm) (by omega) (by omega)) ⟨ones n,ones n,_,_,_,rfl,lo,?_,lo,Clu.ones n⟩ (λi d δ hd q=>?_) λδ' q=>?_
  .unfold sL ones
   rw[XQ];generalize n-1=k
   induction k with
   | zero=>rfl
   | succ k ih=>rw[List.range_succ,Qg,List.sum_append,ih];rfl
  .obtain⟨l,f,z5,z6,z7,rfl,ll,sl,lf,cl⟩:=q
   obtain⟨hi,rfl⟩:=Zab hd;rw[Bq];obtain⟨j,ej,hj⟩:=Zeo (vs.getD (2*i) 0) (n:=l.length) (by omega);have l1:(l.eraseIdx j).length=l.length-1:=List.length_eraseIdx_of_lt hj;obtain⟨j2,ej2,hj2⟩:=Zeo (vs.getD (2*i+1) 0) (n:=(l.eraseIdx j).length) (by omega);have l2:((l.eraseIdx j).eraseIdx j2).length=l.length-2:=by rw[List.length_eraseIdx_of_lt hj2,l1];omega
   have x1:=Zj3 l j hj;have x2:=Zj3 (l.eraseIdx j) j2 hj2;have cl2:=cl.step (Zea l j hj) (Zea (l.eraseIdx j) j2 hj2);have p1:EvV (Zj Zej (Ym gIx (Ze 2) (Zj Zfy (fC (.int 2)) (Ze 5))) (J1 Zac (Zc (Zkr 3) Zo))) [YB (.fz (.int c)),YB (.fz (.int n)),YB (.fz (Zg vs)),YB (lO l),YB (lO f),YB (.fz (.int i)),z6,z7] (.int j):=(Ji (j:=l.length) ((Wb (p:=vs) (i:=2*(i:Int)) Za (Zd6 Yb Za (by decide)) (by omega) (by omega)).cast (by rw[show(2*(i:Int)).toNat=2*i by omega])) ((Zeq (Zlp rfl (Zkb l))).cast (by rw[Xe])) (by omega)).cast (YT _ ej);have p2:EvV (Zj Zej (Ym gIx (Ze 2) (Zj Zcb (Zj Zfy (fC (.int 2)) (Ze 5)) (fC (.int 1)))) (J1 Zac (Zc (Zkr 3) Zo))) [YB (.fz (.int c)),YB (.fz (.int n)),YB (.fz (Zg vs)),YB (lO (l.eraseIdx j)),YB (lO f),YB (.fz (.int i)),YB (.fz (Zg (l.getD j []))),z7] (.int j2):=(Ji (j:=(l.eraseIdx j).length) ((Wb (p:=vs) (i:=2*(i:Int)+1) Za (Ws (Zd6 Yb Za (by decide)) Yb) (by omega) (by omega)).cast (by rw[show(2*(i:Int)+1).toNat=2*i+1 by omega])) ((Zeq (Zlp rfl (Zkb _))).cast (by rw[Xe])) (by omega)).cast (YT _ ej2);obtain⟨y,hy⟩:∃y,y=Yz (l.getD j []++(l.eraseIdx j).getD j2 []):=⟨_,rfl⟩;rw[<-hy]at cl2;have ly:y.length=(l.getD j []).length+((l.eraseIdx j).getD j2 []).length:=by rw[hy,(Wo _).length_eq,XH]
   refine⟨_,_,rfl,.inl (Y0 (popS (i:=6) (Yjf (i:=3) rfl p1 hj (by omega)))<|Y0 (popS (i:=7) (Yjf (i:=3) rfl p2 hj2 (by omega)))<|Y0 (δ':=[YB (.fz (.int c)),YB (.fz (.int n)),YB (.fz (Zg vs)),YB (lO ((l.eraseIdx j).eraseIdx j2++[y])),YB (lO f),YB (.fz (.int i)),YB (.fz (Zg (l.getD j []))),YB (.fz (Zg ((l.eraseIdx j).getD j2 [])))]) ?_ ?_),(l.eraseIdx j).eraseIdx j2++[y],f++[y],YB (.fz (.int i)),YB (.fz (Zg (l.getD j []))),YB (.fz (Zg ((l.eraseIdx j).getD j2 []))),rfl,by rw[XH];show _+1+_=_;omega,?_,by rw[XH];show _+1=_;omega,cl2⟩
   .refine(Zig (ts:=(((l.eraseIdx j).eraseIdx j2).map Zg).map OT.fz) (d:=Zg y) ?_ rfl (by rw[Xe,Xe];omega)).trans (by rw[Zvz];rfl)
    rw[hy];exact Zqv (Zb (Ybf Za Za (by omega) (by omega)) Zm) (Zq2 (by rw[XH];omega)) (Znj _)
   .refine(Zig (ts:=(f.map Zg).map OT.fz) (d:=Zg y) ?_ rfl (by rw[Xe,Xe];omega)).trans (by rw[Zvz f y];rfl)
    exact Zzm rfl
   .unfold sL
    rw[Qg,List.sum_append];show sL _+(y.length+0)=_;omega
  .obtain⟨l,f,z5,z6,z7,rfl,ll,sl,lf,cl⟩:=q
   rw[Wl]at lf;exact Ydp (o:=lO f) rfl ⟨f,Zkb f,by omega,cl.okf,cl.nd⟩
 obtain⟨d,h,Ls,rfl,r⟩:=key;exact⟨Ls,h,r⟩
theorem Z4h:∀(k:Nat) (s:List Int),s.Pairwise (·<·)->(∀x∈s,1<=x/\x<=(k:Int))->s∈sdL k:=by
 intro k
 induction k with
 | zero=>
  intro s _ h;cases s with
  | nil=>exact .head _
  | cons x s=>have:=h x (.head _);omega
 | succ k ih=>
  intro s hs h
  by_cases c:((k:Int)+1)∈s
  .refine Qo.mpr (.inr (XM.mpr ⟨s.filter λx=>decide (x<=(k:Int)),ih _ (hs.filter _) λx hx=>?_,?_⟩))
   .obtain⟨h1,h2⟩:=Qs.mp hx
    exact⟨(h x h1).1,YW h2⟩
   .refine Ztf (U7.mpr ⟨hs.filter _,Bb ..,λx hx y hy=>?_⟩) hs λx=>?_
    .rw[Xj.mp hy]
     have:=YW (Qs.mp hx).2;omega
    .rw[Qo,Qs,decide_eq_true_eq,Xj]
     constructor
     .rintro(⟨q,_⟩|rfl)
      .exact q
      .exact c
     .intro q
      have:=(h x q).2
      by_cases e:x=(k:Int)+1
      .exact .inr e
      .exact .inl ⟨q,by omega⟩
  .refine Qo.mpr (.inl (ih s hs λx hx=>⟨(h x hx).1,?_⟩))
   have:=(h x hx).2;have:x≠(k:Int)+1:=λe=>c (e▸hx);omega
theorem Zvf:∀k,(sdL k).Nodup:=by
 intro k
 induction k with
 | zero=>exact Qn.mpr ⟨(λz=>nomatch z),.nil⟩
 | succ k ih=>
  refine JW.mpr ⟨ih,?_,λs hs t ht e=>?_⟩
  .unfold JS
   rw[Bo];exact ih.imp λq e=>q (List.append_cancel_right e)
  .obtain⟨r,_,rfl⟩:=XM.mp ht
   have:=((Zp0 k s hs).2.2 ((k:Int)+1) (by rw[e];exact Qo.mpr (.inr (.head _)))).2;omega
theorem Zsg(n:Nat)(h1:1<=n)(s:List Int):s∈sdL (n-1)/\s≠[]↔Zi9 n s:=by
 constructor
 .rintro⟨a,b⟩
  obtain⟨_,h2,h3⟩:=Zp0 _ s a;exact⟨b,h2,λx hx=>by have:=h3 x hx;omega⟩
 .rintro⟨a,b,c⟩
  exact⟨Z4h _ s b λx hx=>by have:=c x hx;omega,a⟩
theorem Zsc{n:Nat}(hn:n<=100)(hb:0<b)(bb:Bt 300 b)(bR:∀i j,i<n->j<n->Bt 300 (R i j)):∃(m k:Int) (S:Nat->Nat->Int),Told Yd [tbD (Zcm n R b)] (.int m)/\Told Yw [.int m,tbD (Zcm n R b)] (Jo n S)/\0<m/\0<k/\b=m*k/\Bt 300 m/\∀x y,x<n->y<n->k*S x y=R x y:=by
 have hz:∀r∈Zcm n R b,r.length<=1000:=λr hr=>by
  unfold Zcm at hr;obtain⟨x,_,rfl⟩:=XM.mp hr;rw[Xe,Qd];omega
 have hB:Z9r (Zcm n R b) b:=λr hr q hq=>by
  unfold Zcm at hr;obtain⟨x,_,rfl⟩:=XM.mp hr;obtain⟨y,_,rfl⟩:=XM.mp hq;exact Z6q (by omega)
 have hN:∀r∈Zcm n R b,∀q∈r,Bt 300 q.num:=λr hr q hq=>by
  unfold Zcm at hr;obtain⟨x,hx,rfl⟩:=XM.mp hr;obtain⟨y,hy,rfl⟩:=XM.mp hq;exact Zvg (by omega) (bR x y (XF.mp hx) (XF.mp hy))
 obtain⟨m,e1,m0,hm,k,rfl⟩:=Zha hb bb (by decide) (Zcm n R b) hz hB;have k0:0<k:=by
  by_cases c:0<k
  .exact c
  .have:=Us (a:=m) (b:=k) (by omega) (by omega)
   omega
 have bm:Bt 300 m:=Zlz hb ⟨k,rfl⟩ bb;have e2:=Zkn m0 bm (Zcm n R (m*k)) (by rw[Zo6];omega) hz hm hN;have er:QJ ((Zcm n R (m*k)).map λr=>.list (r.map λq=>.int (scI m q)))=Jo n λi j=>scI m (XR (R i j) (m*k)):=by
  unfold Zcm Jo;rw[XQ];refine YT QJ (Xr λi _=>?_);show QJ _=Zya _ _;rw[XQ];rfl
 rw[er]at e2;refine⟨m,k,_,e1,e2,m0,k0,rfl,bm,λx y hx hy=>?_⟩;have hd:((XR (R x y) (m*k)).den:Int)∣m:=hm _ (XM.mpr ⟨x,XF.mpr hx,rfl⟩) _ (XM.mpr ⟨y,XF.mpr hy,rfl⟩);have:=Ybv hd;have e:((k*scI m (XR (R x y) (m*k)):Int):Rat)=((R x y:Int):Rat):=by
  have nk:((k:Int):Rat)≠0:=by
   intro z;have:k=0:=by exact_mod_cast z
   omega
  have nm:((m:Int):Rat)≠0:=by
   intro z;have:m=0:=by exact_mod_cast z
   omega
  rw[Rat.intCast_mul,this,QZ,Rat.intCast_mul];rw[Rat.mul_comm,Rat.mul_assoc];exact Rat.div_mul_cancel (λz=>(Rat.mul_eq_zero.mp z).elim nm nk)
 exact_mod_cast e
def wtL(Ls:List (List Int))(W:List Int->Int)(b:Int):List (List Int×Rat):=(Ls.filter λA=>decide (0<W A)).map λA=>(A,XR (W A) (2*b))
theorem Z3l{n:Nat}(h:δ[0]? =YB (YB (.fz (tbD (Zcm n R b))))):EvV (J1 Zac (Zc (Ze 0) Zo)) δ (.int n):=Zay (Zb (Za h) Zm) (by rw[Z2w,Zo6])
theorem Znd{n:Nat}(hn:n<=10)(hb:0<b)(bb:Bt 300 b)(bR:∀i j,i<n->j<n->Bt 300 (R i j))(eC:Told Yl [.int n] (.list (Ls.map Zg)))(hL:∀s∈Ls,Zi9 n s)(lL:Ls.length<=1000){W:List Int->Int}(hW:∀A∈Ls,∀m,Lst R A (away n A) m->max 0 m=W A):Told W6 [tbD (Zcm n R b),fnD "tree_rule"] (Zrv (wtL Ls W b)):=by
 obtain⟨m,k,S,e1,e2,m0,k0,rfl,bm,sc⟩:=Zsc (n:=n) (by omega) hb bb bR;obtain⟨δ',e3,z5,z6,rfl⟩:=Zdy (it:=Zfz (Z4 Yl (Zc (J1 Zac (Zc (Ze 0) Zo)) Zo))) (g:=gNm 5) (S:=(Z5 (wE (Z4 Z9 (Zc (Ze 3) (Zc (Ze 5) (Zc (Ze 1) Zo)))) (Y9 6))
  (Zbg (tV (Zj gGt (Ze 6) (fC (.int 0))))
  (Wf 4 (Zgn (Zc (Ze 5) (Zc (Z4 Wz (Zc (Ze 6) (Zc (Zj Zfy (fC (.int 2)) (Ze 2)) Zo))) Zo))))
  fNx))) (δ:=[YB (.fz (tbD (Zcm n R (m*k)))),YB (.fz (fnD "tree_rule")),YB (.fz (.int m)),YB (.fz (Jo n S)),YB (.nd []),YC,YC]) (ds:=Ls.map Zg)
  (λi δ=>∃z5 z6,δ=[YB (.fz (tbD (Zcm n R (m*k)))),YB (.fz (fnD "tree_rule")),YB (.fz (.int m)),YB (.fz (Jo n S)),YB (Z8m (wtL (Ls.take i) W (m*k))),z5,z6]) (Jw (Zq (Zb (Z3l rfl) Zm) eC)) ⟨YC,YC,rfl⟩ (λi d δ hd q=>by
   obtain⟨z5,z6,rfl⟩:=q;rw[Xm]at hd;cases e:Ls[i]? with
   | none=>rw[e]at hd;cases hd
   | some s=>
    rw[e]at hd;cases hd;have gs:=hL s (Qy e);have ls:s.length<=100:=by
     obtain⟨x,hx⟩:=Q9 s gs.ne;have n1:1<=n:=by have:=gs.pt x hx;omega
     have:=(Zp0 _ s ((Zsg n n1 s).mpr gs).1).1;omega
    obtain⟨mS,hm,eL⟩:=Zzr (S:=S) (A:=s) (n:=n) (by omega) ls gs.pt gs.ne;have hR:=hW s (Qy e) _ (hm.scaled k0 sc (λx hx=>⟨by have:=(gs.pt x hx).1;omega,(gs.pt x hx).2⟩) λx hx=>by
     obtain⟨a1,a2,_⟩:=Zbt.mp hx;exact⟨a1,a2⟩)
    rw[Zx2 k0]at hR;have eF:=Znv (n:=302) (t:=max 0 mS) (b:=2*m) (by omega) (Bt.mul (m:=2) (Bt.of_lt (by decide) (by decide)) bm);have eD:XR (W s) (2*(m*k))=XR (max 0 mS) (2*m):=by rw[<-hR,show 2*(m*k)=(2*m)*k by rw[Int.mul_assoc],Zi4 k0 (by omega)]
    have cw:0<max 0 mS↔0<W s:=by
     rw[<-hR];exact⟨λq=>Int.mul_pos k0 q,λq=>Int.not_le.mp λz=>by have:=Us (a:=k) (by omega) z;omega⟩
    have et:wtL (Ls.take (i+1)) W (m*k)=wtL (Ls.take i) W (m*k)++if 0<W s then[(s,XR (W s) (2*(m*k)))]else[]:=by
     unfold wtL;rw[List.take_succ,e,Option.toList_some,List.filter_append,Qg]
     by_cases c:0<W s
     .rw[YL c,Vz (p:=λA=>decide (0<W A)) (YQ c)];rfl
     .rw[YM c,VB (p:=λA=>decide (0<W A)) (by rw[YS c];exact Xn)];rfl
    have ll:(wtL (Ls.take i) W (m*k)).length<=1000:=by
     unfold wtL;rw[Xe];exact QB (List.length_filter_le ..) (QB (List.length_take_le' ..) lL)
    by_cases c:0<max 0 mS
    .refine⟨_,_,rfl,.inl (Y0 (Zw (Zq (Zb Za (Zb Za (Zb Za Zm))) eL)) (Za8 (Zdm (Zne Za Yb (YQ c))) (Zig (d:=ctD (s,XR (max 0 mS) (2*m))) (ts:=((wtL (Ls.take i) W (m*k)).map ctD).map OT.fz) (Zbd (Zb Za (Zb (Zq (Zb Za (Zb (Zd6 Yb Za) Zm)) eF) Zm)) (show 2<=1000 by decide)) rfl (by rw[Xe,Xe];omega)))),YB (.fz (Zg s)),YB (.fz (.int (max 0 mS))),?_⟩
     rw[et,YL (cw.mp c),eD];show _=[_,_,_,_,YB (Z8m (wtL (Ls.take i) W (m*k)++[(s,XR (max 0 mS) (2*m))])),YB (.fz (Zg s)),YB (.fz (.int (max 0 mS)))];unfold Z8m;rw[Qg,Qg];rfl
    .refine⟨_,_,rfl,.inl (Y0 (Zw (Zq (Zb Za (Zb Za (Zb Za Zm))) eL)) (Yn (Zdm (Zne Za Yb (YS c))) rfl)),YB (.fz (Zg s)),YB (.fz (.int (max 0 mS))),?_⟩
     rw[et,YM (λz=>c (cw.mpr z)),JP];rfl)
 rw[Xe,Ua]at e3;exact Z1 rfl<|Z2 (Zw (Zq (Zb Za Zm) e1))<|Z2 (Zw (Zq (Zb Za (Zb Za Zm)) e2))<|Z2 Zhi<|Z2 e3 (Ydh rfl (Zts _))
def al3(x y z:Int):Bool:=decide ((Yz [x,y,z]).getD 1 0<(Yz [x,y,z]).getD 2 0)
theorem Zna(h:ns.length<64):Zp2 [.tuple (ns.map Xl)]=YB (.nd (((Yz ns).map Xl).map OT.fz)):=by
 show((Zc5 (ns.map Xl)).bind λns=>if ns.length<64 then YB (OT.nd (((Yz ns).map Xl).map OT.fz))else YC)=_;rw[Ju,Xh,YL h]
theorem Zyx(x y z:Int):Told Z6 [.tuple [.int x,.int y,.int z]] (.bool (al3 x y z)):=by
 have l3:(Yz [x,y,z]).length=3:=(Wo _).length_eq;exact Z1 rfl<|Z2 (Zw (Zqv (Zb (Za (d:=.tuple ([x,y,z].map Xl)) rfl) Zm) (Zna (show 3<64 by decide)) (Znj _))) (Yg (Zmk (Wb Za (Yb (d:=.int 1)) (by decide) (by rw[l3];decide)) (Wb Za (Yb (d:=.int 2)) (by decide) (by rw[l3];decide)) rfl))
theorem Zng{x:Int}:al3 x y z=YD↔(x<z/\y<z)\/(x<y/\z<y)\/(y<x/\z<x):=by
 unfold al3;rw[decide_eq_true_iff]
 by_cases a:y<=z
 .have e1:Yz [y,z]=[y,z]:=by show(if y<=z then _ else _)=_;rw[YL a]
  by_cases b:x<=y
  .have:Yz [x,y,z]=[x,y,z]:=by show insI x (Yz [y,z])=_;rw[e1];show(if x<=y then _ else _)=_;rw[YL b]
   rw[this];show y<z↔_;omega
  .by_cases c:x<=z
   .have:Yz [x,y,z]=[y,x,z]:=by show insI x (Yz [y,z])=_;rw[e1];show(if x<=y then _ else y::if x<=z then _ else _)=_;rw[YM b,YL c]
    rw[this];show x<z↔_;omega
   .have:Yz [x,y,z]=[y,z,x]:=by show insI x (Yz [y,z])=_;rw[e1];show(if x<=y then _ else y::if x<=z then _ else _)=_;rw[YM b,YM c];rfl
    rw[this];show z<x↔_;omega
 .have e1:Yz [y,z]=[z,y]:=by show(if y<=z then _ else _)=_;rw[YM a];rfl
  by_cases b:x<=z
  .have:Yz [x,y,z]=[x,z,y]:=by show insI x (Yz [y,z])=_;rw[e1];show(if x<=z then _ else _)=_;rw[YL b]
   rw[this];show z<y↔_;omega
  .by_cases c:x<=y
   .have:Yz [x,y,z]=[z,x,y]:=by show insI x (Yz [y,z])=_;rw[e1];show(if x<=z then _ else z::if x<=y then _ else _)=_;rw[YM b,YL c]
    rw[this];show x<y↔_;omega
   .have:Yz [x,y,z]=[z,y,x]:=by show insI x (Yz [y,z])=_;rw[e1];show(if x<=z then _ else z::if x<=y then _ else _)=_;rw[YM b,YM c];rfl
    rw[this];show y<x↔_;omega
def alS(S:Nat->Nat->Int)(p:List Nat):Bool:=match p with
 | [i,j,k,l]=>al3 (S i j+S k l) (S i k+S j l) (S i l+S j k)
 | _=>YF
def Z0j(n:Nat)(S:Nat->Nat->Int):Option Xa:=(rs n 4).findSome? λp=>if alS S p=YD then YB (tpN p)else YC
theorem Zkk{n:Nat}(hn:n<=10)(S:Nat->Nat->Int):Told Jp [Jo n S] ((Z0j n S).getD .none):=by
 have hle:∀{δ:Zi},δ[0]? =YB (YB (.fz (Jo n S)))->EvV (J1 Zac (Zc (Ze 0) Zo)) δ (.int n):=λh=>Zay (Zb (Za h) Zm) (Zlw n S);refine Z1 rfl<|Zkw (α:=Nat) (I:=λδ=>∃z1 z2 z3 z4,δ=[YB (.fz (Jo n S)),z1,z2,z3,z4]) (Zjo (α:=List Nat) (J:=λδ=>∃z1 z2 z3 z4,δ=[YB (.fz (Jo n S)),z1,z2,z3,z4]) tpN _ (rs n 4) (Jw (Zq (Zb (hle rfl) (Zb Yb Zm)) (Zrx hn (by decide)))) ⟨YC,YC,YC,YC,rfl⟩ (λ_ h=>h) λp hp δ q=>?_) λδ q=>?_
 .obtain⟨z1,z2,z3,z4,rfl⟩:=q
  obtain⟨l4,_,lt,_⟩:=Ztd hp
  match p,l4 with
  | [i,j,k,l],_=>
   have hi:=lt i (.head _);have hj:=lt j (.tail _ (.head _));have hk:=lt k (.tail _ (.tail _ (.head _)));have hl:=lt l (.tail _ (.tail _ (.tail _ (.head _))));have et:EvT (tD (Z4 Z6 (Zc (Z4 Z3 (Zc (Ze 0) (Zc (Ze 1) (Zc (Ze 2) (Zc (Ze 3) (Zc (Ze 4) Zo)))))) Zo))) [YB (.fz (Jo n S)),YB (.fz (.int i)),YB (.fz (.int j)),YB (.fz (.int k)),YB (.fz (.int l))] (alS S [i,j,k,l]):=Zj7 (Zq (Zb (Zq (Zb Za (Zb Za (Zb Za (Zb Za (Zb Za Zm))))) (Zeb hi hj hk hl)) Zm) (Zyx _ _ _));refine⟨_,rfl,?_⟩;cases c:alS S [i,j,k,l]with
   | true=>
    rw[c]at et;rw[YL rfl];exact Zlt et (Zps (Zbd (Zb Za (Zb Za (Zb Za (Zb Za Zm)))) (show 4<=1000 by decide)))
   | false=>
    rw[c]at et;rw[YM Xn];exact Zl0 et ⟨_,_,_,_,rfl⟩
 .obtain⟨z1,z2,z3,z4,rfl⟩:=q
  exact Yg Yb
def clp(n:Nat)(R:Nat->Nat->Int)(i j:Nat):Int:=if i<n/\j<n then R i j else 0
theorem Zo3{n:Nat}(hi:i<n)(hj:j<n):clp n R i j=R i j:=YL ⟨hi,hj⟩
theorem Zxw(n:Nat)(R:Nat->Nat->Int)(b:Int):Zcm n R b=Zcm n (clp n R) b:=by
 unfold Zcm;exact Xr λi hi=>Xr λj hj=>by rw[Zo3 (XF.mp hi) (XF.mp hj)]
theorem Zg6{f g:α->Option β}:∀{l:List α},(∀x∈l,f x=g x)->l.findSome? f=l.findSome? g
 | [],_=>rfl
 | x::l,h=>by rw[List.findSome?_cons,List.findSome?_cons,h x (.head _),Zg6 λy hy=>h y (.tail _ hy)]
theorem Zva{n:Nat}{c c':Nat->Nat->Nat->Bool}{v:Nat->Nat->Nat->Xa}(h:∀i j k,i<n->j<n->k<n->c i j k=c' i j k):sc3 n c v=sc3 n c' v:=by
 unfold sc3;exact Zg6 λi hi=>Zg6 λj hj=>Zg6 λk hk=>by rw[h i j k (XF.mp hi) (XF.mp hj) (XF.mp hk)]
theorem Zu9{n:Nat}(hn:n<=10)(hb:0<b)(bb:Bt 300 b)(bR:∀i j,i<n->j<n->Bt 300 (R i j)):Told Wg [tbD (Zcm n R b)] ((sc3 n (shI R) tpI).getD .none):=by
 have e:=Zia hn (Ye9 (R:=clp n R) hb bb λi j=>by
  unfold clp;split
  .rename_i c;exact bR i j c.1 c.2
  .exact Bt.mono (m:=1) (Bt.of_lt (by decide) (by decide)) (by decide))
 rw[Yfb hb,<-Zm0,<-Zxw]at e
 rwa[Zva (c:=shI (clp n R)) (c':=shI R) λi j k hi hj hk=>by unfold shI;rw[Zo3 hi hj,Zo3 hj hk,Zo3 hi hk]]at e
theorem Zti{k x:Int}(hk:0<k):k*x<k*y↔x<y:=⟨λh=>Int.lt_of_mul_lt_mul_left h (by omega),λh=>Int.mul_lt_mul_of_pos_left h hk⟩
theorem Zq1{k x:Int}(hk:0<k):al3 (k*x) (k*y) (k*z)=al3 x y z:=by
 rw[Bool.eq_iff_iff,Zng,Zng];simp only[Zti hk]
theorem Zn0{n:Nat}{k:Int}(hk:0<k)(sc:∀x y,x<n->y<n->k*S x y=R x y):Z0j n S=Z0j n R:=by
 unfold Z0j;refine Zg6 λp hp=>?_;obtain⟨l4,_,lt,_⟩:=Ztd hp
 match p,l4 with
 | [i,j,k',l],_=>
  have hi:=lt i (.head _);have hj:=lt j (.tail _ (.head _));have hk':=lt k' (.tail _ (.tail _ (.head _)));have hl:=lt l (.tail _ (.tail _ (.tail _ (.head _))));have e:alS R [i,j,k',l]=alS S [i,j,k',l]:=by
   show al3 _ _ _=al3 _ _ _;rw[<-sc i j hi hj,<-sc k' l hk' hl,<-sc i k' hi hk',<-sc j l hj hl,<-sc i l hi hl,<-sc j k' hj hk',<-Int.mul_add,<-Int.mul_add,<-Int.mul_add,Zq1 hk]
  rw[e]
def Zuc(n:Nat)(R:Nat->Nat->Int):Option Xa:=match sc3 n (shI R) tpI with|some d=>YB d|none=>Z0j n R
theorem Z1s{n:Nat}{c:Nat->Nat->Nat->Bool}{d:Xa}(h:sc3 n c tpI=YB d):∃i j k,d=tpI i j k/\i<n/\j<n/\k<n/\c i j k=YD:=by
 unfold sc3 at h;obtain⟨i,hi,h⟩:=Vs h;obtain⟨j,hj,h⟩:=Vs h;obtain⟨k,hk,h⟩:=Vs h
 by_cases e:c i j k=YD
 .rw[YL e]at h
  cases h;exact⟨i,j,k,rfl,XF.mp hi,XF.mp hj,XF.mp hk,e⟩
 .rw[YM e]at h;cases h
theorem Zjm{n:Nat}(hn:n<=10)(hb:0<b)(bb:Bt 300 b)(bR:∀i j,i<n->j<n->Bt 300 (R i j)):Told Jq [tbD (Zcm n R b)] ((Zuc n R).getD .none):=by
 have e:=Zu9 hn hb bb bR;unfold Zuc;cases q:sc3 n (shI R) tpI with
 | some d=>
  rw[q]at e;obtain⟨i,j,k,rfl,_⟩:=Z1s q;exact Z1 rfl<|Z2 (Zw (Zq (Zb Za Zm) e))<|Zb2 (Zfg (Zdm (Zy (Za (d:=tpI i j k) rfl) Yb rfl)) (Yg (Za (d:=tpI i j k) rfl)))
 | none=>
  rw[q]at e;obtain⟨m,k,S,e1,e2,m0,k0,rfl,bm,sc⟩:=Zsc (n:=n) (by omega) hb bb bR;have e3:=Zkk hn S;rw[Zn0 k0 sc]at e3;exact Z1 rfl<|Z2 (Zw (Zq (Zb Za Zm) e))<|Z2 (Yn (Zdm (Zy (Za (d:=.none) rfl) Yb rfl)) rfl) (Yg (Zq (Zb (Zq (Zb (Zq (Zb Za Zm) e1) (Zb Za Zm)) e2) Zm) e3))
theorem Z6j{n:Nat}{d:Xa}(h:Z0j n R=YB d):∃p,d=tpN p/\p∈rs n 4/\alS R p=YD:=by
 obtain⟨p,hp,h⟩:=Vs h
 by_cases e:alS R p=YD
 .rw[YL e]at h
  cases h;exact⟨p,rfl,hp,e⟩
 .rw[YM e]at h;cases h
theorem Zur{n:Nat}(hn:n<=10)(hb:0<b)(bb:Bt 300 b)(bR:∀i j,i<n->j<n->Bt 300 (R i j))(eC:Told Yl [.int n] (.list (Ls.map Zg)))(hL:∀s∈Ls,Zi9 n s)(lL:Ls.length<=1000){W:List Int->Int}(hW:∀A∈Ls,∀m,Lst R A (away n A) m->max 0 m=W A)(h:Zuc n R=YC):Told Ww [tbD (Zcm n R b)] (.tuple [.str "tree",Zrv (wtL Ls W b)]):=by
 have e:=Zjm hn hb bb bR;rw[h]at e;exact Z1 rfl<|Z2 (Zw (Zq (Zb Za Zm) e))<|Z2 (Yn (Zdm (Zy (Za (d:=.none) rfl) Yb rfl)) rfl) (Yg (Zbd (Zb Yb (Zb (Zq (Zb Za (Zb Yb Zm)) (Znd hn hb bb bR eC hL lL hW)) Zm)) (show 2<=1000 by decide)))
theorem Zyb{n:Nat}(LL:Lam n (Z.map Qa))(w0:∀q∈Z,0<=q.2):Zuc n (cz Z)=YC:=by
 have h1:sc3 n (shI (cz Z)) tpI=YC:=by
  cases q:sc3 n (shI (cz Z)) tpI with
  | none=>rfl
  | some d=>
   obtain⟨i,j,k,_,_,_,_,c⟩:=Z1s q;have:=YW c;have:=Z2c w0 i j k;omega
 have h2:Z0j n (cz Z)=YC:=by
  cases q:Z0j n (cz Z)with
  | none=>rfl
  | some d=>
   obtain⟨p,_,hp,c⟩:=Z6j q;obtain⟨l4,_⟩:=Ztd hp
   match p,l4 with
   | [i,j,k,l],_=>
    have c:al3 (cz Z i j+cz Z k l) (cz Z i k+cz Z j l) (cz Z i l+cz Z j k)=YD:=c;obtain⟨x,y,z,rfl,rfl,rfl,n1,n2,n3⟩:=Zt0 LL w0 i j k l;rw[Zng]at c;omega
 unfold Zuc;rw[h1];exact h2
theorem Zhe(x y:Nat):cz Z x y=cz Z y x:=by
 unfold cz;exact YT List.sum (Xr λq _=>by rw[Zp1])
theorem Z51{n:Nat}(LL:Lam n (Z.map Qa))(w0:∀q∈Z,0<=q.2)(h1:1<=n){A:List Int}(hA:Zi9 n A){m:Int}(hm:Lst (cz Z) A (away n A) m):max 0 m=2*wA Z A:=by
 refine Zsx LL w0 h1 hA ?_ λa ha b hb c e c0 cn cA e0 en eA=>?_
 .obtain⟨⟨⟨a,b⟩,hp,⟨c,e⟩,hq,rfl⟩,_⟩:=hm
  obtain⟨p1,p2⟩:=Ziu hp;obtain⟨q1,q2⟩:=Ziu hq;obtain⟨c0,_,cA⟩:=Zbt.mp q1;obtain⟨e0,_,eA⟩:=Zbt.mp q2;rcases(Zv1 (R:=cz Z) Zhe a b c e).2.2 with q|q
  .exact⟨a,p1,b,p2,c,e,⟨c0,cA⟩,⟨e0,eA⟩,q⟩
  .exact⟨a,p1,b,p2,e,c,⟨e0,eA⟩,⟨c0,cA⟩,q⟩
 .have hc:c∈away n A:=Zbt.mpr ⟨c0,cn,cA⟩
  have he:e∈away n A:=Zbt.mpr ⟨e0,en,eA⟩;rcases Z01 ha hb with d1|d1<;>rcases Z01 hc he with d2|d2
  .exact Br (hm.2 _ d1 _ d2) (Zv1 (R:=cz Z) Zhe a b c e).1
  .exact Z13 (R:=cz Z) Zhe a b c e▸Br (hm.2 _ d1 _ d2) (Zv1 (R:=cz Z) Zhe a b e c).2.1
  .exact Br (hm.2 _ d1 _ d2) (Zv1 (R:=cz Z) Zhe b a c e).2.1
  .exact Z13 (R:=cz Z) Zhe a b c e▸Br (hm.2 _ d1 _ d2) (Zv1 (R:=cz Z) Zhe b a e c).1
def trL(Ls:List (List Int))(Z:List (List Int×Int))(b:Int):List (List Int×Rat):=(Ls.filter λA=>decide (0<wA Z A)).map λA=>(A,XR (wA Z A) b)
theorem Ybl(hb:0<b):wtL Ls (λA=>2*wA Z A) b=trL Ls Z b:=by
 unfold wtL trL;rw[show(λA=>decide (0<2*wA Z A))= λA=>decide (0<wA Z A)from funext λA=>decide_eq_decide.mpr (by omega)];refine Xr λA _=>?_;rw[Int.mul_comm 2 b,Zi4 (by decide) hb]
theorem Zw7{n:Nat}(h1:1<=n)(hn:n<=10)(LL:Lam n (Z.map Qa))(w0:∀q∈Z,0<=q.2)(hb:0<b)(bb:Bt 300 b)(bR:∀i j,i<n->j<n->Bt 300 (cz Z i j))(eC:Told Yl [.int n] (.list (Ls.map Zg)))(hL:∀s∈Ls,Zi9 n s)(lL:Ls.length<=1000):Told Ww [tbD (Zcm n (cz Z) b)] (.tuple [.str "tree",Zrv (trL Ls Z b)]):=by
 have:=Zur hn hb bb bR eC hL lL (W:=λA=>2*wA Z A) (λA hA m hm=>Z51 LL w0 h1 (hL A hA) hm) (Zyb LL w0)
 rwa[Ybl hb]at this
theorem Z36:PyData.strOk "tree"=YD:=by decide +kernel
theorem Zqe(k:Nat)(L:List (List Int×Rat)):Told (Zt (k+5)) [.tuple [.str "tree",Zrv L],.tuple [.str "tree",Zrv L]] (.bool YD):=Zcs (ds:=[.str "tree",Zrv L]) (.inr rfl) λd m=>by
 rcases Xo.mp m with rfl|m
 .exact Zui (k+3) Z36
 rw[Xj.mp m];refine Zcs (k:=k+3) (ds:=L.map ctD) (.inl rfl) λd m=>?_;obtain⟨c,_,rfl⟩:=XM.mp m;refine Zcs (k:=k+2) (ds:=[Zg c.1,frD c.2]) (.inr rfl) λd m=>?_;rcases Xo.mp m with rfl|m
 .refine Zcs (k:=k+1) (ds:=c.1.map Xl) (.inl rfl) λd m=>?_
  obtain⟨i,_,rfl⟩:=XM.mp m;exact Zhf k i
 .rw[Xj.mp m];exact Zx1 k _
structure Tb(n:Nat)(R:Nat->Nat->Int):Prop where
 sy:∀i j,i<n->j<n->R i j=R j i
 dg:∀i,i<n->R i i=0
 nn:∀i j,i<n->j<n->0<=R i j
def sb(R:Nat->Nat->Int)(ps:List Nat):Nat->Nat->Int:=λi j=>R (ps.getD i 0) (ps.getD j 0)
theorem Z3x{a b c:FE}{x y z d:Xa}(ha:EvV a δ x)(hb:EvV b δ y)(hc:EvV c δ z)(h:Zl4 x y z=YB d):EvV (Zue a b c) δ d:=by
 obtain⟨t1,e1,d1⟩:=ha;obtain⟨t2,e2,d2⟩:=hb;obtain⟨t3,e3,d3⟩:=hc;refine⟨.fz d,?_,OT.data_fz _⟩;unfold Zue;rw[e1];show(b δ).bind _=_;rw[e2];show(c δ).bind _=_;rw[e3];show(Zl4 t1.data t2.data t3.data).bind _=_;rw[d1,d2,d3,h];rfl
theorem Z61{e j:FE}{d y:Xa}{t:Bool}{ks:List KY}{k:KY}(he:EvV e δ d)(hi:δ[i]? =YB (YB (.dc t ks ds)))(hj:EvV j δ y)(hk:Zlj y=YB k)(ht:Z0w k=t)(hl:ks.length<1000000):Zua i e j δ= .nx (δ.set i (YB (.dc t (Zle k ks) (Zly k d ks ds)))):=by
 obtain⟨t1,e1,d1⟩:=he;obtain⟨t2,e2,d2⟩:=hj;unfold Zua;rw[Zc4,e1,Wa];rw[hi];dsimp only;rw[Zc4,e2,Wa,d1,d2];rw[hk];dsimp only;rw[YL ⟨ht,by rw[Qh];omega⟩]
def lsN(l:List Nat):Xa:=.list (l.map λx:Nat=>.int (x:Int))
theorem Zpt(p:List Nat):Zac [lsN p]=YB (.int (p.length:Nat)):=by unfold lsN;rw[Zlu,Xe]
theorem Zqb{f g:Int->Int->Bool}{a b c:FE}{i j k:Int}(ha:EvV a δ (.int i))(hb:EvV b δ (.int j))(hc:EvV c δ (.int k))(h:f i j=YD)(hg:g j k=YD):EvV (Zl5 f g a b c) δ (.bool YD):=by
 obtain⟨_,a1,a2⟩:=ha;obtain⟨_,b1,b2⟩:=hb;obtain⟨_,c1,c2⟩:=hc;refine⟨.fz (.bool (g j k)),?_,by rw[hg];exact OT.data_fz _⟩;unfold Zl5;rw[a1,Xh,b1,Xh];dsimp only;rw[a2,b2];dsimp only;rw[YL h,c1,Xh,c2]
theorem Z45{n:Nat}{f:Nat->Nat->Xa}(h:δ[i]? =YB (YB (.fz (Zdg n f)))):EvV (J1 Zac (Zc (Ze i) Zo)) δ (.int n):=by
 have:=Zeq (δ:=δ) (e:=Ze i) (ds:=(Xw n).map λi=>.list ((Xw n).map λj=>f i j)) (Za h)
 rwa[Xe,Qd]at this
theorem Zqj{p:List Nat}(h:δ[i]? =YB (YB (.fz (lsN p))))(hp:p.Nodup)(hl:p.length<=1000):EvV (Zjr (Zc (Ze i) Zo)) δ (.int (p.length:Nat)):=by
 obtain⟨_,e1,d1⟩:=Zb (Za h) Zm;have em:p.map (λx:Nat=>Xl (x:Int))=(p.map λx:Nat=>(x:Int)).map Xl:=by rw[XQ];rfl
 refine⟨.fz (.int (Zvs (p.map λx:Nat=>(x:Int)))),?_,by
  rw[Zqk ?_,Xe,OT.data_fz];rw[JS,Bo];exact hp.imp λz e=>z (Int.ofNat.inj e)⟩
 unfold Zjr;rw[e1,Xh];dsimp only;rw[d1];unfold lsN;rw[em];show(Zc5 _).bind _=_;rw[Ju,Xh,YL (by rw[Xe];omega)]
theorem map_getD{α:Type}(p:List Nat)(f:Nat->α):p.map f=(Xw p.length).map λi=>f (p.getD i 0):=by
 refine List.ext_getElem (by rw[Xe,Xe,Qd]) λi h1 h2=>?_;rw[Xe]at h1;rw[List.getElem_map,List.getElem_map,List.getElem_range,Xb,Xi h1];rfl
theorem Zrc(h1:0<p.length)(hp:p.Nodup)(hb:∀x∈p,x<n)(hl:p.length<=1000):Told Za9 [Zdg n f,lsN p] (.bool YD):=by
 refine Z1 rfl<|Zi2 (ds:=p.map λx:Nat=>.int (x:Int)) (λk δ=>∃z,δ=[YB (.fz (Zdg n f)),YB (.fz (lsN p)),z]) (Jw Za) ⟨YC,rfl⟩ (λk d δ hd q=>?_) λδ' q=>?_
 .obtain⟨z,rfl⟩:=q
  rw[Xm]at hd;obtain⟨x,hx,rfl⟩:=JQ.mp hd;have hx:=hb x (Qy hx);have e:Told Zaf [Zdg n f,.int x] (.bool YD):=Z1 rfl<|Yg (Zqb Yb Za (Z45 rfl) (YQ (by omega)) (YQ (by omega)));exact⟨_,_,rfl,.inl (Yn (Zwp (Zj7 (Zq (Zb Za (Zb Za Zm)) e))) rfl),_,rfl⟩
 .obtain⟨z,rfl⟩:=q
  exact Yg (Zgd (Zne (Zay (Zb Za Zm) (Zpt p)) Yb (YQ (by omega))) (Zup (Zqj rfl hp hl) (Zay (Zb Za Zm) (Zpt p)) (YQ rfl)))
theorem Zrl(h1:0<p.length)(hp:p.Nodup)(hb:∀x∈p,x<n)(hl:p.length<=1000):Told Jr [Zdg n f,lsN p] (Zdg p.length λi j=>f (p.getD i 0) (p.getD j 0)):=by
 refine Z1 rfl<|Z2 (Yn (Zwp (Zj7 (Zq (Zb Za (Zb Za Zm)) (Zrc h1 hp hb hl)))) rfl) (Z2 Zhi ?_);refine Zi2 (ds:=p.map λx:Nat=>.int (x:Int)) (λk δ=>∃z,δ=[YB (.fz (Zdg n f)),YB (.fz (lsN p)),YB (.nd (((p.take k).map λa=>QJ (p.map λb=>f a b)).map OT.fz)),z]) (Jw Za) ⟨YC,rfl⟩ (λk d δ hd q=>?_) λδ' q=>?_
 .obtain⟨z,rfl⟩:=q
  rw[Xm]at hd;obtain⟨a,ha,rfl⟩:=JQ.mp hd;have am:=hb a (Qy ha);refine⟨_,_,rfl,.inl (Zig (d:=.list (p.map λb=>f a b)) (Zd1 (cs:=[YB (.fz (Zdg n f)),YB (.fz (.int a))]) p (λx:Nat=>Xl (x:Int)) _ (Jw Za) (by omega) rfl λb hm=>Zyj (i0:=1) (i9:=2) (i10:=0) am (hb b hm) rfl rfl rfl) rfl (by rw[Xe,Xe,Vy];omega)),YB (.fz (.int a)),?_⟩;have tk:p.take (k+1)=p.take k++[a]:=by rw[List.take_succ,ha];rfl
  rw[tk,Qg,Qg];rfl
 .obtain⟨z,rfl⟩:=q
  refine Ydh rfl ?_;rw[Xe,Ua,OT.data_nd,OT.map_fz,map_getD];unfold Zdg;exact YT QJ (Xr λi _=>YT QJ (map_getD p _))
theorem Zx6{n:Nat}{p:List Nat}(h1:0<p.length)(hp:p.Nodup)(hb:∀x∈p,x<n)(hl:p.length<=1000):Told Jr [tbD (Zcm n R b),lsN p] (tbD (Zcm p.length (sb R p) b)):=by
 rw[Zm0,Zm0];exact Zrl h1 hp hb hl
def sx(A:List Int)(x z:Nat):Prop:=((z:Int)∈A↔(x:Int)∈A)
structure LsN(n:Nat)(R:Nat->Nat->Int)(A:List Int)(m:Int):Prop where
 at':∃a b c e:Nat,a<n/\b<n/\c<n/\e<n/\(a:Int)∈A/\(b:Int)∈A/\(c:Int)∉A/\(e:Int)∉A/\m=R a c+R b e-R a b-R c e
 le:∀a b c e:Nat,a<n->b<n->c<n->e<n->(a:Int)∈A->(b:Int)∈A->(c:Int)∉A->(e:Int)∉A->m<=R a c+R b e-R a b-R c e
theorem LsN.some{n:Nat}{R:Nat->Nat->Int}(sym:∀i j,R i j=R j i){A:List Int}{m:Int}(h:LsN n R A m){x y:Nat}(sp:¬sx A x y):∃a b c e:Nat,a<n/\b<n/\c<n/\e<n/\sx A x a/\sx A x b/\sx A y c/\sx A y e/\m=R a c+R b e-R a b-R c e:=by
 obtain⟨a,b,c,e,ha,hb,hc,he,a1,b1,c1,e1,em⟩:=h.at';unfold sx at*
 by_cases q:(x:Int)∈A
 .have y0:(y:Int)∉A:=λz=>sp ⟨λ_=>q,λ_=>z⟩
  exact⟨a,b,c,e,ha,hb,hc,he,⟨λ_=>q,λ_=>a1⟩,⟨λ_=>q,λ_=>b1⟩,⟨λz=>YX z c1,λz=>YX z y0⟩,⟨λz=>YX z e1,λz=>YX z y0⟩,em⟩
 .have y1:(y:Int)∈A:=Qw λz=>sp ⟨λw=>YX w z,λw=>YX w q⟩
  refine⟨c,e,a,b,hc,he,ha,hb,⟨λz=>YX z c1,λz=>YX z q⟩,⟨λz=>YX z e1,λz=>YX z q⟩,⟨λ_=>y1,λ_=>a1⟩,⟨λ_=>y1,λ_=>b1⟩,?_⟩;rw[em,sym a c,sym b e,sym a b,sym c e];omega
section
variable {n:Nat}
end
def Zh4(n:Nat)(p:Nat->Bool):List Int:=((Xw n).filter λz=>if p 0=YD then !p z else p z).map λz:Nat=>(z:Int)
theorem Y7{n:Nat}{p:Nat->Bool}{z:Nat}(hz:z<n):(z:Int)∈Zh4 n p↔(if p 0=YD then p z=YF else p z=YD):=by
 unfold Zh4;rw[XM];constructor
 .rintro⟨k,hk,e⟩
  obtain rfl:k=z:=by omega
  have:=(Qs.mp hk).2;split at this
  .rename_i h;rw[YL h];simpa using this
  .rename_i h;rw[YM h];exact this
 .intro h
  refine⟨z,Qs.mpr ⟨XF.mpr hz,?_⟩,rfl⟩;split
  .rename_i q;rw[YL q]at h;rw[h];rfl
  .rename_i q;rw[YM q]at h;exact h
theorem Zns{n:Nat}{p:Nat->Bool}(h:z∈Zh4 n p):∃k:Nat,z=k/\k<n:=by
 unfold Zh4 at h;obtain⟨k,hk,rfl⟩:=XM.mp h;exact⟨k,rfl,XF.mp (Qs.mp hk).1⟩
theorem Zwk{n:Nat}{p:Nat->Bool}{x y:Nat}(hx:x<n)(hy:y<n)(px:p x=YD)(py:p y=YF):Zi9 n (Zh4 n p):=by
 refine⟨λe=>?_,?_,λz hz=>?_⟩
 .have hx':=Y7 (p:=p) hx
  have hy':=Y7 (p:=p) hy;rw[e]at hx' hy'
  by_cases q:p 0=YD
  .rw[YL q]at hy';exact nomatch hy'.mpr py
  .rw[YM q]at hx';exact nomatch hx'.mpr px
 .unfold Zh4
  rw[Bo];exact(List.pairwise_lt_range.filter _).imp λh=>by omega
 .obtain⟨k,rfl,hk⟩:=Zns hz
  have:=(Y7 hk).mp hz;have:k≠0:=λe=>by
   subst e;split at this
   .rename_i q;rw[q]at this;cases this
   .rename_i q;exact q this
  omega
def inB(p:List Nat)(s:List Int)(k:Nat):Bool:=decide (((p.getD k 0:Nat):Int)∈s)
theorem Z25{m:Nat}{a b:Nat->Bool}(h0:0<m)(h:(∀k<m,a k=YD->b k=YF)\/(∀k<m,a k=YD->b k=YD)\/∀k<m,b k=YD->a k=YD):Cp (Zh4 m a) (Zh4 m b):=by
 have mem:∀{q:Nat->Bool} {x:Int},x∈Zh4 m q->∃k:Nat,x=k/\k<m/\(if q 0=YD then q k=YF else q k=YD):=fun{q x} hx=>by
  obtain⟨k,rfl,hk⟩:=Zns hx;exact⟨k,rfl,hk,(Y7 hk).mp hx⟩
 have bf:∀{u:Bool},¬u=YD->u=YF:=fun{u} h=>by cases u;rfl;exact YX rfl h
 by_cases a0:a 0=YD<;>by_cases b0:b 0=YD
 .rcases h with h|h|h
  .rw[h 0 h0 a0]at b0;cases b0
  .refine .inr (.inr λx hx=>?_)
   obtain⟨k,rfl,hk,q⟩:=mem hx;rw[YL b0]at q;refine(Y7 hk).mpr ?_;rw[YL a0];exact bf λz=>by rw[h k hk z]at q;cases q
  .refine .inr (.inl λx hx=>?_)
   obtain⟨k,rfl,hk,q⟩:=mem hx;rw[YL a0]at q;refine(Y7 hk).mpr ?_;rw[YL b0];exact bf λz=>by rw[h k hk z]at q;cases q
 .rcases h with h|h|h
  .refine .inr (.inr λx hx=>?_)
   obtain⟨k,rfl,hk,q⟩:=mem hx;rw[YM b0]at q;refine(Y7 hk).mpr ?_;rw[YL a0];exact bf λz=>by rw[h k hk z]at q;cases q
  .exact YX (h 0 h0 a0) b0
  .refine .inl λx hx hy=>?_
   obtain⟨k,rfl,hk,q⟩:=mem hx;rw[YL a0]at q;have r:=(Y7 hk).mp hy;rw[YM b0]at r;rw[h k hk r]at q;cases q
 .rcases h with h|h|h
  .refine .inr (.inl λx hx=>?_)
   obtain⟨k,rfl,hk,q⟩:=mem hx;rw[YM a0]at q;refine(Y7 hk).mpr ?_;rw[YL b0];exact h k hk q
  .refine .inl λx hx hy=>?_
   obtain⟨k,rfl,hk,q⟩:=mem hx;rw[YM a0]at q;have r:=(Y7 hk).mp hy;rw[YL b0]at r;rw[h k hk q]at r;cases r
  .exact YX (h 0 h0 b0) a0
 .rcases h with h|h|h
  .refine .inl λx hx hy=>?_
   obtain⟨k,rfl,hk,q⟩:=mem hx;rw[YM a0]at q;have r:=(Y7 hk).mp hy;rw[YM b0]at r;rw[h k hk q]at r;cases r
  .refine .inr (.inl λx hx=>?_)
   obtain⟨k,rfl,hk,q⟩:=mem hx;rw[YM a0]at q;refine(Y7 hk).mpr ?_;rw[YM b0];exact h k hk q
  .refine .inr (.inr λx hx=>?_)
   obtain⟨k,rfl,hk,q⟩:=mem hx;rw[YM b0]at q;refine(Y7 hk).mpr ?_;rw[YM a0];exact h k hk q
theorem Z6f{p:List Nat}{s t:List Int}(h0:0<p.length)(c:Cp s t):Cp (Zh4 p.length (inB p s)) (Zh4 p.length (inB p t)):=by
 refine Z25 h0 ?_;unfold inB;rcases c with c|c|c
 .exact .inl λk _ h=>YS (c _ (YW h))
 .exact .inr (.inl λk _ h=>YQ (c _ (YW h)))
 .exact .inr (.inr λk _ h=>YQ (c _ (YW h)))
theorem Zzz{p:List Nat}{s:List Int}{x y:Nat}(hx:x<p.length)(hy:y<p.length):sep (Zh4 p.length (inB p s)) x y=sep s (p.getD x 0) (p.getD y 0):=by
 have e:∀{z:Nat},z<p.length->decide ((z:Int)∈Zh4 p.length (inB p s))=if inB p s 0=YD then !inB p s z else inB p s z:=fun{z} hz=>by
  have:=Y7 (p:=inB p s) hz;cases q:inB p s 0<;>cases r:inB p s z<;>rw[q,r]at this<;>simp at this<;>simp[this]
 unfold sep;rw[e hx,e hy];show _=(inB p s x !=inB p s y);cases inB p s 0<;>cases inB p s x<;>cases inB p s y<;>rfl
theorem Z3f{p:List Nat}{s:List Int}(ne:Zh4 p.length (inB p s)≠[]):Zi9 p.length (Zh4 p.length (inB p s)):=by
 obtain⟨x,hx⟩:=Q9 _ ne;obtain⟨k,rfl,hk⟩:=Zns hx;have m:=(Y7 hk).mp hx;have h0:0<p.length:=by omega
 by_cases c:inB p s 0=YD
 .rw[YL c]at m
  exact Zwk h0 hk c m
 .rw[YM c]at m
  exact Zwk hk h0 m (by cases q:inB p s 0;rfl;exact YX q c)
def Zpv(A:List Int)(w:Int)(D:List (List Int×Int)):List (List Int×Int):=if A∈D.map Qa then D.map λq=>if q.1=A then(q.1,q.2+w)else q else D++[(A,w)]
theorem Zxi{A:List Int}{w:Int}{D:List (List Int×Int)}:(Zpv A w D).map Qa=if A∈D.map Qa then D.map Qa else D.map Qa++[A]:=by
 unfold Zpv;split
 .rw[XQ]
  exact Xr λq _=>by
   show(if q.1=A then(q.1,q.2+w)else q).1=q.1;split<;>rfl
 .rw[Qg];rfl
theorem Z4j{A:List Int}{w:Int}{D:List (List Int×Int)}(nd:(D.map Qa).Nodup):((Zpv A w D).map Qa).Nodup:=by
 rw[Zxi];split
 .exact nd
 .rename_i h
  exact JW.mpr ⟨nd,Qn.mpr ⟨(λm=>nomatch m),List.nodup_nil⟩,λa ha b hb e=>h (by rw[<-Xj.mp hb,<-e];exact ha)⟩
theorem Zxs{A:List Int}{w:Int}{D:List (List Int×Int)}{P:List Int->Prop}(h:∀q∈D,P q.1/\0<q.2)(hA:P A)(w0:0<w):∀q∈Zpv A w D,P q.1/\0<q.2:=by
 intro q hq;unfold Zpv at hq;split at hq
 .obtain⟨r,hr,rfl⟩:=XM.mp hq
  obtain⟨h1,h2⟩:=h r hr;split
  .exact⟨h1,by show 0<r.2+w;omega⟩
  .exact⟨h1,h2⟩
 .rcases Qo.mp hq with hq|hq
  .exact h q hq
  .rw[Xj.mp hq];exact⟨hA,w0⟩
theorem Z4u{A:List Int}{w:Int}(x y:Nat){D:List (List Int×Int)}(nd:(D.map Qa).Nodup):cz (Zpv A w D) x y=cz D x y+if sep A x y=YD then w else 0:=by
 unfold Zpv
 by_cases h:A∈D.map Qa
 .rw[YL h]
  induction D with
  | nil=>cases h
  | cons q D ih=>
   have n2:=Qn.mp (show(q.1::D.map Qa).Nodup from nd);have e1:∀(r:List Int×Int) (L:List (List Int×Int)),cz (r::L) x y=(if sep r.1 x y=YD then r.2 else 0)+cz L x y:=λr L=>rfl;rw[XC,e1,e1]
   by_cases c:q.1=A
   .rw[YL c]
    have:(D.map λq=>if q.1=A then(q.1,q.2+w)else q)=D:=(Xr λr hr=>YM λz=>n2.1 (by rw[c,<-z];exact Bp hr)).trans (List.map_id _);rw[this];show(if sep q.1 x y=YD then q.2+w else 0)+_=_;rw[c];split<;>omega
   .rw[YM c,ih n2.2 ((Xo.mp (show A∈q.1::D.map Qa from h)).resolve_left λz=>c z.symm)]
    omega
 .rw[YM h]
  exact Zkj D (A,w) x y
def nO(l:List Nat):OT:=.nd ((l.map mkI).map OT.fz)
theorem Zux(l:List Nat):(nO l).data=lsN l:=by unfold nO;rw[OT.data_nd,OT.map_fz];rfl
theorem Zuv{e:FE}{i:Int}(h:EvV e δ (.int i)):e δ=YB (.fz (.int i),δ):=by
 obtain⟨t,e1,d1⟩:=h;cases t with
 | fz d=>rw[OT.data_fz]at d1;rw[e1,d1]
 | nd ts=>rw[OT.data_nd]at d1;cases d1
 | tp ts=>rw[OT.data_tp]at d1;cases d1
 | dc _ _ _=>rw[OT.data_dc]at d1;cases d1
theorem Zfi(f:α->β):∀(l:List α) (j:Nat),(l.map f).eraseIdx j=(l.eraseIdx j).map f
 | [],_=>rfl
 | _::_,0=>rfl
 | a::l,j+1=>YT (f a::·) (Zfi f l j)
theorem Zg7:∀(l:List Nat) (j:Nat),j<l.length->(l.getD j 0::l.eraseIdx j).Perm l
 | [],_,h=>by simp at h
 | a::l,0,_=>.refl _
 | a::l,j+1,h=>(List.Perm.swap _ _ _).trans ((Zg7 l j (by simpa using h)).cons a)
theorem Yfz{a:FE}{l:List Nat}(hi:δ[i]? =YB (YB (nO l)))(ha:EvV a δ (mkI j))(hj:j<l.length)(hl:l.length<=1000) :
  Zy8 i a δ=YB (.fz (mkI (l.getD j 0)),δ.set i (YB (nO (l.eraseIdx j)))):=by
 have e1:((l.map mkI).map OT.fz)[j]? =YB (.fz (mkI (l.getD j 0))):=by
  rw[Xm,Xm,Xb,Xi hj];rfl
 unfold nO at hi|-
 unfold Zy8;rw[hi];dsimp only;rw[Zuv (i:=(j:Int)) ha,Xh];dsimp only;rw[hi];dsimp only;rw[OT.data_fz];dsimp only;rw[Zma (by rw[Xe,Xe];exact hj)];dsimp only;rw[e1];dsimp only;rw[YL (by rw[Xe,Xe,Qh];omega),Zfi,Zfi]
theorem Zjx(c:Int){n:Nat}(h1:1<=n)(hn:n<=10):∃p:List Nat,Told Wn [.int c,.int n] (lsN p)/\0<p.length/\p.length<=n/\p.Nodup/\∀x∈p,x<n:=by
 obtain⟨vs,e0,hv⟩:=Zik c (n+1) (by omega);obtain⟨j,ej,hj⟩:=Zeo (vs.getD n 0) (n:=n) h1;have key:∃d,Told Wn [.int c,.int n] d/\∃p:List Nat,d=lsN p/\0<p.length/\p.length<=n/\p.Nodup/\∀x∈p,x<n:=by
  have el:Yck (Zc (Ze 1) Zo) [YB (.fz (.int c)),YB (.fz (.int n)),YB (.fz (Zg vs)),YC,YC,YC]=YB (nO (Xw n),[YB (.fz (.int c)),YB (.fz (.int n)),YB (.fz (Zg vs)),YC,YC,YC]):=by
   rw[Z6e,Zge,Zwa,show([YB (.fz (.int c)),YB (.fz (.int n)),YB (.fz (Zg vs)),YC,YC,YC]:Zi)[1]? =YB (YB (.fz (.int n)))from rfl,Zsw,Xh,Z4p,Xh,Xh,Zbh,Zcp,OT.data_fz,Z60,YL ⟨Ziz (by omega) (by omega),by rw[Qh];omega⟩];refine YT YB (YT (λt=>(t,_)) (YT OT.nd ?_));unfold Zda;rw[XQ,XQ];refine Xr λi _=>?_;show OT.fz (.int (0+(i:Int)))=OT.fz (.int (i:Int));rw[Bq]
  have s0:EvV (Zj Zcb (Ze 1) (fC (.int 1))) (Zf0 6 [.int c,.int n]) (.int (n+1:Nat)):=(Ws (Za rfl) Yb).cast (show Xl ((n:Int)+1)= .int ((n+1:Nat):Int)from rfl);refine Zm1 rfl<|Jh (Zw (Zq (Zb (Za (i:=0) (d:=.int c) rfl) (Zb s0 Zm)) e0))<|Jh (Ze2 el)<|Jh Zhi<|
   Zif (ds:=Zda 0 (1+j)) (λk δ=>∃(l f:List Nat) (z5:Option OT),δ=[YB (.fz (.int c)),YB (.fz (.int n)),YB (.fz (Zg vs)),YB (nO l),YB (nO f),z5]/\(f++l).Perm (Xw n)/\f.length=k) (Zkf (Zb ((Ws Yb ((Ji (Wb (p:=vs) (i:=(n:Int)) Za Za (by omega) (by omega)) Za (by omega)).cast (YT Xl ej))).cast (show Xl (1+(j:Int))= .int ((1+j:Nat):Int)from YT _ (by omega))) Zm) (by omega)) ⟨Xw n,[],YC,rfl,.refl _,rfl⟩ (λk d δ hd q=>?_) λδ' q=>?_
  .obtain⟨l,f,z5,rfl,pm,lf⟩:=q
   obtain⟨hk,rfl⟩:=Zab hd;rw[Bq];have ll:=pm.length_eq;rw[XH,Qd]at ll;obtain⟨i,ei,hi⟩:=Zeo (vs.getD k 0) (n:=l.length) (by omega);have p:=Yfz (i:=3) (a:=Zj Zej (Ym gIx (Ze 2) (Ze 5)) (J1 Zac (Zc (Zkr 3) Zo))) (δ:=[YB (.fz (.int c)),YB (.fz (.int n)),YB (.fz (Zg vs)),YB (nO l),YB (nO f),YB (.fz (.int k))]) rfl ((Ji (Wb (p:=vs) (i:=(k:Int)) (Za rfl) (Za rfl) (by omega) (by omega)) ((Zeq (ds:=l.map λx:Nat=>.int (x:Int)) (Zlp rfl (Zux l))).cast (by rw[Xe])) (by omega)).cast (YT Xl ei)) hi (by omega);refine⟨_,_,rfl,.inl ((Z6i (ts0:=(f.map mkI).map OT.fz) (ts:=(f.map mkI).map OT.fz) p rfl rfl (by rw[Xe,Xe];omega))),l.eraseIdx i,f++[l.getD i 0],YB (.fz (.int k)),?_,?_,by rw[XH];show _+1=_;omega⟩
   .rw[OT.data_fz]
    unfold nO;rw[Qg,Qg];rfl
   .rw[BW]
    exact((Zg7 l i hi).append_left f).trans pm
  .obtain⟨l,f,z5,rfl,pm,lf⟩:=q
   rw[Wl]at lf;have nd:(f++l).Nodup:=pm.nodup_iff.mpr List.nodup_range;exact Ydp rfl ⟨f,Zux f,by omega,by omega,(JW.mp nd).1,λx hx=>XF.mp (pm.mem_iff.mp (Vq _ hx))⟩
 obtain⟨d,h,p,rfl,r⟩:=key;exact⟨p,h,r⟩
def kA(A:List Int):KY:=.inr (A.map λx=>(.inl x:Key))
def kyA(q:List Int×Int):KY:=kA q.1
def vlA(q:List Int×Int):Xa:=.int q.2
theorem Zpa{A:List Int}(h:kA A=kA B):A=B:=by
 have:A.map (λx=>(.inl x:Key))=B.map λx=>(.inl x:Key):=Sum.inr.inj h;exact(Um λx y e=>Sum.inl.inj e).mp this
theorem Yh9(A:List Int):kyD (kA A)= .tuple (A.map Xl):=by
 show PyData.tuple ((A.map _).map Z3h)=_;rw[XQ];rfl
theorem Ycp(A:List Int):Zlj (.tuple (A.map Xl))=YB (kA A):=by rw[<-Yh9];exact Z02 _
theorem Yco{A:List Int}{D:List (List Int×Int)}:Zy4 (kA A) (D.map kyA)=YD↔A∈D.map Qa:=by
 unfold Zy4;rw[List.any_map,List.any_eq_true];constructor
 .rintro⟨q,hq,h⟩
  have h:kyA q=kA A:=YW h;rw[<-Zpa h];exact Bp hq
 .intro h
  obtain⟨q,hq,rfl⟩:=XM.mp h;exact⟨q,hq,YQ rfl⟩
theorem Zn4:∀{D:List (List Int×Int)},(D.map Qa).Nodup->∀{q r},q∈D->r∈D->q.1=r.1->q=r
 | x::D,nd,q,r,hq,hr,e=>by
  have n2:=Qn.mp (show(x.1::D.map Qa).Nodup from nd);rcases Xo.mp hq with h1|h1<;>rcases Xo.mp hr with h2|h2
  .rw[h1,h2]
  .exact YX (Bp (f:=Qa) h2) (by rw[<-e,h1];exact n2.1)
  .exact YX (Bp (f:=Qa) h1) (by rw[e,h2];exact n2.1)
  .exact Zn4 n2.2 h1 h2 e
theorem Z8c:∀{D:List (List Int×Int)},(D.map Qa).Nodup->∀{q},q∈D->Zu7 (kA q.1) (D.map kyA) (D.map vlA)=YB (vlA q)
 | x::D,nd,q,hq=>by
  show(if kyA x=kA q.1 then YB (vlA x)else Zu7 (kA q.1) (D.map kyA) (D.map vlA))=_
  by_cases c:kyA x=kA q.1
  .rw[YL c,Zn4 nd (.head _) hq (Zpa c)]
  .rw[YM c]
   rcases Xo.mp hq with rfl|hq
   .exact YX rfl c
   .exact Z8c (Qn.mp (show(x.1::D.map Qa).Nodup from nd)).2 hq
theorem Z0e{A:List Int}:∀{D:List (List Int×Int)},A∉D.map Qa->Zu7 (kA A) (D.map kyA) (D.map vlA)=YC
 | [],_=>rfl
 | x::D,h=>by
  show(if kyA x=kA A then YB (vlA x)else Zu7 (kA A) (D.map kyA) (D.map vlA))=_;rw[YM λc=>h (by rw[<-Zpa c];exact .head _)];exact Z0e λm=>h (.tail _ m)
theorem Z70{A:List Int}{d:Xa}:∀D:List (List Int×Int),Z9g (kA A) d (D.map kyA) (D.map vlA)=D.map λq=>if q.1=A then d else vlA q
 | []=>rfl
 | x::D=>by
  show(if kyA x=kA A then d else vlA x)::Z9g (kA A) d (D.map kyA) (D.map vlA)=_;rw[Z70 D,XC]
  by_cases c:x.1=A
  .rw[YL c,YL (show kyA x=kA A by rw[<-c];rfl)]
  .rw[YM c,YM (show¬kyA x=kA A from λz=>c (Zpa z))]
theorem Ygm{A:List Int}(w:Int){D:List (List Int×Int)}(nd:(D.map Qa).Nodup):∃v:Int,(Zu7 (kA A) (D.map kyA) (D.map vlA)).getD (.int 0)= .int v/\Zle (kA A) (D.map kyA)=(Zpv A w D).map kyA/\Zly (kA A) (.int (v+w)) (D.map kyA) (D.map vlA)=(Zpv A w D).map vlA:=by
 by_cases h:A∈D.map Qa
 .have hh:=Yco.mpr h
  have ez:Zpv A w D=D.map λq=>if q.1=A then(q.1,q.2+w)else q:=YL h;obtain⟨q,hq,rfl⟩:=XM.mp h;refine⟨q.2,by rw[Z8c nd hq];rfl,?_,?_⟩
  .unfold Zle
   rw[YL hh,ez,XQ];refine Xr λr _=>?_;show kyA r=kyA (if r.1=q.1 then(r.1,r.2+w)else r);split<;>rfl
  .unfold Zly
   rw[YL hh,ez,Z70,XQ];refine Xr λr hr=>?_;show(if r.1=q.1 then Xl (q.2+w)else vlA r)=vlA (if r.1=q.1 then(r.1,r.2+w)else r)
   by_cases c:r.1=q.1
   .rw[YL c,YL c,Zn4 nd hr hq c];rfl
   .rw[YM c,YM c]
 .have hh:¬Zy4 (kA A) (D.map kyA)=YD:=λz=>h (Yco.mp z)
  have ez:Zpv A w D=D++[(A,w)]:=YM h;refine⟨0,by rw[Z0e h];rfl,?_,?_⟩
  .unfold Zle
   rw[YM hh,ez,Qg];rfl
  .unfold Zly
   rw[YM hh,ez,Qg,Bq];rfl
theorem Yae{A:List Int}{D:List (List Int×Int)}{v:Int}(h:(Zu7 (kA A) (D.map kyA) (D.map vlA)).getD (.int 0)= .int v):Zl4 (dcD YD (D.map kyA) (D.map vlA)) (.tuple (A.map Xl)) (.int 0)=YB (.int v):=by
 show(Zlj _).bind _=_;rw[Ycp,Xh];show(if Z0w (kA A)=YD then YB ((Zqs (kA A) (((D.map kyA).map kyD).zip (D.map vlA))).getD (.int 0))else YC)=_;rw[YL (show Z0w (kA A)=YD from rfl),Zky,h]
theorem Zyq{n:Nat}{t:FT}(h:it δ=YB (ds,δ2)):Yu n caps it g t me δ=Yu n caps (λx=>YB (ds,x)) g t me δ2:=by
 unfold Yu;rw[h]
 try rfl
theorem Yf2{e e':FE}{d:Xa}(h:e δ=e' δ2)(k:Zjn (wE e' Jm) δ2 d):Zjn (wE e Jm) δ d:=by
 obtain⟨o,δ',q,r⟩:=k;refine⟨o,δ',?_,r⟩;rw[Zc4,h]
 rwa[Zc4]at q
theorem Ygr{g:List Xa->Option OT}{e e':FE}(h:e δ=e' δ2):fBl g (Zc e Zo) δ=fBl g (Zc e' Zo) δ2:=by
 rw[Zu5,Zu5,Zge,Zge,h]
theorem Ztt{A B C:FS}(h:Z5 A B δ= .nx δ1)(k:C δ1= .nx δ2):Z5 A (Z5 B C) δ= .nx δ2:=by
 have:∃δ',A δ= .nx δ'/\B δ'= .nx δ1:=by
  unfold Z5 at h;split at h
  .rename_i δ' e;exact⟨δ',e,h⟩
  .rename_i hne;exact YX h (hne _)
 obtain⟨δ',h1,h2⟩:=this;exact Y0 h1 (Y0 h2 k)
theorem Zy3(A:List Int)(w:Int)(D:List (List Int×Int)):(Zpv A w D).length<=D.length+1:=by
 unfold Zpv;split
 .rw[Xe];omega
 .rw[XH];exact XJ _
theorem Zxv(p:List Nat):lsN p=Zg (p.map λx:Nat=>(x:Int)):=by
 unfold lsN Zg;rw[XQ];rfl
theorem Yej{p:List Nat}{x:Nat}(hi:δ[i]? =YB (YB (.fz (lsN p))))(hj:δ[j]? =YB (YB (.fz (mkI x))))(hx:x<p.length):EvV (Ym gIx (Ze i) (Ze j)) δ (.int (p.getD x 0:Nat)):=by
 rw[Zxv]at hi;refine(Wb (i:=(x:Int)) (Za hi) (Za hj) (by omega) (by rw[Xe];omega)).cast (YT Xl ?_);rw[QV,Xb,Xb,Xm,Xi hx];rfl
def Zoi(A:List Int):Xa:=.tuple (A.map Xl)
def wE7(Ls:List (List Int))(vs:List Int)(p:List Nat)(b:Int)(D:List (List Int×Int))(z5 z6 z7:Option OT):Zi:=[YB (.fz (.list (Ls.map Zg))),YB (.fz (Zg vs)),YB (.fz (lsN p)),YB (.fz (.int b)),YB (.dc YD (D.map kyA) (D.map vlA)),z5,z6,z7]
theorem Z9b{n:Nat}{vs:List Int}{p:List Nat}(hp:0<p.length)(l10:p.length<=10)(ll:Ls.length<=20)(hv:∀v∈vs,0<=v)(hb:0<b)(bb:Bt 300 b) :
  ∃D:List (List Int×Int),Told Za5 [.list (Ls.map Zg),Zg vs,lsN p,.int b] (Zrv (sCt (D.map λq=>(q.1,XR q.2 b))))/\(D.map Qa).Nodup/\(∀q∈D,(∃s∈Ls,q.1=Zh4 p.length (inB p s)/\q.1≠[])/\0<q.2)/\∀x y,x<p.length->y<p.length->cz D x y=cz (Ls.zip vs) (p.getD x 0) (p.getD y 0):=by
 have lz:(Ls.zip vs).length<=20:=by rw[Uk];omega
 obtain⟨δ',e1,D,z5,z6,z7,rfl,lD,nd,al,cc⟩:=Zdy (it:=Zkp (Zc (Ze 0) (Zc (Ze 1) Zo))) (g:=gTp 2 (gCn (gNm 5) (gCn (gNm 6) gNl))) (S:=(Z5 (wE (Yu 1 [2,5] (iRa (Zc (J1 Zac (Zc (Ze 2) Zo)) Zo)) (gNm 0) (tV (Zj (Zir YF) (Ym gIx (Ze 1) (Ze 0)) (Ze 2))) (Ze 0)) (Y9 7))
  (Z5 (Zbg (tV (Zj (Zir YF) (fC (.int 0)) (Ze 7)))
  (wE (Yu 1 [2,5] (iRa (Zc (J1 Zac (Zc (Ze 2) Zo)) Zo)) (gNm 0) (tV (Zj (Zir YD) (Ym gIx (Ze 1) (Ze 0)) (Ze 2))) (Ze 0)) (Y9 7))
  fNx)
  (Zbg (tAn (tV (Zj gNe (Ze 7) (Zek Zo))) (tV (Zj gGt (Ze 6) (fC (.int 0)))))
  (Zua 4 (Zj Zcb (Zue (Zkr 4) (fBl Zku (Zc (Ze 7) Zo)) (fC (.int 0))) (Ze 6)) (fBl Zku (Zc (Ze 7) Zo)))
  fNx)))) (δ:=wE7 Ls vs p b [] YC YC YC) (ds:=(Ls.zip vs).map λq=>.tuple [Zg q.1,.int q.2])
  (λi δ=>∃D z5 z6 z7,δ=wE7 Ls vs p b D z5 z6 z7/\D.length<=i/\(D.map Qa).Nodup/\(∀q∈D,(∃s∈Ls,q.1=Zh4 p.length (inB p s)/\q.1≠[])/\0<q.2)/\∀x y,x<p.length->y<p.length->cz D x y=cz ((Ls.zip vs).take i) (p.getD x 0) (p.getD y 0))
  (Zvb (Za rfl) (Za (d:=Zg vs) rfl) (Zjj _ _ _ _)) ⟨[],YC,YC,YC,rfl,XJ _,List.nodup_nil,(λq m=>nomatch m),λx y _ _=>rfl⟩ (λi d δ hd q=>by
   obtain⟨D,z5,z6,z7,rfl,lD,nd,al,cc⟩:=q;rw[Xm]at hd;cases e:(Ls.zip vs)[i]? with
   | none=>rw[e]at hd;cases hd
   | some sw=>
    rw[e]at hd;cases hd;obtain⟨s,w⟩:=sw;have hm:=List.of_mem_zip (Qy e);have w0:=hv w hm.2;have tk:(Ls.zip vs).take (i+1)=(Ls.zip vs).take i++[(s,w)]:=by rw[List.take_succ,e];rfl
    have it:∀{δ:Zi},δ[2]? =YB (YB (.fz (lsN p)))->EvI (iRa (Zc (J1 Zac (Zc (Ze 2) Zo)) Zo)) δ ((Xw p.length).map mkI):=λh=>Yc0 (Zb ((Zeq (ds:=p.map λx:Nat=>.int (x:Int)) (Za h)).cast (by rw[Xe])) Zm) l10;have f0:∀(z7:Option OT) (neg:Bool),EvV (Yu 1 [2,5] (iRa (Zc (J1 Zac (Zc (Ze 2) Zo)) Zo)) (gNm 0) (tV (Zj (Zir neg) (Ym gIx (Ze 1) (Ze 0)) (Ze 2))) (Ze 0)) (wE7 Ls vs p b D (YB (.fz (Zg s))) (YB (.fz (.int w))) z7) (Zg (((Xw p.length).filter λx=>if neg then !inB p s x else inB p s x).map λx:Nat=>(x:Int))) := λz7 neg=>by
     refine(Zja (cs:=[YB (.fz (lsN p)),YB (.fz (Zg s))]) (Xw p.length) mkI (λx=>if neg then !inB p s x else inB p s x) (it rfl) (by rw[Qd];omega) rfl (λx hx=>Zdm (Zy (Yej (i:=1) (j:=0) rfl rfl (XF.mp hx)) (Za (i:=2) (d:=Zg s) rfl) (Zc2 neg _ s))) λx _ _=>rfl).cast ?_;unfold Zg;rw[XQ];rfl
    obtain⟨A,hA⟩:∃A,A=Zh4 p.length (inB p s):=⟨_,rfl⟩;have z0:decide ((0:Int)∈((Xw p.length).filter λx=>if YF then !inB p s x else inB p s x).map λx:Nat=>(x:Int))=inB p s 0:=by
     cases q:inB p s 0 with
     | true=>exact YQ (XM.mpr ⟨0,Qs.mpr ⟨XF.mpr hp,q⟩,rfl⟩)
     | false=>
      refine YS λm=>?_;obtain⟨k,hk,e⟩:=XM.mp m;have:k=0:=by omega
      subst this;have:=(Qs.mp hk).2;rw[YM Xn,q]at this;cases this
    have eA:∀neg:Bool,inB p s 0=neg->(((Xw p.length).filter λx=>if neg then !inB p s x else inB p s x).map λx:Nat=>(x:Int))=A:=λneg q=>by
     rw[hA];unfold Zh4;rw[q]
    have sA:Z5 (wE (Yu 1 [2,5] (iRa (Zc (J1 Zac (Zc (Ze 2) Zo)) Zo)) (gNm 0) (tV (Zj (Zir YF) (Ym gIx (Ze 1) (Ze 0)) (Ze 2))) (Ze 0)) (Y9 7)) (Zbg (tV (Zj (Zir YF) (fC (.int 0)) (Ze 7)))
      (wE (Yu 1 [2,5] (iRa (Zc (J1 Zac (Zc (Ze 2) Zo)) Zo)) (gNm 0) (tV (Zj (Zir YD) (Ym gIx (Ze 1) (Ze 0)) (Ze 2))) (Ze 0)) (Y9 7)) fNx) (wE7 Ls vs p b D (YB (.fz (Zg s))) (YB (.fz (.int w))) z7)= .nx (wE7 Ls vs p b D (YB (.fz (Zg s))) (YB (.fz (.int w))) (YB (.fz (Zg A)))):=by
     refine Y0 ((Zw (f0 z7 YF)).trans rfl) ?_;have t0:EvT (tV (Zj (Zir YF) (fC (.int 0)) (Ze 7))) (wE7 Ls vs p b D (YB (.fz (Zg s))) (YB (.fz (.int w))) (YB (.fz (Zg (((Xw p.length).filter λx=>if YF then !inB p s x else inB p s x).map λx:Nat=>(x:Int)))))) (inB p s 0):=by
      rw[<-z0];exact Zdm (Zy (Yb (d:=.int 0)) (Za (i:=7) rfl) (Zc2 YF 0 _))
     cases q:inB p s 0 with
     | true=>
      rw[q]at t0;refine Za8 t0 ((Zw (f0 _ YD)).trans ?_);rw[eA YD q];rfl
     | false=>
      rw[q]at t0;refine(Yn t0 rfl).trans ?_;rw[eA YF q];rfl
    have sp:∀x y,x<p.length->y<p.length->sep A x y=sep s (p.getD x 0) (p.getD y 0):=λx y hx hy=>by rw[hA];exact Zzz hx hy
    have t1:=Zdm (Zy (δ:=wE7 Ls vs p b D (YB (.fz (Zg s))) (YB (.fz (.int w))) (YB (.fz (Zg A)))) (Za (i:=7) (d:=Zg A) rfl) (Zei Zm (show 0<=1000 by decide)) (Zxr A []));have t2:=Zdm (Zne (δ:=wE7 Ls vs p b D (YB (.fz (Zg s))) (YB (.fz (.int w))) (YB (.fz (Zg A)))) (Za (i:=6) (d:=.int w) rfl) (Yb (d:=.int 0)) rfl)
    by_cases c:A≠[]/\0<w
    .obtain⟨v,hv1,hk,hvl⟩:=Ygm w nd (A:=A)
     rw[YS c.1]at t1;rw[YQ c.2]at t2;have tu:EvV (fBl Zku (Zc (Ze 7) Zo)) (wE7 Ls vs p b D (YB (.fz (Zg s))) (YB (.fz (.int w))) (YB (.fz (Zg A)))) (.tuple (A.map Xl)):=Zqv (Zb (Za (i:=7) (d:=Zg A) rfl) Zm) (show Zku [Zg A]=YB (.fz (.tuple (A.map Xl)))from rfl) (OT.data_fz _);have li:=(Xu.mp e).1;have ld:D.length<=1000:=by omega
     have e4:=Z61 (i:=4) (δ:=wE7 Ls vs p b D (YB (.fz (Zg s))) (YB (.fz (.int w))) (YB (.fz (Zg A)))) (Ws (Z3x (Zlp (i:=4) rfl (OT.data_dc _ _ _)) tu Yb (Yae hv1)) (Za (i:=6) (d:=.int w) rfl)) rfl tu (Ycp A) rfl (by rw[Xe];omega);rw[hk,hvl]at e4;refine⟨_,_,rfl,.inl (Ztt sA (Za8 (Ybz t1 t2) e4)),Zpv A w D,_,_,_,rfl,QB (Zy3 A w D) (by omega),Z4j nd,Zxs (P:=λB=>∃s∈Ls,B=Zh4 p.length (inB p s)/\B≠[]) al ⟨s,hm.1,hA,c.1⟩ c.2,λx y hx hy=>?_⟩;rw[Z4u x y nd,tk,Zkj,cc x y hx hy,sp x y hx hy]
    .have tt:EvT (tAn (tV (Zj gNe (Ze 7) (Zek Zo))) (tV (Zj gGt (Ze 6) (fC (.int 0))))) (wE7 Ls vs p b D (YB (.fz (Zg s))) (YB (.fz (.int w))) (YB (.fz (Zg A)))) YF:=by
      by_cases c1:A=[]
      .rw[YQ c1]at t1;exact Z3t t1
      .rw[YS c1]at t1
       rw[YS λz=>c ⟨c1,z⟩]at t2;exact Ybz t1 t2
     refine⟨_,_,rfl,.inl (Ztt sA (Yn tt rfl)),D,_,_,_,rfl,by omega,nd,al,λx y hx hy=>?_⟩;rw[tk,Zkj,cc x y hx hy,<-sp x y hx hy]
     by_cases c1:A=[]
     .rw[c1,show sep [] x y=YF from rfl,YM Xn,Int.add_zero]
     .have:w=0:=by
       have:¬0<w:=λz=>c ⟨c1,z⟩;omega
      have z:(if sep A x y=YD then w else 0)=(0:Int):=by
       split
       .exact this
       .rfl
      exact(Int.add_zero _).symm.trans (YT (cz ((Ls.zip vs).take i) (p.getD x 0) (p.getD y 0)+·) z.symm))
 rw[Xe]at lD;rw[Xe,Ua]at cc;refine⟨D,Z1 rfl (Z2 (δ':=wE7 Ls vs p b [] YC YC YC) ((Ze2 (i:=4) (o:=.dc YD [] []) rfl).trans rfl) (Z2 e1 ?_)),nd,al,cc⟩;have ei:Ycx 4 (wE7 Ls vs p b D z5 z6 z7)=YB (Zzy (D.map kyA) (D.map vlA),(wE7 Ls vs p b D z5 z6 z7).set 4 (YB (.fz (dcD YD (D.map kyA) (D.map vlA))))):=rfl;have ed:Zzy (D.map kyA) (D.map vlA)=D.map λq=>.tuple [Zoi q.1,.int q.2]:=by
  unfold Zzy;rw[XQ,List.zip_map',XQ];exact Xr λq _=>by
   show PyData.tuple [kyD (kA q.1),.int q.2]=_;rw[Yh9];rfl
 refine Yf2 (Ygr (Zyq ei)) (Yg (Z6l ?_ (by rw[Xe];omega)));rw[ed];refine(Zx5 (it:=λx=>YB (D.map λq=>.tuple [Zoi q.1,.int q.2],x)) (δ:=(wE7 Ls vs p b D z5 z6 z7).set 4 (YB (.fz (dcD YD (D.map kyA) (D.map vlA))))) (caps:=[3]) (g:=gTp 2 (gCn (gNm 0) (gCn (gNm 1) gNl))) (t:=Zil) (cs:=[YB (.fz (.int b))]) D (λq=>Zoi q.1) (λq=>.int q.2) (λ_=>YD) (λq=>ctD (q.1,XR q.2 b)) (by unfold EvI;rfl) (by omega) rfl (λ_ _ _ _=>rfl) (λq _=>rfl) λq _ _=>?_).cast ?_
 .exact Zbd (Zb (Zqv (Zb (Za (d:=Zoi q.1) rfl) Zm) (Z5y _) (Znj _)) (Zb (Zq (Zb (Za (d:=.int q.2) rfl) (Zb (Za (d:=.int b) rfl) Zm)) (Zi6 hb bb)) Zm)) (show 2<=1000 by decide)
 .unfold Zrv
  rw[XQ,List.filter_eq_self.mpr λ_ _=>rfl];rfl
theorem Zyy{L:List (List Int)}(hi:i<L.length)(hj:j<L.length):lk kdL ltI (L.map Zg) i j=ltI (L.getD i []) (L.getD j []):=by
 have e:∀k,k<L.length->kdL ((L.map Zg).getD k .none)=YB (L.getD k []):=λk hk=>by
  rw[Xb,Xm,Xi hk,Xb,Xi hk];exact Ju _
 unfold lk;rw[e i hi,e j hj];rfl
theorem Z5u{L:List (List Int)}(nd:L.Nodup)(hi:i<L.length)(hj:j<L.length)(h:i≠j):L.getD i []≠L.getD j []:=by
 rw[Xb,Xb,Xi hi,Xi hj];exact λe=>h ((List.getElem_inj nd).mp e)
def UpL(L:List (List Int)):Prop:=L.Pairwise λa b=>ltI a b=YD
theorem Zrh{L:List (List Int)}(nd:L.Nodup)(h:L.length<64):∃L1:List (List Int),Zf1 kdL ltI [.list (L.map Zg)]=YB (.nd ((L1.map Zg).map OT.fz))/\L1.Perm L/\UpL L1:=by
 refine⟨sLay [] (lk kdL ltI (L.map Zg)) L,?_,Zgz _ _ _,?_⟩
 .have e2:Zg0 kdL ltI [.list (L.map Zg)]=YB (.nd ((sLay PyData.none (lk kdL ltI (L.map Zg)) (L.map Zg)).map OT.fz)):=by
   show(if(decide ((L.map Zg).length<64)&&(L.map Zg).all λd=>(kdL d).isSome)=YD then YB (OT.nd ((sLay PyData.none (lk kdL ltI (L.map Zg)) (L.map Zg)).map OT.fz))else YC)=_;rw[YL];rw[Xp,decide_eq_true_eq,Xe,Vi];refine⟨h,λd m=>?_⟩;obtain⟨p,_,rfl⟩:=XM.mp m;show(Zc5 (p.map Xl)).isSome=YD;rw[Ju];rfl
  have e3:sLay PyData.none (lk kdL ltI (L.map Zg)) (L.map Zg)=(sLay [] (lk kdL ltI (L.map Zg)) L).map Zg:=by rw[<-Zpf,Zuf (Zg []) PyData.none]
  unfold Zf1;rw[e2,e3]
 .refine Ztx (β:=Nat) (d:=[]) (vs:=L) ⟨λi j k hi hj hk h1 h2=>?_,λi j hi hj c q=>?_,λi j hi hj q=>?_⟩ λi j hi hj q=>?_
  .rw[Zyy hi hj]at h1
   rw[Zyy hj hk]at h2;rw[Zyy hi hk];exact Ziv h1 h2
  .rw[Zyy hi hj]at q
   rw[Zyy hj hi];exact Zr9 (Z5u nd hi hj c) q
  .rw[Zyy hi hj]at q
   rw[Zyy hj hi];refine Vt.mpr λz=>?_;have:=Ziv q z;rw[Zi7]at this;cases this
  .rw[Zyy hi hj]at q
   exact q
def bits:Nat->Nat->List Nat
 | 0,_=>[]
 | k+1,i=>if UJ i (2^k)=YD then bits k i else bits k (i-2^k)++[k+1]
def Yc8:List Nat->List Nat->Bool
 | [],[]=>YF
 | [],_::_=>YD
 | _::_,[]=>YF
 | x::xs,y::ys=>bif Nat.beq x y then Yc8 xs ys else UJ x y
theorem Z1j:∀a b:List Nat,ltI (a.map λx:Nat=>(x:Int)) (b.map λx:Nat=>(x:Int))=Yc8 a b
 | [],[]=>rfl
 | [],_::_=>rfl
 | _::_,[]=>rfl
 | x::xs,y::ys=>by
  rw[XC,XC,ltI,Yc8]
  by_cases c:x=y
  .subst c
   rw[YL rfl,show Nat.beq x x=YD from Nat.beq_refl x];exact Z1j xs ys
  .rw[YM (by omega),show Nat.beq x y=YF from Vt.mpr λz=>c (JM z)]
   show decide _=UJ x y;rw[Bool.eq_iff_iff,decide_eq_true_iff];exact⟨λz=>Nat.ble_eq_true_of_le (by omega),λz=>by have:=JL z;omega⟩
theorem Zb0:∀(k i:Nat),i<2^k->(sdL k)[i]? =YB ((bits k i).map λx:Nat=>(x:Int))
 | 0,i,h=>by
  have:i=0:=by omega
  subst this;rfl
 | k+1,i,h=>by
  have l:=Zkd k;rw[sdL,bits]
  by_cases c:i<2^k
  .rw[YL (show UJ i (2^k)=YD from Nat.ble_eq_true_of_le c),Ug (by omega)]
   exact Zb0 k i c
  .rw[YM (λz:UJ i (2^k)=YD=>c (JL z)),JN (by omega),Xm,l,Zb0 k (i-2^k) (by rw[Nat.pow_succ]at h;omega),Qj,Qg]
   show YB (_++[(k:Int)+1])=YB (_++[((k+1:Nat):Int)]);rw[Int.natCast_add];rfl
def ltS(k i j:Nat):Bool:=Yc8 (bits k i) (bits k j)
def chB(lt:Nat->Nat->Bool):List Nat->Bool
 | []=>YD
 | [_]=>YD
 | x::y::l=>lt x y&&chB lt (y::l)
def OkS(k:Nat)(p:List Nat):Prop:=Zdh (ltS k) (2^k)=YB p/\p.Perm (Xw (2^k))/\chB (ltS k) p=YD
def Yfu(k:Nat):Bool:=match Zdh (ltS k) (2^k)with
 | some p=>fcL p λp=>Z3r (2^k) p&&chB (ltS k) p
 | none=>YF
theorem Z6o{k:Nat}(h:Yfu k=YD):∃p,OkS k p:=by
 unfold Yfu at h;split at h
 case h_2=>cases h
 rename_i p ep;rw[Z06,Xp]at h;exact⟨p,ep,Zj6 h.1,h.2⟩
theorem Z8e{k:Nat}(hi:i<2^k)(hj:j<2^k):ltI ((sdL k).getD i []) ((sdL k).getD j [])=ltS k i j:=by
 rw[Xb,Xb,Zb0 k i hi,Zb0 k j hj];exact Z1j _ _
theorem Z0s{R:α->α->Prop}(tr:∀{a b c},R a b->R b c->R a c){f:Nat->α}{lt:Nat->Nat->Bool}:∀{p:List Nat},(∀i∈p,∀j∈p,lt i j=YD->R (f i) (f j))->chB lt p=YD->(p.map f).Pairwise R
 | [],_,_=>.nil
 | [_],_,_=>Bb ..
 | x::y::l,h,c=>by
  rw[chB,Xp]at c;have t:=Z0s (R:=R) (f:=f) tr (p:=y::l) (λi hi j hj=>h i (.tail _ hi) j (.tail _ hj)) c.2;have xy:=h x (.head _) y (.tail _ (.head _)) c.1;rw[XC];refine .cons (λz hz=>?_) t;rcases Xo.mp hz with rfl|hz
  .exact xy
  .exact tr xy (Q8 t hz)
theorem Zd2{k:Nat}(h:∃p,OkS k p)(h6:6<=k)(h9:k<=9):∃L1:List (List Int),Zf1 kdL ltI [.list ((sdL k).map Zg)]=YB (.nd ((L1.map Zg).map OT.fz))/\L1.Perm (sdL k)/\UpL L1:=by
 have p64:2^6<=2^k:=BV (by decide) h6;have p512:2^k<=2^9:=BV (by decide) h9;have l:=Zkd k;obtain⟨p,ep,pm,up⟩:=h;have lp:p.length=2^k:=by rw[pm.length_eq,Qd]
 have lt:∀i∈p,i<2^k:=λi hi=>XF.mp (pm.mem_iff.mp hi);have ep:Zdh (lk kdL ltI ((sdL k).map Zg)) (2^k)=YB p:=by
  rw[Zm5 (lt':=ltS k) λi hi j hj=>by rw[Zyy (by omega) (by omega),Z8e hi hj]];exact ep
 have lm:((sdL k).map Zg).length=2^k:=by rw[Xe,l]
 refine⟨p.map λi=>(sdL k).getD i [],?_,?_,Z0s (R:=λa b=>ltI a b=YD) (f:=λi=>(sdL k).getD i []) Ziv (λi hi j hj c=>by rw[Z8e (lt i hi) (lt j hj)];exact c) up⟩
 .have n0:Zg0 kdL ltI [.list ((sdL k).map Zg)]=YC:=by
   show(if(decide (((sdL k).map Zg).length<64)&&((sdL k).map Zg).all λd=>(kdL d).isSome)=YD then YB (OT.nd ((sLay PyData.none (lk kdL ltI ((sdL k).map Zg)) ((sdL k).map Zg)).map OT.fz))else YC)=YC;exact YM (by rw[YS (by omega),Bool.false_and];exact Xn)
  unfold Zf1;rw[n0];show(Zdh (lk kdL ltI ((sdL k).map Zg)) ((sdL k).map Zg).length).bind _=_;rw[lm,ep,Xh,YL]
  .refine YT (λx:List Xa=>YB (OT.nd (x.map OT.fz))) ?_
   unfold tLay;rw[XQ];refine Xr λi hi=>?_;have hi:=lt i hi;rw[Xb,Xm,Zb0 k i hi];show Zg _=Zg ((sdL k).getD i []);rw[Xb,Zb0 k i hi];rfl
  .rw[Xp,Xp,Xp,decide_eq_true_eq,decide_eq_true_eq,decide_eq_true_eq,Vi]
   refine⟨⟨⟨by omega,by omega⟩,lp⟩,λd m=>?_⟩;obtain⟨s,_,rfl⟩:=XM.mp m;show(Zc5 (s.map Xl)).isSome=YD;rw[Ju];rfl
 .have e:(Xw (2^k)).map (λi=>(sdL k).getD i [])=sdL k:=by
   refine List.ext_getElem? λi=>?_;rw[Xm]
   by_cases c:i<2^k
   .rw[JR c,Qj,Xb,Zb0 k i c];rfl
   .rw[QL (by rw[Qd];omega),QL (by omega)];rfl
  exact(pm.map _).trans (by rw[e])
theorem Yk5:∃p,OkS 6 p:=Z6o (by decide +kernel)
def I7:Nat:=0x1fc7e1f47c1ec7a1e4781dc761d4741cc721c4701bc6e1b46c1ac6a1a46819c661946418c621846017c5e1745c16c5a1645815c561545414c521445013c4e1344c12c4a1244811c461144410c42104400fc3e0f43c0ec3a0e4380dc360d4340cc320c4300bc2e0b42c0ac2a0a42809c260942408c220842007c1e0741c06c1a0641805c160541404c120441003c0e0340c02c0a0240801c060140400c0200400
def Yh6:Nat:=0x4018020140700c010120680a0581e0380600811064090541d0340504c1b02c1707c0f01c0300400+I7/1024^32*1024^32
theorem Ykf:ck1 (ltS 7) 128 32 0 I7 [] 7 32 Yh6 [(0,(32,0))] 7=YD:=by decide +kernel
def Yiu:Nat:=0x80300a038090340b03c088320a83a098360b83e084310a439094350b43d08c330ac3b09c370bc3f04018020140700c010120680a0581e0380600811064090541d0340504c1b02c1707c0f01c0300400+I7/1024^64*1024^64
theorem Ylb:ck1 (ltS 7) 128 32 32 Yh6 [(0,(32,0))] 7 64 Yiu [(0,(32,2)),(32,(32,0))] 7=YD:=by decide +kernel
def Yip:Nat:=0x1005012058110541305c108521285a118561385e1045112459114551345d10c5312c5b11c5713c5f08030040280e018020240d0140b03c0700c010220c8120a83a0680a098360582e0f81e03806008210c4110a43906409094350542d0f41d0340508c3304c2b0ec1b02c270dc170bc3f07c0f01c0300400+I7/1024^96*1024^96
theorem Ykz:ck1 (ltS 7) 128 32 64 Yiu [(0,(32,2)),(32,(32,0))] 7 96 Yip [(0,(64,1)),(64,(32,0))] 7=YD:=by decide +kernel
def Yi1:Nat:=0x180701a078190741b07c188721a87a198761b87e184711a479194751b47d18c731ac7b19c771bc7f1005012058110541305c108521285a118561385e1045112459114551345d10c5312c5b11c5713c5f08030040280e018020240d0140b03c0700c010220c8120a83a0680a098360582e0f81e03806008210c4110a43906409094350542d0f41d0340508c3304c2b0ec1b02c270dc170bc3f07c0f01c0300400
theorem Ykn:ck1 (ltS 7) 128 32 96 Yip [(0,(64,1)),(64,(32,0))] 7 128 Yi1 [(0,(64,1)),(64,(32,2)),(96,(32,0))] 7=YD:=by decide +kernel
def Yhv:Nat:=0x1006014070120681607811064150741306c1707c10862148721286a1687a11866158761386e1787e1046114471124691647911465154751346d1747d10c6314c7312c6b16c7b11c6715c7713c6f17c7f08030040280e018020240d0140b03c0700c010220c8120a83a0680a098360582e0f81e03806008210c4110a43906409094350542d0f41d0340508c3304c2b0ec1b02c270dc170bc3f07c0f01c0300400
theorem Ylp:ck2 (ltS 7) 128 Yi1 [(0,(64,1)),(64,(32,2)),(96,(32,0))] 7 Yhv [(0,(64,1)),(64,(64,2))] 7=YD:=by decide +kernel
def Yhx:Nat:=0x10060080501c030040481a028160780e0180204419024150740d0141306c0b05c1f03c0700c0104218822148720c8121286a0a85a1e83a0680a11866098561d8360584e1b82e1787e0f81e038060084118421144710c411124690a4591e4390640911465094551d4350544d1b42d1747d0f41d0340510c6308c531cc3304c4b1ac2b16c7b0ec1b02c4719c2715c770dc1713c6f0bc5f1fc3f07c0f01c0300400
theorem Yjs:ck2 (ltS 7) 128 Yhv [(0,(64,1)),(64,(64,2))] 7 Yhx [(0,(128,1))] 7=YD:=by decide +kernel
theorem Ykb:Zdh (ltS 7) 128=YB (dc 128 Yhx):=Z1t (mr:=32) (by decide +kernel) (Zpx (a:=dc 128 I7) (b:=Xw 128) (by decide +kernel)) (.step (Zb6 Ykf) (.step (Zb6 Ylb) (.step (Zb6 Ykz) (.step (Zb6 Ykn) (.fin (Yi6 rfl)))))) (.step (Zkt Ylp) (.step (Zkt Yjs) (.fin Yhh)))
theorem Yjl:∃p,OkS 7 p:=⟨_,Ykb,Zj6 (by decide +kernel),by decide +kernel⟩
def I8:Nat:=0x3fcfe3f4fc3ecfa3e4f83dcf63d4f43ccf23c4f03bcee3b4ec3acea3a4e839ce6394e438ce2384e037cde374dc36cda364d835cd6354d434cd2344d033cce334cc32cca324c831cc6314c430cc2304c02fcbe2f4bc2ecba2e4b82dcb62d4b42ccb22c4b02bcae2b4ac2acaa2a4a829ca6294a428ca2284a027c9e2749c26c9a2649825c962549424c922449023c8e2348c22c8a2248821c862148420c82204801fc7e1f47c1ec7a1e4781dc761d4741cc721c4701bc6e1b46c1ac6a1a46819c661946418c621846017c5e1745c16c5a1645815c561545414c521445013c4e1344c12c4a1244811c461144410c42104400fc3e0f43c0ec3a0e4380dc360d4340cc320c4300bc2e0b42c0ac2a0a42809c260942408c220842007c1e0741c06c1a0641805c160541404c120441003c0e0340c02c0a0240801c060140400c0200400
def Yik:Nat:=0x4018020140700c010120680a0581e0380600811064090541d0340504c1b02c1707c0f01c0300400+I8/1024^32*1024^32
theorem Yjp:ck1 (ltS 8) 256 32 0 I8 [] 7 32 Yik [(0,(32,0))] 7=YD:=by decide +kernel
def Yhs:Nat:=0x80300a038090340b03c088320a83a098360b83e084310a439094350b43d08c330ac3b09c370bc3f04018020140700c010120680a0581e0380600811064090541d0340504c1b02c1707c0f01c0300400+I8/1024^64*1024^64
theorem Yk7:ck1 (ltS 8) 256 32 32 Yik [(0,(32,0))] 7 64 Yhs [(0,(32,3)),(32,(32,0))] 7=YD:=by decide +kernel
def Yix:Nat:=0x1005012058110541305c108521285a118561385e1045112459114551345d10c5312c5b11c5713c5f08030040280e018020240d0140b03c0700c010220c8120a83a0680a098360582e0f81e03806008210c4110a43906409094350542d0f41d0340508c3304c2b0ec1b02c270dc170bc3f07c0f01c0300400+I8/1024^96*1024^96
theorem Ykd:ck1 (ltS 8) 256 32 64 Yhs [(0,(32,3)),(32,(32,0))] 7 96 Yix [(0,(64,2)),(64,(32,0))] 7=YD:=by decide +kernel
def Yi7:Nat:=0x180701a078190741b07c188721a87a198761b87e184711a479194751b47d18c731ac7b19c771bc7f1005012058110541305c108521285a118561385e1045112459114551345d10c5312c5b11c5713c5f08030040280e018020240d0140b03c0700c010220c8120a83a0680a098360582e0f81e03806008210c4110a43906409094350542d0f41d0340508c3304c2b0ec1b02c270dc170bc3f07c0f01c0300400+I8/1024^128*1024^128
theorem Yj3:ck1 (ltS 8) 256 32 96 Yix [(0,(64,2)),(64,(32,0))] 7 128 Yi7 [(0,(64,2)),(64,(32,3)),(96,(32,0))] 7=YD:=by decide +kernel
def Yin:Nat:=0x2009022098210942309c208922289a218962389e2049122499214952349d20c9322c9b21c9723c9f10060080501c030040481a028160780e0180204419024150740d0141306c0b05c1f03c0700c0104218822148720c8121286a0a85a1e83a0680a11866098561d8360584e1b82e1787e0f81e038060084118421144710c411124690a4591e4390640911465094551d4350544d1b42d1747d0f41d0340510c6308c531cc3304c4b1ac2b16c7b0ec1b02c4719c2715c770dc1713c6f0bc5f1fc3f07c0f01c0300400+I8/1024^160*1024^160
theorem Yj6:ck1 (ltS 8) 256 32 128 Yi7 [(0,(64,2)),(64,(32,3)),(96,(32,0))] 7 160 Yin [(0,(128,1)),(128,(32,0))] 7=YD:=by decide +kernel
def Yhw:Nat:=0x280b02a0b8290b42b0bc288b22a8ba298b62b8be284b12a4b9294b52b4bd28cb32acbb29cb72bcbf2009022098210942309c208922289a218962389e2049122499214952349d20c9322c9b21c9723c9f10060080501c030040481a028160780e0180204419024150740d0141306c0b05c1f03c0700c0104218822148720c8121286a0a85a1e83a0680a11866098561d8360584e1b82e1787e0f81e038060084118421144710c411124690a4591e4390640911465094551d4350544d1b42d1747d0f41d0340510c6308c531cc3304c4b1ac2b16c7b0ec1b02c4719c2715c770dc1713c6f0bc5f1fc3f07c0f01c0300400+I8/1024^192*1024^192
theorem Yj8:ck1 (ltS 8) 256 32 160 Yin [(0,(128,1)),(128,(32,0))] 7 192 Yhw [(0,(128,1)),(128,(32,3)),(160,(32,0))] 7=YD:=by decide +kernel
def Yhk:Nat:=0x300d0320d8310d4330dc308d2328da318d6338de304d1324d9314d5334dd30cd332cdb31cd733cdf200a0240b0220a8260b8210a4250b4230ac270bc208a2248b2228aa268ba218a6258b6238ae278be204a1244b1224a9264b9214a5254b5234ad274bd20ca324cb322cab26cbb21ca725cb723caf27cbf10060080501c030040481a028160780e0180204419024150740d0141306c0b05c1f03c0700c0104218822148720c8121286a0a85a1e83a0680a11866098561d8360584e1b82e1787e0f81e038060084118421144710c411124690a4591e4390640911465094551d4350544d1b42d1747d0f41d0340510c6308c531cc3304c4b1ac2b16c7b0ec1b02c4719c2715c770dc1713c6f0bc5f1fc3f07c0f01c0300400+I8/1024^224*1024^224
theorem Yk4:ck1 (ltS 8) 256 32 192 Yhw [(0,(128,1)),(128,(32,3)),(160,(32,0))] 7 224 Yhk [(0,(128,1)),(128,(64,2)),(192,(32,0))] 7=YD:=by decide +kernel
def Yg8:Nat:=0x380f03a0f8390f43b0fc388f23a8fa398f63b8fe384f13a4f9394f53b4fd38cf33acfb39cf73bcff300d0320d8310d4330dc308d2328da318d6338de304d1324d9314d5334dd30cd332cdb31cd733cdf200a0240b0220a8260b8210a4250b4230ac270bc208a2248b2228aa268ba218a6258b6238ae278be204a1244b1224a9264b9214a5254b5234ad274bd20ca324cb322cab26cbb21ca725cb723caf27cbf10060080501c030040481a028160780e0180204419024150740d0141306c0b05c1f03c0700c0104218822148720c8121286a0a85a1e83a0680a11866098561d8360584e1b82e1787e0f81e038060084118421144710c411124690a4591e4390640911465094551d4350544d1b42d1747d0f41d0340510c6308c531cc3304c4b1ac2b16c7b0ec1b02c4719c2715c770dc1713c6f0bc5f1fc3f07c0f01c0300400
theorem Yjn:ck1 (ltS 8) 256 32 224 Yhk [(0,(128,1)),(128,(64,2)),(192,(32,0))] 7 256 Yg8 [(0,(128,1)),(128,(64,2)),(192,(32,3)),(224,(32,0))] 7=YD:=by decide +kernel
def Yho:Nat:=0x300e0340f0320e8360f8310e4350f4330ec370fc308e2348f2328ea368fa318e6358f6338ee378fe304e1344f1324e9364f9314e5354f5334ed374fd30ce334cf332ceb36cfb31ce735cf733cef37cff200a0240b0220a8260b8210a4250b4230ac270bc208a2248b2228aa268ba218a6258b6238ae278be204a1244b1224a9264b9214a5254b5234ad274bd20ca324cb322cab26cbb21ca725cb723caf27cbf10060080501c030040481a028160780e0180204419024150740d0141306c0b05c1f03c0700c0104218822148720c8121286a0a85a1e83a0680a11866098561d8360584e1b82e1787e0f81e038060084118421144710c411124690a4591e4390640911465094551d4350544d1b42d1747d0f41d0340510c6308c531cc3304c4b1ac2b16c7b0ec1b02c4719c2715c770dc1713c6f0bc5f1fc3f07c0f01c0300400
theorem Yjz:ck2 (ltS 8) 256 Yg8 [(0,(128,1)),(128,(64,2)),(192,(32,3)),(224,(32,0))] 7 Yho [(0,(128,1)),(128,(64,2)),(192,(64,3))] 7=YD:=by decide +kernel
def Ybc:Nat:=0x200c0280e0240d02c0f0220c82a0e8260d82e0f8210c4290e4250d42d0f4230cc2b0ec270dc2f0fc208c2288e2248d22c8f2228ca2a8ea268da2e8fa218c6298e6258d62d8f6238ce2b8ee278de2f8fe204c1284e1244d12c4f1224c92a4e9264d92e4f9214c5294e5254d52d4f5234cd2b4ed274dd2f4fd20cc328ce324cd32ccf322ccb2aceb26cdb2ecfb21cc729ce725cd72dcf723ccf2bcef27cdf2fcff10060080501c030040481a028160780e0180204419024150740d0141306c0b05c1f03c0700c0104218822148720c8121286a0a85a1e83a0680a11866098561d8360584e1b82e1787e0f81e038060084118421144710c411124690a4591e4390640911465094551d4350544d1b42d1747d0f41d0340510c6308c531cc3304c4b1ac2b16c7b0ec1b02c4719c2715c770dc1713c6f0bc5f1fc3f07c0f01c0300400
theorem Yjh:ck2 (ltS 8) 256 Yho [(0,(128,1)),(128,(64,2)),(192,(64,3))] 7 Ybc [(0,(128,1)),(128,(128,2))] 7=YD:=by decide +kernel
def Z8y:Nat:=0x200c0100a03806008090340502c0f01c03004088320482a0e81a028260d8160b83e0780e0180208431044290e419024250d4150b43d0740d014230cc130ac3b06c0b09c3705c2f0fc1f03c0700c0108230842288e218822248d2148b23c8720c812228ca128aa3a86a0a89a3685a2e8fa1e83a0680a218c6118a63986609896358562d8f61d8360588e3384e2b8ee1b82e278de178be3f87e0f81e038060088130441284e118421244d1144b13c4710c411224c9124a93a4690a499364592e4f91e43906409214c5114a53946509495354552d4f51d4350548d3344d2b4ed1b42d274dd174bd3f47d0f41d0340520cc310ca338c6308c9334c532ccf31cc3304c8b32c4b2aceb1ac2b26cdb16cbb3ec7b0ec1b02c8731c4729ce719c2725cd715cb73dc770dc1723ccf13caf3bc6f0bc9f37c5f2fcff1fc3f07c0f01c0300400
theorem Yfl:ck2 (ltS 8) 256 Ybc [(0,(128,1)),(128,(128,2))] 7 Z8y [(0,(256,1))] 7=YD:=by decide +kernel
theorem Ykl:Zdh (ltS 8) 256=YB (dc 256 Z8y):=Z1t (mr:=32) (by decide +kernel) (Zpx (a:=dc 256 I8) (b:=Xw 256) (by decide +kernel)) (.step (Zb6 Yjp) (.step (Zb6 Yk7) (.step (Zb6 Ykd) (.step (Zb6 Yj3) (.step (Zb6 Yj6) (.step (Zb6 Yj8) (.step (Zb6 Yk4) (.step (Zb6 Yjn) (.fin (Yi6 rfl)))))))))) (.step (Zkt Yjz) (.step (Zkt Yjh) (.step (Zkt Yfl) (.fin Yhh))))
theorem Yli:∃p,OkS 8 p:=⟨_,Ykl,Zj6 (by decide +kernel),by decide +kernel⟩
theorem Zr1{k:Nat}(hk:k<=8):∃L1:List (List Int),Zf1 kdL ltI [.list ((sdL k).map Zg)]=YB (.nd ((L1.map Zg).map OT.fz))/\L1.Perm (sdL k)/\UpL L1:=by
 rcases Uc k 6 with c|c
 .exact Zrh (Zvf k) (by rw[Zkd];exact Nat.lt_of_le_of_lt (BV (by decide) (show k<=5 by omega)) (by decide))
 .have:k=6\/k=7\/k=8:=by omega
  rcases this with rfl|rfl|rfl
  .exact Zd2 Yk5 (by decide) (by decide)
  .exact Zd2 Yjl (by decide) (by decide)
  .exact Zd2 Yli (by decide) (by decide)
theorem Znl{n:Nat}(h0:1<=n)(hn:n<=9):∃Ls:List (List Int),Told Yl [.int n] (.list (Ls.map Zg))/\(∀s,s∈Ls↔Zi9 n s)/\UpL Ls/\Ls.length<=512:=by
 have p2:∀{k:Nat},k<=8->(sdL k).length<=256:=fun{k} hk=>by
  rw[Zkd];exact QB (BV (by decide) hk) (by decide)
 have l2:=p2 (k:=n-1) (by omega);obtain⟨L1,eS,pS,uS⟩:=Zr1 (k:=n-1) (by omega);refine⟨L1.filter λs=>decide (0<s.length),?_,λs=>?_,uS.filter _,QB (List.length_filter_le ..) (by rw[pS.length_eq];omega)⟩
 .refine Z1 rfl<|Z2 (Zw (Zei (Zb (Zei Zm (show 0<=1000 by decide)) Zm) (show 1<=1000 by decide)))<|
   Zi2 (ds:=Zda 1 (n-1)) (λk δ=>∃z2,δ=[YB (.fz (.int n)),YB (.fz (.list ((sdL k).map Zg))),z2]) (Z49 (m:=1) (Zb Yb (Zb Za Zm)) (by decide) (by omega)) ⟨YC,rfl⟩ (λk d δ hd q=>?_) λδ' q=>?_
  .obtain⟨z2,rfl⟩:=q
   obtain⟨hk,rfl⟩:=Zab hd;have lk:=p2 (k:=k) (by omega);refine⟨_,_,rfl,.inl (Zw (EvV.cast (Zo8 (ds:=(sdL k).map Zg) (es:=(sdL k).map λs=>Zg (s++[(k:Int)+1])) Za (Zd1 (cs:=[YB (.fz (.int (1+(k:Int))))]) (sdL k) Zg (λs=>Zg (s++[(k:Int)+1])) (Jw Za) (by omega) rfl λs hs=>?_) (by rw[Xe,Xe];omega)) (y:=.list ((sdL (k+1)).map Zg)) ?_)),_,rfl⟩
   .have ls:=(Zp0 k s hs).1
    exact(Zo8 (ds:=s.map Xl) (es:=[.int (1+(k:Int))]) Za (Zei (Zb Za Zm) (show 1<=1000 by decide)) (by rw[Xe];show _+1<=_;omega)).cast (by unfold Zg;rw[Qg,Int.add_comm];rfl)
   .rw[sdL,Qg,XQ];rfl
  .obtain⟨z2,rfl⟩:=q
   rw[Wl];refine Yg (Zja (cs:=[]) L1 Zg (λs=>decide (0<s.length)) (Jw (Zqv (Zb Za Zm) eS (by rw[OT.data_nd,OT.map_fz]))) (by rw[pS.length_eq];omega) rfl (λs _=>Zdm (Zne (Zeq (ds:=s.map Xl) Za) Yb (decide_eq_decide.mpr (by rw[Xe];omega)))) λs _ _=>rfl)
 .rw[Qs,decide_eq_true_eq,List.length_pos_iff,pS.mem_iff]
  exact Zsg n h0 s
theorem Zzk:∀{L M:List (List Int×Rat)},L.Pairwise (λa b=>ltI a.1 b.1=YD)->M.Pairwise (λa b=>ltI a.1 b.1=YD)->(∀x,x∈L↔x∈M)->L=M:=by
 intro L
 induction L with
 | nil=>
  intro M _ _ h;cases M with
  | nil=>rfl
  | cons y M=>exact YX ((h y).mpr (.head _)) (λz=>nomatch z)
 | cons x L ih=>
  intro M hL hM h;cases M with
  | nil=>exact YX ((h x).mp (.head _)) (λz=>nomatch z)
  | cons y M=>
   have h1:∀{z:List Int×Rat},z∈L->ltI x.1 z.1=YD:=λm=>Q8 hL m;have h2:∀{z:List Int×Rat},z∈M->ltI y.1 z.1=YD:=λm=>Q8 hM m;have no:∀{a b:List Int},ltI a b=YD->ltI b a=YD->False:=λp q=>by
    have:=Ziv p q;rw[Zi7]at this;cases this
   have e:x=y:=by
    rcases Xo.mp ((h x).mp (.head _))with e|m
    .exact e
    .rcases Xo.mp ((h y).mpr (.head _))with e|m'
     .exact e.symm
     .exact(no (h1 m') (h2 m)).elim
   subst e;refine YT (x::·) (ih hL.tail hM.tail λz=>⟨λm=>?_,λm=>?_⟩)
   .rcases Xo.mp ((h z).mp (.tail _ m))with e|m'
    .subst e;exact(no (h1 m) (h1 m)).elim
    .exact m'
   .rcases Xo.mp ((h z).mpr (.tail _ m))with e|m'
    .subst e;exact(no (h2 m) (h2 m)).elim
    .exact m'
theorem Z58(q:List Int×Int)(Z:List (List Int×Int))(A:List Int):wA (q::Z) A=(if q.1=A then q.2 else 0)+wA Z A:=by
 unfold wA
 by_cases e:q.1=A
 .rw[Vz (p:=λq:List Int×Int=>decide (q.1=A)) (YQ e),XC,JZ,YL e]
 .rw[VB (p:=λq:List Int×Int=>decide (q.1=A)) (by rw[YS e];exact Xn),YM e,Bq]
theorem Z9q{A:List Int}(h:A∉Z.map Qa):wA Z A=0:=by
 unfold wA;rw[List.filter_eq_nil_iff.mpr λq hq c=>h (by rw[<-YW c];exact Bp hq)];rfl
theorem Zud(nd:(Z.map Qa).Nodup){q:List Int×Int}(hq:q∈Z):wA Z q.1=q.2:=by
 induction Z with
 | nil=>cases hq
 | cons r Z ih=>
  obtain⟨n1,n2⟩:=Qn.mp nd;rw[Z58];rcases Xo.mp hq with rfl|hq
  .rw[YL rfl,Z9q n1,Int.add_zero]
  .rw[YM (λe:r.1=q.1=>n1 (by rw[e];exact Bp hq)),ih n2 hq,Bq]
theorem Yb6(nd:(Z.map Qa).Nodup)(b:Int):Dst (wL Z b):=by
 have pw:(wL Z b).Pairwise λx y=>x.1≠y.1:=by
  unfold wL;rw[Bo];have:Z.Pairwise λx y=>x.1≠y.1:=Bo.mp nd;exact(this.filter _).imp λh=>h
 intro k l hkl hl;have:=List.pairwise_iff_getElem.mp pw k l (by omega) hl hkl
 rwa[Xb,Xb,Xi (by omega),Xi hl]
theorem Ya4{n:Nat}(ok:∀s∈Z.map Qa,Zi9 n s)(nd:(Z.map Qa).Nodup)(mem:∀s,s∈Ls↔Zi9 n s)(up:UpL Ls)(b:Int):trL Ls Z b=sCt (wL Z b):=by
 refine Zzk ?_ (Yao (Yb6 nd b)) λx=>?_
 .unfold trL
  rw[Bo];exact(up.filter _).imp λh=>h
 .have pm:(sCt (wL Z b)).Perm (wL Z b):=Zgz _ _ _
  rw[pm.mem_iff];unfold trL wL;rw[XM,XM];constructor
  .rintro⟨A,hA,rfl⟩
   have w:=YW (Qs.mp hA).2;have m:A∈Z.map Qa:=Qw λz=>by rw[Z9q z]at w;omega
   obtain⟨q,hq,rfl⟩:=XM.mp m;rw[Zud nd hq]at w|-
   exact⟨q,Qs.mpr ⟨hq,YQ w⟩,rfl⟩
  .rintro⟨q,hq,rfl⟩
   obtain⟨h1,h2⟩:=Qs.mp hq;have w:=YW h2;refine⟨q.1,Qs.mpr ⟨(mem _).mpr (ok _ (Bp h1)),?_⟩,by rw[Zud nd h1]⟩;rw[Zud nd h1];exact h2
theorem Zw9(ns:List Int)(hl:ns.length<=63):Ze1 [.list (ns.map Xl)]= .ok (.fz (.bool YD)):=by
 show Ze1 [Zg ns]=_;obtain⟨c0,e0⟩:=Zfp ns (k:=0) (by decide);obtain⟨c1,e1⟩:=Zfp ns (k:=1) (by decide);obtain⟨c2,e2⟩:=Zfp ns (k:=2) (by decide);obtain⟨n,en,h1,hn⟩:∃n:Nat,Jd [.int c0,.int 2,.int 7,.int 9]= .ok (.fz (.int n))/\2<=n/\n<=9:=by
  obtain⟨m,e,h1,h2⟩:=Z5w c0 (a:=2) (b:=7) (d:=9) (by decide) (by decide);exact⟨m.toNat,by rw[e,JX (by omega)],by omega,by omega⟩
 obtain⟨b,eb,hb,bb⟩:=Zr7 c1;obtain⟨Ls,eS,lS,LS,ndS⟩:=Zlo (c1.fdiv 12) (n:=n) (by omega) (by omega);obtain⟨vs,eV,lV,bV⟩:=Zqm ns 3 Ls.length c1 (by omega);obtain⟨eR,WR⟩:=Zto (n:=n) (by omega) (Ls:=Ls) (vs:=vs) (by omega) (λv hv=>⟨(bV v hv).1,Int.lt_of_lt_of_le (bV v hv).2 (by decide)⟩);have eT:=Zl7 (n:=n) (by omega) (cz (Ls.zip vs)) hb bb;obtain⟨p,eP,p0,pn,pd,pl⟩:=Zjx c2 (n:=n) (by omega) (by omega);obtain⟨D,eD,nd,al,cc⟩:=Z9b (n:=n) (Ls:=Ls) (vs:=vs) (p:=p) p0 (by omega) lS (λv hv=>(bV v hv).1) hb bb;have ePt:=Zx6 (R:=cz (Ls.zip vs)) (b:=b) p0 pd pl (by omega);have et:Zcm p.length (sb (cz (Ls.zip vs)) p) b=Zcm p.length (cz D) b:=by
  unfold Zcm;refine Xr λi hi=>Xr λj hj=>?_;rw[cc i j (XF.mp hi) (XF.mp hj)];rfl
 rw[et]at ePt;have LD:Lam p.length (D.map Qa):=by
  have mem:∀A∈D.map Qa,∃s∈Ls,A=Zh4 p.length (inB p s)/\A≠[]:=λA hA=>by
   obtain⟨q,hq,rfl⟩:=XM.mp hA;exact(al q hq).1
  refine⟨λA hA=>?_,λA hA B hB=>?_⟩
  .obtain⟨s,_,e,ne⟩:=mem A hA
   rw[e]at ne|-
   exact Z3f ne
  .obtain⟨s,hs,e,_⟩:=mem A hA
   obtain⟨t,ht,e',_⟩:=mem B hB;rw[e,e'];exact Z6f p0 (LS.cp s hs t ht)
 have bR:∀i j,i<p.length->j<p.length->Bt 300 (cz D i j):=λi j hi hj=>by
  have gp:∀{k:Nat},k<p.length->p.getD k 0<n:=fun{k} hk=>by
   rw[Xb,Xi hk];exact pl _ (JH _)
  rw[cc i j hi hj];exact WR.bt _ _ (gp hi) (gp hj)
 obtain⟨Cs,eC,mC,uC,lC⟩:=Znl (n:=p.length) p0 (by omega);have Tt:=Zw7 p0 (by omega) LD (λq hq=>Int.le_of_lt (al q hq).2) hb bb bR eC (λs hs=>(mC s).mp hs) (by omega);rw[Ya4 LD.ok nd mC uC]at Tt;have ew:wL D b=D.map λq=>(q.1,XR q.2 b):=by
  unfold wL;rw[List.filter_eq_self.mpr λq hq=>YQ (al q hq).2]
 rw[ew]at Tt;refine Told.ok (Z1 rfl ?_);exact Z2 (Zw (Zq (Zb (Zq (Zb Za (Zb Yb Zm)) (.of e0 (OT.data_fz _))) (Zb Yb (Zb Yb (Zb Yb Zm)))) (.of en (OT.data_fz _))))<|Z2 (Zw (Zq (Zb Za (Zb Yb Zm)) (.of e1 (OT.data_fz _))))<|
  Z2 (Zw (Zq (Zb (Zc7 Za Yb) (Zb Za Zm)) eS))<|Z2 (Zw (Zq (Zb Za (Zb Yb (Zb ((Zeq (ds:=Ls.map Zg) Za).cast (by rw[Xe])) (Zb Za Zm)))) eV))<|
  Z2 (Zw (Zq (Zb Za Zm) eb))<|Z2 (Zw (Zq (Zb (Zq (Zb Za (Zb Za (Zb Za Zm))) eR) (Zb Za Zm)) eT))<|
  Z2 (Zw (Zq (Zb (Zq (Zb Za (Zb Yb Zm)) (.of e2 (OT.data_fz _))) (Zb Za Zm)) eP))<|
  Z2 (Zw (Zq (Zb Za (Zb Za (Zb Za (Zb Za Zm)))) eD))<|
  Yg (Zq (Zb (Zq (Zb (Zq (Zb Za (Zb Za Zm)) ePt) Zm) Tt) (Zb (Zbd (Zb Yb (Zb Za Zm)) (show 2<=1000 by decide)) Zm)) (Zqe 3 _))
end My
namespace L2
open PySem PySem.Spec PyProof.Rows
structure Ei(K:Xc)(x:Str)(st:YK)(f:YG)(fd:X3):Prop where
 a:QW K Qm x=YB (YB (.ref f))
 F:Fun K x x st f fd
structure En(K:Xc)(mg:Str->Option Xf)(x:Str)(st:YK)(ps:List Str)(f:YG)(fd:X3):Prop where
 F:Fun K x x st f fd
 b:Binds K fd ps []
 m:mg x=YB (.ref f)
structure Ec(K:Xc)(mg:Str->Option Xf)(x:Str)(f:YG):Prop where
 m:mg x=YB (.ref f)
 a:ClsAt K x f
section
variable {f:YG}{fd:X3}
theorem en0(X:K.In h)(G:h.Ns Qm mg)(q:Ei K x st f fd)(hb:∀(kV doc pm:Xf) (an:Option YG) (cdv ct:Xf) (us:List Xf),us.length=ps.length->bindArgs (V3 x x (Ze4 st) (Zbq st) (Zn st) .none kV doc pm an cdv ct) ⟨us,[]⟩=pure (ps.zip us)):En K mg x st ps f fd:=⟨q.F,q.F.binds hb,PySem.W.mg_of X G q.a⟩
abbrev Bd(x:Str)(st:YK)(ps:List Str)(us:List Xf):Prop:=∀(kV doc pm:Xf) (an:Option YG) (cdv ct:Xf),bindArgs (V3 x x (Ze4 st) (Zbq st) (Zn st) .none kV doc pm an cdv ct) ⟨us,[]⟩=pure (ps.zip us)
theorem l_c{n:Nat}(h:us.length=n+1):∃u vs,us=u::vs/\vs.length=n:=by
 cases us with
 | nil=>cases h
 | cons u vs=>exact⟨u,vs,rfl,Nat.succ.inj h⟩
theorem en1(X:K.In h)(G:h.Ns Qm mg)(q:Ei K x st f fd){p0:Str}(hb:∀v0,Bd x st [p0] [v0]:=by exact λ_ _ _ _ _ _ _=>rfl):En K mg x st [p0] f fd:=en0 X G q λa b c d e g us hl=>by
 have h0:us.length=1:=hl;obtain⟨u0,us0,e0,h1⟩:=l_c h0;cases BR h1;subst e0;exact hb u0 a b c d e g
theorem en2(X:K.In h)(G:h.Ns Qm mg)(q:Ei K x st f fd){p0 p1:Str}(hb:∀v0 v1,Bd x st [p0,p1] [v0,v1]:=by exact λ_ _ _ _ _ _ _ _=>rfl):En K mg x st [p0,p1] f fd:=en0 X G q λa b c d e g us hl=>by
 have h0:us.length=2:=hl;obtain⟨u0,us0,e0,h1⟩:=l_c h0;obtain⟨u1,us1,e1,h2⟩:=l_c h1;cases BR h2;subst e1;subst e0;exact hb u0 u1 a b c d e g
theorem en3(X:K.In h)(G:h.Ns Qm mg)(q:Ei K x st f fd){p0 p1 p2:Str}(hb:∀v0 v1 v2,Bd x st [p0,p1,p2] [v0,v1,v2]:=by exact λ_ _ _ _ _ _ _ _ _=>rfl):En K mg x st [p0,p1,p2] f fd:=en0 X G q λa b c d e g us hl=>by
 have h0:us.length=3:=hl;obtain⟨u0,us0,e0,h1⟩:=l_c h0;obtain⟨u1,us1,e1,h2⟩:=l_c h1;obtain⟨u2,us2,e2,h3⟩:=l_c h2;cases BR h3;subst e2;subst e1;subst e0;exact hb u0 u1 u2 a b c d e g
theorem en4(X:K.In h)(G:h.Ns Qm mg)(q:Ei K x st f fd){p0 p1 p2 p3:Str}(hb:∀v0 v1 v2 v3,Bd x st [p0,p1,p2,p3] [v0,v1,v2,v3]:=by exact λ_ _ _ _ _ _ _ _ _ _=>rfl):En K mg x st [p0,p1,p2,p3] f fd:=en0 X G q λa b c d e g us hl=>by
 have h0:us.length=4:=hl;obtain⟨u0,us0,e0,h1⟩:=l_c h0;obtain⟨u1,us1,e1,h2⟩:=l_c h1;obtain⟨u2,us2,e2,h3⟩:=l_c h2;obtain⟨u3,us3,e3,h4⟩:=l_c h3;cases BR h4;subst e3;subst e2;subst e1;subst e0;exact hb u0 u1 u2 u3 a b c d e g
theorem en5(X:K.In h)(G:h.Ns Qm mg)(q:Ei K x st f fd){p0 p1 p2 p3 p4:Str}(hb:∀v0 v1 v2 v3 v4,Bd x st [p0,p1,p2,p3,p4] [v0,v1,v2,v3,v4]:=by exact λ_ _ _ _ _ _ _ _ _ _ _=>rfl):En K mg x st [p0,p1,p2,p3,p4] f fd:=en0 X G q λa b c d e g us hl=>by
 have h0:us.length=5:=hl;obtain⟨u0,us0,e0,h1⟩:=l_c h0;obtain⟨u1,us1,e1,h2⟩:=l_c h1;obtain⟨u2,us2,e2,h3⟩:=l_c h2;obtain⟨u3,us3,e3,h4⟩:=l_c h3;obtain⟨u4,us4,e4,h5⟩:=l_c h4;cases BR h5;subst e4;subst e3;subst e2;subst e1;subst e0;exact hb u0 u1 u2 u3 u4 a b c d e g
theorem ec(X:K.In h)(G:h.Ns Qm mg)(a:QW K Qm x=YB (YB (.ref f))):Ec K mg x f:=⟨PySem.W.mg_of X G a,a⟩
end
theorem fsc{P:List Str}{sc:UW}(h1:sc.kind= .function:=by rfl)(h2:sc.isCoroutine=YF:=by rfl)(h3:sc.isGenerator=YF:=by rfl)(h4:N.Nodup:=by decide +kernel)(h5:N.take P.length=P:=by rfl)(h6:∀x∈P,sc.names.lookup x=YB .local\/sc.names.lookup x=YB .cell:=by decide +kernel)(h7:∀y∈sc.names,y.2≠ .free:=by decide +kernel):Zv N P sc:=⟨h1,h2,h3,h4,h5,h6,h7⟩
section
variable {f g:FS}{ta:FT}
abbrev BS(X:Cx)(io:List Nat)(st:YK)(f:FS):Prop:=MS X io st (oS f)/\XS X io st (xS X.K f)
abbrev BSs(X:Cx)(io:List Nat)(sts:List YK)(f:FS):Prop:=MSs X io sts (oS f)/\XSs X io sts (xS X.K f)
end
section
variable {k k':Nat}{f:YG}{fd:X3}
theorem xce(G:FnOk X.prog X.w X.K X.mg X.base CX0 k f fd ps (spD X.K (sD F)))(hr:Room k' X.A)(E:En X.K X.mg x st ps f fd)(ha:MA X io p c (e::es) (o2 ra))(hle:k<=k':=by decide)(hg:Gl X x:=by rfl)(h1:(x==("__debug__" : Str))=YF:=by decide)(h2:Xq (e::es) X.env=(YF,eval e X.env)::Xq es X.env:=by rfl)(h3:((JK pos (Xq es X.env)).any λx=>x.fst)=YF:=by rfl):ME X io p c (.Call (.Name x pp) (e::es) [] pos) (o2 (Z4 F ra)):=xcl G (hr.mono hle) E.m E.F.kp E.b ha hg h1 h2 h3
end
section
variable {pt:Bool}{sc:UW}{g:MGt}{mt:MTt}{me:MEt}
theorem Zko(own:List Str)(caps:List Nat)(N':List Str)(hi:MI X io p ci tg iter mi)
  (hg:∀C cells s₂ H₂ fp,MG (Yt X N' sc C cells s₂ H₂ fp) (Jv own.length caps) ci tg g) (ht:∀C cells s₂ H₂ fp,MIfs (Yt X N' sc C cells s₂ H₂ fp) (Jv own.length caps) pt ifs mt) (he:∀C cells s₂ H₂ fp,ME (Yt X N' sc C cells s₂ H₂ fp) (Jv own.length caps) pe YD elt me)
  (S:CompScope X own caps N' sc:=by exact⟨rfl,by decide +kernel,rfl,by decide +kernel,rfl,rfl⟩) (hc:X.calm=YD:=by rfl) (nd:caps.Nodup:=by decide) (hp:(pt&&pe)=YD:=by rfl) (hs:∀x,Bv iter X.env x=pure x:=by intro _;rfl):ME X io p YD (.ListComp elt [⟨tg,iter,ifs,0⟩] sc pos) (Zfm own.length caps mi g mt me):=Yb0 S hc nd hi hg ht he hp hs
end
end L2
namespace My
open PySem L2 PySem.Spec
def top(i:Nat):YK:=PySem.Challenge.pw_farcuts_k22_parts_of_trees.main.body.getD i (.Pass ⟨0,0,0,0⟩)
abbrev Zd5:YK:=top 42
abbrev Zcd:YK:=top 45
abbrev Zb4:YK:=top 38
abbrev Zfb:YK:=top 39
abbrev Zb1:YK:=top 40
abbrev Za4:YK:=top 43
abbrev Zg4:YK:=top 41
abbrev Zhr:YK:=top 50
abbrev Zci:YK:=top 49
abbrev Ze7:YK:=top 46
abbrev Zfd:YK:=top 48
abbrev Zdr:YK:=top 47
abbrev Zbv:YK:=top 44
abbrev Zfk:YK:=top 28
abbrev Zg3:YK:=top 29
abbrev Zhn:YK:=top 30
abbrev Y6:YK:=top 33
abbrev Zam:YK:=top 12
abbrev Zcn:YK:=top 21
abbrev Zch:YK:=top 34
abbrev Zfl:YK:=top 10
abbrev Jc:YK:=top 6
abbrev Zfo:YK:=top 7
abbrev Ztk:YK:=top 9
abbrev Zbx:YK:=top 26
abbrev Zby:YK:=top 27
abbrev Zal:YK:=top 14
abbrev Za7:YK:=top 16
abbrev Zd7:YK:=top 15
abbrev Zcf:YK:=top 17
abbrev Zct:YK:=top 35
abbrev Zdz:YK:=top 32
abbrev Ze8:YK:=top 19
abbrev Zfq:YK:=top 5
abbrev Zff:YK:=top 8
abbrev Zcr:YK:=top 22
abbrev W8:YK:=top 23
abbrev Zbw:YK:=top 24
abbrev Zd4:YK:=top 36
abbrev Z5c:YK:=top 51
set_option genInjectivity false in
set_option genSizeOfSpec false in
structure Txt(K:Xc)(mg:Str->Option Xf)(f:Nat->YG)(fd:Nat->X3)(cls:Nat->YG):Prop where
 e_law_alike:En K mg "_law_alike" Zd5 ["found","due"] (f 0) (fd 0)
 e_law_bottom:En K mg "_law_bottom" Zcd ["cell"] (f 1) (fd 1)
 e_law_cell_at:En K mg "_law_cell_at" Zb4 ["script","k"] (f 2) (fd 2)
 e_law_stir:En K mg "_law_stir" Zfb ["cell","k"] (f 3) (fd 3)
 e_law_numbers:En K mg "_law_numbers" Zb1 ["cell","many"] (f 4) (fd 4)
 e_law_clusters:En K mg "_law_clusters" Za4 ["cell","n"] (f 5) (fd 5)
 e_law_low:En K mg "_law_low" Zg4 ["top","bottom"] (f 6) (fd 6)
 e_law_due:En K mg "_law_due" Zhr ["sides","weights","points","bottom"] (f 7) (fd 7)
 e_law_points:En K mg "_law_points" Zci ["cell","n"] (f 8) (fd 8)
 e_law_rows:En K mg "_law_rows" Ze7 ["n","sides","weights"] (f 9) (fd 9)
 e_law_size:En K mg "_law_size" Zfd ["cell","least","most","great"] (f 10) (fd 10)
 e_law_table:En K mg "_law_table" Zdr ["rows","bottom"] (f 11) (fd 11)
 e_law_weights:En K mg "_law_weights" Zbv ["script","start","many","cell"] (f 12) (fd 12)
 e_is_point:En K mg "is_point" Zfk ["table","point"] (f 13) (fd 13)
 e_is_part:En K mg "is_part" Zg3 ["table","points"] (f 14) (fd 14)
 e_part_of:En K mg "part_of" Zhn ["table","points"] (f 15) (fd 15)
 e_is_one_alone_greatest:En K mg "is_one_alone_greatest" Y6 ["sums"] (f 16) (fd 16)
 e_rising_tuples:En K mg "rising_tuples" Zam ["n","many"] (f 17) (fd 17)
 e_three_sums:En K mg "three_sums" Zcn ["rows","i","j","k","l"] (f 18) (fd 18)
 e_first_four:En K mg "first_four" Zch ["rows"] (f 19) (fd 19)
 e_is_below:En K mg "is_below" Zfl ["q","r"] (f 20) (fd 20)
 e_greatest_divisor:En K mg "greatest_divisor" Jc ["a","b"] (f 21) (fd 21)
 e_in_least:En K mg "in_least" Zfo ["top","bottom"] (f 22) (fd 22)
 e_plus:En K mg "plus" Ztk ["q","r"] (f 23) (fd 23)
 e_is_short_by:En K mg "is_short_by" Zbx ["table","i","j","k"] (f 24) (fd 24)
 e_first_short:En K mg "first_short" Zby ["table"] (f 25) (fd 25)
 e_shared_bottom:En K mg "shared_bottom" Zal ["numbers"] (f 26) (fd 26)
 e_table_bottom:En K mg "table_bottom" Za7 ["table"] (f 27) (fd 27)
 e_tops_over:En K mg "tops_over" Zd7 ["bottom","numbers"] (f 28) (fd 28)
 e_table_over:En K mg "table_over" Zcf ["bottom","table"] (f 29) (fd 29)
 e_first_bars:En K mg "first_bars" Zct ["table"] (f 30) (fd 30)
 e_tree_rule:En K mg "tree_rule" Zdz ["sums"] (f 31) (fd 31)
 e_all_cuts:En K mg "all_cuts" Ze8 ["n"] (f 32) (fd 32)
 e_is_whole:En K mg "is_whole" Zfq ["thing"] (f 33) (fd 33)
 e_fraction:En K mg "fraction" Zff ["top","bottom"] (f 34) (fd 34)
 e_doubles_of:En K mg "doubles_of" Zcr ["points"] (f 35) (fd 35)
 e_least_over_sides:En K mg "least_over_sides" W8 ["rows","cut","rule"] (f 36) (fd 36)
 e_weighted_by:En K mg "weighted_by" Zbw ["table","rule"] (f 37) (fd 37)
 e_tree_told:En K mg "tree_told" Zd4 ["table"] (f 38) (fd 38)
 e_law:En K mg "law" Z5c ["script"] (f 39) (fd 39)
 fa_tree_rule:ClsAt K "tree_rule" (f 31)
 z_abs:mg "abs"=YC
 z_bool:mg "bool"=YC
 z_enumerate:mg "enumerate"=YC
 z_int:mg "int"=YC
 z_isinstance:mg "isinstance"=YC
 z_len:mg "len"=YC
 z_list:mg "list"=YC
 z_min:mg "min"=YC
 z_range:mg "range"=YC
 z_set:mg "set"=YC
 z_sorted:mg "sorted"=YC
 z_str:mg "str"=YC
 z_tuple:mg "tuple"=YC
 z_zip:mg "zip"=YC
 c_NoNumber:Ec K mg "NoNumber" (cls 0)
 c_NoPoint:Ec K mg "NoPoint" (cls 1)
 x_NoNumber:Ze0 K (cls 0)
 x_NoPoint:Ze0 K (cls 1)
 r_NoNumber:Zyp K (cls 0)
 r_NoPoint:Zyp K (cls 1)
end My
variable {D:List (List Int×Int)}{f cls:Nat->YG}{fd:Nat->X3}{p0 p1:Str}
namespace My
open PySem L2 PySem.Spec
section
variable {base:YH}
theorem Zcj:Zv ["found","due","one","other"] ["found","due"] (Zn Zd5):=fsc
theorem Zcy(T:Txt K mg f fd cls):∀k,FnOk P w K mg base CX0 (1+k) (f 0) (fd 0) ["found","due"] (spD K (sD (Zt k)))
 | 0=>Z5r λds k h=>by obtain⟨r,h,_⟩:=h;cases h
 | k+1=>by
  have G_rec:=Zcy T k;refine Z7 T.e_law_alike.F Zcj (S:=Wc (Zt k)) rfl rfl (λcdv A outer s H E hr=>?_);have hu:=hr.units;exact(Zij (Zdd (Zqc (Zrn (Zeg (Zem (Zcx (Zhb (by decide) (by rfl) T.z_isinstance L2.B.boot_isinstance (by rfl) T.z_int L2.B.boot_int (Wy (mv 1)))) (λ_=>rfl))) (Zk (Zhk (Zgp (Zgt (Zt7 (Zcx (Zhb (by decide) (by rfl) T.z_isinstance L2.B.boot_isinstance (by rfl) T.z_int L2.B.boot_int (Wy (mv 0)))) (Zgt (Zt7 (Zv4 (Ycr (Zcx (Zhb (by decide) (by rfl) T.z_isinstance L2.B.boot_isinstance (by rfl) T.z_bool L2.B.boot_bool (Wy (mv 0)))))) (Zzq (W5 Ydu (Zk8 (Zpr hu) Zyk (Wy (mv 0)) (Wy (mv 1)) (hm:=(Jy _)))))))))))) (Ze5 Zfc)))
   (Zij (Zdd (Zqc (Zrn (Zeg (Zem (Zcx (Zhb (by decide) (by rfl) T.z_isinstance L2.B.boot_isinstance (by rfl) T.z_str L2.B.boot_str (Wy (mv 1)))) (λ_=>rfl))) (Zk (Zhk (Zgp (Zgt (Zt7 (Zcx (Zhb (by decide) (by rfl) T.z_isinstance L2.B.boot_isinstance (by rfl) T.z_str L2.B.boot_str (Wy (mv 0)))) (Zzq (W5 Ydu (Zk8 (Zpr hu) Zyk (Wy (mv 0)) (Wy (mv 1)) (hm:=(Jy _)))))))))) (Ze5 Zfc)))
   (Zij (Zdd (Zqc (Zrn (MW.mt (Z24 (Z6w (Zag Ydd (Zah (Zph hu) Zz5 (Zcx (Zhb (by decide) (by rfl) T.z_isinstance L2.B.boot_isinstance (by rfl) T.z_tuple L2.B.boot_tuple (Wy (mv 1)))) (Zcx (Zhb (by decide) (by rfl) T.z_isinstance L2.B.boot_isinstance (by rfl) T.z_tuple L2.B.boot_tuple (Wy (mv 0)))) (hm:=(Jy _)))) (Z10 (Zag Ydd (Zah (Zph hu) Zz5 (Zcx (Zhb (by decide) (by rfl) T.z_isinstance L2.B.boot_isinstance (by rfl) T.z_list L2.B.boot_list (Wy (mv 1)))) (Zcx (Zhb (by decide) (by rfl) T.z_isinstance L2.B.boot_isinstance (by rfl) T.z_list L2.B.boot_list (Wy (mv 0)))) (hm:=(Jy _)))))))) (Zk (Zhk (Zgp (Zoy Zwo)))) (Ze5 Zfc)))
   (Zij (Zdd (Zqc (Zrn (Zag Ydd (Zah (Zph hu) Zz5 (Zf3 Z6c (Zml Zst (Zhs rfl) (by rfl) T.z_len L2.B.boot_len (Zf (Wy (mv 0)) (Zmm Zlv)))) (Zf3 Z6c (Zml Zst (Zhs rfl) (by rfl) T.z_len L2.B.boot_len (Zf (Wy (mv 1)) (Zmm Zlv)))) (hm:=(Jy _)))) (Zk (Zhk (Zgp (Zoy Zwo)))) (Ze5 Zfc)))
   (Zij (Zdd (Z1m (Z1w Qe rfl (Znp (Znf (by rfl) T.z_zip L2.B.boot_zip (Zf (Wy (mv 0)) (Zf (Wy (mv 1)) (Zmm Zlv))))) (Zuy (Zs8 (n:=2) (by rfl) (Zax (Za3 (Zmw (Znz (i:=2) Zcj.nd)) (Zax (Za3 (Zmw (Znz (i:=3) Zcj.nd)) (Zmv Znu)))))))
   (Zk (Zqc (Zrn (Z09 (Z14 (Zeg (Zem (Zr3 (Z03 G_rec hr (by rfl) T.e_law_alike.m T.e_law_alike.F.kp T.e_law_alike.b Zzn (Zf (Wy (mv 2)) (Zf (Wy (mv 3)) (Zmm Zlv))))) (λ_=>rfl))))) (Zk (Zhk (Zgp (Zoy Zwo)))) (Ze5 Zfc))))))
   (Zk (Zhk (Zgp (Zoy Zwo))))))))))))))
theorem Zme(T:Txt K mg f fd cls):FnOk P w K mg base CX0 9 (f 0) (fd 0) ["found","due"] (spD K (sD (Zt 8))):=Zcy T 8
theorem Zjh:Zv ["cell"] ["cell"] (Zn Zcd):=fsc
theorem Zjs(T:Txt K mg f fd cls):FnOk P w K mg base CX0 1 (f 1) (fd 1) ["cell"] (spD K (sD Wq)):=by
 refine Z7 T.e_law_bottom.F Zjh (S:=Zbi) rfl rfl (λcdv A outer s H E hr=>?_);exact(Zk (xrt (xix (xls (Zf xci (Zf xci (Zf xci (xa1 (Zhz (Ygq xci xci) xci)))))) (Zlk (Zrw (xv 0) xci) xci))))
theorem Zh8:Zv ["script","k"] ["script","k"] (Zn Zb4):=fsc
theorem Zh5(T:Txt K mg f fd cls):FnOk P w K mg base CX0 1 (f 2) (fd 2) ["script","k"] (spD K (sD Yp)):=by
 refine Z7 T.e_law_cell_at.F Zh8 (S:=Zau) rfl rfl (λcdv A outer s H E hr=>?_);exact(xsq (xif (xlt (xv 1) (xln T.z_len (xa1 (xv 0)))) (Zk (xrt (xix (xv 0) (xv 1)))) xnl) (Zk (xrt xci)))
theorem Zd0:Zv ["cell","k","one"] ["cell","k"] (Zn Zfb):=fsc
theorem Zhu(T:Txt K mg f fd cls):FnOk P w K mg base CX0 1 (f 3) (fd 3) ["cell","k"] (spD K (sD Wi)):=by
 refine Z7 T.e_law_stir.F Zd0 (S:=Zcg) rfl rfl (λcdv A outer s H E hr=>?_);exact(xsq (xst 2 Zd0.nd (Zlk (Zmr (Zhz (Zhz (Zlk (xv 0) xci) (Zmr xci (xv 1))) xci) xci) xci)) (xsq (xst 2 Zd0.nd (Zlk (Zmr (xv 2) (xv 2)) xci)) (Zk (xrt (Zrw (Zlk (Zmr (Zhz (xv 2) (Zmr xci (xv 1))) xci) xci) xci)))))
theorem Ys:Zv ["cell","many","found","digits","k","number"] ["cell","many"] (Zn Zb1):=fsc
theorem Zdo(T:Txt K mg f fd cls):FnOk P w K mg base CX0 2 (f 4) (fd 4) ["cell","many"] (spD K (sD Yq)):=by
 have G_law_stir:=Zhu (P:=P) (w:=w) (base:=base) T;refine Z7 T.e_law_numbers.F Ys (S:=Za1) rfl rfl (λcdv A outer s H E hr=>?_);exact(xsq (xso 2 Ys.nd (xls xa0)) (xsq (xst 3 Ys.nd (xv 0)) (xsq (xfr Qe rfl (Zen (Yr (by rfl) T.z_range (xa1 (xv 1)))) (xg 4 Ys.nd) (xsq (xst 5 Ys.nd (xce G_law_stir hr T.e_law_stir (Zf (xv 0) (xa1 (xv 4))))) (xsq (xif (xge (xv 0) (Ygq xci xci)) (Zk (xst 5 Ys.nd (Zlk (xv 3) xci))) xnl) (xsq (xst 3 Ys.nd (Zrw (xv 3) xci)) (Zk (J0 (Jx 2 (xv 5)))))))) (Zk (Zco (Zcw 2))))))
theorem Yj:Zv ["cell","n","numbers","left","found","k","one","other"] ["cell","n"] (Zn Za4):=fsc
theorem Zg8(T:Txt K mg f fd cls):FnOk P w K mg base CX0 3 (f 5) (fd 5) ["cell","n"] (spD K (sD Y8)):=by
 have G_law_numbers:=Zdo (P:=P) (w:=w) (base:=base) T;refine Z7 T.e_law_clusters.F Yj (S:=Zai) rfl rfl (λcdv A outer s H E hr=>?_);exact(xsq (xst 2 Yj.nd (xce G_law_numbers hr T.e_law_numbers (Zf (xv 0) (xa1 (Zmr xci (xv 1)))))) (xsq (Zyi (Zm2 (i:=3) (own:=["point"]) (caps:=[]) (N':=["point"]) Yj.nd rfl (QG rfl) (by exact⟨rfl,by decide +kernel,rfl,by decide +kernel,rfl,rfl⟩) (by rfl) (by decide) (Z2p (Zhj (by rfl) T.z_range (Zf xci (xa1 (xv 1))))) (λ_ _ _ _ _=>(xg 0 (by show JS (["point"]:List Str);decide +kernel))) (λ_ _ _ _ _=>(Zbb Zba)) (λ_ _ _ _ _=>(xls (xa1 (xv 0)))))) (xsq (xso 4 Yj.nd (Zw0 (Z5a 3 (by rfl) T.z_list L2.B.boot_list))) (xsq (xfr Qe rfl (Zen (Yr (by rfl) T.z_range (xa1 (Ydf (xv 1) xci)))) (xg 5 Yj.nd) (xsq (xst 6 Yj.nd (Zws (Z4o 3 (Zlk (xix (xv 2) (Zmr xci (xv 5))) (xln T.z_len (xa1 (xo 3))))))) (xsq (xst 7 Yj.nd (Zws (Z4o 3 (Zlk (xix (xv 2) (Zhz (Zmr xci (xv 5)) xci)) (xln T.z_len (xa1 (xo 3))))))) (xsq (J0 (Jx 3 (Zn2 Z2a (Ydk Zw3 (Zrj rfl) (by rfl) T.z_sorted L2.B.boot_sorted (xa1 (Zqg (Zim Zz1 (Z73 (Zke rfl) Zog (xv 6) (xv 7))))))))) (Zk (J0 (Jx 4 (Ycq (Yfv 3 (Zr2 (Z6r xci)) (λ_ _=>rfl)))))))))) (Zk (Zco (Zcw 4)))))))
theorem Zae:Zv ["top","bottom","one","other","left"] ["top","bottom"] (Zn Zg4):=fsc
theorem Zie(T:Txt K mg f fd cls):FnOk P w K mg base CX0 1 (f 6) (fd 6) ["top","bottom"] (spD K (sD Js)):=by
 refine Z7 T.e_law_low.F Zae (S:=Zdj) rfl rfl (λcdv A outer s H E hr=>?_);have hu:=hr.units;exact(xsq (xst 2 Zae.nd (Zf3 Z63 (Zml Ztq Zj9 (by rfl) T.z_abs L2.B.boot_abs (xa1 (xv 0))))) (xsq (xst 3 Zae.nd (xv 1)) (xsq (Zod (Zn8 Qe (xne hu (xv 3) xci) (xsq (xst 4 Zae.nd (Zlk (xv 2) (xv 3))) (xsq (xst 2 Zae.nd (xv 3)) (Zk (xst 3 Zae.nd (xv 4))))))) (Zk (xrt (xtp (Zf (Zrw (xv 0) (xv 2)) (xa1 (Zrw (xv 1) (xv 2))))))))))
theorem Zad:Zv ["sides","weights","points","bottom","found","side","weight","part"] ["sides","weights","points","bottom"] (Zn Zhr):=fsc
theorem Zrp(T:Txt K mg f fd cls):FnOk P w K mg base CX0 2 (f 7) (fd 7) ["sides","weights","points","bottom"] (spD K (sD Za5)):=by
 have G_law_low:=Zie (P:=P) (w:=w) (base:=base) T;refine Z7 T.e_law_due.F Zad (S:=Zdn) rfl rfl (λcdv A outer s H E hr=>?_);have hu:=hr.units;exact(xsq (xso 4 Zad.nd (Z6x Z6z)) (xsq (xfr Qe rfl (Znp (Znf (by rfl) T.z_zip L2.B.boot_zip (Zf (xv 0) (xa1 (xv 1))))) (xg2 rfl (xg 5 Zad.nd) (xg 6 Zad.nd)) (xsq (Zm7 (Zdc (i:=7) (own:=["k"]) (caps:=[2,5]) (N':=["k","points","side"]) YF Zad.nd rfl (QG rfl) (by exact⟨rfl,by decide +kernel,rfl,by decide +kernel,rfl,rfl⟩) (by rfl) (by decide) (Zen (Yr (by rfl) T.z_range (xa1 (xln T.z_len (xa1 (xv 2)))))) (λ_ _ _ _ _=>(xg 0 (by show JS (["k","points","side"]:List Str);decide +kernel))) (λ_ _ _ _ _=>(Zjz (Zag Zqh (Zah (Zpl rfl) Zrr (xix (xv 1) (xv 0)) (xv 2) (hm:=(by with_unfolding_all rfl)))))) (λ_ _ _ _ _=>(xv 0)))) (xsq (xif (Zag Zqh (Zah (Zpl rfl) Zrr xci (xv 7) (hm:=(by with_unfolding_all rfl)))) (Zk (Zm7 (Zdc (i:=7) (own:=["k"]) (caps:=[2,5]) (N':=["k","points","side"]) YF Zad.nd rfl (QG rfl) (by exact⟨rfl,by decide +kernel,rfl,by decide +kernel,rfl,rfl⟩) (by rfl) (by decide) (Zen (Yr (by rfl) T.z_range (xa1 (xln T.z_len (xa1 (xv 2)))))) (λ_ _ _ _ _=>(xg 0 (by show JS (["k","points","side"]:List Str);decide +kernel))) (λ_ _ _ _ _=>(Zjz (Zag Zqh (Zah (Zkv rfl) Zrr (xix (xv 1) (xv 0)) (xv 2) (hm:=(by with_unfolding_all rfl)))))) (λ_ _ _ _ _=>(xv 0))))) xnl) (Zk (xif (MW.mt (Z8i (Z8j (xne hu (xv 7) (xls xa0)) (Z2r (xgt (xv 6) xci))))) (Zk (Z3y (Z21 4 hu (Zhz (Z2x (Z4d hu (xo 4) (Zn2 Z0t (Yd1 Zwe (Zhv rfl) (by rfl) T.z_tuple L2.B.boot_tuple (xa1 (xv 7)))) xci ⟨rfl,rfl,rfl,rfl⟩)) (xv 6)) (Zn2 Z0t (Yd1 Zwe (Zhv rfl) (by rfl) T.z_tuple L2.B.boot_tuple (xa1 (xv 7))))))) xnl))))) (Zk (xrt (Zn2 Zss (Ydk Zoh (Ziy Yaa rfl hu) (by rfl) T.z_sorted L2.B.boot_sorted (xa1 (Zbp (Zko ["part","weight"] [3] ["part","weight","bottom"] (Zzx (Zxm 4)) (λ_ _ _ _ _=>(xg2 rfl (xg 0 (by show JS (["part","weight","bottom"]:List Str);decide +kernel)) (xg 1 (by show JS (["part","weight","bottom"]:List Str);decide +kernel)))) (λ_ _ _ _ _=>(Zbb Zba)) (λ_ _ _ _ _=>(xtp (Zf (Zn2 Z9u (Yd1 Z50 (Zid rfl) (by rfl) T.z_list L2.B.boot_list (xa1 (xv 0)))) (xa1 (xce G_law_low hr T.e_law_low (Zf (xv 1) (xa1 (xv 2)))))))))))))))))
theorem Je:Zv ["cell","n","numbers","left","found","k"] ["cell","n"] (Zn Zci):=fsc
theorem Zjq(T:Txt K mg f fd cls):FnOk P w K mg base CX0 3 (f 8) (fd 8) ["cell","n"] (spD K (sD Wn)):=by
 have G_law_numbers:=Zdo (P:=P) (w:=w) (base:=base) T;refine Z7 T.e_law_points.F Je (S:=Zbk) rfl rfl (λcdv A outer s H E hr=>?_);exact(xsq (xst 2 Je.nd (xce G_law_numbers hr T.e_law_numbers (Zf (xv 0) (xa1 (Zhz (xv 1) xci))))) (xsq (xso 3 Je.nd (Z7y (Zr5 (by rfl) (by rfl) T.z_list L2.B.boot_list (by rfl) T.z_range L2.B.boot_range (xa1 (xv 1))))) (xsq (xso 4 Je.nd (xls xa0)) (xsq (xfr Qe rfl (Zen (Yr (by rfl) T.z_range (xa1 (Zhz xci (Zlk (xix (xv 2) (xv 1)) (xv 1)))))) (xg 5 Je.nd) (Zk (J0 (Jx 4 (Zws (Z4o 3 (Zlk (xix (xv 2) (xv 5)) (xln T.z_len (xa1 (xo 3)))))))))) (Zk (Zco (Zcw 4)))))))
theorem Jl:Zv ["n","sides","weights","rows","side","weight","i","j"] ["n","sides","weights"] (Zn Ze7):=fsc
theorem Zms(T:Txt K mg f fd cls):FnOk P w K mg base CX0 1 (f 9) (fd 9) ["n","sides","weights"] (spD K (sD Zaq)):=by
 refine Z7 T.e_law_rows.F Jl (S:=Zc3) rfl rfl (λcdv A outer s H E hr=>?_);have hu:=hr.units;exact(xsq (Zz9 (Zdc (i:=3) (own:=["point"]) (caps:=[0]) (N':=["point","n"]) YD Jl.nd rfl (QG rfl) (by exact⟨rfl,by decide +kernel,rfl,by decide +kernel,rfl,rfl⟩) (by rfl) (by decide) (Zen (Yr (by rfl) T.z_range (xa1 (xv 0)))) (λ_ _ _ _ _=>(xg 0 (by show JS (["point","n"]:List Str);decide +kernel))) (λ_ _ _ _ _=>(Zbb Zba)) (λ_ _ _ _ _=>(Z9n (Yd7 xci (xv 1)))))) (xsq (xfr Qe rfl (Znp (Znf (by rfl) T.z_zip L2.B.boot_zip (Zf (xv 1) (xa1 (xv 2))))) (xg2 rfl (xg 4 Jl.nd) (xg 5 Jl.nd)) (Zk (xfr Qe rfl (Zen (Yr (by rfl) T.z_range (xa1 (xv 0)))) (xg 6 Jl.nd) (Zk (xfr Qe rfl (Zen (Yr (by rfl) T.z_range (xa1 (xv 0)))) (xg 7 Jl.nd) (Zk (xif (xne hu (W5 Zqh (Zk8 (Zpl rfl) Zrr (xv 6) (xv 4) (hm:=(by with_unfolding_all rfl)))) (W5 Zqh (Zk8 (Zpl rfl) Zrr (xv 7) (xv 4) (hm:=(by with_unfolding_all rfl))))) (Zk (Z7d (Z7e 3 (Zhz (xix (xix (xo 3) (xv 6)) (xv 7)) (xv 5)) (xv 6) (xv 7) (λ_ _=>rfl)))) xnl))))))) (Zk (Zco (Zcw 3)))))
theorem Znt:Zv ["cell","least","most","great"] ["cell","least","most","great"] (Zn Zfd):=fsc
theorem Zm9(T:Txt K mg f fd cls):FnOk P w K mg base CX0 1 (f 10) (fd 10) ["cell","least","most","great"] (spD K (sD Jd)):=by
 refine Z7 T.e_law_size.F Znt (S:=Zcu) rfl rfl (λcdv A outer s H E hr=>?_);have hu:=hr.units;exact(xsq (xif (xeq hu (Zlk (Zrw (xv 0) xci) xci) xci) (Zk (xrt (Zhz (Zhz (xv 2) xci) (Zlk (Zrw (xv 0) xci) (Ydf (xv 3) (xv 2)))))) xnl) (Zk (xrt (Zhz (xv 1) (Zlk (xv 0) (Ydf (Zhz (xv 2) xci) (xv 1)))))))
theorem Zk0:Zv ["rows","bottom"] ["rows","bottom"] (Zn Zdr):=fsc
theorem Zlb(T:Txt K mg f fd cls):FnOk P w K mg base CX0 2 (f 11) (fd 11) ["rows","bottom"] (spD K (sD J4)):=by
 have G_law_low:=Zie (P:=P) (w:=w) (base:=base) T;refine Z7 T.e_law_table.F Zk0 (S:=Zca) rfl rfl (λcdv A outer s H E hr=>?_);exact(Zk (xrt (Zbp (Zko ["row"] [1] ["row","bottom"] (xil (xv 0)) (λ_ _ _ _ _=>(xg 0 (by show JS (["row","bottom"]:List Str);decide +kernel))) (λ_ _ _ _ _=>(Zbb Zba)) (λ_ _ _ _ _=>(Zbp (Zko ["one"] [1] ["one","bottom"] (xil (xv 0)) (λ_ _ _ _ _=>(xg 0 (by show JS (["one","bottom"]:List Str);decide +kernel))) (λ_ _ _ _ _=>(Zbb Zba)) (λ_ _ _ _ _=>(xce G_law_low hr T.e_law_low (Zf (xv 0) (xa1 (xv 1))))))))))))
theorem Wd:Zv ["script","start","many","cell","base","found","k","number"] ["script","start","many","cell"] (Zn Zbv):=fsc
theorem Zh0(T:Txt K mg f fd cls):FnOk P w K mg base CX0 2 (f 12) (fd 12) ["script","start","many","cell"] (spD K (sD W0)):=by
 have G_law_stir:=Zhu (P:=P) (w:=w) (base:=base) T;refine Z7 T.e_law_weights.F Wd (S:=Za0) rfl rfl (λcdv A outer s H E hr=>?_);exact(xsq (xst 4 Wd.nd (xix (xls (Zf xci (Zf xci (xa1 (Ygq xci xci))))) (Zlk (xv 3) xci))) (xsq (xso 5 Wd.nd (xls xa0)) (xsq (xfr Qe rfl (Zen (Yr (by rfl) T.z_range (xa1 (xv 2)))) (xg 6 Wd.nd) (xsq (xst 7 Wd.nd (xce G_law_stir hr T.e_law_stir (Zf (xv 3) (xa1 (Zhz xci (xv 6)))))) (xsq (xif (xlt (Zhz (xv 1) (xv 6)) (xln T.z_len (xa1 (xv 0)))) (Zk (xst 7 Wd.nd (xix (xv 0) (Zhz (xv 1) (xv 6))))) xnl) (Zk (J0 (Jx 5 (Zlk (xv 7) (xv 4)))))))) (Zk (Zco (Zcw 5))))))
theorem Znc:Zv ["table","point"] ["table","point"] (Zn Zfk):=fsc
theorem Zno(T:Txt K mg f fd cls):FnOk P w K mg base CX0 1 (f 13) (fd 13) ["table","point"] (spD K (sD Zaf)):=by
 refine Z7 T.e_is_point.F Znc (S:=Zcz) rfl rfl (λcdv A outer s H E hr=>?_);exact(Zk (xrt (Zyt (Z5o Yaq Z0a xci (xv 1) (xln T.z_len (xa1 (xv 0)))))))
theorem Zii:Zv ["table","points","point"] ["table","points"] (Zn Zg3):=fsc
theorem Zqw(T:Txt K mg f fd cls):FnOk P w K mg base CX0 2 (f 14) (fd 14) ["table","points"] (spD K (sD Za9)):=by
 have G_is_point:=Zno (P:=P) (w:=w) (base:=base) T;refine Z7 T.e_is_part.F Zii (S:=Zdk) rfl rfl (λcdv A outer s H E hr=>?_);have hu:=hr.units;exact(xsq (xfr Qe rfl (xil (xv 1)) (xg 2 Zii.nd) (Zk (xif (xno (Zeg (Zem (xce G_is_point hr T.e_is_point (Zf (xv 0) (xa1 (xv 2)))) (λ_=>rfl)))) (Zk (xrt (Zoy Zwo))) xnl))) (Zk (xrt (Zgt (Zt7 (W5 Yha (Zk8 Ya5 Zgy (xln T.z_len (xa1 (xv 1))) xci (hm:=(Jy _)))) (Zzq (W5 Ydu (Zk8 (Zpr hu) Zyk (Zul (Zx9 (by rfl) (by rfl) T.z_len L2.B.boot_len (by rfl) T.z_set L2.B.boot_set (xa1 (xv 1)))) (xln T.z_len (xa1 (xv 1))) (hm:=(Jy _))))))))))
theorem Zft:Zv ["table","points","part","point"] ["table","points"] (Zn Zhn):=fsc
theorem Zq7(T:Txt K mg f fd cls):FnOk P w K mg base CX0 3 (f 15) (fd 15) ["table","points"] (spD K (sD Jr)):=by
 have G_is_part:=Zqw (P:=P) (w:=w) (base:=base) T;refine Z7 T.e_part_of.F Zft (S:=Zdq) rfl rfl (λcdv A outer s H E hr=>?_);exact(xsq (xif (xno (Zeg (Zem (xce G_is_part hr T.e_is_part (Zf (xv 0) (xa1 (xv 1)))) (λ_=>rfl)))) (Zk Zn9) xnl) (xsq (xso 2 Zft.nd (xls xa0)) (xsq (xfr Qe rfl (xil (xv 1)) (xg 3 Zft.nd) (Zk (J0 (Jx 2 (Zbp (Zko ["other"] [0,3] ["other","table","point"] (xil (xv 1)) (λ_ _ _ _ _=>(xg 0 (by show JS (["other","table","point"]:List Str);decide +kernel))) (λ_ _ _ _ _=>(Zbb Zba)) (λ_ _ _ _ _=>(xix (xix (xv 1) (xv 2)) (xv 0))))))))) (Zk (Zco (Zcw 2))))))
theorem Wx:Zv ["sums","ranked"] ["sums"] (Zn Y6):=fsc
theorem Zbj(T:Txt K mg f fd cls):FnOk P w K mg base CX0 1 (f 16) (fd 16) ["sums"] (spD K (sD Z6)):=by
 refine Z7 T.e_is_one_alone_greatest.F Wx (S:=Wh) rfl rfl (λcdv A outer s H E hr=>?_);exact(xsq (xst 1 Wx.nd (Zn2 Z3q (Ydk Z0b (Zrd rfl) (by rfl) T.z_sorted L2.B.boot_sorted (xa1 (xv 0))))) (Zk (xrt (W5 Yfj (Zk8 Z0a Zgy (xix (xv 1) xci) (xix (xv 1) xci) (hm:=(Jy _)))))))
theorem Yi:Zv ["n","many","begun","step","grown","points","least"] ["n","many"] (Zn Zam):=fsc
theorem Zf7(T:Txt K mg f fd cls):FnOk P w K mg base CX0 1 (f 17) (fd 17) ["n","many"] (spD K (sD Wt)):=by
 refine Z7 T.e_rising_tuples.F Yi (S:=J8) rfl rfl (λcdv A outer s H E hr=>?_);exact(xsq (xst 2 Yi.nd (xls (xa1 (xtp xa0)))) (xsq (xfr Qe rfl (Zen (Yr (by rfl) T.z_range (xa1 (xv 1)))) (xg 3 Yi.nd) (xsq (xso 4 Yi.nd (xls xa0)) (xsq (xfr Qe rfl (xil (xv 2)) (xg 5 Yi.nd) (xsq (xst 6 Yi.nd (Zqg (Yek (Yjx (xgt (xln T.z_len (xa1 (xv 5))) xci) (Zhz (xix (xv 5) (Zr2 (Z6r xci))) xci) xci)))) (Zk (Ztp (Zwr 4 (Zbp (Zko ["point"] [5] ["point","points"] (Z2p (Zhj (by rfl) T.z_range (Zf (xv 6) (xa1 (xv 0))))) (λ_ _ _ _ _=>(xg 0 (by show JS (["point","points"]:List Str);decide +kernel))) (λ_ _ _ _ _=>(Zbb Zba)) (λ_ _ _ _ _=>(Zqg (Zim Z8k (Z73 Z7a Z2u (xv 1) (xtp (xa1 (xv 0)))))))))))))) (Zk (Zvh (Zs2 4 (xst 2 Yi.nd (xv 4)))))))) (Zk (xrt (xv 2)))))
theorem Zjt:Zv ["rows","i","j","k","l"] ["rows","i","j","k","l"] (Zn Zcn):=fsc
theorem Zex(T:Txt K mg f fd cls):FnOk P w K mg base CX0 1 (f 18) (fd 18) ["rows","i","j","k","l"] (spD K (sD Z3)):=by
 refine Z7 T.e_three_sums.F Zjt (S:=Zbf) rfl rfl (λcdv A outer s H E hr=>?_);exact(Zk (xrt (xtp (Zf (Zhz (xix (xix (xv 0) (xv 1)) (xv 2)) (xix (xix (xv 0) (xv 3)) (xv 4))) (Zf (Zhz (xix (xix (xv 0) (xv 1)) (xv 3)) (xix (xix (xv 0) (xv 2)) (xv 4))) (xa1 (Zhz (xix (xix (xv 0) (xv 1)) (xv 4)) (xix (xix (xv 0) (xv 2)) (xv 3)))))))))
theorem W3:Zv ["rows","i","j","k","l"] ["rows"] (Zn Zch):=fsc
theorem Zkc(T:Txt K mg f fd cls):FnOk P w K mg base CX0 2 (f 19) (fd 19) ["rows"] (spD K (sD Jp)):=by
 have G_is_one_alone_greatest:=Zbj (P:=P) (w:=w) (base:=base) T;have G_rising_tuples:=Zf7 (P:=P) (w:=w) (base:=base) T;have G_three_sums:=Zex (P:=P) (w:=w) (base:=base) T;refine Z7 T.e_first_four.F W3 (S:=Zbo) rfl rfl (λcdv A outer s H E hr=>?_);exact(xsq (xfr Qe rfl (xil (xce G_rising_tuples hr T.e_rising_tuples (Zf (xln T.z_len (xa1 (xv 0))) (xa1 xci)))) (Zuy (Zs8 (n:=4) (by rfl) (Zax (Za3 (xg 1 W3.nd) (Zax (Za3 (xg 2 W3.nd) (Zax (Za3 (xg 3 W3.nd) (Zax (Za3 (xg 4 W3.nd) (Zmv Znu))))))))))) (Zk (xif (Zeg (Zem (xce G_is_one_alone_greatest hr T.e_is_one_alone_greatest (xa1 (xce G_three_sums hr T.e_three_sums (Zf (xv 0) (Zf (xv 1) (Zf (xv 2) (Zf (xv 3) (xa1 (xv 4))))))))) (λ_=>rfl))) (Zk (xrt (xtp (Zf (xv 1) (Zf (xv 2) (Zf (xv 3) (xa1 (xv 4)))))))) xnl))) (Zk (xrt (Zoy Zou))))
theorem Znw:Zv ["q","r"] ["q","r"] (Zn Zfl):=fsc
theorem Zmz(T:Txt K mg f fd cls):FnOk P w K mg base CX0 1 (f 20) (fd 20) ["q","r"] (spD K (sD Zak)):=by
 refine Z7 T.e_is_below.F Znw (S:=Zcq) rfl rfl (λcdv A outer s H E hr=>?_);exact(Zk (xrt (W5 Yfj (Zk8 Z0a Zgy (Zmr (xix (xv 0) xci) (xix (xv 1) xci)) (Zmr (xix (xv 1) xci) (xix (xv 0) xci)) (hm:=(Jy _))))))
theorem Ye:Zv ["a","b","left"] ["a","b"] (Zn Jc):=fsc
theorem Zaj(T:Txt K mg f fd cls):FnOk P w K mg base CX0 1 (f 21) (fd 21) ["a","b"] (spD K (sD Z8)):=by
 refine Z7 T.e_greatest_divisor.F Ye (S:=Ja) rfl rfl (λcdv A outer s H E hr=>?_);have hu:=hr.units;exact(xsq (xst 0 Ye.nd (Zf3 Z63 (Zml Ztq Zj9 (by rfl) T.z_abs L2.B.boot_abs (xa1 (xv 0))))) (xsq (xst 1 Ye.nd (Zf3 Z63 (Zml Ztq Zj9 (by rfl) T.z_abs L2.B.boot_abs (xa1 (xv 1))))) (xsq (Zod (Zn8 Qe (xne hu (xv 1) xci) (xsq (xst 2 Ye.nd (Zlk (xv 0) (xv 1))) (xsq (xst 0 Ye.nd (xv 1)) (Zk (xst 1 Ye.nd (xv 2))))))) (Zk (xrt (xv 0))))))
theorem Zd8:Zv ["top","bottom","shared"] ["top","bottom"] (Zn Zfo):=fsc
theorem Zhp(T:Txt K mg f fd cls):FnOk P w K mg base CX0 2 (f 22) (fd 22) ["top","bottom"] (spD K (sD Jf)):=by
 have G_greatest_divisor:=Zaj (P:=P) (w:=w) (base:=base) T;refine Z7 T.e_in_least.F Zd8 (S:=Zcc) rfl rfl (λcdv A outer s H E hr=>?_);exact(xsq (xst 2 Zd8.nd (xce G_greatest_divisor hr T.e_greatest_divisor (Zf (xv 0) (xa1 (xv 1))))) (xsq (xif (xlt (xv 1) xci) (Zk (xst 2 Zd8.nd (Zr2 (Z6r (xv 2))))) xnl) (Zk (xrt (xtp (Zf (Zrw (xv 0) (xv 2)) (xa1 (Zrw (xv 1) (xv 2)))))))))
theorem Z35:Zv ["q","r"] ["q","r"] (Zn Ztk):=fsc
theorem Z5s(T:Txt K mg f fd cls):FnOk P w K mg base CX0 3 (f 23) (fd 23) ["q","r"] (spD K (sD Zdw)):=by
 have G_in_least:=Zhp (P:=P) (w:=w) (base:=base) T;refine Z7 T.e_plus.F Z35 (S:=Zgo) rfl rfl (λcdv A outer s H E hr=>?_);exact(Zk (xrt (xce G_in_least hr T.e_in_least (Zf (Zhz (Zmr (xix (xv 0) xci) (xix (xv 1) xci)) (Zmr (xix (xv 1) xci) (xix (xv 0) xci))) (xa1 (Zmr (xix (xv 0) xci) (xix (xv 1) xci)))))))
theorem Zhy:Zv ["table","i","j","k"] ["table","i","j","k"] (Zn Zbx):=fsc
theorem Zhx(T:Txt K mg f fd cls):FnOk P w K mg base CX0 4 (f 24) (fd 24) ["table","i","j","k"] (spD K (sD W7)):=by
 have G_is_below:=Zmz (P:=P) (w:=w) (base:=base) T;have G_plus:=Z5s (P:=P) (w:=w) (base:=base) T;refine Z7 T.e_is_short_by.F Zhy (S:=Zaz) rfl rfl (λcdv A outer s H E hr=>?_);exact(Zk (xrt (xce G_is_below hr T.e_is_below (Zf (xce G_plus hr T.e_plus (Zf (xix (xix (xv 0) (xv 1)) (xv 2)) (xa1 (xix (xix (xv 0) (xv 2)) (xv 3))))) (xa1 (xix (xix (xv 0) (xv 1)) (xv 3)))))))
theorem Wu:Zv ["table","n","i","j","k"] ["table"] (Zn Zby):=fsc
theorem Zh3(T:Txt K mg f fd cls):FnOk P w K mg base CX0 5 (f 25) (fd 25) ["table"] (spD K (sD Wg)):=by
 have G_is_short_by:=Zhx (P:=P) (w:=w) (base:=base) T;refine Z7 T.e_first_short.F Wu (S:=Za2) rfl rfl (λcdv A outer s H E hr=>?_);exact(xsq (xst 1 Wu.nd (xln T.z_len (xa1 (xv 0)))) (xsq (xfr Qe rfl (Zen (Yr (by rfl) T.z_range (xa1 (xv 1)))) (xg 2 Wu.nd) (Zk (xfr Qe rfl (Zen (Yr (by rfl) T.z_range (xa1 (xv 1)))) (xg 3 Wu.nd) (Zk (xfr Qe rfl (Zen (Yr (by rfl) T.z_range (xa1 (xv 1)))) (xg 4 Wu.nd) (Zk (xif (Zeg (Zem (xce G_is_short_by hr T.e_is_short_by (Zf (xv 0) (Zf (xv 2) (Zf (xv 3) (xa1 (xv 4)))))) (λ_=>rfl))) (Zk (xrt (xtp (Zf (xv 2) (Zf (xv 3) (xa1 (xv 4))))))) xnl))))))) (Zk (xrt (Zoy Zou)))))
theorem Wv:Zv ["numbers","bottom","q"] ["numbers"] (Zn Zal):=fsc
theorem Zf6(T:Txt K mg f fd cls):FnOk P w K mg base CX0 2 (f 26) (fd 26) ["numbers"] (spD K (sD Yv)):=by
 have G_greatest_divisor:=Zaj (P:=P) (w:=w) (base:=base) T;refine Z7 T.e_shared_bottom.F Wv (S:=J9) rfl rfl (λcdv A outer s H E hr=>?_);exact(xsq (xst 1 Wv.nd xci) (xsq (xfr Qe rfl (xil (xv 0)) (xg 2 Wv.nd) (Zk (xst 1 Wv.nd (Zmr (Zrw (xv 1) (xce G_greatest_divisor hr T.e_greatest_divisor (Zf (xv 1) (xa1 (xix (xv 2) xci))))) (xix (xv 2) xci))))) (Zk (xrt (xv 1)))))
theorem Jb:Zv ["table","bottom","row"] ["table"] (Zn Za7):=fsc
theorem Zck(T:Txt K mg f fd cls):FnOk P w K mg base CX0 3 (f 27) (fd 27) ["table"] (spD K (sD Yd)):=by
 have G_shared_bottom:=Zf6 (P:=P) (w:=w) (base:=base) T;refine Z7 T.e_table_bottom.F Jb (S:=Zan) rfl rfl (λcdv A outer s H E hr=>?_);exact(xsq (xst 1 Jb.nd xci) (xsq (xfr Qe rfl (xil (xv 0)) (xg 2 Jb.nd) (Zk (xst 1 Jb.nd (xce G_shared_bottom hr T.e_shared_bottom (xa1 (Zqg (Zim Zz1 (Z73 (Zke rfl) Zog (xls (xa1 (xtp (Zf xci (xa1 (xv 1)))))) (xv 2))))))))) (Zk (xrt (xv 1)))))
theorem Zk1:Zv ["bottom","numbers"] ["bottom","numbers"] (Zn Zd7):=fsc
theorem Zla(T:Txt K mg f fd cls):FnOk P w K mg base CX0 1 (f 28) (fd 28) ["bottom","numbers"] (spD K (sD J3)):=by
 refine Z7 T.e_tops_over.F Zk1 (S:=Zb8) rfl rfl (λcdv A outer s H E hr=>?_);exact(Zk (xrt (Zbp (Zko ["q"] [0] ["q","bottom"] (xil (xv 1)) (λ_ _ _ _ _=>(xg 0 (by show JS (["q","bottom"]:List Str);decide +kernel))) (λ_ _ _ _ _=>(Zbb Zba)) (λ_ _ _ _ _=>(Zmr (xix (xv 0) xci) (Zrw (xv 1) (xix (xv 0) xci))))))))
theorem Zj1:Zv ["bottom","table"] ["bottom","table"] (Zn Zcf):=fsc
theorem Zed(T:Txt K mg f fd cls):FnOk P w K mg base CX0 2 (f 29) (fd 29) ["bottom","table"] (spD K (sD Yw)):=by
 have G_tops_over:=Zla (P:=P) (w:=w) (base:=base) T;refine Z7 T.e_table_over.F Zj1 (S:=Zbc) rfl rfl (λcdv A outer s H E hr=>?_);exact(Zk (xrt (Zbp (Zko ["row"] [0] ["row","bottom"] (xil (xv 1)) (λ_ _ _ _ _=>(xg 0 (by show JS (["row","bottom"]:List Str);decide +kernel))) (λ_ _ _ _ _=>(Zbb Zba)) (λ_ _ _ _ _=>(xce G_tops_over hr T.e_tops_over (Zf (xv 1) (xa1 (xv 0)))))))))
theorem Zeh:Zv ["table","short"] ["table"] (Zn Zct):=fsc
theorem Zjk(T:Txt K mg f fd cls):FnOk P w K mg base CX0 6 (f 30) (fd 30) ["table"] (spD K (sD Jq)):=by
 have G_first_four:=Zkc (P:=P) (w:=w) (base:=base) T;have G_first_short:=Zh3 (P:=P) (w:=w) (base:=base) T;have G_table_bottom:=Zck (P:=P) (w:=w) (base:=base) T;have G_table_over:=Zed (P:=P) (w:=w) (base:=base) T;refine Z7 T.e_first_bars.F Zeh (S:=Zbn) rfl rfl (λcdv A outer s H E hr=>?_);exact(xsq (xst 1 Zeh.nd (xce G_first_short hr T.e_first_short (xa1 (xv 0)))) (xsq (xif (Zag Zvu (Zah Zr0 Zth (xv 1) (Zoy Zou) (hm:=(Jy _)))) (Zk (xrt (xv 1))) xnl) (Zk (xrt (xce G_first_four hr T.e_first_four (xa1 (xce G_table_over hr T.e_table_over (Zf (xce G_table_bottom hr T.e_table_bottom (xa1 (xv 0))) (xa1 (xv 0))))))))))
theorem Zk6:Zv ["sums"] ["sums"] (Zn Zdz):=fsc
theorem Zfw(T:Txt K mg f fd cls):FnOk P w K mg base CX0 1 (f 31) (fd 31) ["sums"] (spD K (sD Yh)):=by
 refine Z7 T.e_tree_rule.F Zk6 (S:=Zb9) rfl rfl (λcdv A outer s H E hr=>?_);exact(Zk (xrt (Ydf (Zf3 Z9d (Zml Zvn (Zk4 (by rfl)) (by rfl) T.z_min L2.B.boot_min (Zf (xix (xv 0) xci) (xa1 (xix (xv 0) xci))))) (xix (xv 0) xci))))
theorem Zbu:Zv ["n","sides","point"] ["n"] (Zn Ze8):=fsc
theorem Znx(T:Txt K mg f fd cls):FnOk P w K mg base CX0 1 (f 32) (fd 32) ["n"] (spD K (sD Yl)):=by
 refine Z7 T.e_all_cuts.F Zbu (S:=Zcv) rfl rfl (λcdv A outer s H E hr=>?_);have hu:=hr.units;exact(xsq (xst 1 Zbu.nd (xls (xa1 (xls xa0)))) (xsq (xfr Qe rfl (Z2p (Zhj (by rfl) T.z_range (Zf xci (xa1 (xv 0))))) (xg 2 Zbu.nd) (Zk (xst 1 Zbu.nd (Zqg (Zim Zz1 (Z73 (Zke rfl) Zog (xv 1) (Zbp (Zko ["side"] [2] ["side","point"] (xil (xv 1)) (λ_ _ _ _ _=>(xg 0 (by show JS (["side","point"]:List Str);decide +kernel))) (λ_ _ _ _ _=>(Zbb Zba)) (λ_ _ _ _ _=>(Zqg (Zim Zz1 (Z73 (Zke rfl) Zog (xv 0) (xls (xa1 (xv 1))))))))))))))) (Zk (xrt (Zbp (Zko ["side"] [] ["side"] (xil (Zn2 Z4x (Ydk Zyl (Zp3 Ycj rfl hu) (by rfl) T.z_sorted L2.B.boot_sorted (xa1 (xv 1))))) (λ_ _ _ _ _=>(xg 0 (by show JS (["side"]:List Str);decide +kernel))) (λ_ _ _ _ _=>(Zjz (xgt (xln T.z_len (xa1 (xv 0))) xci))) (λ_ _ _ _ _=>(xv 0))))))))
theorem Znh:Zv ["thing"] ["thing"] (Zn Zfq):=fsc
theorem Zm3(T:Txt K mg f fd cls):FnOk P w K mg base CX0 1 (f 33) (fd 33) ["thing"] (spD K (sD Wk)):=by
 refine Z7 T.e_is_whole.F Znh (S:=Zce) rfl rfl (λcdv A outer s H E hr=>?_);exact(Zk (xrt (Zgt (Zt7 (Zcx (Zhb (by decide) (by rfl) T.z_isinstance L2.B.boot_isinstance (by rfl) T.z_int L2.B.boot_int (xv 0))) (Zzq (Zv4 (Ycr (Zcx (Zhb (by decide) (by rfl) T.z_isinstance L2.B.boot_isinstance (by rfl) T.z_bool L2.B.boot_bool (xv 0))))))))))
theorem Zmt:Zv ["top","bottom"] ["top","bottom"] (Zn Zff):=fsc
theorem Zny(T:Txt K mg f fd cls):FnOk P w K mg base CX0 3 (f 34) (fd 34) ["top","bottom"] (spD K (sD Wz)):=by
 have G_in_least:=Zhp (P:=P) (w:=w) (base:=base) T;have G_is_whole:=Zm3 (P:=P) (w:=w) (base:=base) T;refine Z7 T.e_fraction.F Zmt (S:=Zcl) rfl rfl (λcdv A outer s H E hr=>?_);have hu:=hr.units;exact(xsq (xif (MW.mt (Z24 (Z6w (xno (Zeg (Zem (xce G_is_whole hr T.e_is_whole (xa1 (xv 0))) (λ_=>rfl)))) (Z24 (Z6w (xno (Zeg (Zem (xce G_is_whole hr T.e_is_whole (xa1 (xv 1))) (λ_=>rfl)))) (Z10 (xeq hu (xv 1) xci))))))) (Zk Zn9) xnl) (Zk (xrt (xce G_in_least hr T.e_in_least (Zf (xv 0) (xa1 (xv 1)))))))
theorem W4:Zv ["points","doubles","place","point","other"] ["points"] (Zn Zcr):=fsc
theorem Zkg(T:Txt K mg f fd cls):FnOk P w K mg base CX0 1 (f 35) (fd 35) ["points"] (spD K (sD Wr)):=by
 refine Z7 T.e_doubles_of.F W4 (S:=Zbl) rfl rfl (λcdv A outer s H E hr=>?_);exact(xsq (xso 1 W4.nd (xls xa0)) (xsq (xfr Qe rfl (Z31 (Z4w (by rfl) T.z_enumerate L2.B.boot_enumerate (xa1 (xv 0)))) (xg2 rfl (xg 2 W4.nd) (xg 3 W4.nd)) (Zk (xfr Qe rfl (xil (Yeu (Yeq (xv 0) (Z2m (Z4i (xv 2))) (Z5k Z4c)))) (xg 4 W4.nd) (Zk (J0 (Jx 1 (xtp (Zf (xv 3) (xa1 (xv 4)))))))))) (Zk (Zco (Zcw 1)))))
theorem Z0:Zv ["rows","cut","rule","others","beyond","least","a","b","c","e"] ["rows","cut","rule"] (Zn W8):=fsc
theorem Zdt(T:Txt K mg f fd cls):FnOk P w K mg base CX0 2 (f 36) (fd 36) ["rows","cut","rule"] (spD K (sD Z9)):=by
 have G_doubles_of:=Zkg (P:=P) (w:=w) (base:=base) T;have G_three_sums:=Zex (P:=P) (w:=w) (base:=base) T;have G_tree_rule:=Zfw (P:=P) (w:=w) (base:=base) T;refine Z7 T.e_least_over_sides.F Z0 (S:=W2) rfl rfl (λcdv A outer s H E hr=>?_);exact(xsq (Zm7 (Zdc (i:=3) (own:=["point"]) (caps:=[1]) (N':=["point","cut"]) YF Z0.nd rfl (QG rfl) (by exact⟨rfl,by decide +kernel,rfl,by decide +kernel,rfl,rfl⟩) (by rfl) (by decide) (Zen (Yr (by rfl) T.z_range (xa1 (xln T.z_len (xa1 (xv 0)))))) (λ_ _ _ _ _=>(xg 0 (by show JS (["point","cut"]:List Str);decide +kernel))) (λ_ _ _ _ _=>(Zjz (Zag Zqh (Zah (Zkv rfl) Zrr (xv 0) (xv 1) (hm:=(by with_unfolding_all rfl)))))) (λ_ _ _ _ _=>(xv 0)))) (xsq (xst 4 Z0.nd (xce G_doubles_of hr T.e_doubles_of (xa1 (xv 3)))) (xsq (xst 5 Z0.nd (Zpe (Zvv (i:=2) G_tree_rule (hr.mono (by decide)) T.fa_tree_rule T.e_tree_rule.F.kp T.e_tree_rule.b Zzn (xa1 (xce G_three_sums hr T.e_three_sums (Zf (xv 0) (Zf (xix (xv 1) xci) (Zf (xix (xv 1) xci) (Zf xci (xa1 xci)))))))))) (xsq (xfr Qe rfl (xil (xce G_doubles_of hr T.e_doubles_of (xa1 (xv 1)))) (xg2 rfl (xg 6 Z0.nd) (xg 7 Z0.nd)) (xsq (xfr Qe rfl (xil (xv 4)) (xg2 rfl (xg 8 Z0.nd) (xg 9 Z0.nd)) (Zk (xst 5 Z0.nd (Zf3 Z9d (Zml Zvn (Zk4 (by rfl)) (by rfl) T.z_min L2.B.boot_min (Zf (xv 5) (xa1 (Zpe (Zvv (i:=2) G_tree_rule (hr.mono (by decide)) T.fa_tree_rule T.e_tree_rule.F.kp T.e_tree_rule.b Zzn (xa1 (xce G_three_sums hr T.e_three_sums (Zf (xv 0) (Zf (xv 6) (Zf (xv 7) (Zf (xv 8) (xa1 (xv 9))))))))))))))))) (Zk (xif (xle (xv 5) xci) (Zk (xrt xci)) xnl)))) (Zk (xrt (xv 5)))))))
theorem We:Zv ["table","rule","bottom","rows","weighted","cut","least"] ["table","rule"] (Zn Zbw):=fsc
theorem Zh7(T:Txt K mg f fd cls):FnOk P w K mg base CX0 4 (f 37) (fd 37) ["table","rule"] (spD K (sD W6)):=by
 have G_all_cuts:=Znx (P:=P) (w:=w) (base:=base) T;have G_fraction:=Zny (P:=P) (w:=w) (base:=base) T;have G_least_over_sides:=Zdt (P:=P) (w:=w) (base:=base) T;have G_table_bottom:=Zck (P:=P) (w:=w) (base:=base) T;have G_table_over:=Zed (P:=P) (w:=w) (base:=base) T;refine Z7 T.e_weighted_by.F We (S:=Zav) rfl rfl (λcdv A outer s H E hr=>?_);exact(xsq (xst 2 We.nd (xce G_table_bottom hr T.e_table_bottom (xa1 (xv 0)))) (xsq (xst 3 We.nd (xce G_table_over hr T.e_table_over (Zf (xv 2) (xa1 (xv 0))))) (xsq (xso 4 We.nd (xls xa0)) (xsq (xfr Qe rfl (xil (xce G_all_cuts hr T.e_all_cuts (xa1 (xln T.z_len (xa1 (xv 0)))))) (xg 5 We.nd) (xsq (xst 6 We.nd (xce G_least_over_sides hr T.e_least_over_sides (Zf (xv 3) (Zf (xv 5) (xa1 (xv 1)))))) (Zk (xif (xgt (xv 6) xci) (Zk (J0 (Jx 4 (xtp (Zf (xv 5) (xa1 (xce G_fraction hr T.e_fraction (Zf (xv 6) (xa1 (Zmr xci (xv 2))))))))))) xnl)))) (Zk (Zco (Zcw 4)))))))
theorem Zf4:Zv ["table","bars"] ["table"] (Zn Zd4):=fsc
theorem Zmg(T:Txt K mg f fd cls):FnOk P w K mg base CX0 7 (f 38) (fd 38) ["table"] (spD K (sD Ww)):=by
 have G_first_bars:=Zjk (P:=P) (w:=w) (base:=base) T;have G_tree_rule:=Zfw (P:=P) (w:=w) (base:=base) T;have G_weighted_by:=Zh7 (P:=P) (w:=w) (base:=base) T;refine Z7 T.e_tree_told.F Zf4 (S:=Zb5) rfl rfl (λcdv A outer s H E hr=>?_);exact(xsq (xst 1 Zf4.nd (xce G_first_bars hr T.e_first_bars (xa1 (xv 0)))) (xsq (xif (Zag Zvu (Zah Zr0 Zth (xv 1) (Zoy Zou) (hm:=(Jy _)))) (Zk (xrt (xtp (Zf (Zoy Zt2) (xa1 (xv 1)))))) xnl) (Zk (xrt (xtp (Zf (Zoy Zt2) (xa1 (xce G_weighted_by hr T.e_weighted_by (Zf (xv 0) (xa1 (Zoy (Yj9 (by rfl) T.e_tree_rule.m T.fa_tree_rule))))))))))))
theorem Zef:Zv ["script","n","cell","sides","weights","bottom","table","points","due"] ["script"] (Zn Z5c):=fsc
theorem Z7v(T:Txt K mg f fd cls):FnOk P w K mg base CX0 10 (f 39) (fd 39) ["script"] (spD K (sD Ze1)):=by
 have G_law_alike:=Zme (P:=P) (w:=w) (base:=base) T;have G_law_bottom:=Zjs (P:=P) (w:=w) (base:=base) T;have G_law_cell_at:=Zh5 (P:=P) (w:=w) (base:=base) T;have G_law_clusters:=Zg8 (P:=P) (w:=w) (base:=base) T;have G_law_due:=Zrp (P:=P) (w:=w) (base:=base) T;have G_law_points:=Zjq (P:=P) (w:=w) (base:=base) T;have G_law_rows:=Zms (P:=P) (w:=w) (base:=base) T;have G_law_size:=Zm9 (P:=P) (w:=w) (base:=base) T;have G_law_table:=Zlb (P:=P) (w:=w) (base:=base) T;have G_law_weights:=Zh0 (P:=P) (w:=w) (base:=base) T;have G_part_of:=Zq7 (P:=P) (w:=w) (base:=base) T;have G_tree_told:=Zmg (P:=P) (w:=w) (base:=base) T;refine Z7 T.e_law.F Zef (S:=Zic) rfl rfl (λcdv A outer s H E hr=>?_);exact(xsq (xst 1 Zef.nd (xce G_law_size hr T.e_law_size (Zf (xce G_law_cell_at hr T.e_law_cell_at (Zf (xv 0) (xa1 xci))) (Zf xci (Zf xci (xa1 xci)))))) (xsq (xst 2 Zef.nd (xce G_law_cell_at hr T.e_law_cell_at (Zf (xv 0) (xa1 xci)))) (xsq (xst 3 Zef.nd (xce G_law_clusters hr T.e_law_clusters (Zf (Zrw (xv 2) xci) (xa1 (xv 1))))) (xsq (xst 4 Zef.nd (xce G_law_weights hr T.e_law_weights (Zf (xv 0) (Zf xci (Zf (xln T.z_len (xa1 (xv 3))) (xa1 (xv 2))))))) (xsq (xst 5 Zef.nd (xce G_law_bottom hr T.e_law_bottom (xa1 (xv 2)))) (xsq (xst 6 Zef.nd (xce G_law_table hr T.e_law_table (Zf (xce G_law_rows hr T.e_law_rows (Zf (xv 1) (Zf (xv 3) (xa1 (xv 4))))) (xa1 (xv 5))))) (xsq (xst 7 Zef.nd (xce G_law_points hr T.e_law_points (Zf (xce G_law_cell_at hr T.e_law_cell_at (Zf (xv 0) (xa1 xci))) (xa1 (xv 1))))) (xsq (xst 8 Zef.nd (xce G_law_due hr T.e_law_due (Zf (xv 3) (Zf (xv 4) (Zf (xv 7) (xa1 (xv 5))))))) (Zk (xrt (xce G_law_alike hr T.e_law_alike (Zf (xce G_tree_told hr T.e_tree_told (xa1 (xce G_part_of hr T.e_part_of (Zf (xv 6) (xa1 (xv 7)))))) (xa1 (xtp (Zf (Zoy Zt2) (xa1 (xv 8)))))))))))))))))
theorem Z27(T:Txt K mg f fd cls):FnOk P w K mg base CX0 10 (f 39) (fd 39) ["script"] (spD K Ya6):=(Z7v T).imp λvs H Q E q=>by
 obtain⟨L,ds,k,h1,⟨ns,e,hl,hk⟩,h3⟩:=q;exact⟨L,ds,k,h1,⟨_,by rw[e];exact Zw9 ns hl,hk⟩,h3⟩
end
theorem Z7z{l:PySem.W.OpenLaw}{fa:YG}(X:K.In h)(G:h.Ns Qm mg)(hfa:mg "law"=YB (.ref fa))
  (q1:Ei K "_law_alike" Zd5 f1 d1)
  (q2:Ei K "_law_bottom" Zcd f2 d2)
  (q3:Ei K "_law_cell_at" Zb4 f3 d3)
  (q4:Ei K "_law_stir" Zfb f4 d4)
  (q5:Ei K "_law_numbers" Zb1 f5 d5)
  (q6:Ei K "_law_clusters" Za4 f6 d6)
  (q7:Ei K "_law_low" Zg4 f7 d7)
  (q8:Ei K "_law_due" Zhr f8 d8)
  (q9:Ei K "_law_points" Zci f9 d9)
  (q10:Ei K "_law_rows" Ze7 f10 d10)
  (q11:Ei K "_law_size" Zfd f11 d11)
  (q12:Ei K "_law_table" Zdr f12 d12)
  (q13:Ei K "_law_weights" Zbv f13 d13)
  (q14:Ei K "is_point" Zfk f14 d14)
  (q15:Ei K "is_part" Zg3 f15 d15)
  (q16:Ei K "part_of" Zhn f16 d16)
  (q17:Ei K "is_one_alone_greatest" Y6 f17 d17)
  (q18:Ei K "rising_tuples" Zam f18 d18)
  (q19:Ei K "three_sums" Zcn f19 d19)
  (q20:Ei K "first_four" Zch f20 d20)
  (q21:Ei K "is_below" Zfl f21 d21)
  (q22:Ei K "greatest_divisor" Jc f22 d22)
  (q23:Ei K "in_least" Zfo f23 d23)
  (q24:Ei K "plus" Ztk f24 d24)
  (q25:Ei K "is_short_by" Zbx f25 d25)
  (q26:Ei K "first_short" Zby f26 d26)
  (q27:Ei K "shared_bottom" Zal f27 d27)
  (q28:Ei K "table_bottom" Za7 f28 d28)
  (q29:Ei K "tops_over" Zd7 f29 d29)
  (q30:Ei K "table_over" Zcf f30 d30)
  (q31:Ei K "first_bars" Zct f31 d31)
  (q32:Ei K "tree_rule" Zdz f32 d32)
  (q33:Ei K "all_cuts" Ze8 f33 d33)
  (q34:Ei K "is_whole" Zfq f34 d34)
  (q35:Ei K "fraction" Zff f35 d35)
  (q36:Ei K "doubles_of" Zcr f36 d36)
  (q37:Ei K "least_over_sides" W8 f37 d37)
  (q38:Ei K "weighted_by" Zbw f38 d38)
  (q39:Ei K "tree_told" Zd4 f39 d39)
  (q40:Ei K "law" Z5c f40 d40)
  (z0:QW K Qm "abs"=YB YC)
  (z1:QW K Qm "bool"=YB YC)
  (z2:QW K Qm "enumerate"=YB YC)
  (z3:QW K Qm "int"=YB YC)
  (z4:QW K Qm "isinstance"=YB YC)
  (z5:QW K Qm "len"=YB YC)
  (z6:QW K Qm "list"=YB YC)
  (z7:QW K Qm "min"=YB YC)
  (z8:QW K Qm "range"=YB YC)
  (z9:QW K Qm "set"=YB YC)
  (z10:QW K Qm "sorted"=YB YC)
  (z11:QW K Qm "str"=YB YC)
  (z12:QW K Qm "tuple"=YB YC)
  (z13:QW K Qm "zip"=YB YC)
  (cc_NoNumber:QW K Qm "NoNumber"=YB (YB (.ref C_NoNumber)))
  (cc_NoPoint:QW K Qm "NoPoint"=YB (YB (.ref C_NoPoint)))
  (x_NoNumber:Ze0 K C_NoNumber)
  (x_NoPoint:Ze0 K C_NoPoint)
  (r_NoNumber:Zyp K C_NoNumber)
  (r_NoPoint:Zyp K C_NoPoint)
  :∃fd:X3,(∀(s:Xg) (v:Xf),BindsTo s fd ⟨[v],[]⟩ [("script",v)])/\∀base:YH,K.In base->base.Ns Qm mg->FnOk l.prog w K mg base CX0 10 fa fd ["script"] (spD K Ya6):=by
 have e:=hfa.symm.trans (PySem.W.mg_of X G q40.a);cases e;have T:Txt K mg (λk=>[f1,f2,f3,f4,f5,f6,f7,f8,f9,f10,f11,f12,f13,f14,f15,f16,f17,f18,f19,f20,f21,f22,f23,f24,f25,f26,f27,f28,f29,f30,f31,f32,f33,f34,f35,f36,f37,f38,f39,f40].getD k 0) (λk=>[d1,d2,d3,d4,d5,d6,d7,d8,d9,d10,d11,d12,d13,d14,d15,d16,d17,d18,d19,d20,d21,d22,d23,d24,d25,d26,d27,d28,d29,d30,d31,d32,d33,d34,d35,d36,d37,d38,d39,d40].getD k d40) (λk=>[C_NoNumber,C_NoPoint].getD k 0):=⟨en2 X G q1,en1 X G q2,en2 X G q3,en2 X G q4,en2 X G q5,en2 X G q6,en2 X G q7,en4 X G q8,en2 X G q9,en3 X G q10,en4 X G q11,en2 X G q12,en4 X G q13,en2 X G q14,en2 X G q15,en2 X G q16,en1 X G q17,en2 X G q18,en5 X G q19,en1 X G q20,en2 X G q21,en2 X G q22,en2 X G q23,en2 X G q24,en4 X G q25,en1 X G q26,en1 X G q27,en1 X G q28,en2 X G q29,en2 X G q30,en1 X G q31,en1 X G q32,en1 X G q33,en1 X G q34,en2 X G q35,en1 X G q36,en3 X G q37,en2 X G q38,en1 X G q39,en1 X G q40,q32.a,QK X G z0,QK X G z1,QK X G z2,QK X G z3,QK X G z4,QK X G z5,QK X G z6,QK X G z7,QK X G z8,QK X G z9,QK X G z10,QK X G z11,QK X G z12,QK X G z13,ec X G cc_NoNumber,ec X G cc_NoPoint,x_NoNumber,x_NoPoint,r_NoNumber,r_NoPoint⟩;refine⟨d40,λs v=>?_,λbase _ _=>Z27 (P:=l.prog) (w:=w) (base:=base) T⟩;obtain⟨_,_,_,_,_,_,_,_,_,rfl,_,_⟩:=q40.F.ex;exact .of_eq rfl
theorem walk{l:PySem.W.OpenLaw}{q:X5}{d:DefRec}{K:Params->Xc}(hn:l.most=YB 63)(hdf:d.params.defaults=[])
  (hY:∀(w:Qu) (h:YH),YP w h->(K w.params).In h)
  (F:∀(w:Qu) (mg:Str->Option Xf) (fa:YG) (h:YH),(K w.params).In h->h.Ns Qm mg->mg d.name=YB (.ref fa) ->
   ∃fd:X3,(∀(s:Xg) (u:Xf),BindsTo s fd ⟨[u],[]⟩ [("script",u)])/\∀base:YH,(K w.params).In base->base.Ns Qm mg->FnOk l.prog w (K w.params) mg base CX0 10 fa fd ["script"] (spD (K w.params) Ya6)) :
  PySem.W.WalkO q loose XP YP l.row.toRowW d [] (λf vs=>PySem.call f vs) :=
 L2.Z32 (n:=63) (k:=10) (x :="script") (CX:=λ_=>CX0) (sp:=λw=>spD (K w.params) Ya6) hn (by decide) hdf ⟨rfl,by decide,by decide⟩ hY F (λ_ _ a ns hl _ hS=>Z8u hl hS) λ_ _ _ _ _ z=>z
end My
open PySem PySem.W PyProof.Rows
theorem PySem.W.Fast.tw9418171844468516009:True:=trivial
theorem PySem.W.Fast.tw11133664331864389353:True:=trivial
theorem PySem.W.Fast.tw1525052494104456241:True:=trivial
theorem PySem.W.Fast.tw14317932158456181820:True:=trivial
theorem PySem.W.Fast.tw16805018084832963096:True:=trivial
theorem PySem.W.Fast.tw3000963790087933508:True:=trivial
theorem PySem.W.Fast.tw9677160564768785772:True:=trivial
theorem PySem.W.Fast.tw8104613727212590882:True:=trivial
theorem PySem.W.Fast.tw14582375824514554479:True:=trivial
theorem PySem.W.Fast.tw18406239711895373123:True:=trivial
theorem PySem.W.Fast.tw7207588562646510211:True:=trivial
theorem PySem.W.Fast.tw4141384373992658249:True:=trivial
theorem PySem.W.Fast.tw1460796254128734367:True:=trivial
theorem PySem.W.Fast.tw4280891872255934455:True:=trivial
theorem PySem.W.Fast.tw16936267188970539389:True:=trivial
theorem PySem.W.Fast.tw12059680803664592263:True:=trivial
theorem PySem.W.Fast.tw16178027387170950757:True:=trivial
theorem PySem.W.Fast.tw2836754653978131327:True:=trivial
theorem PySem.W.Fast.tw10662567871868725374:True:=trivial
theorem PySem.W.Fast.tw10481242753377552018:True:=trivial
theorem PySem.W.Fast.tw3862090910670189021:True:=trivial
theorem PySem.W.Fast.tw9148543099218207316:True:=trivial
theorem PySem.W.Fast.tw13327121707455943085:True:=trivial
theorem PySem.W.Fast.tw7977499070501396460:True:=trivial
theorem PySem.W.Fast.tw13881289500824254855:True:=trivial
theorem PySem.W.Fast.tw966225819540554137:True:=trivial
theorem PySem.W.Fast.tw5706529307350909537:True:=trivial
theorem PySem.W.Fast.tw17821082533709594309:True:=trivial
theorem PySem.W.Fast.tw5445313191948666001:True:=trivial
theorem PySem.W.Fast.tw5832206629055381998:True:=trivial
theorem PySem.W.Fast.tw2876536382879935068:True:=trivial
theorem PySem.W.Fast.tw5119235645966226866:True:=trivial
theorem PySem.W.Fast.tw12383820515578682944:True:=trivial
theorem PySem.W.Fast.tw14847943203436644288:True:=trivial
theorem PySem.W.Fast.tw16123987639459091252:True:=trivial
theorem PySem.W.Fast.tw12934934714580565565:True:=trivial
theorem PySem.W.Fast.tw5529937430031853242:True:=trivial
theorem PySem.W.Fast.tw3642539357139053925:True:=trivial
theorem PySem.W.Fast.tw14883536920807298393:True:=trivial
theorem PySem.W.Fast.tw7938606732118650239:True:=trivial
set_option maxRecDepth 100000 in
set_option maxHeartbeats 0 in
theorem PySem.Challenge.cw_farcuts_k22_parts_of_trees_holds : PySem.Challenge.rw_farcuts_k22_parts_of_trees.Holds := by
 w_on;o_law;k_head;(case hw=>w_witness2)
 k_fill
 refine My.walk (l:=PySem.Challenge.rw_farcuts_k22_parts_of_trees) rfl rfl (λw h Y=>PySem.W.kIn_of Y) ?F
 case F=>
  intro w mg fa h KX G hmg;refine' My.Z7z KX G hmg ?_ ?_ ?_ ?_ ?_ ?_ ?_ ?_ ?_ ?_ ?_ ?_ ?_ ?_ ?_ ?_ ?_ ?_ ?_ ?_ ?_ ?_ ?_ ?_ ?_ ?_ ?_ ?_ ?_ ?_ ?_ ?_ ?_ ?_ ?_ ?_ ?_ ?_ ?_ ?_ ?_ ?_ ?_ ?_ ?_ ?_ ?_ ?_ ?_ ?_ ?_ ?_ ?_ ?_ ?_ ?_ ?_ ?_ ?_ ?_
  all_goals try (first|(refine' ⟨?a,L2.Ya2 ?l ?c ?k⟩;(case a=>k_is);(case l=>k_is);(case c=>k_is);(case k=>k_is))|k_is|kit_is|(show PySem.W.excIn _ _ _ _=YD;k_exc)|(refine' ⟨?_,?_,?_,?_,?_,?_,?_,?_,?_,?_,?_⟩<;>first|k_is|kit_is|(show PySem.W.isClsIn _ _=YD;k_is)))
#print axioms PySem.Challenge.cw_farcuts_k22_parts_of_trees_holds
