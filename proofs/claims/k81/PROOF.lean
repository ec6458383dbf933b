import PyProof.Rows.All
import Wide.All
import OpenK.AllK
import Wide.FinOn
import PyProof.EqAt
import PyProof.EqKinds
import PyProof.TupleCall
import PyProof.P3In
import PyProof.ZipIter
import PyProof.ListRange
import PyProof.SetRoads
import PyProof.Rows.SetFrom
import PyProof.Rows.SeqMore2
import KE.RegKIsAll
import PyProof.StrWalks
import PyProof.EnumMake
import PyProof.Conv_int
import PyProof.Conv_int_bool
import KE.KIntText
import PyProof.StrLawsTight
import PyProof.Rows.StrItems
import PyProof.Rows.StrJoin2
import PyProof.StrBlockI
import PyProof.Draws
import PyProof.DictItems
import KE.KDictList
import PyProof.StrOps2
import PySem.Challenge.RW_farcuts_k81_texts_of_no_cuts
set_option Elab.async false
set_option linter.all false
set_option maxRecDepth 100000
set_option genSizeOfSpec false
set_option genInjectivity false
open Array renaming length_toList->XM,getElem?_toList->Qc,getElem?_eq_getElem->JM,getElem?_eq_none->VM,getElem?_eq_some_iff->Uc
open Bool renaming false_ne_true->XJ,and_eq_true->XR,false_eq_true->Qg,and_eq_false_iff->V4,not_true->Uy
open False renaming elim->Vq
open ForInStep renaming yield->Bv
open Int renaming toNat_natCast->QR,eq_ofNat_of_zero_le->QW,lt_of_lt_of_le->Bc,gcd->Vp,natAbs_natCast->V0,natCast_nonneg->U3
open List renaming length_map->Xf,getElem?_eq_getElem->Xi,getElem?_eq_some_iff->Xk,mem_cons->Xl,mem_singleton->Xm,getElem?_map->Xq,getD_eq_getElem?_getD->Xu,length_append->Xw,map_cons->XC,size_toArray->XF,length_cons->XQ,mem_append->X3,map_map->X6,mem_append_right->Qi,mem_map->Qk,getElem?_set_ne->Qn,mem_of_getElem?->Qq,map_append->Qs,getElem?_append_left->Qt,map_congr_left->Qy,length_pos_iff->Qz,range->QJ,getElem?_set_self->QK,eq_nil_of_length_eq_zero->QV,filterMap_cons->QX,pairwise_iff_getElem->Q3,getElem?_eq_none_iff->Q4,getElem_mem->Q6,nodup_cons->JF,append_nil->JG,lookup_cons->JH,length_drop->JK,not_mem_nil->JV,length_range->JW,getElem?_append_right->JZ,length_set->Bb,getElem?_eq_none->Bk,mem_append_left->Bp,length_take->Bq,cons_ne_nil->Br,replicate->By,append_assoc->Vg,Nodup->Vh,take_succ->Vr,exists_cons_of_ne_nil->Vs,take_length->VF,mem_range->VG,length_nil->V1,length->Ui,toArray->Uk,all_eq_true->Ul,sum_cons->Ux,find?_cons->UJ,length_eq_zero_iff->U0,getElem?_nil->U4,drop_eq_nil_of_le->U5,length_singleton->U9
open List.cons renaming inj->QH
open Nat renaming ne_of_lt->Xn,le_refl->Xx,le_trans->XD,ne_of_gt->XX,lt_of_lt_of_le->X8,le_of_ble_eq_true->Qa,zero_le->Qp,lt_succ_self->Qx,lt_succ_of_lt->BK,le_add_right->Vb,lt_irrefl->Vf,lt_or_ge->Vo,lt_trans->Vy,succ_le_succ->Uq,gcd->Ur,not_lt_zero->UT,le_of_lt->U6
open Ne renaming symm->BL
open Option renaming bind_some->Xh,map_eq_some_iff->Be,toList_some->Uw
open Option.some renaming inj->Qo
open Or renaming inr->QM,inl->QT
open Prod renaming fst->Uh
open PyProof.Rows renaming IntsAre->Vd,seqObj->Vn,callWith_type1->VJ,SortKind->Uu
open PySem renaming PyData->Xa,wpAny_bind->Xb,Value->Xd,Shared->Xg,wpAny_pure->Xj,sizeLine->Xp,starEach->Xr,wpAny->Xy,Program->XH,mainGlobals->XN,model->X4,FuncData->X5,bootBuiltins->Qd,sizeLine_eq->Qe,Around->Qj,World->Ql,wpAny_loadPart'->Qm,wpAny_newObj_type->QG,wpAny_mono->QQ,wpAny_call_entry->QS,wpAny_callSpecial?_slot->Q0,wpAny_setField_rec->JC,SetTable->JL,compareOp->JR,rawInt->JS,backTo->Ba,assignEach->Bm,codeAny_builtin->Bs,wpAny_field->Bw,mem_of_lookup->Bx,wpAny_holding->BP,Builtin->BR,cellsFrom->BV,sliceBounds->BZ,wpAny_seqItems->Vi,NameKind->Vj,wpAny_truthy_bool->Vk,foldedSetIterable->Vl,sysModules->Vm,IsPair->Vt,swapsWith->Vv,pushCells->Vw,wpAny_Call_Name_kw->Vx,wpAny_loadPart_at->VD,plainId_quiet->VH,pyNext->VP,firstArgMember->VR,wpAny_typeNameOfWhole_keyiter->V2,intKind->V5,wpAny_passesOwn->Ua,wpAny_attempt->Ud,wpAny_rule->Us,binaryOp->Ut,wpAny_setEntries_of->UV,wpAny_getItem_str_slice->U7
open PySem.Around renaming under_plainId->JX
open PySem.Builtin.Int renaming intBits->U8
open PySem.Builtin.SmallTypes renaming nextOf->Q9,ownedTupleIsFree->BX
open PySem.Builtin.Str renaming occurrences->Q8,strSliceIndices->Bl
open PySem.F renaming slot_str_split->Bg,slot_dict_keyiterator_next->Bo,type_str_split->Vu,type_str_join->V7,slot_str_join->V8,called_set->Uv
open PySem.Heap renaming get?_push_of_some->Xe,get?_push_size->Xv,lt_size->Xz,size_push->QC,SameBut->JP
open PySem.Heap.SameBut renaming update->Q7
open PySem.MeetsSeq3 renaming plain_eq_loop->Ue
open PySem.NameKind renaming free->JD,cell->BW
open PySem.Obj renaming mapSeq->BJ
open PySem.PassesOwn renaming never->Bh
open PySem.PyData renaming int->Xo,str->QD,tuple->Q5,eqv->JT,canLayAll0->Bu,canLay0->Vc,list->V9,bool->UG
open PySem.PyData.tuple renaming inj->UL
open PySem.SeqAt renaming shaped->Va,canLay_of_shaped->VL
open PySem.SetTable renaming below->JB,grown->V3
open PySem.Str renaming ofString->QL,ofString_eq_toList->Bf
open PySem.Txt renaming slice->JN,split->Ve,slice_le->Uo,join->Uz
open PySem.Value renaming ref->X7,none->QF,int->Uj
open PySem.W renaming Frag->Xc,nsIn->Qh,mg_none_of->Qu,kitOne->QB,kia_one->QZ,Looks->JQ,hideAll->Bj,keepIn->Vz,findIn->VB,subIn->VN,hideAll_none->V6,fnOf->Ub,mg_of->Um,kitAny->UW
open Rat renaming divInt->Qw
open True renaming intro->Ug
noncomputable section
local macro_rules|`(!0)=>`(by omega)|`(!1)=>`(by decide)
set_option hygiene false in
local macro_rules|`(!2)=>`(by rfl)|`(!3)=>`(W6 (by decide +kernel))|`(!4)=>`(Za (i:=0) rfl)|`(!5)=>`(by simp)|`(!6)=>`(List Nat)|`(!7)=>`(Za (i:=1) rfl)|`(!8)=>`(.head _)|`(!9)=>`(by decide +kernel)|`(!10)=>`(("__debug__" : Str))|`(!11)=>`(List Int×Rat)|`(!12)=>`(λz=>nomatch z)|`(!13)=>`(Za (i:=2) rfl)|`(!14)=>`(List Int)|`(!15)=>`(.tail _ (.head _))|`(!16)=>`(Za (i:=3) rfl)|`(!17)=>`(("__classdict__" : Str))|`(!18)=>`(Za (i:=5) rfl)|`(!20)=>`(by repeat (first|exact Zcs|refine Zi (!3) ?_))|`(!19)=>`(Za (i:=4) rfl)
open PySem renaming Addr->YG,Heap->YH,Expr->YJ,Stmt->YK,Scope->YL
open Bool renaming true->YD,false->YF
open Option renaming some->YB,none->YC
abbrev YM:=@if_pos
abbrev YQ:=@if_neg
abbrev YS:=@decide_eq_true
abbrev YT:=@decide_eq_false
abbrev YW:=@congrArg
abbrev YX:=@of_decide_eq_true
abbrev YZ:=@absurd
abbrev ZC:=@beq_iff_eq
namespace L2
open PySem PySem.Spec PyProof.Rows
abbrev Key:=Sum Int Str
def Zsg:Key->Xd->Bool
 | .inl k,v=>Value.isInt k v
 | .inr x,v=>Value.isStrOf x v
def Ypb(w:Ql):Key->Int
 | .inl k=>hashInt k
 | .inr x=>hashStr w x
def Wt:∀{k:Key} {v:Xd},Zsg k v=YD->(∃i t,k=Sum.inl i/\v=Uj i t)\/(∃x t,k=Sum.inr x/\v=Value.str x t)
 | .inl i,v,h=>by
  obtain⟨t,e⟩:=Value.isInt_shape (k:=i) (v:=v) h;exact .inl ⟨i,t,rfl,e⟩
 | .inr x,v,h=>by
  obtain⟨t,e⟩:=Xd.isStrOf_shape (x:=x) (v:=v) h;exact .inr ⟨x,t,rfl,e⟩
def Zyd(i:Int)(t:Tok):Zsg (.inl i) (.int i t)=YD:=by simp[Zsg,Value.isInt]
def Zv0(x:Str)(t:Tok):Zsg (.inr x) (.str x t)=YD:=by simp[Zsg,Value.isStrOf]
def Z9y(a b:Int):decide ((Sum.inl a:Key)=Sum.inl b)=(a==b):=by
 by_cases e:a=b
 .subst e;simp
 .have h:¬(Sum.inl a:Key)=Sum.inl b:=λq=>e (Sum.inl.inj q)
  rw[YT h];exact(beq_eq_false_iff_ne.mpr e).symm
def Yan(a b:Str):decide ((Sum.inr a:Key)=Sum.inr b)=decide (a=b):=by
 by_cases e:a=b
 .subst e;simp
 .have h:¬(Sum.inr a:Key)=Sum.inr b:=λq=>e (Sum.inr.inj q)
  rw[YT h,YT e]
def Yfp(a:Int)(b:Str):decide ((Sum.inl a:Key)=Sum.inr b)=YF:=YT (λq=>nomatch q)
def Z93(a:Str)(b:Int):decide ((Sum.inr a:Key)=Sum.inl b)=YF:=YT (λq=>nomatch q)
def J5(prog:XH)(w:Ql):PySem.KeyKind prog w Key where
 is:=Zsg
 hash:=Ypb w
 inj:=λv a b ha hb=>by
  rcases Wt ha with⟨i,t,rfl,rfl⟩|⟨x,t,rfl,rfl⟩
  .rcases Wt hb with⟨j,u,rfl,e⟩|⟨y,u,rfl,e⟩
   .injection e with e1 _;rw[e1]
   .exact nomatch e
  .rcases Wt hb with⟨j,u,rfl,e⟩|⟨y,u,rfl,e⟩
   .exact nomatch e
   .injection e with e1 _;rw[e1]
 byValue:=λk v h=>by
  rcases Wt h with⟨i,t,rfl,rfl⟩|⟨x,t,rfl,rfl⟩<;>rfl
 pyHash:=λhv h=>by
  rcases Wt hv with⟨i,t,rfl,rfl⟩|⟨x,t,rfl,rfl⟩
  .exact wpAny_pyHash_int h
  .exact wpAny_pyHash_str h
 eqBool:=λhu hv h=>by
  rcases Wt hu with⟨i,t,rfl,rfl⟩|⟨x,t,rfl,rfl⟩
  .rcases Wt hv with⟨j,u,rfl,rfl⟩|⟨y,u,rfl,rfl⟩
   .rw[Z9y]at h;exact wpAny_eqBool_int h
   .rw[Yfp]at h;exact SeqAt.EqAt.int_str i t y u _ _ _ _ h
  .rcases Wt hv with⟨j,u,rfl,rfl⟩|⟨y,u,rfl,rfl⟩
   .rw[Z93]at h;exact SeqAt.EqAt.str_int x t j u _ _ _ _ h
   .rw[Yan]at h;exact wpAny_eqBool_str h
 «strs»:=λk x t v h=>by
  rcases Wt h with⟨i,u,rfl,e⟩|⟨y,u,rfl,e⟩
  .exact nomatch e
  .injection e with e1 _
   subst e1;cases v<;>rfl
def Zqd(prog:XH)(w:Ql)(i:Int)(t:Tok):(J5 prog w).is (.inl i) (.int i t)=YD:=Zyd i t
def Zp8(prog:XH)(w:Ql)(x:Str)(t:Tok):(J5 prog w).is (.inr x) (.str x t)=YD:=Zv0 x t
inductive V where
 | non|bl (b:Bool)|int (i:Int)|str (x:Str)|byt (b:Array UInt8)|flt (b:UInt64)|ref (a:YG)|ty (n:String)
 deriving DecidableEq
def RelV:V->Xd->Prop
 | .non,u=>u=QF
 | .bl b,u=>u=Value.bool b
 | .int i,u=>∃t,u=Uj i t
 | .str x,u=>∃t,u=Value.str x t
 | .byt b,u=>∃t,u=Xd.bytes b t
 | .flt b,u=>∃t,u=Xd.float b t
 | .ref a,u=>u=X7 a
 | .ty n,u=>u=Value.type n
abbrev Vals:List V->List Xd->Prop:=Paired RelV
theorem Vals.length{xs:List V}{us:List Xd}(r:Vals xs us):xs.length=us.length:=Paired.length r
theorem Vals.get{xs:List V}{us:List Xd}{i:Nat}{x:V}(h:Vals xs us)(e:xs[i]? =YB x):∃u,us[i]? =YB u/\RelV x u:=by
 induction h generalizing i with
 | nil=>exact(Option.some_ne_none _ (e.symm.trans U4)).elim
 | cons r t ih=>
  cases i with
  | zero=>exact⟨_,rfl,Qo e▸r⟩
  | succ i=>exact ih e
theorem Vals.set{x:V}{u:Xd}(r:RelV x u){xs:List V}{us:List Xd}(i:Nat)(h:Vals xs us):Vals (xs.set i x) (us.set i u):=by
 induction h generalizing i with
 | nil=>exact .nil
 | cons q t ih=>
  cases i with
  | zero=>exact .cons r t
  | succ i=>exact .cons q (ih i)
def Vals.append{xs ys:List V}{us ws:List Xd}(h:Vals xs us)(s:Vals ys ws):Vals (xs++ys) (us++ws):=by
 induction h with
 | nil=>exact s
 | cons r t ih=>exact .cons r ih
theorem Vals.take{xs:List V}{us:List Xd}(n:Nat)(h:Vals xs us):Vals (xs.take n) (us.take n):=by
 induction h generalizing n with
 | nil=>rw[List.take_nil,List.take_nil];exact .nil
 | cons r t ih=>
  cases n with
  | zero=>exact .nil
  | succ n=>exact .cons r (ih n)
theorem Vals.drop{xs:List V}{us:List Xd}(n:Nat)(h:Vals xs us):Vals (xs.drop n) (us.drop n):=by
 induction h generalizing n with
 | nil=>rw[List.drop_nil,List.drop_nil];exact .nil
 | cons r t ih=>
  cases n with
  | zero=>exact .cons r t
  | succ n=>exact ih n
def RelO:Option V->Option Xd->Prop
 | some v,YB u=>RelV v u
 | none,YC=>True
 | _,_=>False
def KV{κ:Type}:List (κ×V)->List (κ×Xd)->Prop:=Paired λ(p:κ×V) (q:κ×Xd)=>p.1=q.1/\RelV p.2 q.2
def kV:Key->V
 | .inl i=>.int i
 | .inr x=>.str x
inductive HO where
  | lst (xs:List V)
  | tup (xs:List V)
  | dK (kvs:List (Key×V))|dT (kvs:List (List Key×V))
  | set (S:Int->Bool) (n:Nat)
  | ins (C dx:YG) (fs:List (Str×V))
  | own (x:YG)
  | xd (fs:List (Str×V))
  | met (f x:YG)
  | rng (lo hi:Int)
  | frz (o:Obj) (u:HO)
  | tbl (ps:Array Xd)
  | ext (φ:YH->Prop)
abbrev Hp:=YG->Option HO
def upd(H:Hp)(a:YG)(o:HO):Hp:=λb=>if b=a then YB o else H b
theorem Z8{H:Hp}{a:YG}{o:HO}:upd H a o a=YB o:=by unfold upd;rw[YM rfl]
theorem Zz{H:Hp}{a b:YG}{o:HO}(h:b≠a):upd H a o b=H b:=by unfold upd;rw[YQ h]
def Yjr{H:Hp}{a b:YG}{o u:HO}(h:H a=YB o)(h':H b=YB u)(d:o≠u):a≠b:=by
 intro e;subst e;rw[h]at h';exact d (Qo h')
def Y6{H:Hp}{a b:YG}{o:HO}(h:H a=YB o)(h':H b=YC):a≠b:=by
 intro e;subst e;rw[h]at h';cases h'
section
variable (P:XH)(w:Ql)
def ObjOk(H:Hp)(h:YH)(a:YG):HO->Prop
 | .lst xs=>xs.length<=Xp/\∃(its:List Xd) (n:Nat),Vals xs its/\h.get? a=YB { cls:=.type "list",data:=.seq its.toArray n }
 | .tup xs=>xs.length<=Xp/\∃its:List Xd,Vals xs its/\IsTup h a its.toArray
 | .dK kvs=>kvs.length<=Xp/\(a==Vm)=YF/\∃vs,KV kvs vs/\h.DictOf (J5 P w) a vs
 | .dT kvs=>kvs.length<=Xp/\(a==Vm)=YF/\∃xs:List (List Key×YG×Xd),
   Paired (λ(p:List Key×V) (q:List Key×YG×Xd)=>p.1=q.1/\H q.2.1=YB (.tup (p.1.map kV))/\RelV p.2 q.2.2) kvs xs/\
   ∃o es ep,h.get? a=YB o/\o.ExactDict/\o.data= .dict es ep/\es.toList=xs.map (entryOfKey (tupleKind (J5 P w)))/\(xs.map (·.1)).Nodup
 | .set S n=>h.SetOf (V5 P w) a S n
 | .ins C dx fs=>H dx=YB (.own a)/\fs.length<=1000/\dx≠a/\h.get? a=YB (PySem.W.instObj C dx)/\
   ∃mA,h.Ns1 dx mA/\(∀f,RelO (fs.lookup f) (mA f))/\PySem.Within mA (fs.map (·.1))
 | .own _=>∃o,h.get? a=YB o
 | .xd fs=>∃mA,h.Ns1 a mA/\∀f,RelO (fs.lookup f) (mA f)
 | .rng lo hi=>∃t u v,h.get? a=YB { cls:=.type "range",data:=.fields #[.int lo t,.int hi u,.int 1 v] }
 | .frz o u=>h.get? a=YB o/\ObjOk H h a u
 | .tbl ps=>h.get? a=YB { cls:=.none,data:=.fields ps }
 | .met f x=>h.get? a=YB (PySem.W.methodObj (.ref f) (.ref x))
 | .ext φ=>φ h/\(∃o,h.get? a=YB o)/\∀h1 h2:YH,φ h1->(∀o,h1.get? a=YB o->h2.get? a=YB o)->φ h2
def HOk(H:Hp)(h:YH):Prop:=∀a o,H a=YB o->ObjOk P w H h a o
end
section
variable {P:XH}{w:Ql}{H H':Hp}{h h':YH}{a:YG}{o:HO}
theorem ObjOk.lt(x:ObjOk P w H h a o):a<h.objs.size:=by
 cases o with
 | lst xs=>obtain⟨_,_,_,_,e⟩:=x;exact Xz e
 | tup xs=>obtain⟨_,_,_,p⟩:=x;exact p.lt
 | dK kvs=>obtain⟨_,_,_,_,o,_,_,e,_⟩:=x;exact Xz e
 | dT kvs=>obtain⟨_,_,_,_,o,_,_,e,_⟩:=x;exact Xz e
 | set S n=>obtain⟨o,_,_,_,e,_⟩:=x;exact Xz e
 | ins C dx fs=>obtain⟨_,_,_,e,_⟩:=x;exact Xz e
 | own y=>obtain⟨_,e⟩:=x;exact Xz e
 | xd fs=>obtain⟨_,⟨_,_,_,e,_⟩,_⟩:=x;exact Xz e
 | rng lo hi=>obtain⟨_,_,_,e⟩:=x;exact Xz e
 | frz ob u=>obtain⟨e,_⟩:=x;exact Xz e
 | tbl ps=>exact Xz (show h.get? a=YB _ from x)
 | met f y=>exact Xz (show h.get? a=YB _ from x)
 | ext φ=>obtain⟨_,⟨_,e⟩,_⟩:=x;exact Xz e
def Paired.mapP{Y β:Type}{F G:Y->β->Prop}{l₁:List Y}{l₂:List β}(h:Paired F l₁ l₂)(f:∀a b,F a b->G a b):Paired G l₁ l₂:=by
 induction h with
 | nil=>exact .nil
 | cons r t ih=>exact .cons (f _ _ r) ih
theorem ObjOk.stay(x:ObjOk P w H h a o)(k:∀b u,(b=a\/H b=YB (.own a))->h.get? b=YB u->h'.get? b=YB u)
  (ho:∀b,H b=YB (.own a)->H' b=YB (.own a)) (ht:∀b xs,H b=YB (.tup xs)->H' b=YB (.tup xs)):ObjOk P w H' h' a o:=by
 induction o with
 | lst xs=>obtain⟨z,its,n,r,e⟩:=x;exact⟨z,its,n,r,k _ _ (.inl rfl) e⟩
 | tup xs=>obtain⟨z,its,r,ob,e,c⟩:=x;exact⟨z,its,r,ob,k _ _ (.inl rfl) e,c⟩
 | dK kvs=>obtain⟨z,y,vs,r,ob,es,ep,e,c⟩:=x;exact⟨z,y,vs,r,ob,es,ep,k _ _ (.inl rfl) e,c⟩
 | dT kvs=>
  obtain⟨z,y,xs,r,ob,es,ep,e,c⟩:=x;exact⟨z,y,xs,Paired.mapP r λp q z=>⟨z.1,ht _ _ z.2.1,z.2.2⟩,ob,es,ep,k _ _ (.inl rfl) e,c⟩
 | set S n=>obtain⟨ob,es,ep,t,e,c⟩:=x;exact⟨ob,es,ep,t,k _ _ (.inl rfl) e,c⟩
 | ins C dx fs=>
  obtain⟨d,z,ne,e,mA,⟨od,es,ep,e2,c⟩,r⟩:=x;exact⟨ho _ d,z,ne,k _ _ (.inl rfl) e,mA,⟨od,es,ep,k _ _ (.inr d) e2,c⟩,r⟩
 | own y=>obtain⟨ob,e⟩:=x;exact⟨ob,k _ _ (.inl rfl) e⟩
 | xd fs=>obtain⟨mA,⟨od,es,ep,e,c⟩,r⟩:=x;exact⟨mA,⟨od,es,ep,k _ _ (.inl rfl) e,c⟩,r⟩
 | rng lo hi=>obtain⟨t,u,v,e⟩:=x;exact⟨t,u,v,k _ _ (.inl rfl) e⟩
 | frz ob u ih=>obtain⟨e,q⟩:=x;exact⟨k _ _ (.inl rfl) e,ih q⟩
 | tbl ps=>
  have e:h.get? a=YB { cls:=.none,data:=.fields ps }:=x;show h'.get? a=YB { cls:=.none,data:=.fields ps };exact k a _ (.inl rfl) e
 | met f y=>
  have e:h.get? a=YB (PySem.W.methodObj (.ref f) (.ref y)):=x;show h'.get? a=YB (PySem.W.methodObj (.ref f) (.ref y));exact k a _ (.inl rfl) e
 | ext φ=>obtain⟨p,⟨o,e⟩,st⟩:=x;exact⟨st _ _ p λo q=>k _ _ (.inl rfl) q,⟨o,k _ _ (.inl rfl) e⟩,st⟩
theorem HOk.lt(x:HOk P w H h)(e:H a=YB o):a<h.objs.size:=(x a o e).lt
theorem HOk.fresh(x:HOk P w H h)(e:h.objs.size<=a):H a=YC:=by
 cases q:H a with
 | none=>rfl
 | some u=>exact YZ (X8 (x.lt q) e) (Vf _)
def HOk.kept(x:HOk P w H h)(k:∀b u,h.get? b=YB u->h'.get? b=YB u):HOk P w H h':=λa o e=>
 (x a o e).stay (λb u _ q=>k b u q) (λ_ q=>q) λ_ _ q=>q
theorem HOk.laid(x:HOk P w H h)(k:∀b u,h.get? b=YB u->h'.get? b=YB u)(hp:h.objs.size<=a)(new:ObjOk P w (upd H a o) h' a o):HOk P w (upd H a o) h':=λb u e=>by
 have hn:=x.fresh hp
 by_cases hb:b=a
 .subst hb;rw[Z8]at e;cases e;exact new
 .rw[Zz hb]at e
  exact(x b u e).stay (λc v _ q=>k c v q) (λc q=>by rw[Zz (Y6 q hn)];exact q) λc xs q=>by rw[Zz (Y6 q hn)];exact q
end
def Rd(H:Hp)(a:YG)(u:HO):Prop:=H a=YB u\/∃o,H a=YB (.frz o u)
theorem Rd.ok{P:XH}{w:Ql}{H:Hp}{h:YH}{a:YG}{u:HO}(r:Rd H a u)(x:HOk P w H h):ObjOk P w H h a u:=by
 rcases r with r|⟨o,r⟩
 .exact x a u r
 .obtain⟨_,q⟩:=x a _ r
  exact q
def Mut:Option HO->Prop
 | some (.lst _)=>True
 | some (.dK _)=>True
 | some (.dT _)=>True
 | some (.set _ _)=>True
 | some (.ins _ _ _)=>True
 | some (.ext _)=>True
 | _=>False
section
variable {P:XH}{w:Ql}{H:Hp}{h h':YH}{x e:YG}{o':HO}
def HOk.write(ok:HOk P w H h)(mu:Mut (H x))(he:e=x\/H e=YB (.own x))(k:∀b u,b≠e->h.get? b=YB u->h'.get? b=YB u)(heo:∃u,h'.get? e=YB u)
  (new:ObjOk P w (upd H x o') h' x o'):HOk P w (upd H x o') h':=λb u q=>by
 have nown:∀c y,H c=YB (.own y)->c≠x:=λc y r z=>by subst z;rw[r]at mu;exact mu
 have ntup:∀c xs,H c=YB (.tup xs)->c≠x:=λc xs r z=>by subst z;rw[r]at mu;exact mu
 by_cases hb:b=x
 .subst hb;rw[Z8]at q;cases q;exact new
 .rw[Zz hb]at q
  by_cases hbe:b=e
  .have q':H b=YB (.own x):=by
    rcases he with z|z
    .exact YZ (hbe.trans z) hb
    .rw[hbe];exact z
   rw[q]at q';cases q';obtain⟨v,hv⟩:=heo;exact⟨v,by rw[hbe];exact hv⟩
  .refine(ok b u q).stay (λc v hc r=>k c v ?_ r) (λc r=>by rw[Zz (nown c b r)];exact r) λc xs r=>by rw[Zz (ntup c xs r)];exact r
   rcases hc with rfl|hc
   .exact hbe
   .rintro rfl
    rcases he with z|z
    .exact nown c b hc z
    .rw[hc]at z;cases z;exact hb rfl
end
structure Un(fs ex:List YG)(H H':Hp)(h h':YH):Prop where
 keep:∀b o,h.get? b=YB o->H b=YC->b∉fs->b∉ex->h'.get? b=YB o
 slot:∀b o,h.get? b=YB o->H b=YC->b∈fs->b∉ex->∃sl,h'.get? b=YB { o with slots:=sl }
 free:∀b o,h.get? b=YB o->H b=YC->b∉ex->H' b=YC
 there:∀b o,h.get? b=YB o->b∉ex->∃o',h'.get? b=YB o'
 tups:∀b xs,H b=YB (.tup xs)->H' b=YB (.tup xs)
 frzs:∀b o u,H b=YB (.frz o u)->H' b=YB (.frz o u)
 tbls:∀b ps,H b=YB (.tbl ps)->∃more,H' b=YB (.tbl (ps++more))
section
variable {fs fs' ex ex':List YG}{H H1 H2:Hp}{h h1 h2 h':YH}{a x e:YG}{o:HO}
def Un.any(u:Un fs ex H H1 h h1){b:YG}{ob:Obj}(q:h.get? b=YB ob)(n:H b=YC)(hx:b∉ex):∃sl,h1.get? b=YB { ob with slots:=sl }:=by
 by_cases hb:b∈fs
 .exact u.slot b ob q n hb hx
 .exact⟨ob.slots,u.keep b ob q n hb hx⟩
theorem Un.trans(a:Un fs ex H H1 h h1)(b:Un fs ex H1 H2 h1 h2):Un fs ex H H2 h h2 where
 keep:=λc ob q n hc hx=>b.keep c ob (a.keep c ob q n hc hx) (a.free c ob q n hx) hc hx
 slot:=λc ob q n hc hx=>by
  obtain⟨sl,e1⟩:=a.slot c ob q n hc hx;obtain⟨sl',e2⟩:=b.slot c _ e1 (a.free c ob q n hx) hc hx;exact⟨sl',e2⟩
 free:=λc ob q n hx=>by
  obtain⟨o',e1⟩:=a.there c ob q hx;exact b.free c o' e1 (a.free c ob q n hx) hx
 there:=λc ob q hx=>by
  obtain⟨o',e1⟩:=a.there c ob q hx;exact b.there c o' e1 hx
 tups:=λc xs q=>b.tups c xs (a.tups c xs q)
 frzs:=λc ob xs q=>b.frzs c ob xs (a.frzs c ob xs q)
 tbls:=λc ps q=>by
  obtain⟨m1,e1⟩:=a.tbls c ps q;obtain⟨m2,e2⟩:=b.tbls c _ e1;exact⟨m1++m2,by rw[e2,Array.append_assoc]⟩
def Un.kept(k:∀b u,h.get? b=YB u->h'.get? b=YB u):Un fs ex H H h h' :=
 ⟨λb ob q _ _ _=>k b ob q,λb ob q _ _ _=>⟨ob.slots,k b ob q⟩,λ_ _ _ n _=>n,λb ob q _=>⟨ob,k b ob q⟩,λ_ _ q=>q,λ_ _ _ q=>q,λ_ ps q=>⟨#[],by rw[q];simp⟩⟩
theorem Un.refl:Un fs ex H H h h:=Un.kept λ_ _ q=>q
theorem Un.laid(k:∀b u,h.get? b=YB u->h'.get? b=YB u)(hp:h.objs.size<=a)(hn:H a=YC):Un fs ex H (upd H a o) h h' where
 keep:=λb u q _ _ _=>k b u q
 slot:=λb u q _ _ _=>⟨u.slots,k b u q⟩
 free:=λb u q n _=>by rw[Zz (Xn (X8 (Xz q) hp))];exact n
 there:=λb u q _=>⟨u,k b u q⟩
 tups:=λb xs q=>by rw[Zz (Y6 q hn)];exact q
 frzs:=λb u xs q=>by rw[Zz (Y6 q hn)];exact q
 tbls:=λb ps q=>⟨#[],by rw[Zz (Y6 q hn),q];simp⟩
def Un.write(mu:Mut (H x))(he:e=x\/H e=YB (.own x))(k:∀b u,b≠e->h.get? b=YB u->h'.get? b=YB u)(heo:∃u,h'.get? e=YB u):Un fs ex H (upd H x o) h h':=by
 have hx:∀b,H b=YC->b≠x:=λb n z=>by subst z;rw[n]at mu;exact mu
 have hb:∀b,H b=YC->b≠e:=λb n z=>by
  subst z;rcases he with r|r
  .exact hx b n r
  .rw[n]at r;cases r
 have hm:∀b u,H b=YB u->¬Mut (YB u)->b≠x:=λb u q nm z=>by subst z;rw[q]at mu;exact nm mu
 refine⟨λb u q n _ _=>k b u (hb b n) q,λb u q n _ _=>⟨u.slots,k b u (hb b n) q⟩,λb u q n _=>by rw[Zz (hx b n)];exact n,λb u q _=>?_,
  λb xs q=>by rw[Zz (hm b _ q λz=>z)];exact q,λb u xs q=>by rw[Zz (hm b _ q λz=>z)];exact q,λb ps q=>⟨#[],by rw[Zz (hm b _ q λz=>z),q];simp⟩⟩
 by_cases hbe:b=e
 .subst hbe;exact heo
 .exact⟨u,k b u hbe q⟩
def Un.mono(u:Un fs ex H H1 h h1)(hs:∀b∈fs,b∈fs')(hx:∀b∈ex,b∈ex'):Un fs' ex' H H1 h h1 :=
 ⟨λb ob q n hb he=>u.keep b ob q n (λz=>hb (hs b z)) λz=>he (hx b z),λ_ _ q n _ he=>u.any q n λz=>he (hx _ z),λb ob q n he=>u.free b ob q n λz=>he (hx b z),λb ob q he=>u.there b ob q λz=>he (hx b z),u.tups,u.frzs,u.tbls⟩
end
def trk(h:YH)(H:Hp):List YG:=(QJ h.objs.size).filter λa=>(H a).isSome
def Zzo(h:YH)(H:Hp):YH:=Bj h (trk h H)
def Zt9(h:YH)(H:Hp):(Zzo h H).objs.size=h.objs.size:=PySem.W.hideAll_size _ _
def Z0h{h:YH}{H:Hp}{b:YG}{o:Obj}(e:h.get? b=YB o)(n:H b=YC):(Zzo h H).get? b=YB o :=
 PySem.W.hideAll_get _ e λhm=>by
  have q:(H b).isSome=YD:=(List.mem_filter.mp hm).2;rw[n]at q;simp at q
def Z40{h:YH}{H:Hp}{b:YG}{o:Obj}(e:(Zzo h H).get? b=YB o):h.get? b=YB o/\H b=YC:=by
 have e':h.get? b=YB o:=PySem.W.of_hideAll (trk h H) e;refine⟨e',?_⟩;cases q:H b with
 | none=>rfl
 | some x=>
  have hm:b∈trk h H:=List.mem_filter.mpr ⟨VG.mpr (Xz e'),by simp[q]⟩;have z:(Zzo h H).get? b=YC:=V6 (trk h H) hm;rw[z]at e;cases e
def Z6r(g h:YH)(L:YG):List (YG×Obj):=(QJ h.objs.size).filterMap λa=>if a=L\/(g.get? a).isSome=YD then YC else(h.get? a).map λo=>(a,o)
def rest(g h:YH)(L d:YG):List (YG×Obj):=(Z6r g h L).filter λp=>decide (p.1≠d)
structure Mod(K:Xc)(mg:Str->Option Xd)(base:YH):Prop where
 kin:K.In base
 glob:base.Ns XN mg
 blt:∃mb,base.Ns builtinsNs mb/\∀x:Str,x≠"__name__" ->mb x=Qd x
 nolimit:base.NoLimit
set_option genInjectivity false in
structure Cx where
 prog:XH
 w:Ql
 K:Xc
 mg:Str->Option Xd
 base:YH
 A:Qj
 N:List Str
 s₀:Xg
 H₀:Hp
 env:Env
 outer:List Env
 stack:List Env
 ex:List YG
 fn:Str->Bool
 calm:Bool
 pn:List (YG×Obj)
 xe:Xd->Xg->Prop
def frs(l:List Env):List YG:=l.filterMap (·.frame)
abbrev Cx.fs(X:Cx):List YG:=frs X.outer
def Vis(sc:YL)(x:Str):Prop:=sc.names.lookup x=YB .local\/sc.names.lookup x=YB .cell\/sc.names.lookup x=YB .free
def Loc(sc:YL)(x:Str):Prop:=sc.names.lookup x=YB .local\/sc.names.lookup x=YB .cell
def Look(env:Env)(h:YH)(m:Str->Option Xd)(x:Str)(u:Xd):Prop :=
 (env.kindOf x=YB .local/\m x=YB u)\/((env.kindOf x=YB .cell\/env.kindOf x=YB .free)/\∃c,env.cells.lookup x=YB c/\h.IsCell c (YB u))
structure Cx.Ok(X:Cx):Prop where
 mod:Mod X.K X.mg X.base
 kind:X.env.scope.kind= .function
 glob:X.env.globals=XN
 blt:X.env.builtins=builtinsNs
 above:X.s₀.heap.objs.size<=X.env.locals
 inj:∀x y c,X.env.cells.lookup x=YB c->X.env.cells.lookup y=YB c->x=y
 has:∀x,(X.env.kindOf x=YB .cell\/X.env.kindOf x=YB .free)->∃c,X.env.cells.lookup x=YB c
 cab:∀x c,X.fn x=YD->X.env.cells.lookup x=YB c->X.s₀.heap.objs.size<=c
 hd:X.calm=YD->X.A.handled=YC
 frames:X.A.frames=YB X.stack
 stk:X.stack=X.outer\/(X.stack=X.env::X.outer/\X.env.frame=YB X.env.locals)
 exf:∀b∈X.ex,b≠X.env.locals/\∀x c,X.env.cells.lookup x=YB c->c≠b
 bs:∀b o,X.base.get? b=YB o->X.s₀.heap.get? b=YB o/\X.H₀ b=YC
 bsz:X.base.objs.size<=X.s₀.heap.objs.size
 noex:∀b o,X.base.get? b=YB o->b∉X.ex
 exfs:∀b∈X.ex,b∉X.fs
 funs:X.s₀.heap.FunFrames X.base X.outer
 frf:∀b∈X.fs,X.H₀ b=YC
structure Inv(X:Cx)(pins:List (YG×Obj))(O:List (Option V))(H:Hp)(s:Xg):Prop where
 ok:X.Ok
 os:s.os=X.s₀.os
 bare:AllBare s.gens
 base:Un X.fs X.ex X.H₀ H X.s₀.heap s.heap
 loc:∃m,s.heap.Ns X.env.locals m/\∀(i:Nat) (x:Str) (v:V),X.N[i]? =YB x->O[i]? =YB (YB v)->Vis X.env.scope x->∃u,RelV v u/\Look X.env s.heap m x u
 cell:∀x c,X.env.cells.lookup x=YB c->∃v,s.heap.IsCell c v
 free:H X.env.locals=YC
 freeC:∀x c,X.env.cells.lookup x=YB c->H c=YC
 pin:∀p∈X.pn++pins,s.heap.get? p.1=YB p.2/\H p.1=YC/\p.1≠X.env.locals/\p.1∉X.fs/\∀v,p.2.data≠ .cell v
 hok:HOk X.prog X.w H s.heap
 len:O.length=X.N.length
section
variable {X:Cx}{pins:List (YG×Obj)}{O:List (Option V)}{H H':Hp}{s:Xg}{h':YH}
def Cx.Ok.nofr(ok:X.Ok){b:YG}{o:Obj}(e:X.base.get? b=YB o):b∉X.fs:=λhb=>by
 have:=(ok.funs.mem hb).1;rw[e]at this;cases this
theorem Inv.bs(I:Inv X pins O H s):∀b o,X.base.get? b=YB o->s.heap.get? b=YB o/\H b=YC:=λb o e=>
 ⟨I.base.keep b o (I.ok.bs b o e).1 (I.ok.bs b o e).2 (I.ok.nofr e) (I.ok.noex b o e),I.base.free b o (I.ok.bs b o e).1 (I.ok.bs b o e).2 (I.ok.noex b o e)⟩
def Inv.bk(I:Inv X pins O H s):∀b o,X.base.get? b=YB o->s.heap.get? b=YB o:=λb o e=>(I.bs b o e).1
def Inv.mod(I:Inv X pins O H s):Mod X.K X.mg X.base:=I.ok.mod
def Inv.kIn(I:Inv X pins O H s):X.K.In s.heap:=I.ok.mod.kin.keeps I.bk
theorem Inv.lt(I:Inv X pins O H s):X.env.locals<s.heap.objs.size:=let⟨_,hn,_⟩:=I.loc;hn.lt
theorem Inv.sz(I:Inv X pins O H s):X.s₀.heap.objs.size<=s.heap.objs.size:=XD I.ok.above (U6 I.lt)
def Inv.nofs(I:Inv X pins O H s){a:YG}(h:s.heap.objs.size<=a):a∉X.fs:=λhb=>by
 obtain⟨_,o,ho,_⟩:=I.ok.funs.mem hb;exact YZ (X8 (Xz ho) (XD I.sz h)) (Vf _)
theorem Inv.cne(I:Inv X pins O H s):∀x c,X.env.cells.lookup x=YB c->c≠X.env.locals:=λx c e z=>by
 obtain⟨v,o,ho,hd⟩:=I.cell x c e;obtain⟨m,⟨o',es,ep,ho',hd',_⟩,_⟩:=I.loc;rw[z,ho']at ho;cases ho;rw[hd']at hd;cases hd
def Inv.funs(I:Inv X pins O H s):s.heap.FunFrames X.base X.outer:=by
 have all:∀(l:List Env),(∀b∈frs l,b∈X.fs)->X.s₀.heap.FunFrames X.base l->s.heap.FunFrames X.base l:=by
  intro l
  induction l with
  | nil=>intro _ _;trivial
  | cons env r ih=>
   intro hs hl;obtain⟨hk,⟨L,o,hf,hn,ho,hd⟩,hr⟩:=hl;have hL:L∈X.fs:=hs L (by unfold frs;rw[QX,hf];exact List.mem_cons_self);obtain⟨sl,e⟩:=I.base.slot L o ho (I.ok.frf L hL) hL λz=>I.ok.exfs L z hL;exact⟨hk,⟨L,_,hf,hn,e,hd⟩,ih (λb hb=>hs b (by unfold frs;rw[QX,hf];exact List.mem_cons_of_mem _ hb)) hr⟩
 exact all X.outer (λ_ hb=>hb) I.ok.funs
def Inv.stack(I:Inv X pins O H s):s.heap.FunFrames X.base X.stack:=by
 rcases I.ok.stk with e|⟨e,hf⟩
 .rw[e];exact I.funs
 .rw[e]
  obtain⟨m,hn,_⟩:=I.loc;refine .cons (by rw[I.ok.kind];decide) hf hn ?_ I.funs;exact Heap.get?_none_of_le (XD I.ok.bsz I.ok.above)
def Inv.stkSub(I:Inv X pins O H s):∀b∈frs X.stack,b∈X.env.locals::X.fs:=λb hb=>by
 rcases I.ok.stk with e|⟨e,hf⟩
 .rw[e]at hb;exact List.mem_cons_of_mem _ hb
 .rw[e]at hb
  unfold frs at hb;rw[QX,hf]at hb;exact hb
def Inv.stkFree(I:Inv X pins O H s):∀b∈frs X.stack,H b=YC:=λb hb=>by
 rcases Xl.mp (I.stkSub b hb)with e|hb
 .rw[e];exact I.free
 .obtain⟨_,o,ho,_⟩:=I.ok.funs.mem hb
  exact I.base.free b o ho (I.ok.frf b hb) λz=>I.ok.exfs b z hb
theorem Inv.step{g':Array GenState}{t':Nat}{d':Drawn}{ch:List YG}(I:Inv X pins O H s)
  (hch:∀b∈ch,(b∈X.ex\/X.s₀.heap.objs.size<=b)/\b≠X.env.locals/\(∀x c,X.env.cells.lookup x=YB c->c≠b)/\∀p∈X.pn++pins,p.1≠b)
  (keep:∀b o,b≠X.env.locals->b∉X.fs->b∉ch->s.heap.get? b=YB o->H b=YC->h'.get? b=YB o)
  (slot:∀b o,b≠X.env.locals->b∈X.fs->b∉ch->s.heap.get? b=YB o->H b=YC->∃sl,h'.get? b=YB { o with slots:=sl }) (free:∀b o,b∉ch->s.heap.get? b=YB o->H b=YC->H' b=YC)
  (there:∀b o,b∉ch->s.heap.get? b=YB o->∃o',h'.get? b=YB o')
  (tups:∀b xs,H b=YB (.tup xs)->H' b=YB (.tup xs)) (frzs:∀b o u,H b=YB (.frz o u)->H' b=YB (.frz o u)) (tbls:∀b ps,H b=YB (.tbl ps)->∃more,H' b=YB (.tbl (ps++more)))
  (ns:∀m,s.heap.Ns X.env.locals m->h'.Ns X.env.locals m) (hok:HOk X.prog X.w H' h') (hg:AllBare g') :
  Inv X pins O H' { s with heap:=h',gens:=g',drawn:=d',toks:=t' }:=by
 have neL:∀b o,X.s₀.heap.get? b=YB o->b≠X.env.locals:=λb o e=>Xn (X8 (Xz e) I.ok.above);have neC:∀b o,X.s₀.heap.get? b=YB o->b∉X.ex->b∉ch:=λb o e hx hb=>by
  rcases(hch b hb).1 with z|z
  .exact hx z
  .exact YZ (X8 (Xz e) z) (Vf _)
 have cellK:∀x c,X.env.cells.lookup x=YB c->∀v,s.heap.IsCell c v->h'.IsCell c v:=λx c e v ⟨o,ho,hd⟩=>by
  have nch:c∉ch:=λz=>(hch c z).2.2.1 x c e rfl
  by_cases hc:c∈X.fs
  .obtain⟨sl,q⟩:=slot c o (I.cne x c e) hc nch ho (I.freeC x c e)
   exact⟨_,q,hd⟩
  .exact⟨o,keep c o (I.cne x c e) hc nch ho (I.freeC x c e),hd⟩
 refine⟨I.ok,I.os,hg,⟨λb o e n hb hx=>?_,λb o e n hb hx=>?_,λb o e n hx=>?_,λb o e hx=>?_,λb xs e=>tups b xs (I.base.tups b xs e),λb o xs e=>frzs b o xs (I.base.frzs b o xs e),λb ps e=>?_⟩,?_,λx c e=>?_,?_,λx c e=>?_,λp hp=>?_,hok,I.len⟩
 .exact keep b o (neL b o e) hb (neC b o e hx) (I.base.keep b o e n hb hx) (I.base.free b o e n hx)
 .obtain⟨sl,e1⟩:=I.base.slot b o e n hb hx
  obtain⟨sl',e2⟩:=slot b _ (neL b o e) hb (neC b o e hx) e1 (I.base.free b o e n hx);exact⟨sl',e2⟩
 .obtain⟨o',e1⟩:=I.base.there b o e hx
  exact free b o' (neC b o e hx) e1 (I.base.free b o e n hx)
 .obtain⟨o',e1⟩:=I.base.there b o e hx
  exact there b o' (neC b o e hx) e1
 .obtain⟨m1,e1⟩:=I.base.tbls b ps e
  obtain⟨m2,e2⟩:=tbls b _ e1;exact⟨m1++m2,by rw[e2,Array.append_assoc]⟩
 .obtain⟨m,hn,hl⟩:=I.loc
  refine⟨m,ns m hn,λi x v e1 e2 e3=>?_⟩;obtain⟨u,r,l⟩:=hl i x v e1 e2 e3;refine⟨u,r,?_⟩;rcases l with l|⟨k,c,e,z⟩
  .exact .inl l
  .exact .inr ⟨k,c,e,cellK x c e _ z⟩
 .obtain⟨v,z⟩:=I.cell x c e
  exact⟨v,cellK x c e v z⟩
 .obtain⟨m,⟨o,_,_,ho,_⟩,_⟩:=I.loc
  exact free _ o (λz=>(hch _ z).2.1 rfl) ho I.free
 .obtain⟨v,o,ho,hd⟩:=I.cell x c e
  exact free c o (λz=>(hch c z).2.2.1 x c e rfl) ho (I.freeC x c e)
 .obtain⟨e,n,ne,nf,d⟩:=I.pin p hp
  have nch:p.1∉ch:=λz=>(hch p.1 z).2.2.2 p hp rfl;exact⟨keep p.1 p.2 ne nf nch e n,free p.1 p.2 nch e n,ne,nf,d⟩
def Inv.un{t':Nat}(I:Inv X pins O H s)(u:Un X.fs [] H H' s.heap h')(hok:HOk X.prog X.w H' h'):Inv X pins O H' { s with heap:=h',toks:=t' }:=by
 obtain⟨m,⟨o,es,ep,ho,r⟩,_⟩:=id I.loc;obtain⟨sl,hL⟩:=u.any ho I.free (!5);exact I.step (g':=s.gens) (d':=s.drawn) (ch:=[]) (λ_ z=>nomatch z) (λb o _ hb _ e n=>u.keep b o e n hb (!5)) (λb o _ hb _ e n=>u.slot b o e n hb (!5)) (λb o _ e n=>u.free b o e n (!5)) (λb o _ e=>u.there b o e (!5)) u.tups u.frzs u.tbls (λm' hm=>by
  obtain⟨o',es',ep',ho',r'⟩:=hm;rw[ho]at ho';cases ho';exact⟨_,es',ep',hL,r'⟩) hok I.bare
theorem Inv.call{g':Array GenState}{t':Nat}{d':Drawn}{ch:List YG}(I:Inv X pins O H s)(u:Un (frs X.stack) ch H H' s.heap h')(hok:HOk X.prog X.w H' h')(hg:AllBare g')
  (hch:∀b∈ch,(b∈X.ex\/X.s₀.heap.objs.size<=b)/\b≠X.env.locals/\(∀x c,X.env.cells.lookup x=YB c->c≠b)/\∀p∈X.pn++pins,p.1≠b) :
  Inv X pins O H' { s with heap:=h',gens:=g',drawn:=d',toks:=t' }:=by
 obtain⟨m,⟨o,es,ep,ho,r⟩,_⟩:=id I.loc;obtain⟨sl,hL⟩:=u.any ho I.free λz=>(hch _ z).2.1 rfl;exact I.step (ch:=ch) hch (λb o hL hb hc e n=>u.keep b o e n (λz=>(Xl.mp (I.stkSub b z)).elim hL hb) hc) (λb o _ _ hc e n=>u.any e n hc) (λb o hc e n=>u.free b o e n hc) (λb o hc e=>u.there b o e hc) u.tups u.frzs u.tbls (λm' hm=>by
  obtain⟨o',es',ep',ho',r'⟩:=hm;rw[ho]at ho';cases ho';exact⟨_,es',ep',hL,r'⟩) hok hg
theorem Inv.turned{t':Nat}{it:YG}(I:Inv X pins O H s)(k:∀b o,b≠it->s.heap.get? b=YB o->h'.get? b=YB o)(hn:H it=YC)(hL:it≠X.env.locals)
  (h1:it∈X.ex\/X.s₀.heap.objs.size<=it) (h2:∀x c,X.env.cells.lookup x=YB c->c≠it) (h3:∀p∈X.pn++pins,p.1≠it):Inv X pins O H { s with heap:=h',toks:=t' }:=by
 have nit:∀b u,H b=YB u->b≠it:=λb u e z=>by rw[z,hn]at e;cases e
 refine I.step (g':=s.gens) (d':=s.drawn) (ch:=[it]) (λb hb=>?_) (λb o _ _ hc e _=>k b o (λz=>hc (by simp[z])) e) (λb o _ _ hc e _=>⟨o.slots,k b o (λz=>hc (by simp[z])) e⟩) (λ_ _ _ _ n=>n)
  (λb o hc e=>⟨o,k b o (λz=>hc (by simp[z])) e⟩) (λ_ _ e=>e) (λ_ _ _ e=>e) (λb ps e=>⟨#[],by rw[e];simp⟩) (λm hm=>?_) (λb u e=>?_) I.bare
 .have e:b=it:=by simpa using hb
  subst e;exact⟨h1,hL,h2,h3⟩
 .obtain⟨o,es,ep,ho,r⟩:=hm
  exact⟨o,es,ep,k _ o (BL hL) ho,r⟩
 .refine(I.hok b u e).stay (λc v hc q=>k c v ?_ q) (λ_ q=>q) λ_ _ q=>q
  rcases hc with z|z
  .rw[z];exact nit b u e
  .exact nit c _ z
theorem Inv.tok(I:Inv X pins O H s)(t:Nat):Inv X pins O H { s with toks:=t }:=I.un (h':=s.heap) (t':=t) Un.refl I.hok
def Inv.kept{t':Nat}(I:Inv X pins O H s)(k:∀b u,s.heap.get? b=YB u->h'.get? b=YB u):Inv X pins O H { s with heap:=h',toks:=t' }:=I.un (Un.kept k) (I.hok.kept k)
theorem Inv.laid{a:YG}{o:HO}{t':Nat}(I:Inv X pins O H s)(k:∀b u,s.heap.get? b=YB u->h'.get? b=YB u)(hp:s.heap.objs.size<=a)(new:ObjOk X.prog X.w (upd H a o) h' a o) :
  Inv X pins O (upd H a o) { s with heap:=h',toks:=t' }:=I.un (Un.laid k hp (I.hok.fresh hp)) (I.hok.laid k hp new)
def Inv.write{x e:YG}{o:HO}{t':Nat}(I:Inv X pins O H s)(mu:Mut (H x))(he:e=x\/H e=YB (.own x))(k:∀b u,b≠e->s.heap.get? b=YB u->h'.get? b=YB u)(heo:∃u,h'.get? e=YB u)
  (new:ObjOk X.prog X.w (upd H x o) h' x o):Inv X pins O (upd H x o) { s with heap:=h',toks:=t' }:=I.un (Un.write mu he k heo) (I.hok.write mu he k heo new)
def Inv.pins_of{pins':List (YG×Obj)}(I:Inv X pins O H s)(h:∀p∈pins',s.heap.get? p.1=YB p.2/\H p.1=YC/\p.1≠X.env.locals/\p.1∉X.fs/\∀v,p.2.data≠ .cell v):Inv X pins' O H s :=
 ⟨I.ok,I.os,I.bare,I.base,I.loc,I.cell,I.free,I.freeC,λp hp=>(X3.mp hp).elim (λz=>I.pin p (Bp _ z)) (h p),I.hok,I.len⟩
theorem Zlx{N:List Str}(hN:N.Nodup){i j:Nat}{x:Str}(a:N[i]? =YB x)(b:N[j]? =YB x):i=j:=by
 obtain⟨h1,e1⟩:=Xk.mp a;obtain⟨h2,e2⟩:=Xk.mp b;exact(List.getElem_inj hN).mp (e1.trans e2.symm)
theorem Zom{M:Model}{A:Qj}{E:Xd->Xg->Prop}{i:Nat}{x:Str}{v:V}{u:Xd}{Q:Unit->Xg->Prop}(I:Inv X pins O H s)(hN:X.N.Nodup)(hi:X.N[i]? =YB x)(hx:Loc X.env.scope x)(r:RelV v u)
  (h:∀s',Inv X pins (O.set i (YB v)) H s'->(∃a,JP a s.heap s'.heap/\(a=X.env.locals\/X.env.cells.lookup x=YB a))->Q () s') (hf:X.fn x=YD\/X.env.scope.names.lookup x=YB .local:=by first|exact .inl rfl|exact .inr rfl|assumption):Xy M A (storeName X.env x u) Q E s:=by
 obtain⟨m,hn,hl⟩:=id I.loc;have hcls:(X.env.scope.kind== .class||(X.env.scope.kind== .module&&X.env.locals !=X.env.globals))=YF:=by rw[I.ok.kind];rfl
 have hiσ:i<O.length:=by rw[I.len];exact(Xk.mp hi).1
 have cne:=I.cne;have tracked:∀{a:YG} {h':YH},(∃o,s.heap.get? a=YB o/\H a=YC)->JP a s.heap h'->HOk X.prog X.w H h':=fun{a h'} ha hs b ob e=>by
  obtain⟨_,_,hfree⟩:=ha;refine(I.hok b ob e).stay (λc w' hc q=>(hs.2 c ?_).trans q) (λ_ q=>q) λ_ _ q=>q;rintro rfl;rcases hc with rfl|hc
  .rw[hfree]at e;cases e
  .rw[hfree]at hc;cases hc
 rcases hx with hk|hk
 .refine wpAny_storeName_local hk hn (λh' hn' hs=>?_) hcls
  obtain⟨oL,_,_,hoL,_⟩:=id hn;refine h _ ⟨I.ok,I.os,I.bare,⟨λb o e n hb hx=>?_,λb o e n hb hx=>?_,I.base.free,λb o e hx=>?_,I.base.tups,I.base.frzs,I.base.tbls⟩,⟨_,hn',λj y v' e1 e2 e3=>?_⟩,λy c e=>?_,I.free,I.freeC,λp hp=>?_,tracked ⟨oL,hoL,I.free⟩ hs,by simpa using I.len⟩ ⟨_,hs,.inl rfl⟩
  .exact(hs.2 b (Xn (X8 (Xz e) I.ok.above))).trans (I.base.keep b o e n hb hx)
  .obtain⟨sl,e1⟩:=I.base.slot b o e n hb hx
   exact⟨sl,(hs.2 b (Xn (X8 (Xz e) I.ok.above))).trans e1⟩
  .obtain⟨o',e1⟩:=I.base.there b o e hx
   exact⟨o',(hs.2 b (Xn (X8 (Xz e) I.ok.above))).trans e1⟩
  .by_cases hj:j=i
   .subst hj
    rw[hi]at e1;cases e1;rw[QK hiσ]at e2;cases e2;exact⟨u,r,.inl ⟨hk,by simp⟩⟩
   .rw[Qn (BL hj)]at e2
    obtain⟨u',r',q⟩:=hl j y v' e1 e2 e3;refine⟨u',r',?_⟩;rcases q with⟨k,e⟩|⟨k,c,e,z⟩
    .refine .inl ⟨k,?_⟩
     have:y≠x:=λe=>hj (Zlx hN e1 (e▸hi));simp[this,e]
    .exact .inr ⟨k,c,e,z.sameBut hs (cne y c e)⟩
  .obtain⟨w',z⟩:=I.cell y c e
   exact⟨w',z.sameBut hs (cne y c e)⟩
  .obtain⟨e,n,ne,nf,d⟩:=I.pin p hp
   exact⟨(hs.2 p.1 ne).trans e,n,ne,nf,d⟩
 .have hfn:X.fn x=YD:=by
   rcases hf with z|z
   .exact z
   .rw[z]at hk;cases hk
  obtain⟨c,hc⟩:=I.ok.has x (.inl hk);obtain⟨w',z⟩:=I.cell x c hc;refine wpAny_storeName_cell I.ok.kind hk hc z (λh' hc' hs=>?_);obtain⟨oc,hoc,hocd⟩:=id z;refine h { s with heap:=h' } ⟨I.ok,I.os,I.bare,⟨λb o e n hb hx=>?_,λb o e n hb hx=>?_,I.base.free,λb o e hx=>?_,I.base.tups,I.base.frzs,I.base.tbls⟩,⟨m,hn.sameBut hs (BL (cne x c hc)),λj y v' e1 e2 e3=>?_⟩,λy c' e=>?_,I.free,I.freeC,λp hp=>?_,tracked ⟨oc,hoc,I.freeC x c hc⟩ hs,by simpa using I.len⟩ ⟨c,hs,.inr hc⟩
  .exact(hs.2 b (Xn (X8 (Xz e) (I.ok.cab x c hfn hc)))).trans (I.base.keep b o e n hb hx)
  .obtain⟨sl,e1⟩:=I.base.slot b o e n hb hx
   exact⟨sl,(hs.2 b (Xn (X8 (Xz e) (I.ok.cab x c hfn hc)))).trans e1⟩
  .obtain⟨o',e1⟩:=I.base.there b o e hx
   exact⟨o',(hs.2 b (Xn (X8 (Xz e) (I.ok.cab x c hfn hc)))).trans e1⟩
  .by_cases hj:j=i
   .subst hj
    rw[hi]at e1;cases e1;rw[QK hiσ]at e2;cases e2;exact⟨u,r,.inr ⟨.inl hk,c,hc,hc'⟩⟩
   .rw[Qn (BL hj)]at e2
    obtain⟨u',r',q⟩:=hl j y v' e1 e2 e3;refine⟨u',r',?_⟩;rcases q with q|⟨k,c',e,z'⟩
    .exact .inl q
    .refine .inr ⟨k,c',e,z'.sameBut hs ?_⟩
     rintro rfl;exact hj (Zlx hN e1 (I.ok.inj _ _ _ e hc▸hi))
  .by_cases hcc:c'=c
   .subst hcc;exact⟨_,hc'⟩
   .obtain⟨w2,z2⟩:=I.cell y c' e
    exact⟨w2,z2.sameBut hs hcc⟩
  .obtain⟨e,n,ne,nf,d⟩:=I.pin p hp
   refine⟨(hs.2 p.1 ?_).trans e,n,ne,nf,d⟩;intro q;rw[q,hoc]at e;have q':oc=p.2:=Qo e;exact d w' (by rw[<-q'];exact hocd)
def Zfg{M:Model}{A:Qj}{E:Xd->Xg->Prop}{i:Nat}{x:Str}{v:V}{u:Xd}{Q:Unit->Xg->Prop}(I:Inv X pins O H s)(hN:X.N.Nodup)(hi:X.N[i]? =YB x)(hx:Loc X.env.scope x)(r:RelV v u)
  (h:∀s',Inv X pins (O.set i (YB v)) H s'->Q () s') (hf:X.fn x=YD\/X.env.scope.names.lookup x=YB .local:=by first|exact .inl rfl|exact .inr rfl|assumption):Xy M A (storeName X.env x u) Q E s :=
 Zom I hN hi hx r (λs' I' _=>h s' I') hf
def Inv.call'{s':Xg}{ch:List YG}(I:Inv X pins O H s)(ho:s'.os=s.os)(u:Un (frs X.stack) ch H H' s.heap s'.heap)(hok:HOk X.prog X.w H' s'.heap)(hg:AllBare s'.gens)
  (hch:∀b∈ch,(b∈X.ex\/X.s₀.heap.objs.size<=b)/\b≠X.env.locals/\(∀x c,X.env.cells.lookup x=YB c->c≠b)/\∀p∈X.pn++pins,p.1≠b):Inv X pins O H' s':=by
 obtain⟨h',g',d',t',o'⟩:=s';have e:o'=s.os:=ho;subst e;exact I.call (g':=g') (t':=t') (d':=d') u hok hg hch
end
abbrev XK:=Xd->Option YG->Hp->Prop
abbrev St:=List (Option V)
abbrev VK:=V->Hp->Prop
abbrev TE:=St->Hp->VK->Prop
abbrev TT:=St->Hp->(Bool->Hp->Prop)->Prop
abbrev TA:=St->Hp->(List V->Hp->Prop)->Prop
set_option genInjectivity false in
structure Ends where
 nx:St->Hp->Prop
 rt:VK
 bk:St->Hp->Prop:=λ_ _=>False
 ct:St->Hp->Prop:=λ_ _=>False
abbrev TS:=Ends->St->Hp->Prop
def EP(X:Cx)(pins:List (YG×Obj))(O:St)(Q:VK)(u:Xd)(s':Xg):Prop:=∃v H',Inv X pins O H' s'/\RelV v u/\Q v H'
def TP(X:Cx)(pins:List (YG×Obj))(O:St)(Q:Bool->Hp->Prop)(b:Bool)(s':Xg):Prop:=∃H',Inv X pins O H' s'/\Q b H'
def AP(X:Cx)(pins:List (YG×Obj))(O:St)(Q:List V->Hp->Prop)(us:List Xd)(s':Xg):Prop:=∃vs H',Inv X pins O H' s'/\Vals vs us/\Q vs H'
def SP(X:Cx)(pins:List (YG×Obj))(D:Ends)(f:Flow)(s':Xg):Prop :=
 match f with
 | .next=>∃O' H',Inv X pins O' H' s'/\D.nx O' H'
 | .brk=>∃O' H',Inv X pins O' H' s'/\D.bk O' H'
 | .cont=>∃O' H',Inv X pins O' H' s'/\D.ct O' H'
 | .ret u=>∃v O' H',Inv X pins O' H' s'/\RelV v u/\D.rt v H'
def PE(X:Cx)(e:YJ)(t:TE):Prop :=
 ∀(pins:List (YG×Obj)) (s:Xg) (O:St) (H:Hp) (Q:VK),Inv X pins O H s->t O H Q->Xy (X4 X.prog X.w) X.A (eval e X.env) (EP X pins O Q) X.xe s
def PT(X:Cx)(e:YJ)(t:TT):Prop :=
 ∀(pins:List (YG×Obj)) (s:Xg) (O:St) (H:Hp) (Q:Bool->Hp->Prop),Inv X pins O H s->t O H Q->Xy (X4 X.prog X.w) X.A (isTrue e X.env (eval e X.env)) (TP X pins O Q) X.xe s
def PW(X:Cx)(e:YJ)(t:TT):Prop :=
 ∀(whole:Sem Xd) (pins:List (YG×Obj)) (s:Xg) (O:St) (H:Hp) (Q:Bool->Hp->Prop),Inv X pins O H s->t O H Q->Xy (X4 X.prog X.w) X.A (isTrue e X.env whole) (TP X pins O Q) X.xe s
theorem PW.pt{X:Cx}{e:YJ}{t:TT}(h:PW X e t):PT X e t:=h _
def PA(X:Cx)(es:List YJ)(t:TA):Prop :=
 ∀(pos:Pos) (pins:List (YG×Obj)) (s:Xg) (O:St) (H:Hp) (Q:List V->Hp->Prop),Inv X pins O H s->t O H Q->Xy (X4 X.prog X.w) X.A (spliced (Ba pos (Xr es X.env))) (AP X pins O Q) X.xe s
def PS(X:Cx)(st:YK)(t:TS):Prop :=
 ∀(pins:List (YG×Obj)) (s:Xg) (O:St) (H:Hp) (D:Ends),Inv X pins O H s->t D O H->Xy (X4 X.prog X.w) X.A (exec st X.env) (SP X pins D) X.xe s
def PSs(X:Cx)(st:List YK)(t:TS):Prop :=
 ∀(pins:List (YG×Obj)) (s:Xg) (O:St) (H:Hp) (D:Ends),Inv X pins O H s->t D O H->Xy (X4 X.prog X.w) X.A (execs st X.env) (SP X pins D) X.xe s
theorem thn{Y:Type}{t:Sem Y}{Q Q':Y->Xg->Prop}{M:Model}{A:Qj}{E:Xd->Xg->Prop}{s:Xg}(h:Xy M A t Q E s)(hQ:∀a s,Q a s->Q' a s):Xy M A t Q' E s:=QQ h hQ λ_ _ x=>x
section
variable {X:Cx}
def Ylk(i:Nat):TE:=λO H Q=>∃v,O[i]? =YB (YB v)/\Q v H
def tC(v:V):TE:=λ_ H Q=>Q v H
def Yep{i:Nat}{x:Str}{pos:Pos}(hN:X.N[i]? =YB x)(hv:Vis X.env.scope x)(hd:(x==(!10))=YF:=by decide)(hcd:(x==(!17))=YF:=by decide):PE X (.Name x pos) (Ylk i):=by
 intro pins s O H Q I h;obtain⟨v,e,h⟩:=h;obtain⟨m,hn,hl⟩:=I.loc;obtain⟨u,r,l⟩:=hl i x v hN e hv;have fin:EP X pins O Q u s:=⟨v,H,I,r,h⟩;rcases l with⟨hk,hm⟩|⟨hk,c,hc,hcell⟩
 .exact wpAny_Name (wpAny_loadName_local I.ok.kind hk hn hm fin) hd
 .rcases hk with hk|hk
  .exact wpAny_Name (wpAny_loadName_cell I.ok.kind hk hc hcell fin) hd
  .exact wpAny_Name (wpAny_loadName_free I.ok.kind hk hc hcell fin hcd) hd
def Ybl{i j pos}:PE X (.Constant (.int i) j pos) (tC (.int i)):=λ_ _ _ H _ I h=>wpAny_Constant_int ⟨.int i,H,I.tok _,⟨_,rfl⟩,h⟩
def Yhb{b j pos}:PE X (.Constant (.bool b) j pos) (tC (.bl b)):=λ_ _ _ H _ I h=>Constant_bool ⟨.bl b,H,I,rfl,h⟩
def Yec{j pos}:PE X (.Constant .none j pos) (tC .non):=λ_ _ _ H _ I h=>Constant_none ⟨.non,H,I,rfl,h⟩
def Ycg{x j pos}:PE X (.Constant (.str x) j pos) (tC (.str x)):=λ_ _ _ H _ I h=>Calls.Constant_str ⟨.str x,H,I.tok _,⟨_,rfl⟩,h⟩
def Gl(X:Cx)(x:Str):Prop:=X.env.kindOf x=YB .globalImplicit
def Zir{E:Xd->Xg->Prop}{pins:List (YG×Obj)}{s:Xg}{O:St}{H:Hp}{x:Str}{u:Xd}{pos:Pos}{Q:Xd->Xg->Prop}(I:Inv X pins O H s)(hg:Gl X x)(hm:X.mg x=YB u)(h:Q u s)
  (hd:(x==(!10))=YF:=by decide):Xy (X4 X.prog X.w) X.A (eval (.Name x pos) X.env) Q E s :=
 Calls.Name_function_global I.ok.kind hg (Calls.loadGlobal_global (by rw[I.ok.glob];exact I.mod.glob.keeps I.bk) hm h) hd
def Zjg{E:Xd->Xg->Prop}{pins:List (YG×Obj)}{s:Xg}{O:St}{H:Hp}{x:Str}{u:Xd}{pos:Pos}{Q:Xd->Xg->Prop}(I:Inv X pins O H s)(hg:Gl X x)(hm:X.mg x=YC)(hv:Qd x=YB u)(h:Q u s)
  (hn:x≠"__name__" :=by decide) (hd:(x==(!10))=YF:=by decide):Xy (X4 X.prog X.w) X.A (eval (.Name x pos) X.env) Q E s:=by
 obtain⟨mb,h1,h2⟩:=I.mod.blt;exact Calls.Name_function_global I.ok.kind hg (Calls.loadGlobal_builtin (by rw[I.ok.glob];exact I.mod.glob.keeps I.bk) hm (by rw[I.ok.blt];exact h1.keeps I.bk) ((h2 x hn).trans hv) h) hd
def Za1{x:Str}{v:V}{u:Xd}{pos:Pos}(hg:Gl X x)(hm:X.mg x=YB u)(r:RelV v u)(hd:(x==(!10))=YF:=by decide):PE X (.Name x pos) (tC v) :=
 λ_ _ _ H _ I h=>Zir I hg hm ⟨v,H,I,r,h⟩ hd
def Zov{x:Str}{v:V}{u:Xd}{pos:Pos}(hg:Gl X x)(hm:X.mg x=YC)(hv:Qd x=YB u)(r:RelV v u)(hn:x≠"__name__" :=by decide)(hd:(x==(!10))=YF:=by decide):PE X (.Name x pos) (tC v) :=
 λ_ _ _ H _ I h=>Zjg I hg hm hv ⟨v,H,I,r,h⟩ hn hd
def t2I(ta tb:TE)(k:Int->Int->Hp->Prop):St->Hp->Prop:=λO H=>ta O H λx H1=>tb O H1 λy H2=>∃i j,x= .int i/\y= .int j/\k i j H2
variable {a b:YJ}{ta tb:TE}{pos:Pos}
def Z86(p:Int->Int->Bool)(ta tb:TE):TE:=λO H Q=>t2I ta tb (λi j H2=>Q (.bl (p i j)) H2) O H
abbrev tLt:TE->TE->TE:=Z86 λi j=>decide (i<j)
abbrev tLe:TE->TE->TE:=Z86 λi j=>decide (i<=j)
abbrev tGt:TE->TE->TE:=Z86 λi j=>decide (j<i)
abbrev tGe:TE->TE->TE:=Z86 λi j=>decide (j<=i)
abbrev Yqe:TE->TE->TE:=Z86 λi j=>decide (i=j)
abbrev Yqd:TE->TE->TE:=Z86 λi j=>!decide (i=j)
def tB(t:TE):TT:=λO H Q=>t O H λx H1=>∃c,x= .bl c/\Q c H1
variable {tA tB':TT}{rest:List YJ}
def Yoy(t u:TT):TT:=λO H Q=>t O H λc H1=>if c=YD then u O H1 Q else Q YF H1
def tOr(t u:TT):TT:=λO H Q=>t O H λc H1=>if c=YD then Q YD H1 else u O H1 Q
def Yp8(t:TT):TT:=λO H Q=>t O H λc H1=>Q (!c) H1
def Z7a(ha:PT X a tA):PW X (.BoolOp .And [a] pos) tA:=by
 intro wh pins s O H Q I h;refine isTrue_and (thn (ha pins s O H Q I h) λc s1 e=>?_);cases c with
 | true=>exact isTrue_and_nil e
 | false=>exact e
def Yef(ha:PT X a tA):PW X (.BoolOp .Or [a] pos) tA:=by
 intro wh pins s O H Q I h;refine isTrue_or (thn (ha pins s O H Q I h) λc s1 e=>?_);cases c with
 | false=>exact isTrue_or_nil e
 | true=>exact e
def Yew(ha:PT X a tA)(hb:PW X (.BoolOp .And (b::rest) pos) tB'):PW X (.BoolOp .And (a::b::rest) pos) (Yoy tA tB'):=by
 intro wh pins s O H Q I h;refine isTrue_and (thn (ha pins s O H _ I h) λc s1 qz9=>?_);obtain⟨H1,I1,q1⟩:=qz9;cases c with
 | true=>exact hb wh pins s1 O H1 Q I1 q1
 | false=>exact⟨H1,I1,q1⟩
def Yio(ha:PT X a tA)(hb:PW X (.BoolOp .Or (b::rest) pos) tB'):PW X (.BoolOp .Or (a::b::rest) pos) (tOr tA tB'):=by
 intro wh pins s O H Q I h;refine isTrue_or (thn (ha pins s O H _ I h) λc s1 qz9=>?_);obtain⟨H1,I1,q1⟩:=qz9;cases c with
 | true=>exact⟨H1,I1,q1⟩
 | false=>exact hb wh pins s1 O H1 Q I1 q1
def Ycj(ha:PT X a tA):PT X (.UnaryOp .Not a pos) (Yp8 tA):=by
 intro pins s O H Q I h;exact isTrue_not (ha pins s O H (λc H1=>Q (!c) H1) I h)
def Yh6(ta tb:TE):TE:=λO H Q=>ta O H λx H1=>∃c,x= .bl c/\if c=YD then tb O H1 Q else Q (.bl YF) H1
def Yo5(ta tb:TE):TE:=λO H Q=>ta O H λx H1=>∃c,x= .bl c/\if c=YD then Q (.bl YD) H1 else tb O H1 Q
def Yj1(ta:TE):TE:=λO H Q=>ta O H λx H1=>∃c,x= .bl c/\Q (.bl (!c)) H1
def Yex{op}{t:TE}(h:PE X a t):PE X (.BoolOp op [a] pos) t:=λpins s O H Q I hw=>BoolOp_one (h pins s O H Q I hw)
def Ye0(ha:PE X a ta)(hb:PE X (.BoolOp .And (b::rest) pos) tb):PE X (.BoolOp .And (a::b::rest) pos) (Yh6 ta tb):=by
 intro pins s O H Q I h;refine BoolOp_and (thn (ha pins s O H _ I h) λv s1 qz9=>?_);obtain⟨x,H1,I1,r1,q1⟩:=qz9;obtain⟨c,rfl,q1⟩:=q1;cases r1;refine Vk ?_;cases c with
 | true=>exact hb pins s1 O H1 Q I1 q1
 | false=>exact⟨.bl YF,H1,I1,rfl,q1⟩
def Yje(ha:PE X a ta)(hb:PE X (.BoolOp .Or (b::rest) pos) tb):PE X (.BoolOp .Or (a::b::rest) pos) (Yo5 ta tb):=by
 intro pins s O H Q I h;refine BoolOp_or (thn (ha pins s O H _ I h) λv s1 qz9=>?_);obtain⟨x,H1,I1,r1,q1⟩:=qz9;obtain⟨c,rfl,q1⟩:=q1;cases r1;refine Vk ?_;cases c with
 | false=>exact hb pins s1 O H1 Q I1 q1
 | true=>exact⟨.bl YD,H1,I1,rfl,q1⟩
def Yay(ha:PE X a ta):PE X (.UnaryOp .Not a pos) (Yj1 ta):=by
 intro pins s O H Q I h;refine UnaryOp_ (thn (ha pins s O H _ I h) λv s1 qz9=>?_);obtain⟨x,H1,I1,r1,q1⟩:=qz9;obtain⟨c,rfl,q1⟩:=q1;cases r1;exact not_of (Vk ⟨.bl (!c),H1,I1,rfl,q1⟩)
def tIf(t:TT)(ta tb:TE):TE:=λO H Q=>t O H λc H1=>if c=YD then ta O H1 Q else tb O H1 Q
def Zz3{c:YJ}(hc:PT X c tA)(ha:PE X a ta)(hb:PE X b tb):PE X (.IfExp c a b pos) (tIf tA ta tb):=by
 intro pins s O H Q I h;refine wpAny_IfExp (thn (hc pins s O H _ I h) λd s1 qz9=>?_);obtain⟨H1,I1,q1⟩:=qz9;cases d with
 | true=>exact ha pins s1 O H1 Q I1 q1
 | false=>exact hb pins s1 O H1 Q I1 q1
end
def SqL(K:Xc)(H:Hp)(a:YG)(xs:List V):Prop :=
 Rd H a (.lst xs)\/
  ∃(o:Obj) (its:Array Xd) (n:Nat),K.lookup a=YB o/\o.cls= .type "list"/\o.dict=YC/\o.data= .seq its n/\its.size<=Xp/\Vals xs its.toList
def SqT(K:Xc)(H:Hp)(a:YG)(xs:List V):Prop :=
 Rd H a (.tup xs)\/
  ∃(o:Obj) (its:Array Xd) (n:Nat),K.lookup a=YB o/\o.cls= .type "tuple"/\o.data= .seq its n/\its.size<=Xp/\Vals xs its.toList
def Ypt:Xd->Option V
 | .none=>YB .non
 | .bool b=>YB (.bl b)
 | .int i _=>YB (.int i)
 | .str x _=>YB (.str x)
 | .bytes b _=>YB (.byt b)
 | .float b _=>YB (.flt b)
 | .ref a=>YB (.ref a)
 | .type n=>YB (.ty n)
 | _=>YC
def RelV.abs{x:V}{u:Xd}(r:RelV x u):Ypt u=YB x:=by
 cases x with
 | non=>cases r;rfl
 | bl _=>cases r;rfl
 | int _=>obtain⟨t,rfl⟩:=r;rfl
 | str _=>obtain⟨t,rfl⟩:=r;rfl
 | byt _=>obtain⟨t,rfl⟩:=r;rfl
 | flt _=>obtain⟨t,rfl⟩:=r;rfl
 | ref _=>cases r;rfl
 | ty _=>cases r;rfl
theorem RelV.inj{x y:V}{u:Xd}(r:RelV x u)(q:RelV y u):x=y:=Qo (r.abs.symm.trans q.abs)
theorem Vals.inj{xs ys:List V}{us:List Xd}(h:Vals xs us)(k:Vals ys us):xs=ys:=by
 induction h generalizing ys with
 | nil=>cases k;rfl
 | cons r t ih=>
  cases k with
  | cons r' t'=>rw[r.inj r',ih t']
section
variable {X:Cx}{pins:List (YG×Obj)}{O:St}{H:Hp}{s:Xg}{a:YG}{xs ys:List V}
theorem Inv.list(I:Inv X pins O H s)(h:SqL X.K H a xs):∃its:List Xd,Vals xs its/\PlainL s.heap a its.toArray/\xs.length<=Xp:=by
 rcases h with h|⟨o,its,n,hk,hc,hd,hs,hz,r⟩
 .obtain⟨z,its,n,r,e⟩:=h.ok I.hok
  exact⟨its,r,⟨_,n,e,rfl,rfl,rfl⟩,z⟩
 .refine⟨its.toList,r,⟨o,n,I.kIn a o hk,hc,hd,by simpa using hs⟩,?_⟩
  have e:=r.length;simp only[XM]at e;omega
theorem Inv.tuple(I:Inv X pins O H s)(h:SqT X.K H a xs):∃its:List Xd,Vals xs its/\IsTup s.heap a its.toArray/\xs.length<=Xp:=by
 rcases h with h|⟨o,its,n,hk,hc,hs,hz,r⟩
 .obtain⟨z,its,r,p⟩:=h.ok I.hok
  exact⟨its,r,p,z⟩
 .refine⟨its.toList,r,⟨o,I.kIn a o hk,hc,n,by simpa using hs⟩,?_⟩
  have e:=r.length;simp only[XM]at e;omega
def Inv.list_inj(I:Inv X pins O H s)(h:SqL X.K H a xs)(h':SqL X.K H a ys):xs=ys:=by
 obtain⟨its,r,⟨o,n,e,_,_,d⟩,_⟩:=I.list h;obtain⟨its',r',⟨o',n',e',_,_,d'⟩,_⟩:=I.list h';rw[e]at e';cases e';rw[d]at d';injection d' with d1 _;have:its=its':=by simpa using YW Array.toList d1
 subst this;exact r.inj r'
end
abbrev Cx.wish(X:Cx)(E:Xd->Xg->Prop):Cx:={ X with xe:=E }
abbrev Cx.nox(X:Cx):Cx:=X.wish λ_ _=>False
theorem Cx.Ok.wish{X:Cx}(ok:X.Ok)(E:Xd->Xg->Prop):(X.wish E).Ok :=
 ⟨ok.mod,ok.kind,ok.glob,ok.blt,ok.above,ok.inj,ok.has,ok.cab,ok.hd,ok.frames,ok.stk,ok.exf,ok.bs,ok.bsz,ok.noex,ok.exfs,ok.funs,ok.frf⟩
def Cx.Ok.unwish{X:Cx}{E:Xd->Xg->Prop}(ok:(X.wish E).Ok):X.Ok :=
 ⟨ok.mod,ok.kind,ok.glob,ok.blt,ok.above,ok.inj,ok.has,ok.cab,ok.hd,ok.frames,ok.stk,ok.exf,ok.bs,ok.bsz,ok.noex,ok.exfs,ok.funs,ok.frf⟩
section
variable {X:Cx}{pins:List (YG×Obj)}{O:St}{H:Hp}{s:Xg}{E:Xd->Xg->Prop}
theorem Inv.wish(I:Inv X pins O H s)(E:Xd->Xg->Prop):Inv (X.wish E) pins O H s:=⟨I.ok.wish E,I.os,I.bare,I.base,I.loc,I.cell,I.free,I.freeC,I.pin,I.hok,I.len⟩
def Inv.unwish(I:Inv (X.wish E) pins O H s):Inv X pins O H s:=⟨I.ok.unwish,I.os,I.bare,I.base,I.loc,I.cell,I.free,I.freeC,I.pin,I.hok,I.len⟩
def SP.unwish{D:Ends}{f:Flow}{s':Xg}(h:SP (X.wish E) pins D f s'):SP X pins D f s':=by
 cases f with
 | next=>obtain⟨O',H',I,q⟩:=h;exact⟨O',H',I.unwish,q⟩
 | brk=>obtain⟨O',H',I,q⟩:=h;exact⟨O',H',I.unwish,q⟩
 | cont=>obtain⟨O',H',I,q⟩:=h;exact⟨O',H',I.unwish,q⟩
 | ret u=>obtain⟨v,O',H',I,r,q⟩:=h;exact⟨v,O',H',I.unwish,r,q⟩
theorem PSs.nox{st:List YK}{t:TS}(h:PSs X.nox st t):PSs X st t:=λpins s O H D I hw=>
 QQ (h pins s O H D (I.wish _) hw) (λ_ _ q=>q.unwish) λ_ _ z=>Vq z
end
section
variable {X:Cx}{st:YK}{rest:List YK}{t u:TS}{e:YJ}{te:TE}{pos:Pos}
def Yij:TS:=λD O H=>D.nx O H
def Ypc(t u:TS):TS:=λD O H=>t { D with nx:=u D } O H
def Z77:PSs X [] Yij:=λ_ _ O H _ I h=>wpAny_execs_nil ⟨O,H,I,h⟩
def Zz8(h1:PS X st t)(h2:PSs X rest u):PSs X (st::rest) (Ypc t u):=by
 intro pins s O H D I h;refine wpAny_execs_cons (thn (h1 pins s O H { D with nx:=u D } I h) λf s1 q=>?_);cases f with
 | next=>
  obtain⟨O',H',I',q⟩:=q;exact h2 pins s1 O' H' D I' q
 | ret v=>exact q
 | brk=>exact q
 | cont=>exact q
def Z4s(h1:PS X st t):PSs X [st] t:=by
 intro pins s O H D I h;refine wpAny_execs_cons (thn (h1 pins s O H D I h) λf s1 q=>?_);cases f with
 | next=>exact wpAny_execs_nil q
 | ret v=>exact q
 | brk=>exact q
 | cont=>exact q
def Inv.quiet{pins:List (YG×Obj)}{O:St}{H:Hp}{s:Xg}(I:Inv X pins O H s):interactive X.env=YF:=by simp[interactive,I.ok.kind]
def Yji(te:TE):TS:=λD O H=>te O H λ_ H1=>D.nx O H1
def Ztz(he:PE X e te)(hs:Vv e YC pos.line X.env=pure YF:=by rfl):PS X (.Expr e pos) (Yji te):=by
 intro pins s O H D I h;refine wpAny_Expr_any (thn (he pins s O H _ I h) λv s1 qz9=>?_) I.quiet hs;obtain⟨x,H1,I1,r1,q1⟩:=qz9;exact⟨O,H1,I1,q1⟩
def Ypu(te:TE):TS:=λD O H=>te O H D.rt
def Z3b(he:PE X e te):PS X (.Return (YB e) pos) (Ypu te):=by
 intro pins s O H D I h;refine wpAny_Return_some (thn (he pins s O H _ I h) λv s1 qz9=>?_);obtain⟨x,H1,I1,r1,q1⟩:=qz9;exact⟨x,O,H1,I1,r1,q1⟩
def Yo6(c:TT)(t u:TS):TS:=λD O H=>c O H λb H1=>if b=YD then t D O H1 else u D O H1
def Yhy{c:YJ}{a b:List YK}{tc:TT}(hc:PT X c tc)(ha:PSs X a t)(hb:PSs X b u):PS X (.If c a b pos) (Yo6 tc t u):=by
 intro pins s O H D I h;refine wpAny_If (thn (hc pins s O H _ I h) λd s1 qz9=>?_);obtain⟨H1,I1,q1⟩:=qz9;cases d with
 | true=>exact ha pins s1 O H1 D I1 q1
 | false=>exact hb pins s1 O H1 D I1 q1
def Ybd:TS:=λ_ _ _=>False
def Zzi:PS X st Ybd:=λ_ _ _ _ _ _ h=>h.elim
end
abbrev TG:=V->St->Hp->(St->Hp->Prop)->Prop
abbrev TGs:=List V->St->Hp->(St->Hp->Prop)->Prop
def PG(X:Cx)(target:YJ)(t:TG):Prop :=
 ∀(pins:List (YG×Obj)) (s:Xg) (O:St) (H:Hp) (v:V) (u:Xd) (Q:St->Hp->Prop),Inv X pins O H s->RelV v u->t v O H Q ->
  Xy (X4 X.prog X.w) X.A (assign target X.env u) (λ_ s'=>∃O' H',Inv X pins O' H' s'/\Q O' H') X.xe s
def PGs(X:Cx)(ts:List YJ)(t:TGs):Prop :=
 ∀(pins:List (YG×Obj)) (s:Xg) (O:St) (H:Hp) (vs:List V) (us:List Xd) (Q:St->Hp->Prop),Inv X pins O H s->Vals vs us->t vs O H Q ->
  Xy (X4 X.prog X.w) X.A (assignInOrder ((Bm ts X.env).map (·.2)) us) (λ_ s'=>∃O' H',Inv X pins O' H' s'/\Q O' H') X.xe s
abbrev Yix:=V->V->V->Hp->(Hp->Prop)->Prop
def Ylz(X:Cx)(t:Yix):Prop :=
 ∀(pins:List (YG×Obj)) (s:Xg) (O:St) (H:Hp) (o i v:V) (ov iv u:Xd) (Q:Hp->Prop),Inv X pins O H s->RelV o ov->RelV i iv->RelV v u->t o i v H Q ->
  Xy (X4 X.prog X.w) X.A (setItem ov iv u) (λ_ s'=>∃H',Inv X pins O H' s'/\Q H') X.xe s
abbrev TIp:=V->V->Hp->VK->Prop
section
variable {X:Cx}{pos:Pos}
def Zsk(i:Nat):TG:=λv O H Q=>Q (O.set i (YB v)) H
def Z4e{i:Nat}{x:Str}(hN:X.N.Nodup)(hi:X.N[i]? =YB x)(hx:Loc X.env.scope x)(hf:X.fn x=YD\/X.env.scope.names.lookup x=YB .local:=by first|exact .inl rfl|exact .inr rfl|assumption):PG X (.Name x pos) (Zsk i):=by
 intro pins s O H v u Q I r h;exact wpAny_assign_Name (Zfg I hN hi hx r (λs' I'=>⟨_,H,I',h⟩) hf)
def Ypx:TGs:=λvs O H Q=>vs=[]/\Q O H
def Yik(t:TG)(u:TGs):TGs:=λvs O H Q=>∃v r,vs=v::r/\t v O H λO' H'=>u r O' H' Q
def Z8g:PGs X [] Ypx:=by
 intro pins s O H vs us Q I r h;obtain⟨e,h⟩:=h;subst e;cases r;exact assignInOrder_nil ⟨O,H,I,h⟩
def Z1f{e:YJ}{es:List YJ}{t:TG}{u:TGs}(h1:PG X e t)(h2:PGs X es u)
  (hs:(Bm (e::es) X.env).map (·.2)=assign e X.env::(Bm es X.env).map (·.2):=by rfl):PGs X (e::es) (Yik t u):=by
 intro pins s O H vs us Q I r h;obtain⟨v,vr,e1,h⟩:=h;subst e1;cases r with
 | cons r rr=>
  rw[hs];refine assignInOrder_cons (thn (h1 pins s O H _ _ _ I r h) λ_ s1 qz9=>?_);obtain⟨O1,H1,I1,q1⟩:=qz9;exact h2 pins s1 O1 H1 _ _ Q I1 rr q1
def Ypv(K:Xc)(n:Nat)(t:TGs):TG:=λv O H Q=>∃a xs,v= .ref a/\SqT K H a xs/\xs.length=n/\t xs O H Q
def Yc1{es:List YJ}{k:Nat}{t:TGs}{n:Nat}(hc:X.calm=YD)(h:PGs X es t)
  (hn:(Bm es X.env).length=n:=by rfl) (hst:(Bm es X.env).findIdx? (·.1)=YC:=by rfl):PG X (.Tuple es k pos) (Ypv X.K n t):=by
 intro pins s O H v u Q I r hw;obtain⟨a,xs,e1,hq,hl,hw⟩:=hw;subst e1;cases r;obtain⟨its,rv,ht,hz⟩:=I.tuple hq;refine assign_Tuple_tuple (I.ok.hd hc) ht (by simp[hn,<-hl,rv.length]) hst λh' hx=>?_;have I1:Inv X pins O H { s with heap:=h' }:=I.kept (t':=s.toks) λb o e=>hx b o (Xn (Xz e)) e;exact h pins _ O H xs _ Q I1 (by simpa using rv) hw
def Ynz(to ti:TE)(t:Yix):TG:=λv O H Q=>to O H λo H1=>ti O H1 λi H2=>t o i v H2 λH3=>Q O H3
def Yb4{o i:YJ}{to ti:TE}{t:Yix}(ho:PE X o to)(hi:PE X i ti)(hs:Ylz X t)
  (ha:∀v,assign (.Subscript o i pos) X.env v=(do
   let ov<-holding [v] (eval o X.env)
   let iv<-holding [v,ov] (eval i X.env)
   standAt pos
   holding [v,ov,iv] (setItem ov iv v)
   release [v,ov,iv] []):=by intro _;rfl):PG X (.Subscript o i pos) (Ynz to ti t):=by
 intro pins s O H v u Q I r h;rw[ha];refine Xb (BP (thn (ho pins s O H _ I h) λov s1 qz9=>?_));obtain⟨x,H1,I1,r1,q1⟩:=qz9;refine Xb (BP (thn (hi pins s1 O H1 _ I1 q1) λiv s2 qz9=>?_));obtain⟨y,H2,I2,r2,q2⟩:=qz9;refine Xb (wpAny_standAt (Xb (BP (thn (hs pins s2 O H2 x y v ov iv u _ I2 r1 r2 r q2) λ_ s3 qz9=>?_))));obtain⟨H3,I3,q3⟩:=qz9;exact wpAny_release ⟨O,H3,I3,q3⟩
def Z8v(te:TE)(g:TG):TS:=λD O H=>te O H λx H1=>g x O H1 D.nx
def Z36{tg e:YJ}{te:TE}{g:TG}(he:PE X e te)(hg:PG X tg g)(hs:swapsWithSole [tg] e pos.line X.env=pure YF:=by rfl)(hw:swappedStores [tg] e X.env=pure YC:=by rfl)
  (h1:(Bm [tg] X.env).map (·.2)=[assign tg X.env]:=by rfl):PS X (.Assign [tg] e pos) (Z8v te g):=by
 intro pins s O H D I h;refine wpAny_Assign_stores (thn (he pins s O H _ I h) λv s1 qz9=>?_) hs hw;obtain⟨x,H1,I1,r1,q1⟩:=qz9;rw[h1];exact thn (hg pins s1 O H1 x v _ I1 r1 q1) λ_ s2 q=>q
def Zwg{i:Nat}{x:Str}{e:YJ}{te:TE}{pos':Pos}(hN:X.N.Nodup)(hi:X.N[i]? =YB x)(hx:Loc X.env.scope x)(he:PE X e te)(hs:Vv e (YB (.Name x pos')) pos.line X.env=pure YF:=by rfl)(hf:X.fn x=YD\/X.env.scope.names.lookup x=YB .local:=by first|exact .inl rfl|exact .inr rfl|assumption) :
  PS X (.Assign [.Name x pos'] e pos) (Z8v te (Zsk i)):=by
 intro pins s O H D I h;refine wpAny_Assign_Name (thn (he pins s O H _ I h) λv s1 qz9=>?_) hs;obtain⟨y,H1,I1,r1,q1⟩:=qz9;exact Zfg I1 hN hi hx r1 (λs2 I2=>⟨_,H1,I2,q1⟩) hf
def Yp2(i j:Nat)(ta:TA):TS:=λD O H=>ta O H λvs H1=>∃v w,vs=[v,w]/\D.nx ((O.set i (YB v)).set j (YB w)) H1
def Z9o{i j:Nat}{x y:Str}{a b:YJ}{ta:TA}{px py pt:Pos}{kt k2 pt2}(hc:X.calm=YD)(hN:X.N.Nodup)(hi:X.N[i]? =YB x)(hj:X.N[j]? =YB y)(hij:i≠j)
  (hx:X.env.scope.names.lookup x=YB .local) (hy:X.env.scope.names.lookup y=YB .local) (ha:PA X [a,b] ta)
  (hw:swappedStores [.Tuple [.Name x px,.Name y py] kt pt] (.Tuple [a,b] k2 pt2) X.env=pure (YB [x,y]))
  (hs:swapsWithSole [.Tuple [.Name x px,.Name y py] kt pt] (.Tuple [a,b] k2 pt2) pos.line X.env=pure YF:=by rfl) :
  PS X (.Assign [.Tuple [.Name x px,.Name y py] kt pt] (.Tuple [a,b] k2 pt2) pos) (Yp2 i j ta):=by
 intro pins s O H D I h;rw[exec_Assign_arm];refine Xb (wpAny_standAt ?_);rw[hs];refine Xb (Xj ?_);rw[YQ (!1)];refine Xb (Tuple_ (thn (ha _ pins s O H _ I h) λus s1 qz9=>?_));obtain⟨vs,H1,I1,r1,q1⟩:=qz9;obtain⟨v,w,e1,q1⟩:=q1;subst e1;obtain⟨u1,u2,rfl,rv,rw'⟩:∃u1 u2,us=[u1,u2]/\RelV v u1/\RelV w u2:=by
  cases r1 with
  | cons p q=>
   cases q with
   | cons p' q'=>
    cases q';exact⟨_,_,rfl,p,p'⟩
 refine QG ?_ (by show 2<=Xp;decide);have I2:Inv X pins O H1 { s1 with heap:=s1.heap.push { cls:=.type "tuple",data:=.seq [u1,u2].toArray } }:=I1.kept (t':=s1.toks) λb o e=>Xe _ e;rw[hw];refine Xb (Xj ?_);show Xy (X4 X.prog X.w) X.A (do rule "assign.swapped-stores";let items<-unpackItems (.ref s1.heap.objs.size) 2 YC;assignInOrder [λv=>bindName X.env y v,λv=>bindName X.env x v] items.reverse;pure Flow.next) _ _ _;refine Xb (Us (Xb (unpackItems_tuple (items:=#[u1,u2]) (I.ok.hd hc) (IsTup.new s1.heap _) λh' hx'=>?_)));have I3:=I2.kept (h':=h') (t':=s1.toks) λb o e=>hx' b o (Xn (Xz e)) e;show Xy _ _ (assignInOrder [λv=>bindName X.env y v,λv=>bindName X.env x v] [u2,u1]>>= λ_=>pure Flow.next) _ _ _;refine Xb (assignInOrder_cons (wpAny_bindName (Zfg I3 hN hj (.inl hy) rw' (λs2 I4=>?_) (.inr hy))));refine assignInOrder_cons (wpAny_bindName (Zfg I4 hN hi (.inl hx) rv (λs3 I5=>assignInOrder_nil (Xj ?_)) (.inr hx)));rw[List.set_comm _ _ (BL hij)]at I5;exact⟨_,H1,I5,q1⟩
end
section
variable {X:Cx}{pos:Pos}
def Ya0(c:TT)(tb:TS):TS:=λD O H=>∃W:Nat->St->Hp->Prop,(∃m,W m O H)/\∀m O H,W m O H ->
 c O H λb H1=>if b=YD then∃N:St->Hp->Prop,(∀O' H',N O' H'->∃m',m'<m/\W m' O' H')/\tb { D with nx:=N,ct:=N,bk:=D.nx } O H1 else D.nx O H1
def Zz7{c:YJ}{body:List YK}{tc:TT}{tb:TS}(hp:PassesOwn (X4 X.prog X.w) X.A X.env X.xe)(hc:PT X c tc)(hb:PSs X body tb):PS X (.While c body [] pos) (Ya0 tc tb):=by
 intro pins s O H D I h;obtain⟨W,⟨m0,w0⟩,turn⟩:=h;refine wpAny_While (codeAny_whileLoop (λn s'=>∃O' H',Inv X pins O' H' s'/\W n O' H') ?_ m0 ⟨O,H,I,w0⟩);rintro n s1 ⟨O1,H1,I1,w1⟩;refine Ua hp (thn (hc pins s1 O1 H1 _ I1 (turn n O1 H1 w1)) λb s2 qz9=>?_);obtain⟨H2,I2,q2⟩:=qz9;cases b with
 | true=>
  obtain⟨N,hN,q2⟩:=q2;rw[YM rfl];refine Ua hp (thn (hb pins s2 O1 H2 _ I2 q2) λf s3 q3=>?_);cases f with
  | next=>
   obtain⟨O3,H3,I3,n3⟩:=q3;obtain⟨m',hm,w3⟩:=hN O3 H3 n3;exact⟨m',hm,O3,H3,I3,w3⟩
  | cont=>
   obtain⟨O3,H3,I3,n3⟩:=q3;obtain⟨m',hm,w3⟩:=hN O3 H3 n3;exact⟨m',hm,O3,H3,I3,w3⟩
  | brk=>exact q3
  | ret v=>exact q3
 | false=>
  rw[YQ XJ];exact wpAny_execs_nil ⟨O1,H2,I2,q2⟩
end
set_option genInjectivity false in
structure It where
 go:Nat->Hp->Prop
 yld:Nat->Hp->V->Hp->Prop
 stop:Nat->Hp->Prop
def Zkw(X:Cx)(pins:List (YG×Obj))(H:Hp)(b:YG):Prop :=
 H b=YC/\b≠X.env.locals/\b∉X.fs/\(b∈X.ex\/X.s₀.heap.objs.size<=b)/\(∀x c,X.env.cells.lookup x=YB c->c≠b)/\∀p∈X.pn++pins,p.1≠b
def Inv.fpOk{X:Cx}{pins:List (YG×Obj)}{O:St}{H H':Hp}{s:Xg}{b:YG}(I:Inv X pins O H s)(hb:s.heap.objs.size<=b)(hn:H' b=YC):Zkw X pins H' b:=by
 refine⟨hn,XX (X8 I.lt hb),I.nofs hb,.inr (XD I.sz hb),λx c e z=>?_,λp hp z=>?_⟩
 .obtain⟨v,q⟩:=I.cell x c e
  exact YZ (X8 q.lt (by rw[z];exact hb)) (Vf _)
 .exact YZ (X8 (Xz (I.pin p hp).1) (by rw[z];exact hb)) (Vf _)
structure Turn(P:XH)(w:Ql)(K:Xc)(tg:YJ)(J:It)(fp:List YG)(it:YG)(tn:Nat->YH->Prop):Prop where
 mem:it∈fp
 obj:∀i h,tn i h->∀b∈fp,∃o,h.get? b=YB o/\∀v,o.data≠ .cell v
 keep:∀i h h',tn i h->(∀b∈fp,∀o,h.get? b=YB o->h'.get? b=YB o)->tn i h'
 item:∀(X:Cx),X.prog=P->X.w=w->X.K=K->X.calm=YD->∀(i:Nat) (pins:List (YG×Obj)) (s:Xg) (O:St) (H:Hp) (E:Xd->Xg->Prop),Inv X pins O H s->(∀b∈fp,Zkw X pins H b)->tn i s.heap->J.go i H ->
  Xy (X4 P w) X.A (VP (.ref it)) (λr s1=>∃u,r=YB u/\
   Xy (X4 P w) X.A (letOwnedTupleGo tg (.ref it) u) (λ_ s2=>∃x H',Inv X pins O H' s2/\RelV x u/\J.yld i H x H'/\tn (i+1) s2.heap/\∀b∈fp,H' b=YC) E s1) E s
 done:∀(X:Cx),X.prog=P->X.w=w->X.K=K->X.calm=YD->∀(i:Nat) (pins:List (YG×Obj)) (s:Xg) (O:St) (H:Hp) (E:Xd->Xg->Prop),Inv X pins O H s->(∀b∈fp,Zkw X pins H b)->tn i s.heap->J.stop i H ->
  Xy (X4 P w) X.A (VP (.ref it)) (λr s1=>r=YC/\Inv X pins O H s1) E s
 self:∀(A:Qj) (i:Nat) (s:Xg) (Q:Xd->Xg->Prop) (E:Xd->Xg->Prop),tn i s.heap->Q (.ref it) s->Xy (X4 P w) A (pyIter (.ref it)) Q E s
abbrev TI:=St->Hp->(It->Hp->Prop)->Prop
def PIE(X:Cx)(pins:List (YG×Obj))(O:St)(tg:YJ)(R:It->Hp->Prop)(itv:Xd)(s2:Xg):Prop :=
 ∃(it:YG) (fp:List YG) (tn:Nat->YH->Prop) (J:It) (H':Hp),itv= .ref it/\Inv X pins O H' s2/\Turn X.prog X.w X.K tg J fp it tn/\tn 0 s2.heap/\(∀b∈fp,Zkw X pins H' b)/\R J H'
def PI(X:Cx)(tg iter:YJ)(wi:TI):Prop :=
 ∀(pins:List (YG×Obj)) (s:Xg) (O:St) (H:Hp) (R:It->Hp->Prop),Inv X pins O H s->wi O H R ->
  Xy (X4 X.prog X.w) X.A (eval iter X.env) (λv s1=>Xy (X4 X.prog X.w) X.A (pyIter v) (PIE X pins O tg R) X.xe s1) X.xe s
theorem Z02{M:Model}{A:Qj}{E:Xd->Xg->Prop}{s:Xg}{tg:YJ}{it:YG}{u:Xd}{o:Obj}{n:String}{vs:Array Xd}{Q:Unit->Xg->Prop}(ho:s.heap.get? it=YB o)(hc:o.cls= .type n)(hd:o.data= .fields vs)
  (hn:["enumerate","zip","dict_itemiterator","dict_reverseitemiterator","odict_iterator","itertools.zip_longest","itertools.pairwise"].contains n=YF) (hQ:Q () s):Xy M A (letOwnedTupleGo tg (.ref it) u) Q E s:=by
 unfold letOwnedTupleGo;cases tg<;>first
  | exact Xj hQ
  | (cases u<;>first
    | exact Xj hQ
    | (refine Xb (wpAny_load ho ?_)
       rw[hc,hd];show Xy M A (if(["enumerate","zip","dict_itemiterator","dict_reverseitemiterator","odict_iterator","itertools.zip_longest","itertools.pairwise"].contains n&&vs[0]? ==YB (JS _))=YD then _ else _) Q E s;rw[YQ (by intro h;rw[hn,Bool.false_and]at h;cases h)];exact Xj hQ))
def Itl(K:Xc)(a:YG):It :=
 ⟨λi H=>∃xs x,SqL K H a xs/\xs[i]? =YB x,λi H x H'=>H'=H/\∀xs,SqL K H a xs->xs[i]? =YB x,λi H=>∃xs,SqL K H a xs/\xs.length<=i⟩
def Itr(lo:Int)(n:Nat):It:=⟨λi _=>i<n,λi H x H'=>H'=H/\x= .int (lo+i),λi _=>n<=i⟩
def Zyn{P:XH}{w:Ql}{K:Xc}{tg:YJ}(a it:YG):Turn P w K tg (Itl K a) [it] it (λi h=>h.IsListIter it a i) where
 mem:=by simp
 obj:=λi h st b hb=>by
  have e:b=it:=by simpa using hb
  subst e;obtain⟨o,e,c,d⟩:=st;exact⟨o,e,λv z=>by rw[d]at z;cases z⟩
 keep:=λi h h' st k=>st.at λo e=>k it (!5) o e
 item:=by
  intro X hP hw hK hc i pins s O H E I hf st hg;subst hP hw hK;obtain⟨xs,x,hq,hx⟩:=hg;obtain⟨its,rv,p,hz⟩:=I.list hq;obtain⟨u,hu,ru⟩:=rv.get hx;obtain⟨f0,f1,f2,f3,f4,f5⟩:=hf it (!5);refine wpAny_pyNext_list_item st p.isList (x:=u) (by simpa using hu) λh' st' sb=>?_;have I1:Inv X pins O H { s with heap:=h' }:=I.turned (t':=s.toks) (λb o hb e=>(sb.2 b hb).trans e) f0 f1 f3 f4 f5;obtain⟨o,e,c,d⟩:=id st';exact⟨u,rfl,Z02 (s:={ s with heap:=h' }) e c d (!1) ⟨x,H,I1,ru,⟨rfl,λys hy=>by rw[I.list_inj hy hq];exact hx⟩,st',λb hb=>(hf b hb).1⟩⟩
 done:=by
  intro X hP hw hK hc i pins s O H E I hf st hg;subst hP hw hK;obtain⟨xs,hq,hx⟩:=hg;obtain⟨its,rv,p,hz⟩:=I.list hq;obtain⟨f0,f1,f2,f3,f4,f5⟩:=hf it (!5);have hl:=rv.length;exact wpAny_pyNext_list_end (I.ok.hd hc) st p.isList (by simp;omega) λh' eb=>⟨rfl,I.turned (t':=s.toks) (λb o hb e=>eb b o hb e) f0 f1 f3 f4 f5⟩
 self:=λ_ _ _ _ _ st h=>wpAny_pyIter_listiter st h
def Zsb{P:XH}{w:Ql}{K:Xc}{tg:YJ}(it:YG)(lo:Int)(n:Nat):Turn P w K tg (Itr lo n) [it] it (λi h=>IsRangeIter h it (lo+(i:Nat)*1) ((n:Int)-(i:Nat)) 1) where
 mem:=by simp
 obj:=λi h st b hb=>by
  have e:b=it:=by simpa using hb
  subst e;exact⟨_,st,λv z=>by
   have z':Data.fields _=Data.cell v:=z;cases z'⟩
 keep:=λi h h' st k=>k it (!5) _ st
 item:=by
  intro X hP hw hK hc i pins s O H E I hf st hg;subst hP hw hK;obtain⟨f0,f1,f2,f3,f4,f5⟩:=hf it (!5);have W:=Walks.range (prog:=X.prog) (w:=X.w) (I.ok.hd hc) it lo 1 n;refine W.item i s _ _ hg st λv h' tk hv st' kk=>?_;obtain⟨t,rfl⟩:=hv;have I1:Inv X pins O H { s with heap:=h',toks:=tk }:=I.turned (λb o hb e=>kk b o (by simpa using hb) e) f0 f1 f3 f4 f5;refine⟨_,rfl,Z02 (s:={ s with heap:=h',toks:=tk }) (n :="range_iterator") st' rfl rfl (!1) ⟨.int (lo+i),H,I1,⟨t,?_⟩,⟨rfl,rfl⟩,st',λb hb=>(hf b hb).1⟩⟩;rw[Int.mul_one]
 done:=by
  intro X hP hw hK hc i pins s O H E I hf st hg;subst hP hw hK;obtain⟨f0,f1,f2,f3,f4,f5⟩:=hf it (!5);exact wpAny_pyNext_range_end (I.ok.hd hc) st (by have:n<=i:=hg;omega) λh' eb=>⟨rfl,I.turned (t':=s.toks) (λb o hb e=>eb b o hb e) f0 f1 f3 f4 f5⟩
 self:=λ_ _ _ _ _ st h=>wpAny_pyIter_rangeiter st h
end L2
open PySem PySem.Spec L2
variable {a:YG}{X:Cx}{e b tg iter:YJ}{h h':YH}{H H' H1 H2:Hp}{pins:List (YG×Obj)}{ch:List YG}{es:List YJ}{body:List YK}{xs ys:List V}{us:List Xd}{M:Model}{i t' j:Nat}{o:Obj}{pos pos' px py:Pos}{A:Qj}{w:Ql}{st:YK}{x:Str}{ta tb te to tl:TE}{Y β:Type}{v y:V}{P:XH}{K:Xc}{u:Xd}{E Q:Xd->Xg->Prop}{s s':Xg}
namespace L2
open PySem PySem.Spec PyProof.Rows
def Z9h(K:Xc)(tl:TE):TI:=λO H R=>tl O H λx H1=>∃a,x= .ref a/\(∃xs,SqL K H1 a xs)/\R (Itl K a) H1
def Z38{l:YJ}(hl:PE X l tl):PI X tg l (Z9h X.K tl):=by
 intro pins s O H R I h;refine thn (hl pins s O H _ I h) λv s1 qz9=>?_;obtain⟨x,H1,I1,r1,q1⟩:=qz9;obtain⟨a,e,⟨xs,hq⟩,q⟩:=q1;subst e;cases r1;obtain⟨its,rv,p,hz⟩:=I1.list hq;refine wpAny_pyIter_list p.isList ?_;refine⟨s1.heap.objs.size,[s1.heap.objs.size],_,_,H1,rfl,I1.kept (t':=s1.toks) λb o e=>Xe _ e,Zyn a _,⟨_,Xv _ rfl,rfl,rfl⟩,λb hb=>?_,q⟩;have e:b=s1.heap.objs.size:=by simpa using hb
 subst e;exact I1.fpOk (Xx _) (I1.hok.fresh (Xx _))
def Z0l{O:St}{R:It->Hp->Prop}{lo hi:Int}{t u v:Tok}{tk:Nat}(I:Inv X pins O H s)(h1:-(2^62)<=lo)(h2:lo<2^62)(h3:-(2^62)<=hi)(h4:hi<2^62)
  (q:R (Itr lo (hi-lo).toNat) H):Xy (X4 X.prog X.w) X.A (pyIter (.ref s.heap.objs.size)) (PIE X pins O tg R) E { s with heap:=s.heap.push { cls:=.type "range",data:=.fields #[.int lo t,.int hi u,.int 1 v] },toks:=tk }:=by
 refine wpAny_pyIter_range (IsRange.new ..) (small_one h1 h2 h3 h4) ?_;have I1:Inv X pins O H { s with heap:=s.heap.push { cls:=.type "range",data:=.fields #[.int lo t,.int hi u,.int 1 v] },toks:=tk }:=I.kept λb o e=>Xe _ e;refine⟨(s.heap.push { cls:=.type "range",data:=.fields #[.int lo t,.int hi u,.int 1 v] }).objs.size,[(s.heap.push { cls:=.type "range",data:=.fields #[.int lo t,.int hi u,.int 1 v] }).objs.size],_,_,H,rfl,
  I1.kept (t':=tk) λb o e=>Xe _ e,Zsb _ lo (hi-lo).toNat,?_,λb hb=>?_,q⟩
 .have e1:lo+((0:Nat):Int)*1=lo:=by simp
  have e2:(((hi-lo).toNat:Nat):Int)-((0:Nat):Int)=Builtin.Range.rangeSize lo hi 1:=by rw[rangeSize_one];split<;>omega
  show IsRangeIter _ _ (lo+((0:Nat):Int)*1) ((((hi-lo).toNat:Nat):Int)-((0:Nat):Int)) 1;rw[e1,e2];exact Xv _ rfl
 .have e:b=(s.heap.push { cls:=.type "range",data:=.fields #[.int lo t,.int hi u,.int 1 v] }).objs.size:=by simpa using hb
  subst e;exact I1.fpOk (Xx _) (I1.hok.fresh (Xx _))
def Yka(ta:TA):TI:=λO H R=>ta O H λvs H1=>∃j:Int,vs=[.int j]/\-(2^62)<=j/\j<2^62/\R (Itr 0 j.toNat) H1
def Zup{a:YJ}{ta:TA}{p:Pos}(hg:Gl X "range")(hm:X.mg "range"=YC)(ha:PA X [a] ta)(hs:Xr [a] X.env=[(YF,eval a X.env)]:=by rfl):PI X tg (.Call (.Name "range" p) [a] [] pos) (Yka ta):=by
 intro pins s O H R I h;refine Call_ (Zjg I hg hm boot_range (VJ (thn (ha pos pins s O H _ I h) λus s1 qz9=>?_) hs rfl));obtain⟨vs,H1,I1,r1,q1⟩:=qz9;obtain⟨j,e,q1,q2,q⟩:=q1;subst e;cases r1 with
 | cons r rr=>
  cases rr;obtain⟨t,rfl⟩:=r;exact call_range_1 (Z0l I1 (!0) (!0) q1 q2 (by simpa using q))
def Yow(wi:TI)(g:TG)(tb:TS):TS:=λD O H=>wi O H λJ H1=>∃W:Nat->Nat->St->Hp->Prop,(∃m,W 0 m O H1)/\∀i m O H,W i m O H ->
 (J.stop i H/\D.nx O H)\/(J.go i H/\∃N:St->Hp->Prop,(∀O' H',N O' H'->∃m',m'<m/\W (i+1) m' O' H')/\∀x H',J.yld i H x H'->g x O H' λO2 H2=>tb { D with nx:=N,ct:=N,bk:=D.nx } O2 H2)
def Znd(fp:List YG)(h:YH):List (YG×Obj):=fp.filterMap λb=>(h.get? b).map λo=>(b,o)
theorem Zd4{fp:List YG}{b:YG}(hb:b∈fp)(e:h.get? b=YB o):(b,o)∈Znd fp h:=List.mem_filterMap.mpr ⟨b,hb,by rw[e];rfl⟩
def Zwc{fp:List YG}{p:YG×Obj}(hp:p∈Znd fp h):p.1∈fp/\h.get? p.1=YB p.2:=by
 obtain⟨b,hb,e⟩:=List.mem_filterMap.mp hp;cases q:h.get? b with
 | none=>rw[q]at e;cases e
 | some o=>
  rw[q]at e;have e':(b,o)=p:=Qo e;subst e';exact⟨hb,q⟩
theorem Inv.pinned{O:St}{fp:List YG}(I:Inv X pins O H s)(hf:∀b∈fp,Zkw X pins H b)(ho:∀b∈fp,∃o,s.heap.get? b=YB o/\∀v,o.data≠ .cell v):Inv X (pins++Znd fp s.heap) O H s :=
 I.pins_of λp hp=>(X3.mp hp).elim (λz=>I.pin p (Qi _ z)) λz=>by
  obtain⟨hb,e⟩:=Zwc z;obtain⟨f0,f1,f2,_⟩:=hf p.1 hb;obtain⟨o,e',d⟩:=ho p.1 hb;rw[e]at e';cases e';exact⟨e,f0,f1,f2,d⟩
theorem Inv.unpinned{pl:List (YG×Obj)}{O:St}(I:Inv X (pins++pl) O H s):Inv X pins O H s:=I.pins_of λp hp=>I.pin p (Qi _ (Bp _ hp))
def Ye1{wi:TI}{g:TG}{tb:TS}(hp:PassesOwn (X4 X.prog X.w) X.A X.env X.xe)(hc:X.calm=YD)(hi:PI X tg iter wi)(hg:PG X tg g)(hb:PSs X body tb)
  (hs:∀x,Vl iter X.env x=pure x:=by intro _;rfl):PS X (.For tg iter body [] pos) (Yow wi g tb):=by
 intro pins s O H D I h;refine wpAny_For (thn (hi pins s O H _ I h) λv s1 h1=>thn h1 λitv s2 h2=>?_) hs;obtain⟨it,fp,tn,J,H2,e,I2,T,st2,f2,W,⟨m0,w0⟩,turn⟩:=h2;subst e
 -- what stays YD of the iterator's objects through the loop
 have stat:∀{H':Hp},(∀b∈fp,H' b=YC)->∀b∈fp,Zkw X pins H' b:=λhn b hb=>⟨hn b hb,(f2 b hb).2⟩;refine codeAny_forLoop_any (λn s'=>∃i O' H',Inv X pins O' H' s'/\tn i s'.heap/\(∀b∈fp,H' b=YC)/\W i n O' H') ?_ m0 ⟨0,O,H2,I2,st2,λb hb=>(f2 b hb).1,w0⟩;rintro n s3 ⟨i,O3,H3,I3,st3,fr3,w3⟩;rcases turn i n O3 H3 w3 with⟨stop,qn⟩|⟨go,N,hN,step⟩
 .refine Ua hp (thn (T.done X rfl rfl rfl hc i pins s3 O3 H3 X.xe I3 (stat fr3) st3 stop) λr s4 qz9=>?_)
  obtain⟨hr,I4⟩:=qz9;subst hr;exact wpAny_execs_nil ⟨O3,H3,I4,qn⟩
 .refine Ua hp (thn (T.item X rfl rfl rfl hc i pins s3 O3 H3 X.xe I3 (stat fr3) st3 go) λr s4 qz9=>?_)
  obtain⟨u,hr,h4⟩:=qz9;subst hr;refine Ua hp (thn h4 λ_ s5 qz9=>?_);obtain⟨x,H5,I5,r5,y5,st5,fr5⟩:=qz9;have I5':=I5.pinned (stat fr5) (T.obj _ _ st5);refine Ua hp (thn (hg _ s5 O3 H5 x u _ I5' r5 (step x H5 y5)) λ_ s6 qz9=>?_);obtain⟨O6,H6,I6,q6⟩:=qz9;refine Ua hp (thn (hb _ s6 O6 H6 _ I6 q6) λf s7 q7=>?_);have again:∀{O7:St} {H7:Hp},Inv X (pins++Znd fp s5.heap) O7 H7 s7->N O7 H7->∃m,m<n/\∃i O' H',Inv X pins O' H' s7/\tn i s7.heap/\(∀b∈fp,H' b=YC)/\W i m O' H':=fun{O7 H7} I7 n7=>by
   obtain⟨m',hm,w7⟩:=hN O7 H7 n7;refine⟨m',hm,i+1,O7,H7,I7.unpinned,T.keep _ _ _ st5 λb hb o e=>(I7.pin (b,o) (Qi _ (Qi _ (Zd4 hb e)))).1,λb hb=>?_,w7⟩;obtain⟨o,e,d⟩:=T.obj _ _ st5 b hb;exact(I7.pin (b,o) (Qi _ (Qi _ (Zd4 hb e)))).2.1
  cases f with
  | next=>obtain⟨O7,H7,I7,n7⟩:=q7;exact again I7 n7
  | cont=>obtain⟨O7,H7,I7,n7⟩:=q7;exact again I7 n7
  | brk=>obtain⟨O7,H7,I7,q7⟩:=q7;exact⟨O7,H7,I7.unpinned,q7⟩
  | ret v=>obtain⟨x7,O7,H7,I7,r7,q7⟩:=q7;exact⟨x7,O7,H7,I7.unpinned,r7,q7⟩
abbrev R2:=V->V->Hp->VK->Prop
def OpR(X:Cx)(f:Xd->Xd->Sem Xd)(r:R2):Prop :=
 ∀(pins:List (YG×Obj)) (s:Xg) (O:St) (H:Hp) (x y:V) (v u:Xd) (Q:VK),Inv X pins O H s->RelV x v->RelV y u->r x y H Q ->
  Xy (X4 X.prog X.w) X.A (f v u) (EP X pins O Q) X.xe s
def UnR(X:Cx)(f:Xd->Sem Xd)(r:V->Hp->VK->Prop):Prop :=
 ∀(pins:List (YG×Obj)) (s:Xg) (O:St) (H:Hp) (x:V) (v:Xd) (Q:VK),Inv X pins O H s->RelV x v->r x H Q ->
  Xy (X4 X.prog X.w) X.A (f v) (EP X pins O Q) X.xe s
def Zbe(X:Cx)(f:Xd)(r:List V->Hp->VK->Prop):Prop :=
 ∀(pins:List (YG×Obj)) (s:Xg) (O:St) (H:Hp) (xs:List V) (us:List Xd) (Q:VK),Inv X pins O H s->Vals xs us->r xs H Q ->
  Xy (X4 X.prog X.w) X.A (call f us) (EP X pins O Q) X.xe s
def Yok(X:Cx)(r:V->Hp->(Bool->Hp->Prop)->Prop):Prop :=
 ∀(pins:List (YG×Obj)) (s:Xg) (O:St) (H:Hp) (x:V) (v:Xd) (Q:Bool->Hp->Prop),Inv X pins O H s->RelV x v->r x H Q ->
  Xy (X4 X.prog X.w) X.A (truthy v) (TP X pins O Q) X.xe s
def tOp(r:R2)(ta tb:TE):TE:=λO H Q=>ta O H λx H1=>tb O H1 λy H2=>r x y H2 Q
def tUn(r:V->Hp->VK->Prop)(ta:TE):TE:=λO H Q=>ta O H λx H1=>r x H1 Q
def rI(C:Int->Int->Prop)(g:Int->Int->V):R2:=λx y H Q=>∃i j,x= .int i/\y= .int j/\C i j/\Q (g i j) H
def rI0(g:Int->Int->V):R2:=λx y H Q=>∃i j,x= .int i/\y= .int j/\Q (g i j) H
def rU(g:Int->V):V->Hp->VK->Prop:=λx H Q=>∃i,x= .int i/\Q (g i) H
section
variable {a c:YJ}{tc:TE}
def Yi7(ha:PE X a ta)(hb:PE X b tb){O:St}{R:V->V->Hp->Prop}(I:Inv X pins O H s)
  (h:ta O H λx H1=>tb O H1 λy H2=>R x y H2)  {f:Xd->Xd->Sem Xd}
  (hf:∀v u s2 x y H2,Inv X pins O H2 s2->RelV x v->RelV y u->R x y H2->Xy (X4 X.prog X.w) X.A (f v u) Q X.xe s2) :
  Xy (X4 X.prog X.w) X.A (eval a X.env) (λv s₁=>Xy (X4 X.prog X.w) X.A (eval b X.env) (λu s₂=>Xy (X4 X.prog X.w) X.A (f v u) Q X.xe s₂) X.xe s₁) X.xe s:=by
 refine thn (ha pins s O H _ I h) λv s1 qz9=>?_;obtain⟨x,H1,I1,r1,q1⟩:=qz9;refine thn (hb pins s1 O H1 _ I1 q1) λu s2 qz9=>?_;obtain⟨y,H2,I2,r2,q2⟩:=qz9;exact hf v u s2 x y H2 I2 r1 r2 q2
def Ydk{op:Operator}{r:R2}(ho:OpR X (Ut op) r)(ha:PE X a ta)(hb:PE X b tb):PE X (.BinOp a op b pos) (tOp r ta tb):=by
 intro pins s O H Q I h;exact wpAny_BinOp (Yi7 ha hb I h λv u s2 x y H2 I2 rx ry q=>ho pins s2 O H2 x y v u Q I2 rx ry q)
def Yim{op:UnaryOp}{r:V->Hp->VK->Prop}(ho:UnR X (unaryOp op) r)(ha:PE X a ta):PE X (.UnaryOp op a pos) (tUn r ta):=by
 intro pins s O H Q I h;refine UnaryOp_ (thn (ha pins s O H _ I h) λv s1 qz9=>?_);obtain⟨x,H1,I1,r1,q1⟩:=qz9;exact ho pins s1 O H1 x v Q I1 r1 q1
def opI{f:Xd->Xd->Sem Xd}{C:Int->Int->Prop}{g:Int->Int->Int}
  (rule:∀(i j:Int) (t u:Tok) (s:Xg) (Q:Xd->Xg->Prop) (E:Xd->Xg->Prop),C i j->Q (.int (g i j) s.toks) { s with toks:=s.toks+1 }->Xy (X4 X.prog X.w) X.A (f (.int i t) (.int j u)) Q E s) :
  OpR X f (rI C λi j=>.int (g i j)):=by
 intro pins s O H x y v u Q I rx ry h;obtain⟨i,j,rfl,rfl,hc,q⟩:=h;obtain⟨t,rfl⟩:=rx;obtain⟨t',rfl⟩:=ry;exact rule i j t t' s _ _ hc ⟨.int (g i j),H,I.tok _,⟨_,rfl⟩,q⟩
def Yk6{f:Xd->Xd->Sem Xd}{g:Int->Int->Int}
  (rule:∀(i j:Int) (t u:Tok) (s:Xg) (Q:Xd->Xg->Prop) (E:Xd->Xg->Prop),Q (.int (g i j) s.toks) { s with toks:=s.toks+1 }->Xy (X4 X.prog X.w) X.A (f (.int i t) (.int j u)) Q E s) :
  OpR X f (rI0 λi j=>.int (g i j)):=by
 intro pins s O H x y v u Q I rx ry h;obtain⟨i,j,rfl,rfl,q⟩:=h;obtain⟨t,rfl⟩:=rx;obtain⟨t',rfl⟩:=ry;exact rule i j t t' s _ _ ⟨.int (g i j),H,I.tok _,⟨_,rfl⟩,q⟩
def Yf4{f:Xd->Xd->Sem Xd}{g:Int->Int->Bool}
  (rule:∀(i j:Int) (t u:Tok) (s:Xg) (Q:Xd->Xg->Prop) (E:Xd->Xg->Prop),Q (.bool (g i j)) s->Xy (X4 X.prog X.w) X.A (f (.int i t) (.int j u)) Q E s) :
  OpR X f (rI0 λi j=>.bl (g i j)):=by
 intro pins s O H x y v u Q I rx ry h;obtain⟨i,j,rfl,rfl,q⟩:=h;obtain⟨t,rfl⟩:=rx;obtain⟨t',rfl⟩:=ry;exact rule i j t t' s _ _ ⟨.bl (g i j),H,I,rfl,q⟩
def Ygb(i j:Int):Prop:=0<=j/\j<=1000000/\i.natAbs<2^64
def CMul(i j:Int):Prop:=(-(2^64)<i/\i<2^64)\/(-(2^64)<j/\j<2^64)
theorem CMul.ok{i j:Int}(h:CMul i j):IntMulOk i j:=by
 rcases h with⟨h1,h2⟩|⟨h1,h2⟩
 .exact .of_left (intBits_le_64 h1 h2)
 .exact .of_right (intBits_le_64 h1 h2)
def Z9t:OpR X (Ut .Add) (rI0 λi j=>.int (i+j)):=Yk6 λ_ _ _ _ _ _ _ q=>add_int q
def Ycc:OpR X (Ut .Sub) (rI0 λi j=>.int (i-j)):=Yk6 λ_ _ _ _ _ _ _ q=>sub_int q
def Z75:OpR X (Ut .Mod) (rI (λ_ j=>j≠0) λi j=>.int (i.fmod j)):=opI λ_ _ _ _ _ _ _ hc q=>mod_int' hc q
def Ydg:OpR X (Ut .Pow) (rI Ygb λi j=>.int (i^j.toNat)):=opI λ_ _ _ _ _ _ _ hc q=>pow_int_small hc.1 hc.2.1 hc.2.2 q
def unI{f:Xd->Sem Xd}{g:Int->Int}
  (rule:∀(i:Int) (t:Tok) (s:Xg) (Q:Xd->Xg->Prop) (E:Xd->Xg->Prop),Q (.int (g i) s.toks) { s with toks:=s.toks+1 }->Xy (X4 X.prog X.w) X.A (f (.int i t)) Q E s) :
  UnR X f (rU λi=>.int (g i)):=by
 intro pins s O H x v Q I rx h;obtain⟨i,rfl,q⟩:=h;obtain⟨t,rfl⟩:=rx;exact rule i t s _ _ ⟨.int (g i),H,I.tok _,⟨_,rfl⟩,q⟩
def Yd5:UnR X (unaryOp .USub) (rU λi=>.int (-i)):=unI λ_ _ _ _ _ q=>neg_int q
end
section
variable {a c:YJ}{tc:TE}
def Ycf{O:St}{Q:VK}{k k':Bool}(I:Inv X pins O H s)(q:Q (.bl k) H)(e:k=k'):EP X pins O Q (.bool k') s:=by
 subst e;exact⟨.bl k,H,I,rfl,q⟩
def Z6d:OpR X (JR .Lt) (rI0 λi j=>.bl (decide (i<j))):=Yf4 λ_ _ _ _ _ _ _ q=>lt_int q
def Z1z:OpR X (JR .LtE) (rI0 λi j=>.bl (decide (i<=j))):=Yf4 λ_ _ _ _ _ _ _ q=>le_int q
def Ybq:OpR X (JR .Gt) (rI0 λi j=>.bl (decide (j<i))):=Yf4 λ_ _ _ _ _ _ _ q=>gt_int q
def Z7w:OpR X (JR .GtE) (rI0 λi j=>.bl (decide (j<=i))):=Yf4 λ_ _ _ _ _ _ _ q=>ge_int q
def Zkh:OpR X (JR .Is) (λx y H Q=>y= .non/\Q (.bl (decide (x= .non))) H):=by
 intro pins s O H x y v u Q I rx ry h;obtain⟨rfl,q⟩:=h;cases ry;refine is_none_gen (Ycf I q ?_);cases x<;>first
  | (cases rx;rfl)
  | (obtain⟨t,rfl⟩:=rx;rfl)
def Wh(b:YJ){op:CmpOp}(h:op≠ .In:=by decide)(h2:op≠ .NotIn:=by decide):behindInMarks op b=YF:=by
 have e1:(op==CmpOp.In)=YF:=by cases op<;>first|rfl|exact YZ rfl h
 have e2:(op==CmpOp.NotIn)=YF:=by cases op<;>first|rfl|exact YZ rfl h2
 cases b<;>simp[behindInMarks,e1,e2]
def Z4m{op:CmpOp}{r:R2}(ho:OpR X (JR op) r)(ha:PE X a ta)(hb:PE X b tb)(hm:behindInMarks op b=YF):PE X (.Compare a [op] [b] pos) (tOp r ta tb):=by
 intro pins s O H Q I h;exact wpAny_Compare1 (Yi7 ha hb I h λv u s2 x y H2 I2 rx ry q=>ho pins s2 O H2 x y v u Q I2 rx ry q) hm
def Z7i(t:TE):TT:=λO H Q=>t O H λx H'=>∃k,x= .bl k/\Q k H'
def Z7z{op:CmpOp}{r:R2}(ho:OpR X (JR op) r)(ha:PE X a ta)(hb:PE X b tb)(hm:behindInMarks op b=YF):PT X (.Compare a [op] [b] pos) (Z7i (tOp r ta tb)):=by
 intro pins s O H Q I h;refine wpAny_isTrue_Compare1 (thn (ha pins s O H _ I h) λv s1 ⟨x,H1,I1,r1,q1⟩=>thn (hb pins s1 O H1 _ I1 q1) λu s2 ⟨y,H2,I2,r2,q2⟩=>
  thn (ho pins s2 O H2 x y v u _ I2 r1 r2 q2) λc s3 ⟨z,H3,I3,r3,k,e,q3⟩=>?_) hm
 subst e;cases r3;exact Vk ⟨H3,I3,q3⟩
def Zuf(r r':R2)(ta tb tc:TE):TE:=λO H Q=>ta O H λx H1=>tb O H1 λy H2=>r x y H2 λz H3=>∃k,z= .bl k/\
 (if k=YD then tc O H3 λw' H4=>r' y w' H4 Q else Q (.bl YF) H3)
def Z1q{op op':CmpOp}{r r':R2}(ho:OpR X (JR op) r)(ho':OpR X (JR op') r')(ha:PE X a ta)(hb:PE X b tb)(hc:PE X c tc)
  (hm:lastMarks [op,op'] [b,c]=YF:=by with_unfolding_all rfl):PE X (.Compare a [op,op'] [b,c] pos) (Zuf r r' ta tb tc):=by
 intro pins s O H Q I h;refine Compare_chain (thn (ha pins s O H _ I h) λv s1 ⟨x,H1,I1,r1,q1⟩=>chain_link (thn (hb pins s1 O H1 _ I1 q1) λu s2 ⟨y,H2,I2,r2,q2⟩=>
  thn (ho pins s2 O H2 x y v u _ I2 r1 r2 q2) λd s3 ⟨z,H3,I3,r3,k,e,q3⟩=>?_)) hm
 subst e;cases r3;refine Vk ?_;cases k with
 | false=>exact ite_ff ⟨.bl YF,H3,I3,rfl,q3⟩
 | true=>exact ite_tt (chain_last (thn (hc pins s3 O H3 _ I3 q3) λw' s4 ⟨z',H4,I4,r4,q4⟩=>ho' pins s4 O H4 y z' u w' Q I4 r2 r4 q4))
def Z0v{op op':CmpOp}{r r':R2}(ho:OpR X (JR op) r)(ho':OpR X (JR op') r')(ha:PE X a ta)(hb:PE X b tb)(hc:PE X c tc)
  (hm:lastMarks [op,op'] [b,c]=YF:=by with_unfolding_all rfl):PT X (.Compare a [op,op'] [b,c] pos) (Z7i (Zuf r r' ta tb tc)):=by
 intro pins s O H Q I h;refine isTrue_chain (thn (ha pins s O H _ I h) λv s1 ⟨x,H1,I1,r1,q1⟩=>test_link (thn (hb pins s1 O H1 _ I1 q1) λu s2 ⟨y,H2,I2,r2,q2⟩=>
  thn (ho pins s2 O H2 x y v u _ I2 r1 r2 q2) λd s3 ⟨z,H3,I3,r3,k,e,q3⟩=>?_)) hm
 subst e;cases r3;refine Vk ?_;cases k with
 | false=>
  obtain⟨k',e',q'⟩:=q3;cases e';exact ite_ff ⟨H3,I3,q'⟩
 | true=>
  refine ite_tt (test_last (thn (hc pins s3 O H3 _ I3 q3) λw' s4 qz9=>?_));obtain⟨z',H4,I4,r4,q4⟩:=qz9;refine thn (ho' pins s4 O H4 y z' u w' _ I4 r2 r4 q4) λd' s5 qz9=>?_;obtain⟨z2,H5,I5,r5,k2,e2,q5⟩:=qz9;subst e2;cases r5;exact Vk ⟨H5,I5,q5⟩
def Yin(K:Xc)(x:V)(H:Hp)(k:Bool):Prop :=
 match x with
 | .non=>k=YF
 | .bl b=>k=b
 | .int i=>k=(i !=0)
 | .str y=>y.length<=Xp/\k=((y.length:Int) !=0)
 | .byt y=>y.size<=Xp/\k=((y.size:Int) !=0)
 | .ref p=>(∃xs,SqL K H p xs/\k= !xs.isEmpty)\/(∃xs,SqT K H p xs/\k= !xs.isEmpty)\/∃kvs,H p=YB (.dK kvs)/\k= !kvs.isEmpty
 | _=>False
def Zs5{κ:Type}{kvs:List (κ×V)}{vs:List (κ×Xd)}(r:KV kvs vs):(!vs.isEmpty)= !kvs.isEmpty:=by
 cases r<;>rfl
def Zkq{its:List Xd}(r:Vals xs its):(!its.toArray.isEmpty)= !xs.isEmpty:=by
 cases r<;>simp
def Zjm:(Xp:Nat)<2^63:=by rw[Qe];decide
def Yfe:Yok X (λx H Q=>∃k,Yin X.K x H k/\Q k H):=by
 intro pins s O H x v Q I rx h;obtain⟨k,e,q⟩:=h;have hl:=Zjm;have hs:Xp=16777216:=Qe;cases x with
 | non=>
  cases rx;have e':k=YF:=e;subst e';exact truthy_none ⟨H,I,q⟩
 | bl b=>
  cases rx;have e':k=b:=e;subst e';exact Vk ⟨H,I,q⟩
 | int i=>
  obtain⟨t,rfl⟩:=rx;have e':k=(i !=0):=e;subst e';exact PySem.P.truthy_int ⟨H,I,q⟩
 | str y=>
  obtain⟨t,rfl⟩:=rx;obtain⟨hy,e'⟩:y.length<=Xp/\k=((y.length:Int) !=0):=e;subst e';exact PySem.P.truthy_str (!0) ⟨H,I.tok _,q⟩
 | byt y=>
  obtain⟨t,rfl⟩:=rx;obtain⟨hy,e'⟩:y.size<=Xp/\k=((y.size:Int) !=0):=e;subst e';exact PySem.W.truthy_bytes (!0) ⟨H,I.tok _,q⟩
 | ref p=>
  cases rx;have e':(∃xs,SqL X.K H p xs/\k= !xs.isEmpty)\/(∃xs,SqT X.K H p xs/\k= !xs.isEmpty)\/∃kvs,H p=YB (.dK kvs)/\k= !kvs.isEmpty:=e;rcases e' with⟨xs,hx,e'⟩|⟨xs,hx,e'⟩|⟨kvs,hx,e'⟩
  .subst e'
   obtain⟨its,r,pl,hz⟩:=I.list hx;have hlen:=r.length;exact wpAny_truthy_list pl.isList (by simp only[XF];omega) ⟨H,I.tok _,by rw[Zkq r];exact q⟩
  .subst e'
   obtain⟨its,r,pl,hz⟩:=I.tuple hx;have hlen:=r.length;exact truthy_tuple pl (by simp only[XF];omega) ⟨H,I.tok _,by rw[Zkq r];exact q⟩
  .subst e'
   obtain⟨hz,hS,vs,r,m⟩:kvs.length<=Xp/\(p==Vm)=YF/\∃vs,KV kvs vs/\s.heap.DictOf (J5 X.prog X.w) p vs:=I.hok p _ hx;have hlen:kvs.length=vs.length:=Paired.length r;exact wpAny_truthy_dict hS m (!0) ⟨H,I.tok _,by rw[Zs5 r];exact q⟩
 | _=>exact(show False from e).elim
def Z0a(ha:PE X a ta)(he:∀whole,isTrue a X.env whole=(do let v<-whole;standAt a.pos;holding [v] (truthy v))) :
  PT X a (λO H Q=>ta O H λx H'=>∃k,Yin X.K x H' k/\Q k H'):=by
 intro pins s O H Q I h;refine isTrue_plain (thn (ha pins s O H _ I h) λv s1 qz9=>?_) (he _);obtain⟨x,H1,I1,r1,q1⟩:=qz9;exact Yfe pins s1 O H1 x v Q I1 r1 q1
def Zu:OpR X (Ut .Add) (λx y H Q=>∃i j,x= .str i/\y= .str j/\i.length+j.length<=Xp/\Q (.str (i++j)) H):=by
 intro pins s O H x y v u Q I rx ry h;obtain⟨i,j,rfl,rfl,hz,q⟩:=h;obtain⟨t,rfl⟩:=rx;obtain⟨t',rfl⟩:=ry;exact add_str (λt' tk=>⟨.str (i++j),H,I.tok _,⟨_,rfl⟩,q⟩) hz
def vals1{x:V}(r:Vals [x] us):∃u,us=[u]/\RelV x u:=by
 cases r with
 | cons r1 r2=>cases r2;exact⟨_,rfl,r1⟩
def vals2{x:V}(r:Vals [x,y] us):∃u w',us=[u,w']/\RelV x u/\RelV y w':=by
 cases r with
 | cons r1 r2=>
  cases r2 with
  | cons r3 r4=>cases r4;exact⟨_,_,rfl,r1,r3⟩
def Zk5:Zbe X (.builtin "abs") (λxs H Q=>∃i,xs=[.int i]/\Q (.int (if i<0 then -i else i)) H):=by
 intro pins s O H xs us Q I r h;obtain⟨i,rfl,q⟩:=h;obtain⟨u,rfl,t,rfl⟩:=vals1 r;exact call_abs_int λu tk=>⟨.int (if i<0 then -i else i),H,I.tok _,⟨_,rfl⟩,q⟩
def Wm:Zbe X (.type "str") (λxs H Q=>∃i,xs=[.int i]/\i.natAbs.log2<1920/\Q (.str (toString i)) H):=by
 intro pins s O H xs us Q I r h;obtain⟨i,rfl,hz,q⟩:=h;obtain⟨u,rfl,t,rfl⟩:=vals1 r;exact PySem.P.str_of_int hz ⟨.str _,H,I.tok _,⟨_,rfl⟩,q⟩
end
structure ObjM(h:YH)(x dx C:YG)(mA:Str->Option Xd):Prop where
 obj:h.get? x=YB (PySem.W.instObj C dx)
 ns:h.Ns1 dx mA
 ne:dx≠x
def Zwr{dx:YG}{mA:Str->Option Xd}(n:h.Ns1 dx mA):∃od,h.get? dx=YB od/\∀name,PySem.W.lookIn name od=YB (mA name):=by
 obtain⟨o,es,ep,ho,hd,hk,_,hm⟩:=n;refine⟨o,ho,λname=>?_⟩;have e:=hm name;unfold nsFind findBy at e;rw[<-Array.find?_toList]at e;unfold PySem.W.lookIn;rw[hd];dsimp only;split
 .rename_i y q
  rw[q]at e;exact YW YB e
 .rename_i q
  rw[q]at e;have a:es.toList.any (·.refKey)=YF:=by
   rw[List.any_eq_false];intro y hy;obtain⟨z,t,hkey⟩:=hk y (Array.mem_toList_iff.mp hy);simp[DictEntry.refKey,hkey]
  have a':¬es.toList.any (·.refKey)=YD:=by rw[a];exact XJ
  rw[YQ a'];exact YW YB e
def ObjM.look{x dx C:YG}{mA:Str->Option Xd}(I:ObjM h x dx C mA):∃od,PySem.W.InstAt h x (PySem.W.instObj C dx) C (YB od)/\∀name,PySem.W.lookIn name od=YB (mA name) :=
 let⟨od,ho,hl⟩:=Zwr I.ns
 ⟨od,⟨I.obj,rfl,rfl,ho⟩,hl⟩
section
variable {prog:XH}{x dx C f:YG}{mA:Str->Option Xd}{name:Str}{v:Xd}
end
def RelO.some_of{o:Option Xd}(r:RelO (YB v) o):∃u,o=YB u/\RelV v u:=by
 cases o with
 | none=>exact(show False from r).elim
 | some u=>exact⟨u,rfl,r⟩
section
variable {C dx:YG}{fs fs':List (Str×V)}
def Z7v(hok:HOk P w H h)(e:H a=YB (.ins C dx fs)):∃mA,ObjM h a dx C mA/\(∀f,RelO (fs.lookup f) (mA f))/\PySem.Within mA (fs.map (·.1))/\fs.length<=1000/\H dx=YB (.own a):=by
 obtain⟨d,z,ne,ob,mA,n,r,q⟩:=(show ObjOk P w H h a (.ins C dx fs)from hok a _ e);exact⟨mA,⟨ob,n,ne⟩,r,q,z,d⟩
end
structure Cls(K:Xc)(C:YG):Prop where
 pg:PySem.W.plainGet K C Str.empty=YD
 hd:PySem.W.hasDictIn K C=YD
 po:PySem.W.plainOver K C=YD
 sa:VB K (.ref C) "__setattr__"=YB (YB (.builtin "object.__setattr__"))
theorem Cls.get{C:YG}(c:Cls K C)(f:Str):PySem.W.plainGet K C f=YD:=c.pg
structure Con(K:Xc)(C:YG)(f:Str)(v:V)(u:Xd):Prop where
 at_:VB K (.ref C) f=YB (YB u)
 rel:RelV v u
 get:PySem.W.specialIn K u "__get__"=YB YC
 cp:PySem.W.copiedNames.contains f=YF
structure Meth(K:Xc)(C:YG)(m:Str)(f:YG):Prop where
 at_:VB K (.ref C) m=YB (YB (.ref f))
 fn:PySem.W.isFn K (.ref f)=YD
 kp:Vz K (.ref f)=YD
section
variable {O:St}{C dx:YG}{fs:List (Str×V)}{f:Str}
end
section
variable {o value:YJ}{f:Str}{tpos:Pos}{tv:TE}
end
section
variable {O:St}{c:Xd}{b:Bool}
inductive Ztj(K:Xc)(H:Hp):V->Xd->Prop where
 | non:Ztj K H .non (.type "NoneType")
 | bl (x:Bool):Ztj K H (.bl x) (.type "bool")
 | int (i:Int):Ztj K H (.int i) (.type "int")
 | str (x:Str):Ztj K H (.str x) (.type "str")
 | flt (x:UInt64):Ztj K H (.flt x) (.type "float")
 | lst {a:YG} {xs:List V} (e:H a=YB (.lst xs)):Ztj K H (.ref a) (.type "list")
 | frz {a:YG} {o:Obj} {xs:List V} (e:H a=YB (.frz o (.lst xs))):Ztj K H (.ref a) (.type "list")
 | tup {a:YG} {xs:List V} (e:H a=YB (.tup xs)):Ztj K H (.ref a) (.type "tuple")
 | dK {a:YG} {kvs:List (Key×V)} (e:H a=YB (.dK kvs)):Ztj K H (.ref a) (.type "dict")
 | dT {a:YG} {kvs:List (List Key×V)} (e:H a=YB (.dT kvs)):Ztj K H (.ref a) (.type "dict")
 | ins {a C dx:YG} {fs:List (Str×V)} (e:H a=YB (.ins C dx fs)) (cl:Cls K C) (ha:VB K (.ref C) "__class__"=YB (YB (.builtin "object.__class__")))
   (hn:PySem.W.specialIn K (.builtin "object.__class__") "__get__"=YB (YB (.builtin "getset_descriptor.__get__"))) (htk:PySem.W.takesIn K (.builtin "object.__class__")=YB YD)
   (hm:PySem.W.mroIn K C (.type "object")=YB YD):Ztj K H (.ref a) (.ref C)
def Zbv{x:V}{t:Xd}(I:Inv X pins O H s)(rx:RelV x u)(ty:Ztj X.K H x t)(e:QB X.K t c=YB b)(h:∀tk,Q (.bool b) { s with toks:=tk }) :
  Xy (X4 X.prog X.w) A (call (.builtin "isinstance") [u,c]) Q E s:=by
 cases ty with
 | non=>cases(show u=QF from rx);exact QZ PySem.W.kitx_none I.kIn Ug e (!12) h
 | bl y=>cases(show u=Value.bool y from rx);exact QZ PySem.W.kitx_bool I.kIn Ug e (!12) h
 | int i=>obtain⟨t,q⟩:=(show∃t,u=Uj i t from rx);cases q;exact QZ PySem.W.kitx_int I.kIn Ug e (!12) h
 | str y=>obtain⟨t,q⟩:=(show∃t,u=Value.str y t from rx);cases q;exact QZ PySem.W.kitx_str I.kIn Ug e (!12) h
 | flt y=>obtain⟨t,q⟩:=(show∃t,u=Xd.float y t from rx);cases q;exact QZ PySem.W.kitx_float I.kIn Ug e (!12) h
 | @lst a xs ea=>
  cases(show u=X7 a from rx);obtain⟨_,_,n,_,h1⟩:=(show ObjOk X.prog X.w H s.heap a (.lst xs)from I.hok a _ ea);exact QZ PySem.W.kitx_list I.kIn ⟨_,h1,rfl⟩ e (!12) h
 | @frz a ob xs ea=>
  cases(show u=X7 a from rx);obtain⟨_,_,_,n,_,h1⟩:=(show ObjOk X.prog X.w H s.heap a (.frz ob (.lst xs))from I.hok a _ ea);exact QZ PySem.W.kitx_list I.kIn ⟨_,h1,rfl⟩ e (!12) h
 | @tup a xs ea=>
  cases(show u=X7 a from rx);obtain⟨_,_,_,p⟩:=(show ObjOk X.prog X.w H s.heap a (.tup xs)from I.hok a _ ea);obtain⟨o,h1,h2,_⟩:=p;exact QZ PySem.W.kitx_tuple I.kIn ⟨o,h1,h2⟩ e (!12) h
 | @dK a kvs ea=>
  cases(show u=X7 a from rx);obtain⟨_,_,vs,_,p⟩:=(show ObjOk X.prog X.w H s.heap a (.dK kvs)from I.hok a _ ea);obtain⟨o,es,ep,h1,h2,_⟩:=p;exact QZ PySem.W.kitx_dict I.kIn ⟨o,h1,h2.1⟩ e (!12) h
 | @dT a kvs ea=>
  cases(show u=X7 a from rx);obtain⟨_,_,xs,_,o,es,ep,h1,h2,_⟩:=(show ObjOk X.prog X.w H s.heap a (.dT kvs)from I.hok a _ ea);exact QZ PySem.W.kitx_dict I.kIn ⟨o,h1,h2.1⟩ e (!12) h
 | @ins a C dx fs ea cl ha hn htk hm=>
  cases(show u=X7 a from rx);obtain⟨mA,Oa,_⟩:=Z7v I.hok ea;obtain⟨od,J,_⟩:=Oa.look;exact QZ (PySem.W.kitx_own (cl.get _) cl.hd ha hn htk hm) I.kIn J e (!12) h
end
structure Room(k:Nat)(A:Qj):Prop where
 hd:A.handled=YC
 dp:A.depth+3*k+5<recursionLimit
 un:A.units+16*k+200<cLine
def Room.mono{k:Nat}(r:Room k A)(h:j<=k):Room j A:=⟨r.hd,by have:=r.dp;omega,by have:=r.un;omega⟩
theorem Room.deeper{k:Nat}(r:Room (k+1) A)(env:Env):Room k (A.deeper env) :=
 ⟨r.hd,by have:=r.dp;show A.depth+1+3*k+5<_;omega,by have:=r.un;show A.units+3+16*k+200<_;omega⟩
def Room.depth{k:Nat}(r:Room k A):A.depth<recursionLimit:=by have:=r.dp;omega
theorem Room.units{k:Nat}(r:Room k A):A.units+64<cLine:=by have:=r.un;omega
def Ypo:TA:=λ_ H Q=>Q [] H
def Yj6(ta:TE)(tr:TA):TA:=λO H Q=>ta O H λx H1=>tr O H1 λxs H2=>Q (x::xs) H2
section
variable {t:TA}
def Zi9:PA X [] Ypo:=λ_ _ _ _ H Q I h=>Calls.spliced_nil ⟨[],H,I,.nil,h⟩
theorem Wr(ha:PE X e te)(hr:PA X es t)(hs:Xr (e::es) X.env=(YF,eval e X.env)::Xr es X.env:=by rfl):PA X (e::es) (Yj6 te t):=by
 intro pos pins s O H Q I h;rw[hs];show Xy _ _ (spliced ((YF,eval e X.env)::Ba pos (Xr es X.env))) _ _ s;refine Calls.spliced_cons (thn (ha pins s O H _ I h) λu s1 qz9=>?_);obtain⟨x,H1,I1,r1,q1⟩:=qz9;refine thn (hr pos pins s1 O H1 _ I1 q1) λus s2 qz9=>?_;obtain⟨xs,H2,I2,r2,q2⟩:=qz9;exact⟨x::xs,H2,I2,.cons r1 r2,q2⟩
def Ypl(t:TA):TE:=λO H Q=>t O H λxs H1=>xs.length<=Xp/\∀p,H1 p=YC->Q (.ref p) (upd H1 p (.tup xs))
def Yot(t:TA):TE:=λO H Q=>t O H λxs H1=>xs.length<=Xp/\∀p,H1 p=YC->Q (.ref p) (upd H1 p (.lst xs))
def Zxc{x1}(h:PA X es t):PE X (.Tuple es x1 pos) (Ypl t):=by
 intro pins s O H Q I hq;refine wpAny_Tuple_spliced (thn (h pos pins s O H _ I hq) λus s1 ⟨xs,H1,I1,r,z,q⟩=>⟨by rw[<-r.length];exact z,?_⟩);have hf:H1 s1.heap.objs.size=YC:=I1.hok.fresh (Xx _);refine⟨.ref s1.heap.objs.size,upd H1 s1.heap.objs.size (.tup xs),I1.laid (t':=s1.toks) (λb u e=>Xe _ e) (Xx _) ?_,rfl,q _ hf⟩;exact⟨z,us,r,⟨_,Xv _ rfl,rfl,_,rfl⟩⟩
def Yfh(h:PA X es t):PE X (.List es pos) (Yot t):=by
 intro pins s O H Q I hq;refine wpAny_List_spliced (thn (h pos pins s O H _ I hq) λus s1 ⟨xs,H1,I1,r,z,q⟩=>⟨by rw[<-r.length];exact z,?_⟩);have hf:H1 s1.heap.objs.size=YC:=I1.hok.fresh (Xx _);refine⟨.ref s1.heap.objs.size,upd H1 s1.heap.objs.size (.lst xs),I1.laid (t':=s1.toks) (λb u e=>Xe _ e) (Xx _) ?_,rfl,q _ hf⟩;exact⟨z,us,0,r,Xv _ rfl⟩
end
abbrev Sp:=List V->Hp->VK->XK->Prop
abbrev CXT:=List Env->Hp->Xg->XK->Xd->Xg->Prop
structure Ygn(P:XH)(w:Ql)(K:Xc)(mg:Str->Option Xd)(base:YH)(A:Qj)(outer:List Env)(s:Xg)(H:Hp):Prop where
 frames:A.frames=YB outer
 mod:Mod K mg base
 bs:∀b o,base.get? b=YB o->s.heap.get? b=YB o/\H b=YC
 bsz:base.objs.size<=s.heap.objs.size
 funs:s.heap.FunFrames base outer
 frf:∀b∈frs outer,H b=YC
 hok:HOk P w H s.heap
 bare:AllBare s.gens
def CE(outer:List Env)(P:XH)(w:Ql)(H:Hp)(s:Xg)(Q:VK)(u:Xd)(s':Xg):Prop :=
 ∃v H',s'.os=s.os/\AllBare s'.gens/\Un (frs outer) [] H H' s.heap s'.heap/\HOk P w H' s'.heap/\RelV v u/\Q v H'
def CR(CX:CXT)(outer:List Env)(P:XH)(w:Ql)(H:Hp)(s:Xg)(Q:VK)(E:XK)(r:Result)(s':Xg):Prop :=
 match r with
 | .ok (.ret u)=>CE outer P w H s Q u s'
 | .ok _=>False
 | .error e=>CX outer H s E e s'
structure FnOk(P:XH)(w:Ql)(K:Xc)(mg:Str->Option Xd)(base:YH)(CX:CXT)(k:Nat)(f:YG)(fd:X5)(ps:List Str)(sp:Sp):Prop where
 len:∀vs H Q E,sp vs H Q E->vs.length=ps.length
 run:∀(A:Qj) (outer:List Env) (s:Xg) (H:Hp) (args:Args) (us:List Xd) (vs:List V) (Q:VK) (E:XK),Room k A->Ygn P w K mg base A outer s H->BindsTo s fd args (ps.zip us)->Vals vs us->sp vs H Q E ->
  codeAny (X4 P w) A (.call (.ref f) args) (CR CX outer P w H s Q E) s
def FnOk.mono{mg:Str->Option Xd}{base:YH}{CX:CXT}{k:Nat}{f:YG}{fd:X5}{ps:List Str}{sp:Sp}(F:FnOk P w K mg base CX j f fd ps sp)(h:j<=k) :
  FnOk P w K mg base CX k f fd ps sp:=⟨F.len,λA outer s H args us vs Q E hr=>F.run A outer s H args us vs Q E (hr.mono h)⟩
theorem FnOk.imp{mg:Str->Option Xd}{base:YH}{CX:CXT}{k:Nat}{f:YG}{fd:X5}{ps:List Str}{sp sp':Sp}(F:FnOk P w K mg base CX k f fd ps sp)
  (h:∀vs H Q E,sp' vs H Q E->sp vs H Q E):FnOk P w K mg base CX k f fd ps sp' :=
 ⟨λvs H Q E q=>F.len vs H Q E (h _ _ _ _ q),λA outer s H args us vs Q E hr he hb hv hs=>F.run A outer s H args us vs Q E hr he hb hv (h _ _ _ _ hs)⟩
section
variable {O:St}
def Inv.env0(I:Inv X pins O H s):Ygn X.prog X.w X.K X.mg X.base X.A X.stack s H :=
 ⟨I.ok.frames,I.ok.mod,I.bs,XD I.ok.bsz I.sz,I.stack,I.stkFree,I.hok,I.bare⟩
def Inv.after{Q:VK}(I:Inv X pins O H s)(h:CE X.stack X.prog X.w H s Q u s'):EP X pins O Q u s':=by
 obtain⟨v,H',os,bare,un,hok,r,q⟩:=h;obtain⟨hh,g,d,t,os'⟩:=s';obtain rfl:os'=s.os:=os;exact⟨v,H',I.call (h':=hh) (g':=g) (d':=d) (t':=t) (ch:=[]) un hok bare (λb z=>YZ z (!5)),r,q⟩
end
def Ydt(sp:Sp)(dvs:List V)(E:XK)(t:TA):TE:=λO H Q=>t O H λvs H1=>sp (vs++dvs) H1 Q E
def Binds(K:Xc)(fd:X5)(ps:List Str)(ds:List Xd):Prop :=
 ∀(s:Xg) (us:List Xd),K.In s.heap->(us++ds).length=ps.length->BindsTo s fd ⟨us,[]⟩ (ps.zip (us++ds))
def Binds.all{fd:X5}{ps:List Str}(h:∀us:List Xd,us.length=ps.length->bindArgs fd ⟨us,[]⟩=pure (ps.zip us)):Binds K fd ps []:=λs us _ hl=>by
 rw[JG]at hl|-
 exact .of_eq (h us hl)
def Zrb(CX:CXT)(X:Cx)(E:XK):Prop:=∀(pins:List (YG×Obj)) (O:St) (H:Hp) (s:Xg) (e:Xd) (s':Xg),Inv X pins O H s->CX X.stack H s E e s'->X.xe e s'
section
variable {CX:CXT}{k:Nat}{f C:YG}{fd:X5}{ps:List Str}{sp:Sp}{dvs:List V}{ds:List Xd}{E:XK}{m:Str}{p apos:Pos}{o:YJ}{t:TA}
def Yb3{O:St}{Q:VK}{vs:List V}(F:FnOk X.prog X.w X.K X.mg X.base CX k f fd ps sp)(hr:Room k X.A)(hb:Binds X.K fd ps ds)(hd:Vals dvs ds)(hx:Zrb CX X E)
  (I:Inv X pins O H s) (r:Vals vs us) (h:sp (vs++dvs) H Q E):Xy (X4 X.prog X.w) X.A (call (.ref f) us) (EP X pins O Q) X.xe s:=by
 have r2:Vals (vs++dvs) (us++ds):=r.append hd;have hl:(us++ds).length=ps.length:=by rw[<-r2.length];exact F.len _ _ _ _ h
 refine wpAny_call (codeAny_mono (F.run X.A X.stack s H ⟨us,[]⟩ (us++ds) (vs++dvs) Q E hr I.env0 (hb s us I.kIn hl) r2 h) λr s' hq=>?_);cases r with
 | error e=>exact hx pins O H s e s' I hq
 | ok fl=>
  cases fl with
  | ret u=>exact I.after hq
  | next=>exact Vq hq
  | brk=>exact Vq hq
  | cont=>exact Vq hq
def Z6l(F:FnOk X.prog X.w X.K X.mg X.base CX k f fd ps sp)(hr:Room k X.A)(hg:Gl X x)(hm:X.mg x=YB (.ref f))(hk:Vz X.K (.ref f)=YD)(hb:Binds X.K fd ps ds)(hd:Vals dvs ds)(hx:Zrb CX X E)
  (ha:PA X (e::es) t) (hdb:(x==(!10))=YF:=by decide) (he:Xr (e::es) X.env=(YF,eval e X.env)::Xr es X.env:=by rfl) (hpl:(Ba pos (Xr es X.env)).any (·.1)=YF:=by rfl) :
  PE X (.Call (.Name x p) (e::es) [] pos) (Ydt sp dvs E t):=by
 intro pins s O H Q I h;refine Vx (Zir I hg hm ?_ hdb);refine PySem.W.callWith_K (h₀:=X.base) I.ok.mod.kin hk (thn (ha pos pins s O H _ I h) λus s1 qz9=>?_) he hpl;obtain⟨vs,H1,I1,r,q⟩:=qz9;refine⟨I1.kIn,?_⟩;exact Yb3 F hr hb hd hx I1 r q
structure Mk(K:Xc)(C f:YG):Prop where
 makes:PySem.W.makesIn K C=YD
 init:VB K (.ref C) "__init__"=YB (YB (.ref f))
 fn:PySem.W.isFn K (.ref f)=YD
 kp:Vz K (.ref C)=YD
end
section
variable {CX:CXT}{k:Nat}{f C:YG}{fd:X5}{ps ks:List Str}{sp:Sp}{E:XK}{m:Str}{p apos kpos:Pos}{o:YJ}{kws:List Keyword}{t tk:TA}{nm:Option Str}
structure Ykw(K:Xc)(fd:X5)(ps ks:List Str)(g:List Xd->List Xd->List Xd)(gV:List V->List V->List V):Prop where
 to:∀(s:Xg) (us ws:List Xd),K.In s.heap->(g us ws).length=ps.length->BindsTo s fd ⟨us,ks.zip ws⟩ (ps.zip (g us ws))
 rel:∀{vs:List V} {us:List Xd} {zs:List V} {ws:List Xd},Vals vs us->Vals zs ws->Vals (gV vs zs) (g us ws)
variable {g:List Xd->List Xd->List Xd}{gV:List V->List V->List V}
end
structure Z1(N P:List Str)(sc:YL):Prop where
 kind:sc.kind= .function
 co:sc.isCoroutine=YF
 gen:sc.isGenerator=YF
 nd:N.Nodup
 pre:N.take P.length=P
 par:∀x∈P,sc.names.lookup x=YB .local\/sc.names.lookup x=YB .cell
 nofree:∀y∈sc.names,y.2≠ .free
theorem Zm7{kindOf:Str->Option Vj}:∀{binds:List (Str×Xd)} {m:Str->Option Xd},(∀v,(x,v)∉binds)->bindL kindOf binds m x=m x
 | [],_,_=>rfl
 | (n,v)::r,m,h=>by
  unfold bindL;rw[Zm7 λw hw=>h w (List.mem_cons_of_mem _ hw)];split
  .have:x≠n:=by rintro rfl;exact h v List.mem_cons_self
   simp[this]
  .rfl
theorem Zol{kindOf:Str->Option Vj}:∀{binds:List (Str×Xd)} {m:Str->Option Xd},(∀v,(x,v)∉binds)->bindC kindOf binds m x=m x
 | [],_,_=>rfl
 | (n,v)::r,m,h=>by
  unfold bindC;rw[Zol λw hw=>h w (List.mem_cons_of_mem _ hw)];split
  .rfl
  .have:x≠n:=by rintro rfl;exact h v List.mem_cons_self
   simp[this]
theorem Zms{kindOf:Str->Option Vj}{v:Xd}:∀{P:List Str} {vs:List Xd} {i:Nat} {m:Str->Option Xd},P.Nodup->P[i]? =YB x->vs[i]? =YB v->kindOf x=YB .local ->
  bindL kindOf (P.zip vs) m x=YB v
 | [],_,_,_,_,h,_,_=>by simp at h
 | _::_,[],_,_,_,_,h,_=>by simp at h
 | p::P,w::vs,0,m,nd,h1,h2,hk=>by
  simp at h1 h2;subst h1;subst h2;show bindL kindOf ((p,w)::P.zip vs) m p=_;unfold bindL;rw[Zm7 λv hv=>(JF.mp nd).1 (List.of_mem_zip hv).1,YM hk];simp
 | p::P,w::vs,i+1,m,nd,h1,h2,hk=>by
  show bindL kindOf ((p,w)::P.zip vs) m x=_;unfold bindL;exact Zms (i:=i) (JF.mp nd).2 (by simpa using h1) (by simpa using h2) hk
theorem Zn3{kindOf:Str->Option Vj}{v:Xd}:∀{P:List Str} {vs:List Xd} {i:Nat} {m:Str->Option Xd},P.Nodup->P[i]? =YB x->vs[i]? =YB v->kindOf x≠YB .local ->
  bindC kindOf (P.zip vs) m x=YB v
 | [],_,_,_,_,h,_,_=>by simp at h
 | _::_,[],_,_,_,_,h,_=>by simp at h
 | p::P,w::vs,0,m,nd,h1,h2,hk=>by
  simp at h1 h2;subst h1;subst h2;show bindC kindOf ((p,w)::P.zip vs) m p=_;unfold bindC;rw[Zol λv hv=>(JF.mp nd).1 (List.of_mem_zip hv).1,YQ hk];simp
 | p::P,w::vs,i+1,m,nd,h1,h2,hk=>by
  show bindC kindOf ((p,w)::P.zip vs) m x=_;unfold bindC;exact Zn3 (i:=i) (JF.mp nd).2 (by simpa using h1) (by simpa using h2) hk
def start(N:List Str)(vs:List V):St:=vs.map YB++By (N.length-vs.length) YC
def Zty(CX:CXT)(P:XH)(w:Ql)(K:Xc)(mg:Str->Option Xd)(base:YH)(N:List Str)(qual:Str)(scope:YL)(f:YG)(cd:Xd)(A:Qj)(outer:List Env)(s:Xg)(H:Hp)(E:XK):Cx where
 prog:=P
 w:=w
 K:=K
 mg:=mg
 base:=base
 A:=A.deeper (envOfC qual scope s.heap.objs.size f cd)
 N:=N
 s₀:=s
 H₀:=H
 env:=envOfC qual scope s.heap.objs.size f cd
 outer:=outer
 stack:=envOfC qual scope s.heap.objs.size f cd::outer
 ex:=[]
 calm:=YD
 fn:=λ_=>YD
 pn:=[]
 xe:=λe s'=>Xy (X4 P w) (A.deeper (envOfC qual scope s.heap.objs.size f cd)) (leaving (envOfC qual scope s.heap.objs.size f cd) e) (λ_ s''=>CX outer H s E e s'') (λe' s''=>CX outer H s E e' s'') s'
def Zq2{sc:YL}{n:Nat}(h:sc.names.lookup x=YB .cell):∃c,(BV n sc.names []).lookup x=YB c:=by
 have q:=PySem.W.cellsFrom_some sc.names n [] (.inl h);exact Option.isSome_iff_exists.mp q
def Zwq{CX:CXT}{mg:Str->Option Xd}{base:YH}{N ps:List Str}{qual:Str}{scope:YL}{f:YG}{cd:Xd}{outer:List Env}{s1:Xg}{E:XK}{vs:List V}
  (S:Z1 N ps scope) (hd:A.handled=YC) (e0:Ygn P w K mg base A outer s H) (hl:vs.length=ps.length) (r:Vals vs us)
  (x:InCallC s s.heap.objs.size (bindL (envOfC qual scope s.heap.objs.size f cd).kindOf (ps.zip us) λ_=>YC) (BV (s.heap.objs.size+1) scope.names []) (bindC (envOfC qual scope s.heap.objs.size f cd).kindOf (ps.zip us) λ_=>YC) s1) :
  Inv (Zty CX P w K mg base N qual scope f cd A outer s H E) [] (start N vs) H s1:=by
 have hpl:ps.length<=N.length:=by have:=YW Ui S.pre;rw[Bq]at this;omega
 obtain⟨h1,tk,rfl,hk⟩:=x.done;have noA:∀b:YG,b∉(Zty CX P w K mg base N qual scope f cd A outer s H E).ex:=λb z=>YZ (show b∈([]:List YG)from z) (!5);refine⟨⟨e0.mod,S.kind,rfl,rfl,Xx _,λy z c h1 h2=>?_,λy hy=>?_,λy c _ h=>?_,λ_=>hd,Qj.frames_deeper e0.frames,.inr ⟨rfl,rfl⟩,λb z=>YZ z (noA b),e0.bs,e0.bsz,λb _ _=>noA b,λb z=>YZ z (noA b),e0.funs,e0.frf⟩,
  rfl,e0.bare,Un.kept hk,⟨_,x.toInCall.ns,λi y v h1 h2 h3=>?_⟩,λy c h=>⟨_,x.cell y c h⟩,e0.hok.fresh (Xx _),λy c h=>?_,λp hp=>YZ (show p∈([]:List (YG×Obj))from hp) (!5),e0.hok.kept hk,?_⟩
 .exact name_of_addr x.apart (Bx h1) (Bx h2)
 .have hy:scope.names.lookup y=YB .cell\/scope.names.lookup y=YB .free:=hy
  rcases hy with hy|hy
  .exact Zq2 hy
  .exact YZ rfl (S.nofree _ (Bx hy))
 .exact U6 (x.above y c (Bx h))
 .have hi:i<vs.length:=by
   unfold start at h2
   by_cases hi:i<vs.length
   .exact hi
   .rw[JZ (by simpa using hi)]at h2
    rw[List.getElem?_replicate]at h2;split at h2<;>cases h2
  have ha:vs[i]? =YB v:=by
   unfold start at h2;rw[Qt (by simpa using hi),Xq]at h2;cases e:vs[i]? with
   | none=>rw[e]at h2;cases h2
   | some a=>rw[e]at h2;cases h2;rfl
  obtain⟨u,hu,rv⟩:=r.get ha;have hp:ps[i]? =YB y:=by
   rw[<-S.pre,List.getElem?_take_of_lt (!0)];exact h1
  have ndP:ps.Nodup:=by rw[<-S.pre];exact S.nd.sublist (List.take_sublist _ _)
  refine⟨u,rv,?_⟩;rcases S.par y (Qq hp)with k|k
  .exact .inl ⟨k,Zms ndP hp hu k⟩
  .obtain⟨c,e⟩:=Zq2 (n:=s.heap.objs.size+1) k
   refine .inr ⟨.inl k,c,e,?_⟩;have q:=x.cell y c e;rw[Zn3 ndP hp hu (by show scope.names.lookup y≠_;rw[k];decide)]at q;exact q
 .exact e0.hok.fresh (U6 (x.above y c (Bx h)))
 .unfold start
  show _=N.length;rw[Xw,Xf,List.length_replicate];omega
theorem Ya1{CX:CXT}{mg:Str->Option Xd}{base:YH}{k:Nat}{f:YG}{name qual:Str}{params:Arguments}{scope:YL}{dV kV doc pm cdv ct oc:Xd}{an od:Option YG}
  {osl:Array (Option Xd)} {N ps:List Str} {sp:Sp} (lk:K.lookup f=YB ⟨oc,od,.func (Ub name qual params body scope dV kV doc pm an cdv ct),osl⟩) (hcd:PySem.W.codeIn K cdv qual=YD) (S:Z1 N ps scope)
  (len:∀vs H Q E,sp vs H Q E->vs.length=ps.length)
  (hbody:∀(A:Qj) (outer:List Env) (s:Xg) (H:Hp) (vs:List V) (Q:VK) (E:XK),Room k (A.deeper (envOfC qual scope s.heap.objs.size f cdv))->sp vs H Q E ->
   ∃t,PSs (Zty CX P w K mg base N qual scope f cdv A outer s H E) body t/\t { nx:=λ_ H'=>Q .non H',rt:=Q } (start N vs) H) :
  FnOk P w K mg base CX (k+1) f (Ub name qual params body scope dV kV doc pm an cdv ct) ps sp:=by
 refine⟨len,λA outer s H args us vs Q E hr e0 hb r hsp=>?_⟩;have hl:=len _ _ _ _ hsp;have KX:K.In s.heap:=e0.mod.kin.keeps λb o e=>(e0.bs b o e).1;have lim:s.heap.NoLimit:=e0.mod.nolimit.keeps λb o e=>(e0.bs b o e).1;have hkind:∀y∈ps.zip us,scope.names.lookup y.1=YB .local\/(scope.names.lookup y.1=YB .cell/\((BV (s.heap.objs.size+1) scope.names []).lookup y.1).isSome=YD):=λ⟨n,v⟩ hy=>by
  rcases S.par n (List.of_mem_zip hy).1 with q|q
  .exact .inl q
  .exact .inr ⟨q,PySem.W.cellsFrom_some _ _ _ (.inl q)⟩
 refine codeAny_call_function hr.depth (KX _ _ lk) rfl S.co S.gen rfl (PySem.W.codeRec_of KX hcd) (hb _ _ _ _ ?_);refine wpAny_newFunctionEnv_cells S.kind hkind λenv he s1 x=>?_;subst he;refine⟨lim.keeps x.toInCall.keep,codeAny_func ?_⟩;obtain⟨t,ht,hq⟩:=hbody A outer s H vs Q E (hr.deeper _) hsp;have I:Inv (Zty CX P w K mg base N qual scope f cdv A outer s H E) [] (start N vs) H s1:=Zwq S hr.hd e0 hl r x;refine QQ (ht [] s1 (start N vs) H _ I hq) (λfl s' hs=>?_) λe s' hs=>hs;have fin:∀{O':St} {H':Hp} {v:V} {u:Xd},Inv (Zty CX P w K mg base N qual scope f cdv A outer s H E) [] O' H' s'->RelV v u->Q v H'->CE outer P w H s Q u s' :=
  fun{O' H' v u} J rv q=>⟨v,H',J.os,J.bare,J.base,J.hok,rv,q⟩
 cases fl with
 | ret u=>
  obtain⟨v,O',H',J,rv,q⟩:=hs;exact fin J rv q
 | next=>
  obtain⟨O',H',J,q⟩:=hs;exact fin (v:=V.non) (u:=QF) J rfl q
 | brk=>
  obtain⟨_,_,_,q⟩:=hs;exact Vq q
 | cont=>
  obtain⟨_,_,_,q⟩:=hs;exact Vq q
section
variable {p:Pos}{t:TA}{id T:String}{r:List V->Hp->VK->Prop}
def tCB(r:List V->Hp->VK->Prop)(t:TA):TE:=λO H Q=>t O H λvs H1=>r vs H1 Q
def Zd6(hc:Zbe X (.builtin id) r)(hg:Gl X x)(hm:X.mg x=YC)(hv:Qd x=YB (.builtin id))(ha:PA X (e::es) t)(hn:x≠"__name__" :=by decide)(hdb:(x==(!10))=YF:=by decide)
  (he:Xr (e::es) X.env=(YF,eval e X.env)::Xr es X.env:=by rfl) (hpl:(Ba pos (Xr es X.env)).any (·.1)=YF:=by rfl):PE X (.Call (.Name x p) (e::es) [] pos) (tCB r t):=by
 intro pins s O H Q I h;refine Vx (Zjg I hg hm hv ?_ hn hdb);refine PyProof.Rows.callWith_builtin1 (thn (ha pos pins s O H _ I h) λus s1 qz9=>?_) he hpl;obtain⟨vs,H1,I1,r1,q1⟩:=qz9;exact hc pins s1 O H1 vs us Q I1 r1 q1
def Zn2(hc:Zbe X (.type T) r)(hg:Gl X x)(hm:X.mg x=YC)(hv:Qd x=YB (.type T))(ha:PA X (e::es) t)(hn:x≠"__name__" :=by decide)(hdb:(x==(!10))=YF:=by decide)
  (he:Xr (e::es) X.env=(YF,eval e X.env)::Xr es X.env:=by rfl) (hpl:(Ba pos (Xr es X.env)).any (·.1)=YF:=by rfl):PE X (.Call (.Name x p) (e::es) [] pos) (tCB r t):=by
 intro pins s O H Q I h;refine Vx (Zjg I hg hm hv ?_ hn hdb);refine VJ (thn (ha pos pins s O H _ I h) λus s1 qz9=>?_) he hpl;obtain⟨vs,H1,I1,r1,q1⟩:=qz9;exact hc pins s1 O H1 vs us Q I1 r1 q1
end
end L2
namespace HT
open PySem PyProof.Rows
section
open PySem.SeqAt
open PySem.AutoSeq1 (wpAny_loadPart')
open PySem.MeetsSeq PySem.MeetsSeq2 PySem.MeetsSeq3
end
section
variable {prog:XH}
def sIx(n d:Nat):Option Int->Nat
 | none=>d
 | some v=>if v<0 then(v+(n:Int)).toNat else min v.toNat n
def sIx_nat(n d k:Nat):sIx n d (YB (k:Int))=min k n:=by
 show(if(k:Int)<0 then((k:Int)+(n:Int)).toNat else min (k:Int).toNat n)=min k n;rw[YQ (!0),QR]
end
end HT
namespace L2
open PySem PySem.Spec PyProof.Rows
abbrev TO:=St->Hp->(Option Int->Hp->Prop)->Prop
def PO(X:Cx)(e:Option YJ)(t:TO):Prop :=
 ∀(pins:List (YG×Obj)) (s:Xg) (O:St) (H:Hp) (Q:Option Int->Hp->Prop),Inv X pins O H s->t O H Q ->
  Xy (X4 X.prog X.w) X.A (evalPart e X.env) (λu s'=>∃o H',Inv X pins O H' s'/\IsPart u o/\Q o H') X.xe s
def Z4d:TO:=λ_ H Q=>Q YC H
def Yha(t:TE):TO:=λO H Q=>t O H λx H1=>∃i,x= .int i/\Q (YB i) H1
section
variable {lo hi:Option YJ}{tl th:TO}{p2:Pos}
def Z4g:PO X YC Z4d:=by
 intro pins s O H Q I h;rw[evalPart_none];exact Xj ⟨YC,H,I,.none,h⟩
def Z7n(h:PE X e te):PO X (YB e) (Yha te):=by
 intro pins s O H Q I hw;rw[evalPart_some];refine thn (h pins s O H _ I hw) λu s1 qz9=>?_;obtain⟨x,H1,I1,r1,q1⟩:=qz9;obtain⟨i,rfl,q⟩:=q1;obtain⟨t,rfl⟩:=r1;exact⟨YB i,H1,I1,.int i t,q⟩
def SlR(X:Cx)(r:V->Option Int->Option Int->Hp->VK->Prop):Prop :=
 ∀(pins:List (YG×Obj)) (s:Xg) (O:St) (H:Hp) (x:V) (v vl vu:Xd) (lo hi:Option Int) (sl:YG) (Q:VK),Inv X pins O H s->RelV x v->s.heap.IsSliceOf sl vl vu .none->IsPart vl lo->IsPart vu hi->r x lo hi H Q ->
  ∃T id,typeLookup (.type T) "__getitem__"=pure (YB (.builtin id))/\s.TypeIs v T/\Xy (X4 X.prog X.w) X.A (getItem v (.ref sl)) (EP X pins O Q) X.xe s
def tSl(r:V->Option Int->Option Int->Hp->VK->Prop)(te:TE)(tl th:TO):TE:=λO H Q=>te O H λx H1=>tl O H1 λl H2=>th O H2 λu H3=>r x l u H3 Q
def Zq6{r:V->Option Int->Option Int->Hp->VK->Prop}(hr:SlR X r)(he:PE X e te)(hl:PO X lo tl)(hu:PO X hi th):PE X (.Subscript e (.Slice lo hi YC p2) pos) (tSl r te tl th):=by
 intro pins s O H Q I h;refine Subscript_ (thn (he pins s O H _ I h) λv s1 qz9=>?_);obtain⟨x,H1,I1,r1,q1⟩:=qz9;refine wpAny_Slice (thn (hl pins s1 O H1 _ I1 q1) λvl s2 qz9=>?_);obtain⟨l,H2,I2,pl,q2⟩:=qz9;refine thn (hu pins s2 O H2 _ I2 q2) λvu s3 qz9=>?_;obtain⟨u,H3,I3,pu,q3⟩:=qz9;rw[evalPart_none];refine Xj ?_;have I4:Inv X pins O H3 { s3 with heap:=s3.heap.push { cls:=.type "slice",data:=.fields #[vl,vu,.none] } }:=I3.kept (t':=s3.toks) λb ob q=>Xe _ q;obtain⟨T,id,hT,ht,hg⟩:=hr pins { s3 with heap:=s3.heap.push { cls:=.type "slice",data:=.fields #[vl,vu,.none] } } O H3 x v vl vu l u s3.heap.objs.size Q I4 r1 (Heap.IsSliceOf.new ..) pl pu q3;show Xy (X4 X.prog X.w) X.A (subscriptTail e (.Slice lo hi YC p2) v (.ref s3.heap.objs.size)) (EP X pins O Q) X.xe { s3 with heap:=s3.heap.push { cls:=.type "slice",data:=.fields #[vl,vu,.none] } };exact tail_any (ops:=[.ref s3.heap.objs.size,v]) ht hT hg (by with_unfolding_all rfl)
def Z8y(xs:List V)(lo hi:Option Int):List V:=(xs.drop (HT.sIx xs.length 0 lo)).take (HT.sIx xs.length xs.length hi-HT.sIx xs.length 0 lo)
def Zo4(xs:List V)(lo hi:Option Int):(Z8y xs lo hi).length<=xs.length:=by
 unfold Z8y;rw[Bq,JK];omega
end
def ixN(n:Nat)(i:Int):Option Nat:=if 0<=i then(if i<n then YB i.toNat else YC)else if -(n:Int)<=i then YB (i+n).toNat else YC
def atI(xs:List Y)(i:Int):Option Y:=(ixN xs.length i).bind λj=>xs[j]?
def Zyu{n:Nat}{i:Int}(h:ixN n i=YB j):seqIndex? i n=YB j/\j<n/\-(n:Int)<=i/\i<n:=by
 unfold ixN at h
 by_cases h0:0<=i
 .rw[YM h0]at h
  by_cases h1:i<n
  .rw[YM h1]at h
   have e:i.toNat=j:=Qo h;exact⟨by rw[seqIndex_of h0 h1,e],by omega,by omega,h1⟩
  .rw[YQ h1]at h;cases h
 .rw[YQ h0]at h
  by_cases h1:-(n:Int)<=i
  .rw[YM h1]at h
   have e:(i+n).toNat=j:=Qo h;exact⟨by rw[seqIndex_neg (!0) h1,e],by omega,h1,by omega⟩
  .rw[YQ h1]at h;cases h
def Zpv{xs:List Y}{i:Int}{v:Y}(h:atI xs i=YB v):∃j,seqIndex? i xs.length=YB j/\xs[j]? =YB v/\j<xs.length/\-(xs.length:Int)<=i/\i<xs.length:=by
 unfold atI at h;cases e:ixN xs.length i with
 | none=>rw[e]at h;cases h
 | some j=>
  rw[e]at h;obtain⟨h1,h2,h3,h4⟩:=Zyu e;exact⟨j,h1,h,h2,h3,h4⟩
def Zqv(xs:List Y)(v:Y):atI (xs++[v]) (-1)=YB v:=by
 have hl:(xs++[v]).length=xs.length+1:=by simp
 have e:ixN (xs++[v]).length (-1)=YB xs.length:=by
  unfold ixN;rw[hl,YQ (!1),YM (!0)];congr 1;omega
 unfold atI;rw[e];show(xs++[v])[xs.length]? =YB v;simp
def Zph(b:YJ):Prop:=∀o i,subscripted b YF o i=operate [o,i] (getItem o i)
def IxR(X:Cx)(r:R2):Prop :=
 ∀(value slice:YJ) (pins:List (YG×Obj)) (s:Xg) (O:St) (H:Hp) (x y:V) (v u:Xd) (Q:VK),Inv X pins O H s->RelV x v->RelV y u->r x y H Q ->
  subscripted slice YF v u=operate [v,u] (getItem v u)->Xy (X4 X.prog X.w) X.A (subscriptTail value slice v u) (EP X pins O Q) X.xe s
def MtR(X:Cx)(id:String)(r:V->List V->Hp->VK->Prop):Prop :=
 ∀(pins:List (YG×Obj)) (s:Xg) (O:St) (H:Hp) (x:V) (xs:List V) (v:Xd) (us:List Xd) (Q:VK),Inv X pins O H s->RelV x v->Vals xs us->r x xs H Q ->
  Xy (X4 X.prog X.w) X.A (call (.builtin id) (v::us)) (EP X pins O Q) X.xe s
section
variable {a:YJ}
def IxR.or{r r':R2}(h:IxR X r)(h':IxR X r'):IxR X (λx y H Q=>r x y H Q\/r' x y H Q):=by
 intro value slice pins s O H x y v u Q I rx ry q hs;rcases q with q|q
 .exact h value slice pins s O H x y v u Q I rx ry q hs
 .exact h' value slice pins s O H x y v u Q I rx ry q hs
def Yjn{r:R2}(hr:IxR X r)(ha:PE X a ta)(hb:PE X b tb)(hs:Zph b):PE X (.Subscript a b pos) (tOp r ta tb):=by
 intro pins s O H Q I h;exact Subscript_ (Yi7 ha hb I h λv u s2 x y H2 I2 rx ry q=>hr a b pins s2 O H2 x y v u Q I2 rx ry q (hs _ _))
def Ylx(K:Xc):R2:=λx y H Q=>∃p xs i v,x= .ref p/\y= .int i/\SqL K H p xs/\atI xs i=YB v/\Q v H
def Ylw(K:Xc):R2:=λx y H Q=>∃p xs i v,x= .ref p/\y= .int i/\SqT K H p xs/\atI xs i=YB v/\Q v H
def Yne:R2:=λx y H Q=>∃z i c,x= .str z/\y= .int i/\z.length<=Xp/\atI z.cps.toList i=YB c/\Q (.str ⟨#[c]⟩) H
def Z5o:IxR X (Ylx X.K):=by
 intro value slice pins s O H x y v u Q I rx ry h hs;obtain⟨p,xs,i,z,rfl,rfl,hq,he,q⟩:=h;cases rx;obtain⟨t,rfl⟩:=ry;obtain⟨its,r,pl,hz⟩:=I.list hq;obtain⟨j,h1,h2,h3,h4,h5⟩:=Zpv he;obtain⟨w,ew,rw'⟩:=r.get h2;have hl:=r.length;have hn:=Zjm;have fin:EP X pins O Q w s:=⟨z,H,I,rw',q⟩
 by_cases h0:0<=i
 .have hj:i.toNat=j:=by
   rw[seqIndex_of h0 h5]at h1;exact Qo h1
  exact item_listR pl.isList h0 (!0) (by rw[hj];simpa using ew) fin hs
 .have hj:(i+(its.toArray.size:Int)).toNat=j:=by
   rw[seqIndex_neg (!0) h4]at h1;rw[XF,<-hl];exact Qo h1
  exact subscriptTail_builtinR (x:=w) pl.isList.typeIs slot_list_getitem.lookup
   (wpAny_getItem_list_neg (Q:=λr s'=>r=w/\EP X pins O Q r s') pl.isList (!0) (by rw[XF]<;>omega) (!0) (by rw[hj];simpa using ew) ⟨rfl,fin⟩) hs
def Z9d:IxR X (Ylw X.K):=by
 intro value slice pins s O H x y v u Q I rx ry h hs;obtain⟨p,xs,i,z,rfl,rfl,hq,he,q⟩:=h;cases rx;obtain⟨t,rfl⟩:=ry;obtain⟨its,r,pl,hz⟩:=I.tuple hq;obtain⟨j,h1,h2,h3,h4,h5⟩:=Zpv he;obtain⟨w,ew,rw'⟩:=r.get h2;have hl:=r.length;have hn:=Zjm;have fin:EP X pins O Q w s:=⟨z,H,I,rw',q⟩;exact subscriptTail_builtinR (x:=w) pl.typeIs slot_tuple_getitem.lookup
  (getItem_tuple (j:=j) (Q:=λr s'=>r=w/\EP X pins O Q r s') pl (!0) (!0) (by rw[XF,<-hl];exact h1) (by simpa using ew) ⟨rfl,fin⟩) hs
def Ydx:IxR X Yne:=by
 intro value slice pins s O H x y v u Q I rx ry h hs;obtain⟨z,i,c,rfl,rfl,hz,he,q⟩:=h;obtain⟨t,rfl⟩:=rx;obtain⟨t',rfl⟩:=ry;obtain⟨j,h1,h2,h3,h4,h5⟩:=Zpv he;have hl:z.cps.toList.length=z.length:=by simp[Str.length]
 rw[hl]at h1 h4 h5;have hn:=Zjm;exact tail_any (typeIs_str s z t) slot_str_getitem.lookup (getItem_str (c:=c) (by
  have e1:decide (i< -(2^63:Int))=YF:=YT (!0);have e2:decide (i>=2^63)=YF:=YT (!0);rw[e1,e2,Bool.or_false]) (by rw[h1];simpa using h2) ⟨.str ⟨#[c]⟩,H,I.tok _,⟨_,rfl⟩,q⟩) hs
def rIx(K:Xc):R2:=λx y H Q=>Ylx K x y H Q\/Ylw K x y H Q\/Yne x y H Q
def Yah:IxR X (rIx X.K):=Z5o.or (Z9d.or Ydx)
def Zs0(its:List Xd)(n j:Nat)(u:Xd):BJ (·.setIfInBounds j u) { cls:=.type "list",data:=.seq its.toArray n }={ cls:=.type "list",data:=.seq (its.set j u).toArray n }:=by
 simp[BJ]
theorem Inv.lst{O:St}{p:YG}(I:Inv X pins O H s)(h:H p=YB (.lst xs)) :
  ∃(its:List Xd) (n:Nat),Vals xs its/\s.heap.get? p=YB { cls:=.type "list",data:=.seq its.toArray n }/\xs.length<=Xp:=by
 obtain⟨z,its,n,r,e⟩:=I.hok p _ h;exact⟨its,n,r,e,z⟩
def Inv.lstUpd{O:St}{p:YG}{its its':List Xd}{n n':Nat}{f:Obj->Obj}(I:Inv X pins O H s)(h:H p=YB (.lst xs))
  (ho:s.heap.get? p=YB { cls:=.type "list",data:=.seq its.toArray n }) (hf:f { cls:=.type "list",data:=.seq its.toArray n }={ cls:=.type "list",data:=.seq its'.toArray n' }) (r:Vals ys its') (hz:ys.length<=Xp) (t:Nat) :
  Inv X pins O (upd H p (.lst ys)) { s with heap:=s.heap.update p f,toks:=t }:=by
 have e:(s.heap.update p f).get? p=YB { cls:=.type "list",data:=.seq its'.toArray n' }:=by
  rw[Heap.get?_update_self f ho (by rw[hf]<;>rfl),hf]
 refine I.write (x:=p) (e:=p) (by rw[h];trivial) (.inl rfl) (λb u hb q=>(Heap.get?_update_other _ _ (BL hb)).trans q) ⟨_,e⟩ ?_;exact⟨hz,its',n',r,e⟩
def Ye6:V->V->V->Hp->(Hp->Prop)->Prop:=λo i v H Q=>∃p xs k j,o= .ref p/\i= .int k/\H p=YB (.lst xs)/\ixN xs.length k=YB j/\Q (upd H p (.lst (xs.set j v)))
def set_list:Ylz X Ye6:=by
 intro pins s O H o i v ov iv u Q I ro ri rv h;obtain⟨p,xs,k,j,rfl,rfl,hp,hj,q⟩:=h;cases ro;obtain⟨t,rfl⟩:=ri;obtain⟨its,n,r,ho,hz⟩:=I.lst hp;obtain⟨h1,h2,h3,h4⟩:=Zyu hj;have hl:=r.length;have hn:=Zjm;have I':Inv X pins O (upd H p (.lst (xs.set j v))) { s with heap:=s.heap.update p (BJ (·.setIfInBounds j u)) } :=
  I.lstUpd hp ho (Zs0 its n j u) (r.set rv j) (by rw[Bb];exact hz) s.toks
 by_cases h0:0<=k
 .have hk:k.toNat=j:=by
   rw[seqIndex_of h0 h4]at h1;exact Qo h1
  exact PySem.W.ki_setAt ho h0 (!0) (by rw[XF,<-hl];exact h4) (by rw[hk];exact⟨_,I',q⟩)
 .have hk:(k+(its.toArray.size:Int)).toNat=j:=by
   rw[seqIndex_neg (!0) h3]at h1;rw[XF,<-hl];exact Qo h1
  exact PySem.W.ki_setBack ho (!0) (by rw[XF,<-hl];exact h3) (!0) (by rw[hk];exact⟨_,I',q⟩)
def Zm4(lo hi:Option Int)(n:Nat):(BZ lo hi YC n).1=((HT.sIx n 0 lo:Nat):Int)/\(BZ lo hi YC n).2.1=((HT.sIx n n hi:Nat):Int)/\(BZ lo hi YC n).2.2=1:=by
 refine⟨?_,?_,rfl⟩
 .cases lo with
  | none=>simp[BZ,HT.sIx]
  | some i=>
   simp only[BZ,HT.sIx,Option.getD_none,show(1:Int)>0 by decide,if_true]
   by_cases h:i<0
   .simp only[h,if_true]<;>omega
   .simp only[h,if_false]<;>omega
 .cases hi with
  | none=>simp[BZ,HT.sIx]
  | some i=>
   simp only[BZ,HT.sIx,Option.getD_none,show(1:Int)>0 by decide,if_true]
   by_cases h:i<0
   .simp only[h,if_true]<;>omega
   .simp only[h,if_false]<;>omega
def Zla(its:List Xd)(lo hi:Option Int):slicePick its.toArray lo hi YC=((its.drop (HT.sIx its.length 0 lo)).take (HT.sIx its.length its.length hi-HT.sIx its.length 0 lo)).toArray:=by
 obtain⟨h1,h2,h3⟩:=Zm4 lo hi its.toArray.size;unfold slicePick;rw[h1,h2,h3];simp only[sliceRange_one,pick_run,XF]<;>rfl
def Ym7(K:Xc):V->Option Int->Option Int->Hp->VK->Prop:=λx lo hi H Q=>∃a xs,x= .ref a/\SqL K H a xs/\∀p,H p=YC->Q (.ref p) (upd H p (.lst (Z8y xs lo hi)))
def Z6o:SlR X (Ym7 X.K):=by
 intro pins s O H x v vl vu lo hi sl Q I rx hs pl pu h;obtain⟨a,xs,rfl,hx,q⟩:=h;cases rx;obtain⟨its,r,ht,hz⟩:=I.list hx;have hlen:=r.length;refine⟨"list",_,slot_list_getitem.lookup,ht.isList.typeIs,?_⟩;refine wpAny_getItem_list_slice ht.isList hs pl pu .none (!5) ?_ (by rw[XF]<;>omega);rw[Zla,<-hlen];refine⟨.ref s.heap.objs.size,_,I.laid (t':=s.toks) (o:=.lst (Z8y xs lo hi)) (λb ob q=>Xe _ q) (Xx _) ?_,rfl,q _ (I.hok.fresh (Xx _))⟩;exact⟨XD (Zo4 xs lo hi) hz,_,0,(r.drop (HT.sIx xs.length 0 lo)).take (HT.sIx xs.length xs.length hi-HT.sIx xs.length 0 lo),Xv _ rfl⟩
def Zng:OpR X (JR .NotIn) (λx y H Q=>∃i j,x= .str i/\y= .str j/\Q (.bl (!(!(Q8 j i 0 j.length 1).isEmpty))) H):=by
 intro pins s O H x y v u Q I rx ry h;obtain⟨i,j,rfl,rfl,q⟩:=h;obtain⟨t,rfl⟩:=rx;obtain⟨t',rfl⟩:=ry;exact notIn_str ⟨.bl _,H,I,rfl,q⟩
def Znm:Zbe X (.builtin "len") (λxs H Q=>∃p ys,xs=[.ref p]/\(SqL X.K H p ys\/SqT X.K H p ys)/\Q (.int ys.length) H):=by
 intro pins s O H xs us Q I r h;obtain⟨p,ys,rfl,hq,q⟩:=h;obtain⟨u,rfl,rx⟩:=vals1 r;cases rx;have hn:=Zjm;rcases hq with hq|hq
 .obtain⟨its,r',pl,hz⟩:=I.list hq
  have hlen:=r'.length;exact Calls.call_len_list pl.isList (by simp only[XF]<;>omega) ⟨.int ys.length,H,I.tok _,⟨s.toks+1,by rw[XF,hlen]⟩,q⟩
 .obtain⟨its,r',pl,hz⟩:=I.tuple hq
  have hlen:=r'.length;exact len_tuple pl (by simp only[XF]<;>omega) ⟨.int ys.length,H,I.tok _,⟨s.toks+1,by rw[XF,hlen]⟩,q⟩
def Zb7:Zbe X (.builtin "len") (λxs H Q=>∃z,xs=[.str z]/\z.length<=Xp/\Q (.int z.length) H):=by
 intro pins s O H xs us Q I r h;obtain⟨z,rfl,hz,q⟩:=h;obtain⟨u,rfl,t,rfl⟩:=vals1 r;have hn:=Zjm;exact len_str (!0) ⟨.int z.length,H,I.tok _,⟨_,rfl⟩,q⟩
def Zny:Zbe X (.type "list") (λxs H Q=>∃p ys,xs=[.ref p]/\(SqL X.K H p ys\/SqT X.K H p ys)/\∀l,H l=YC->Q (.ref l) (upd H l (.lst ys))):=by
 intro pins s O H xs us Q I r h;obtain⟨p,ys,rfl,hq,q⟩:=h;obtain⟨u,rfl,rx⟩:=vals1 r;cases rx;have fin:∀(its:List Xd),Vals ys its->ys.length<=Xp->∀(h':YH) (c':Nat),(∀b o',s.heap.get? b=YB o'->h'.get? b=YB o') ->
   h'.get? s.heap.objs.size=YB { cls:=.type "list",dict:=YC,data:=.seq its.toArray c',slots:=#[] }->EP X pins O Q (.ref s.heap.objs.size) { s with heap:=h' }:=λits r' hz h' c' kp e=>
  ⟨.ref s.heap.objs.size,_,I.laid (t':=s.toks) kp (Xx _) (show ObjOk X.prog X.w _ h' _ (.lst ys)from⟨hz,its,c',r',e⟩),rfl,q _ (I.hok.fresh (Xx _))⟩
 rcases hq with hq|hq
 .obtain⟨its,r',pl,hz⟩:=I.list hq
  have hlen:=r'.length;obtain⟨o,ho,hc,n,hd⟩:=pl.isList;exact call_list_seq p (.inl rfl) ho hc hd (λh' c' kp e=>fin its r' hz h' c' kp e) (by simp only[XF]<;>omega)
 .obtain⟨its,r',pl,hz⟩:=I.tuple hq
  have hlen:=r'.length;obtain⟨o,ho,hc,n,hd⟩:=pl;exact call_list_seq p (.inr rfl) ho hc hd (λh' c' kp e=>fin its r' hz h' c' kp e) (by simp only[XF]<;>omega)
def Zk3:Zbe X (.type "tuple") (λxs H Q=>∃p ys,xs=[.ref p]/\((SqL X.K H p ys/\∀l,H l=YC->Q (.ref l) (upd H l (.tup ys)))\/(SqT X.K H p ys/\Q (.ref p) H))):=by
 intro pins s O H xs us Q I r h;obtain⟨p,ys,rfl,h⟩:=h;obtain⟨u,rfl,rx⟩:=vals1 r;cases rx;rcases h with⟨hq,q⟩|⟨hq,q⟩
 .obtain⟨its,r',pl,hz⟩:=I.list hq
  have hlen:=r'.length;refine call_tuple_list pl.isList (λh' kp=>?_) (by simp only[XF]<;>omega);have I1:Inv X pins O H { s with heap:=h' }:=I.kept (t':=s.toks) kp;have I2:Inv X pins O (upd H h'.objs.size (.tup ys)) { s with heap:=h'.push { cls:=.type "tuple",data:=.seq its.toArray } } :=
   I1.laid (t':=s.toks) (λb o e=>Xe _ e) (Xx _) (show ObjOk X.prog X.w _ _ _ (.tup ys)from⟨hz,its,r',IsTup.new _ _⟩)
  exact⟨.ref h'.objs.size,_,I2,rfl,q _ (I1.hok.fresh (Xx _))⟩
 .obtain⟨its,r',pl,hz⟩:=I.tuple hq
  exact call_tuple_same pl ⟨.ref p,H,I,rfl,q⟩
def tyV(K:Xc)(T:String)(x:V)(H:Hp):Prop:=match x with
 | .str _=>T="str"
 | .int _=>T="int"
 | .ref p=>(T="list"/\∃xs,SqL K H p xs)\/(T="tuple"/\∃o,K.lookup p=YB o/\o.cls= .type "tuple"/\o.dict=YC)\/
   (T="dict"/\((∃kvs,H p=YB (.dK kvs))\/∃kvs,H p=YB (.dT kvs)))\/(T="set"/\∃S n,H p=YB (.set S n))
 | _=>False
def Yb1{O:St}{T:String}{x:V}{v:Xd}(I:Inv X pins O H s)(r:RelV x v)(ty:tyV X.K T x H) :
  s.TypeIs v T/\∀a,v= .ref a->∃ob,s.heap.get? a=YB ob/\ob.dict=YC:=by
 cases x with
 | str z=>
  obtain⟨t,rfl⟩:=r;cases(show T="str"from ty);exact⟨typeIs_str s z t,λ_ e=>nomatch e⟩
 | int i=>
  obtain⟨t,rfl⟩:=r;cases(show T="int"from ty);exact⟨typeIs_int s i t,λ_ e=>nomatch e⟩
 | ref p=>
  cases r;rcases ty with⟨rfl,xs,hq⟩|⟨rfl,o,hk,hc,hd⟩|⟨rfl,hk⟩|⟨rfl,S,n,hk⟩
  .obtain⟨its,_,pl,_⟩:=I.list hq
   refine⟨pl.isList.typeIs,λa e=>?_⟩;cases e;obtain⟨o,n,e,c,hd,_⟩:=pl;exact⟨o,e,hd⟩
  .refine⟨⟨o,I.kIn p o hk,hc⟩,λa e=>?_⟩
   cases e;exact⟨o,I.kIn _ o hk,hd⟩
  .have z:∃o,s.heap.get? p=YB o/\o.ExactDict:=by
    rcases hk with⟨kvs,hk⟩|⟨kvs,hk⟩
    .obtain⟨_,_,_,_,o,_,_,e,ex,_⟩:=I.hok p _ hk
     exact⟨o,e,ex⟩
    .obtain⟨_,_,_,_,o,_,_,e,ex,_⟩:=I.hok p _ hk
     exact⟨o,e,ex⟩
   obtain⟨o,e,ex⟩:=z;refine⟨⟨o,e,ex.1⟩,λa e2=>?_⟩;cases e2;exact⟨o,e,ex.2.1⟩
  .obtain⟨o,_,_,_,e,ex,_⟩:=I.hok p _ hk
   refine⟨⟨o,e,ex.1⟩,λa e2=>?_⟩;cases e2;exact⟨o,e,ex.2.1⟩
 | _=>exact Vq ty
def tBM(K:Xc)(T:String)(r:V->List V->Hp->VK->Prop)(to:TE)(t:TA):TE:=λO H Q=>to O H λx H1=>tyV K T x H1/\t O H1 λxs H2=>r x xs H2 Q
variable {o:YJ}{t:TA}{name:Str}{apos cpos:Pos}{T id:String}{r:V->List V->Hp->VK->Prop}
def Z5w(pa:PlainAttrs T)(slot:Slot T name id)(hty:typeOf (.builtin id)=pure (.type "method_descriptor"))(hm:MtR X id r)(ho:PE X o to)(ha:PA X (e::es) t)
  (hbase:attributeBase o name X.env (eval o X.env)=eval o X.env:=by rfl)
  (hfew:((Ba cpos (Xr (e::es) X.env)).all (λx=>!x.1)&&(backToKw cpos (keywordEach [] X.env)).all (λx=>x.1.isSome)
   &&decide ((e::es).length+([]:List Keyword).length+(if([]:List Keyword).isEmpty then 0 else 1)<30))=YD:=by rfl)
  (hline:(apos.endLine==cpos.line)=YD:=by rfl) (hs:Xr (e::es) X.env=(YF,eval e X.env)::Xr es X.env:=by rfl) (hplain:(Ba cpos (Xr es X.env)).any (·.1)=YF:=by rfl) :
  PE X (.Call (.Attribute o name apos) (e::es) [] cpos) (tBM X.K T r to t):=by
 intro pins s O H Q I h;refine wpAny_Call_method_late hbase hfew hline rfl (thn (ho pins s O H _ I h) λv s1 qz9=>?_);obtain⟨x,H1,I1,r1,ty,q1⟩:=qz9;obtain⟨h1,h2⟩:=Yb1 I1 r1 ty;refine⟨T,id,pa,slot,hty,h1,h2,?_⟩;have hA:=ha cpos pins s1 O H1 _ I1 q1;rw[hs]at hA|-
 refine Calls.callWith_builtin (by show(YF||(Ba cpos (Xr es X.env)).any (·.1))=YF;rw[hplain]<;>rfl) (Calls.evalArgs_plain ?_);refine thn hA λus s2 qz9=>?_;obtain⟨vs,H2,I2,r2,q2⟩:=qz9;exact hm pins s2 O H2 x vs v us Q I2 r1 r2 q2
end
def MtM(X:Cx)(id:String)(r:V->List V->Hp->VK->Prop):Prop :=
 ∀(pins:List (YG×Obj)) (s:Xg) (O:St) (H:Hp) (x:V) (xs:List V) (v:Xd) (us:List Xd) (Q:VK),Inv X pins O H s->RelV x v->Vals xs us->r x xs H Q ->
  Xy (X4 X.prog X.w) X.A (call (.builtin id) (v::us)) (EP X pins O Q) X.xe s
theorem Vals.one{x:V}(h:Vals [x] us):∃u,us=[u]/\RelV x u:=by
 cases h with
 | cons r t=>cases t;exact⟨_,rfl,r⟩
theorem Vals.zero:∀{us:List Xd},Vals [] us->us=[]
 | _,.nil=>rfl
section
variable {O:St}{l b:YG}{zs:List V}
def Inv.lset{its its':List Xd}{n:Nat}{f:Array Xd->Array Xd}(I:Inv X pins O H s)(hH:H l=YB (.lst xs))
  (e:s.heap.get? l=YB { cls:=.type "list",data:=.seq its.toArray n }) (hf:f its.toArray=its'.toArray) (hv:Vals ys its') (hz:ys.length<=Xp) :
  Inv X pins O (upd H l (.lst ys)) { s with heap:=s.heap.update l (BJ f),toks:=t' }:=by
 have q:=PySem.IsL.update e f;rw[hf]at q;refine I.write (x:=l) (e:=l) (by rw[hH];exact trivial) (.inl rfl) (λb' u hb hu=>(Heap.get?_update_other s.heap (BJ f) (BL hb)).trans hu) ⟨_,q⟩ ?_;exact⟨hz,its',_,hv,q⟩
def Inv.lnew{its:List Xd}(I:Inv X pins O H s)(hv:Vals ys its)(hz:ys.length<=Xp) :
  Inv X pins O (upd H s.heap.objs.size (.lst ys)) { s with heap:=s.heap.push { cls:=.type "list",data:=.seq its.toArray },toks:=t' } :=
 I.laid (λ_ _ q=>Xe _ q) (Xx _) ⟨hz,its,0,hv,Xv _ rfl⟩
theorem Inv.fresh(I:Inv X pins O H s):H s.heap.objs.size=YC:=I.hok.fresh (Xx _)
def Inv.lstM(I:Inv X pins O H s)(hH:H l=YB (.lst xs)):xs.length<=Xp/\∃(its:List Xd) (n:Nat),Vals xs its/\xs.length=its.length/\s.heap.get? l=YB { cls:=.type "list",data:=.seq its.toArray n }:=by
 obtain⟨z,its,n,r,e⟩:=I.hok l _ hH;exact⟨z,its,n,r,r.length,e⟩
end
def Z57:V->List V->Hp->VK->Prop:=λx vs H Q=>∃l xs y,x= .ref l/\vs=[y]/\H l=YB (.lst xs)/\xs.length<Xp/\Q .non (upd H l (.lst (xs++[y])))
theorem Zmv:MtM X "list.append" Z57:=by
 intro pins s O H x vs v us Q I rx rv h;obtain⟨l,xs,y,rfl,rfl,hH,hz,q⟩:=h;cases rx;obtain⟨u,rfl,ru⟩:=rv.one;obtain⟨z,its,n,r,hl,e⟩:=I.lstM hH;refine call_meets F.slot_list_append ⟨_,e,rfl⟩ F.entry_list_append (F.args_list_append_2 _ _) (PySem.list_append l its.toArray n u (by rw[XF];omega)) ⟨e,?_⟩;refine⟨.non,_,I.lset (its':=its++[u]) hH e (!5) (r.append (.cons ru .nil)) ?_,rfl,q⟩;rw[Xw,U9];omega
section
variable {prog:XH}
end
end L2
namespace Att
open PySem PySem.W PySem.Calls PyProof.Rows
def Zi3{P:Params}:∀(ns:List Int) (vs:List Xd),WellAll P h vs (ns.map WData.int)->Vd vs ns:=by
 intro ns
 induction ns with
 | nil=>
  intro vs w;rw[List.map_nil]at w;cases w;exact .nil
 | cons n ns ih=>
  intro vs w;rw[XC]at w;cases w with
  | cons a b=>
   cases a;exact .cons _ _ (ih _ b)
def Zv9{l:OpenLaw}{n:Nat}(hn:l.most=YB n){P:Params}{args:List WData}{vals:List Xd}
  (hpre:l.row.toRowW.claim.pre args=YD) (hwl:WellAll P h vals args) :
  ∃a vs ns,vals=[X7 a]/\args=[WData.list (ns.map WData.int)]/\h.get? a=YB { cls:=.type "list",data:=.seq vs.toArray }/\Vd vs ns/\ns.length<=n:=by
 have hsh:WShape.hasAll [] args [.list .int]=YD:=(pre_splitW hpre).1;have hc:l.pre.holds [] { args:=args }=YD:=(pre_splitW hpre).2;obtain⟨d,r,rfl,h1,h2⟩:=hasAllW_cons hsh;obtain rfl:=hasAllW_nil h2;obtain⟨xs,rfl,h3⟩:=hasW_list h1;obtain⟨ns,rfl⟩:=items_int h3;have hlen:ns.length<=n:=by
  unfold OpenLaw.pre at hc;have h4:(WTm.not (.lt (.lit (.int (n:Int))) (.len (.arg 0)))).holds [] { args:=[.list (ns.map .int)] }=YD:=by
   have h4:=(holds_andW hc).1;rw[hn]at h4;exact h4
  have h5:=condW_of h4 (w_not (w_lt w_lit (w_len_list (w_arg rfl))));rw[Xf]at h5;refine Nat.le_of_not_lt λq=>?_;have q':(n:Int)<((ns.length:Nat):Int):=by omega
  first
   | (rw[YS q']at h5;exact YZ h5 (!1))
   | (simp at h5;omega)
 cases hwl with
 | cons w1 w2=>
  cases w2;cases w1 with
  | list ho hall=>exact⟨_,_,ns,rfl,rfl,ho,Zi3 ns _ hall,hlen⟩
def Zx6(l:OpenLaw)(args:List WData):l.row.toRowW.claim.post args (.bool YD) args=YD :=
 postW_of (r:=l.row.toRowW) (X:=(YD==YD))
  (show WShape.has [] (.bool YD) .bool=YD by first|rfl|decide|simp[WShape.has,WShape.arms,WShape.armsAll])
  (show(WTm.eq .res (.lit (.bool YD))).value [] { args:=args,res:=YB (.bool YD),after:=args }=YB (.bool (YD==YD))from w_eq_bool (w_res rfl) w_lit) rfl
def attach_call{l:OpenLaw}{n:Nat}{q:XH}{loose:List Str}{XP:(Str->Option Xd)->YH->Prop}{YP:Ql->YH->Prop}{d:DefRec}
  (hn:l.most=YB n) (hdf:d.params.defaults=[])
  (call:∀(w:Ql) (s₀ s₁:Xg) (mg mb:Str->Option Xd) (fa:YG) (o:Obj) (pm cd doc:Xd) (a:YG) (vs:List Xd) (ns:List Int),
   Ground q loose [] XP w s₀ mg mb s₁.heap->YP w s₁.heap ->
   s₁.heap.get? fa=YB o->o.data= .func (docDef d.name d.params d.body d.scope pm cd doc)->s₁.heap.CodeRec cd d.name->mg d.name=YB (.ref fa) ->
   s₁.heap.get? a=YB { cls:=.type "list",data:=.seq vs.toArray }->Vd vs ns->ns.length<=n->s₁.gens=#[] ->
   codeAny (X4 l.prog w) callerA (.call (.ref fa) ⟨[.ref a],[]⟩) (λr s'=>r= .ok (.ret (.bool YD))/\OldK s₁.heap s'.heap/\s'.os=s₁.os/\AllBare s'.gens) s₁) :
  WalkO q loose XP YP l.row.toRowW d [] (λf vs=>PySem.call f vs):=by
 intro w s₀ s₁ mg mb G Y_a fa o pm cd doc dV kV ho hd hcd hD hmg hg args vals as hpre hlay hrd hwl hlo;obtain rfl:dV= .none:=Dflts.none hD hdf;obtain rfl:kV= .none:=Dflts.noKw hD;obtain⟨a,vs,ns,rfl,rfl,hobj,hints,hlen⟩:=Zv9 hn hpre hwl;refine enter_call (codeAny_mono (call w s₀ s₁ mg mb fa o pm cd doc a vs ns G Y_a ho (fd_plain hd) hcd hmg hobj hints hlen hg) λr s' hq=>?_);obtain⟨rfl,h2,h3,h4⟩:=hq;exact⟨.inl ⟨.bool YD,.bool YD,[],rfl,λ_=>rfl,.bool YD,Zx6 l _,λ_=>⟨List.Pairwise.nil,λ_ hm=>(nomatch hm)⟩⟩,h2,h3,h4⟩
section
variable {prog:XH}{K:Frag}
end
end Att
namespace L2
open PySem PySem.Spec PyProof.Rows
end L2
variable {XP:(Str->Option Xd)->YH->Prop}{dx C:YG}{CX:CXT}{op op':CmpOp}{value:YJ}{g:Int->Int->Bool}{ns:List Int}{loose:List Str}{vs:List Xd}{lo hi:Option YJ}{apos p2 cpos:Pos}{YP:Ql->YH->Prop}{r r':R2}{sc scope:YL}{sp:Sp}{name qual:Str}{kindOf:Str->Option Vj}{mA mg:Str->Option Xd}{id:String}{tc:TE}{prog:XH}
namespace L2
open PySem PySem.Spec PyProof.Rows
def Zwk(h:Vd vs ns):Vals (ns.map V.int) vs:=by
 induction h with
 | nil=>exact .nil
 | cons n t h ih=>exact .cons ⟨t,rfl⟩ ih
def Only(H:Hp):Prop:=∀b,H b=YC\/∃o xs,H b=YB (.frz o (.lst xs))
def Z0b{mb:Str->Option Xd}{k:Nat}{fa:YG}{fd:X5}{s₁:Xg}
  (KX:K.In s₁.heap) (hns:s₁.heap.Ns XN mg) (hb:s₁.heap.Ns builtinsNs mb) (hbb:∀x:Str,x≠"__name__" ->mb x=Qd x) (hlim:s₁.heap.NoLimit) (hg:s₁.gens=#[])
  (ha:s₁.heap.get? a=YB { cls:=.type "list",data:=.seq vs.toArray }) (hi:Vd vs ns) (hl:ns.length<=Xp) (hr:Room k callerA)
  (F:∀base:YH,K.In base->base.Ns XN mg->FnOk P w K mg base CX k fa fd [x] sp) (hbind:∀(s:Xg) (u:Xd),BindsTo s fd ⟨[u],[]⟩ [(x,u)])
  (hsp:∀H:Hp,Only H->SqL K H a (ns.map V.int)->sp [.ref a] H (λv _=>v= .bl YD) λ_ _ _=>False)
  (hCX:∀H e s',CX [] H s₁ (λ_ _ _=>False) e s'->False) :
  codeAny (X4 P w) callerA (.call (.ref fa) ⟨[.ref a],[]⟩) (λr s'=>r= .ok (.ret (.bool YD))/\OldK s₁.heap s'.heap/\s'.os=s₁.os/\AllBare s'.gens) s₁:=by
 have rv:=Zwk hi;have lenV:=hi.length
 -- from an abstract heap in which nothing but the script may be tracked
 have core:∀H:Hp,Only H->SqL K H a (ns.map V.int)->HOk P w H s₁.heap->(∀b,H b≠YC->b=a)->(H a≠YC->K.lookup a=YC) ->
   codeAny (X4 P w) callerA (.call (.ref fa) ⟨[.ref a],[]⟩) (λr s'=>r= .ok (.ret (.bool YD))/\OldK s₁.heap s'.heap/\s'.os=s₁.os/\AllBare s'.gens) s₁:=by
  intro H hO hS hok hA hK;have base_of:∀{b:YG} {o:Obj},s₁.heap.get? b=YB o->H b=YC->(Zzo s₁.heap H).get? b=YB o:=λe n=>Z0h e n;have noA:∀{b:YG} {o:Obj} {es:Array DictEntry} {ep:Nat},s₁.heap.get? b=YB o->o.data= .dict es ep->H b=YC:=fun{b o es ep} e d=>by
   cases q:H b with
   | none=>rfl
   | some u=>
    have e':b=a:=hA b (by rw[q];simp);subst e';rw[ha]at e;cases e;have d':Data.seq vs.toArray _=Data.dict es ep:=d;cases d'
  have nsK:∀{b:YG} {m:Str->Option Xd},s₁.heap.Ns b m->(Zzo s₁.heap H).Ns b m:=fun{b m} ⟨o,es,ep,e,d,r⟩=>⟨o,es,ep,base_of e (noA e d),d,r⟩;have hKb:K.In (Zzo s₁.heap H):=λb o e=>base_of (KX b o e) (by
   cases q:H b with
   | none=>rfl
   | some u=>
    have e':b=a:=hA b (by rw[q];simp);subst e';rw[hK (by rw[q];simp)]at e;cases e)
  have hM:Mod K mg (Zzo s₁.heap H):=⟨hKb,nsK hns,⟨mb,nsK hb,hbb⟩,let⟨mc,h1,h2⟩:=hlim;⟨mc,nsK h1,h2⟩⟩;have e0:Ygn P w K mg (Zzo s₁.heap H) callerA [] s₁ H:=⟨rfl,hM,λb o e=>Z40 e,Nat.le_of_eq (Zt9 _ _),trivial,λb hb=>YZ (show b∈([]:List YG)from hb) (!5),hok,.of_eq hg⟩;refine codeAny_mono ((F _ hKb (nsK hns)).run callerA [] s₁ H ⟨[.ref a],[]⟩ [.ref a] [.ref a] _ _ hr e0 (hbind s₁ (.ref a)) (.cons rfl .nil) (hsp H hO hS)) λr s' h=>?_;cases r with
  | error e=>exact(hCX H e s' h).elim
  | ok fl=>
   cases fl with
   | next=>exact Vq h
   | brk=>exact Vq h
   | cont=>exact Vq h
   | ret u=>
    obtain⟨v,H',os,bare,un,hok',r',q⟩:=h;have q':v= .bl YD:=q;subst q';obtain rfl:u=Value.bool YD:=r';refine⟨rfl,OldK.of_keep λb o e=>?_,os,bare⟩;cases q:H b with
    | none=>exact un.keep b o e q (by intro z;exact YZ (show b∈([]:List YG)from z) (!5)) (!5)
    | some u=>
     rcases hO b with z|⟨ob,xs,z⟩
     .rw[q]at z;cases z
     .have z2:=un.frzs b ob _ z
      obtain⟨e1,_⟩:=hok b _ z;obtain⟨e2,_⟩:=hok' b _ z2;rw[e]at e1;cases e1;exact e2
 cases hk:K.lookup a with
 | some o=>
  -- the script is one of the module's own objects
  have e:=KX a o hk;rw[ha]at e;cases e;refine core (λ_=>YC) (λ_=>.inl rfl) (.inr ⟨_,vs.toArray,_,hk,rfl,rfl,rfl,by rw[XF,lenV];exact hl,by simpa using rv⟩) (λb u z=>by have z':(YC:Option HO)=YB u:=z;cases z') (λb z=>YZ rfl z) λz=>YZ rfl z
 | none=>
  refine core (λb=>if b=a then YB (.frz { cls:=.type "list",data:=.seq vs.toArray } (.lst (ns.map V.int)))else YC) (λb=>?_) (.inl (.inr ⟨{ cls:=.type "list",data:=.seq vs.toArray },YM rfl⟩)) (λb u z=>?_) (λb z=>?_) λ_=>hk
  .by_cases hb:b=a
   .exact .inr ⟨_,_,YM hb⟩
   .exact .inl (YQ hb)
  .by_cases hb:b=a
   .have z':=(YM hb).symm.trans z
    cases z';subst hb;exact⟨ha,by rw[Xf];exact hl,vs,_,rv,ha⟩
   .have z':=(YQ hb).symm.trans z
    cases z'
  .by_cases hb:b=a
   .exact hb
   .exact YZ (YQ hb) z
abbrev KOf(_:K.In h):Xc:=K
def Z6z{l:PySem.W.OpenLaw}{n k:Nat}{q:XH}{d:DefRec}{K:Params->Xc}{CX:Ql->CXT}{sp:Ql->Sp}
  (hn:l.most=YB n) (hn2:n<=Xp) (hdf:d.params.defaults=[]) (hr:Room k callerA)
  (hY:∀(w:Ql) (h:YH),YP w h->(K w.params).In h)
  (F:∀(w:Ql) (mg:Str->Option Xd) (fa:YG) (h:YH),(K w.params).In h->h.Ns XN mg->mg d.name=YB (.ref fa) ->
   ∃fd:X5,(∀(s:Xg) (u:Xd),BindsTo s fd ⟨[u],[]⟩ [(x,u)])/\
    ∀base:YH,(K w.params).In base->base.Ns XN mg->FnOk l.prog w (K w.params) mg base (CX w) k fa fd [x] (sp w))
  (hsp:∀(w:Ql) (H:Hp) (a:YG) (ns:List Int),ns.length<=n->Only H->SqL (K w.params) H a (ns.map V.int)->sp w [.ref a] H (λv _=>v= .bl YD) λ_ _ _=>False)
  (hCX:∀(w:Ql) (H:Hp) (s:Xg) (e:Xd) (s':Xg),CX w [] H s (λ_ _ _=>False) e s'->False) :
  PySem.W.WalkO q loose XP YP l.row.toRowW d [] (λf vs=>PySem.call f vs):=by
 refine Att.attach_call hn hdf λw s₀ s₁ mg mb fa o pm cd doc a vs ns G Y_a ho hd hcd hmg hobj hints hlen hg=>?_;have KX:=hY w _ Y_a;obtain⟨fd,hb,hF⟩:=F w mg fa _ KX G.T.g hmg;exact Z0b KX G.T.g G.T.b G.T.builtins G.T.nolimit hg hobj hints (XD hlen hn2) hr hF hb (λH hO hS=>hsp w H a ns hlen hO hS) λH e s'=>hCX w H s₁ e s'
def Zgh(s:YK):Arguments:=match s with
 | .FunctionDef _ a _ _ _ _ _ _ _ _=>a
 | _=>{ posonlyargs:=[],args:=[],vararg:=YC,kwonlyargs:=[],kw_defaults:=[],kwarg:=YC,defaults:=[] }
def Za3(s:YK):List YK:=match s with
 | .FunctionDef _ _ b _ _ _ _ _ _ _=>b
 | _=>[]
def Zm(s:YK):YL:=match s with
 | .FunctionDef _ _ _ _ _ _ sc _ _ _=>sc
 | _=>{ kind:=.function,names:=[],isGenerator:=YF,isCoroutine:=YF }
abbrev CX0:CXT:=λ_ _ _ _ _ _=>False
abbrev E0:XK:=λ_ _ _=>False
def Zor:Zrb CX0 X E0:=λ_ _ _ _ _ _ _ h=>h.elim
structure Fun(K:Xc)(x qual:Str)(st:YK)(f:YG)(fd:X5):Prop where
 ex:∃(oc:Xd) (od:Option YG) (kV doc pm:Xd) (an:Option YG) (cdv ct:Xd) (osl:Array (Option Xd)),
  fd=Ub x qual (Zgh st) (Za3 st) (Zm st) .none kV doc pm an cdv ct/\K.lookup f=YB ⟨oc,od,.func fd,osl⟩/\PySem.W.codeIn K cdv qual=YD
 kp:Vz K (.ref f)=YD
section
variable {base:YH}
theorem Fun.ok{f:YG}{fd:X5}{N ps:List Str}{k:Nat}(F:Fun K x qual st f fd)(S:Z1 N ps (Zm st))(len:∀vs H Q E,sp vs H Q E->vs.length=ps.length)
  (hbody:∀(cdv:Xd) (A:Qj) (outer:List Env) (s:Xg) (H:Hp) (vs:List V) (Q:VK) (E:XK),Room k (A.deeper (envOfC qual (Zm st) s.heap.objs.size f cdv))->sp vs H Q E ->
   ∃t,PSs (Zty CX0 P w K mg base N qual (Zm st) f cdv A outer s H E).nox (Za3 st) t/\t { nx:=λ_ H'=>Q .non H',rt:=Q } (start N vs) H):FnOk P w K mg base CX0 (k+1) f fd ps sp:=by
 obtain⟨oc,od,kV,doc,pm,an,cdv,ct,osl,rfl,lk,hcd⟩:=F.ex;refine Ya1 lk hcd S len λA outer s H vs Q E hr hsp=>?_;obtain⟨t,h,q⟩:=hbody cdv A outer s H vs Q E hr hsp;exact⟨t,h.nox,q⟩
def Fun.binds{f:YG}{fd:X5}{ps:List Str}(F:Fun K x qual st f fd)
  (h:∀(kV doc pm:Xd) (an:Option YG) (cdv ct:Xd) (us:List Xd),us.length=ps.length->bindArgs (Ub x qual (Zgh st) (Za3 st) (Zm st) .none kV doc pm an cdv ct) ⟨us,[]⟩=pure (ps.zip us)):Binds K fd ps []:=by
 obtain⟨oc,od,kV,doc,pm,an,cdv,ct,osl,rfl,lk,hcd⟩:=F.ex;exact .all (h kV doc pm an cdv ct)
def Yaq{f:YG}{oc:Xd}{od an:Option YG}{osl:Array (Option Xd)}{kV doc pm cdv ct:Xd}(l:K.lookup f=YB ⟨oc,od,.func (Ub x qual (Zgh st) (Za3 st) (Zm st) .none kV doc pm an cdv ct),osl⟩)
  (c:PySem.W.codeIn K cdv qual=YD) (k:Vz K (.ref f)=YD):Fun K x qual st f (Ub x qual (Zgh st) (Za3 st) (Zm st) .none kV doc pm an cdv ct):=⟨⟨oc,od,kV,doc,pm,an,cdv,ct,osl,rfl,l,c⟩,k⟩
end
theorem pv(i:Nat)(hN:X.N[i]? =YB x:=by rfl)(hv:Vis X.env.scope x:=by first|exact QT rfl|exact QM (QT rfl)|exact QM (QM rfl))(hd:(x==(!10))=YF:=by decide)
  (hcd:(x==(!17))=YF:=by decide):PE X (.Name x pos) (Ylk i):=Yep hN hv hd hcd
def Same(H H':Hp):Prop:=∀b o,H b=YB o->H' b=YB o
theorem Same.refl(H:Hp):Same H H:=λ_ _ h=>h
theorem Same.trans(a:Same H H1)(b:Same H1 H2):Same H H2:=λc o h=>b c o (a c o h)
theorem Same.free(e:Same H H'){l:YG}(h:H' l=Option.none):H l=Option.none:=by
 cases q:H l with
 | none=>rfl
 | some o=>
  rw[e l o q]at h;cases h
end L2
set_option maxHeartbeats 4000000
namespace L2
open PySem PySem.Spec PyProof.Rows
def Bt(n:Nat)(x:Int):Prop:=x.natAbs<2^n
def Bt.mono{m n:Nat}{x:Int}(h:Bt m x)(hn:m<=n):Bt n x:=X8 h (Nat.pow_le_pow_right (!1) hn)
theorem Bt.neg{m:Nat}{x:Int}(h:Bt m x):Bt m (-x):=by
 unfold Bt at*
 rw[Int.natAbs_neg];exact h
def Bt.of_le{m:Nat}{x y:Int}(h:Bt m x)(k:y.natAbs<=x.natAbs):Bt m y:=Nat.lt_of_le_of_lt k h
def Bt.of_lt{m:Nat}{x:Int}(h1:-(2^m)<x)(h2:x<2^m):Bt m x:=by
 unfold Bt;have e:((2^m:Nat):Int)=2^m:=by simp
 omega
def DivOk(_ j:Int):Prop:=j≠0/\j.natAbs.log2<9000
def DivOk.of{i j:Int}{n:Nat}(h0:j≠0)(h:Bt n j)(hn:n<=9000:=by decide):DivOk i j:=by
 refine⟨h0,?_⟩;have hp:j.natAbs≠0:=by omega
 have:=(Nat.log2_lt hp).mpr h;omega
def Z4u:OpR X (Ut .Mult) (rI IntMulOk λi j=>.int (i*j)):=opI λ_ _ _ _ _ _ _ hc q=>mul_int q hc
def Z1b:OpR X (Ut .FloorDiv) (rI DivOk λi j=>.int (i.fdiv j)):=opI λ_ _ _ _ _ _ _ hc q=>floordiv_int hc.1 q (.inl (PyProof.noPylong_of_log2 hc.2))
def Z5t:OpR X (Ut .Pow) (rI Ygb λi j=>.int (i^j.toNat)):=Ydg
def Zjq(elt target iter:YJ)(ifs:List YJ)(scope:YL)(pos:Pos)(it acc:Xd)(env:Env) :
  compTurn (.ListComp elt [⟨target,iter,ifs,0⟩] scope pos) 0 it acc env=(standAt iter.pos>>= λ_=>VP it>>= λr=>match r with
   | none=>pure (.done .next)
   | some v=>letOwnedTupleGo target it v>>= λ_=>assign target env v>>= λ_=>
    (forIn ifs YD λc r=>if r=YD then do let ok<-isTrue c env (eval c env);pure (Bv ok)else pure (Bv r))>>= λok=>
     if ok=YD then((eval elt env>>= λx=>call (.builtin "list.append") [acc,x]>>= λ_=>pure ())>>= λ_=>
      again (.compLoop (.ListComp elt [⟨target,iter,ifs,0⟩] scope pos) 0 it acc env))
     else again (.compLoop (.ListComp elt [⟨target,iter,ifs,0⟩] scope pos) 0 it acc env)):=by rfl
theorem Znv{R:Result->Xg->Prop}{elt target:YJ}{ifs:List YJ}{it acc:Xd}{env:Env}(I:Nat->Xg->Prop)
  (turn:∀n s,I n s->Xy (X4 prog w) A (VP it) (λr s₁=>match r with
   | none=>R (.ok .next) s₁
   | some v=>Xy (X4 prog w) A (letOwnedTupleGo target it v) (λ_ s₁=>Xy (X4 prog w) A (assign target env v) (λ_ s₂=>
     Xy (X4 prog w) A (forIn ifs YD λc r=>if r=YD then do let ok<-isTrue c env (eval c env);pure (Bv ok)else pure (Bv r)) (λok s₃=>
      if ok=YD then Xy (X4 prog w) A (eval elt env) (λx s₄=>
       Xy (X4 prog w) A (call (.builtin "list.append") [acc,x]) (λ_ s₅=>∃m,m<n/\I m s₅) (notedBy (X4 prog w) A env λe s'=>R (.error e) s') s₄) (notedBy (X4 prog w) A env λe s'=>R (.error e) s') s₃
      else∃m,m<n/\I m s₃) (notedBy (X4 prog w) A env λe s'=>R (.error e) s') s₂) (notedBy (X4 prog w) A env λe s'=>R (.error e) s') s₁) (notedBy (X4 prog w) A env λe s'=>R (.error e) s') s₁) (notedBy (X4 prog w) A env λe s'=>R (.error e) s') s)
  (n:Nat) (h:I n s) :
  codeAny (X4 prog w) A (.compLoop (.ListComp elt [⟨target,iter,ifs,0⟩] scope pos) 0 it acc env) R s:=by
 refine codeAny_loop rfl I (λn s hI=>?_) n h;show Xy _ A ((compTurn (.ListComp elt [⟨target,iter,ifs,0⟩] scope pos) 0 it acc env).onRaise (λx=>do noteFrame x env;theTreesLotGoes x)) _ _ s;refine wpAny_noted ?_;rw[Zjq];refine Xb (wpAny_standAt (Xb (QQ (turn n s hI) (λr s₁ h₁=>?_) λ_ _ h'=>h')));cases r with
 | none=>exact Xj h₁
 | some v=>
  refine Xb (QQ h₁ (λ_ s₂ h₂=>?_) λ_ _ h'=>h');refine Xb (QQ h₂ (λ_ s₂ h₂=>Xb (QQ h₂ (λok s₃ h₃=>?_) λ_ _ h'=>h')) λ_ _ h'=>h');cases ok with
  | false=>exact Xj ⟨rfl,h₃⟩
  | true=>
   exact Xb (Xb (QQ h₃ (λx s₄ h₄=>Xb (QQ h₄ (λ_ s₅ h₅=>Xj (Xj ⟨rfl,h₅⟩)) λ_ _ h'=>h')) λ_ _ h'=>h'))
def Zjo(env:Env):List (Str×Vj)->List (Str×YG)->List (Str×YG)
 | [],acc=>acc
 | (n,k)::r,acc=>if k== .free then Zjo env r ((n,(env.cells.lookup n).getD 0)::acc)else Zjo env r acc
theorem Zme{env:Env}:∀(names:List (Str×Vj)) (acc:List (Str×YG)),(∀y∈names,y.2= .free->∃c,env.cells.lookup y.1=YB c) ->
  (forIn names acc (λ(y:Str×Vj) cs=>(if y.2== .free then(cellOf env y.1>>= λc=>pure (Bv ((y.1,c)::cs)))else pure (Bv cs):Sem (ForInStep (List (Str×YG))))))=pure (Zjo env names acc)
 | [],acc,_=>by rw[List.forIn_nil];rfl
 | (n,k)::r,acc,h=>by
  by_cases hk:k= .free
  .subst hk
   obtain⟨c,hc⟩:=h (n,.free) (!8) rfl;have hc':env.cells.lookup n=YB c:=hc;have e:=Zme (env:=env) r ((n,c)::acc) λy hy=>h y (.tail _ hy);have ec:cellOf env n=pure c:=by
    unfold cellOf;rw[hc']
   rw[List.forIn_cons];simp only[beq_self_eq_true,if_true];rw[ec];simp only[Zjo,beq_self_eq_true,if_true,hc',Option.getD_some];exact e
  .have e:=Zme (env:=env) r acc λy hy=>h y (.tail _ hy)
   have hb:(k==JD)=YF:=by simpa using hk
   rw[List.forIn_cons];simp only[Zjo,hb,Qg,if_false];exact e
theorem Zeg{env:Env}(h:∀y∈scope.names,y.2= .free->∃c,env.cells.lookup y.1=YB c):closureFor scope env=pure (Zjo env scope.names []):=by
 have e:=Zme scope.names [] h;have e':(forIn scope.names ([]:List (Str×YG)) (λ(y:Str×Vj) cs=>(match y with|(name,kind)=>do
   if kind== .free then do let a<-cellOf env name;pure (Bv ((name,a)::cs))else pure (Bv cs):Sem (ForInStep (List (Str×YG))))))=pure (Zjo env scope.names []):=e
 exact YW (λ(m:Sem (List (Str×YG)))=>m>>= λx=>pure x) e'
theorem Zmb{env:Env}:∀(names:List (Str×Vj)) (acc:List (Str×YG)),(∀y∈names,y.2= .free->∃c,env.cells.lookup y.1=YB c) ->
  ∀n c,(n,c)∈Zjo env names acc->(n,c)∈acc\/((n,JD)∈names/\env.cells.lookup n=YB c)
 | [],acc,_,n,c,h=>.inl h
 | (m,k)::r,acc,h,n,c,hm=>by
  by_cases hk:k= .free
  .subst hk
   obtain⟨d,hd⟩:=h (m,.free) (!8) rfl;have hd':env.cells.lookup m=YB d:=hd;simp only[Zjo,beq_self_eq_true,if_true,hd',Option.getD_some]at hm;rcases Zmb r _ (λy hy=>h y (.tail _ hy)) n c hm with z|⟨z1,z2⟩
   .rcases Xl.mp z with z|z
    .cases z;exact .inr ⟨.head _,hd'⟩
    .exact .inl z
   .exact .inr ⟨.tail _ z1,z2⟩
  .have hb:(k==JD)=YF:=by simpa using hk
   simp only[Zjo,hb,Qg,if_false]at hm;refine(Zmb r _ (λy hy=>h y (.tail _ hy)) n c hm).imp id λqz9=>?_;obtain⟨z1,z2⟩:=qz9;exact⟨.tail _ z1,z2⟩
theorem Zlq{env:Env}:∀(names:List (Str×Vj)) (acc:List (Str×YG)),∀p∈acc,p∈Zjo env names acc
 | [],_,_,h=>h
 | (m,k)::r,acc,p,h=>by
  unfold Zjo;split
  .exact Zlq r _ p (.tail _ h)
  .exact Zlq r _ p h
theorem Zk4{env:Env}:∀(names:List (Str×Vj)) (acc:List (Str×YG)) (n:Str),(n,JD)∈names->∃c,(n,c)∈Zjo env names acc
 | [],_,_,h=>nomatch h
 | (m,k)::r,acc,n,h=>by
  rcases Xl.mp h with z|z
  .cases z
   exact⟨_,by
    simp only[Zjo,beq_self_eq_true,if_true];exact Zlq _ _ _ (!8)⟩
  .unfold Zjo
   split
   .exact Zk4 r _ n z
   .exact Zk4 r _ n z
theorem Zf9{env:Env}(inj:∀x y c,env.cells.lookup x=YB c->env.cells.lookup y=YB c->x=y):∀(names:List (Str×Vj)) (acc:List (Str×YG)),
  (∀ y∈names,y.2= .free->∃c,env.cells.lookup y.1=YB c)->(names.map (·.1)).Nodup->(∀p∈acc,env.cells.lookup p.1=YB p.2)->(∀p∈acc,p.1∉names.map (·.1))->(acc.Pairwise λx y=>x.2≠y.2) ->
  (Zjo env names acc).Pairwise λx y=>x.2≠y.2
 | [],_,_,_,_,_,h=>h
 | (m,k)::r,acc,hf,hn,ha,hd,hp=>by
  rw[XC,JF]at hn;have hf':∀y∈r,y.2= .free->∃c,env.cells.lookup y.1=YB c:=λy hy=>hf y (.tail _ hy);have hd':∀p∈acc,p.1∉r.map (·.1):=λp hp z=>hd p hp (by rw[XC];exact .tail _ z)
  by_cases hk:k= .free
  .subst hk
   obtain⟨d,hd0⟩:=hf (m,.free) (!8) rfl;have hd1:env.cells.lookup m=YB d:=hd0;simp only[Zjo,beq_self_eq_true,if_true,hd1,Option.getD_some];refine Zf9 inj r _ hf' hn.2 (λp hp'=>?_) (λp hp'=>?_) (List.pairwise_cons.mpr ⟨λp hp' z=>?_,hp⟩)
   .rcases Xl.mp hp' with rfl|hp'
    .exact hd1
    .exact ha p hp'
   .rcases Xl.mp hp' with rfl|hp'
    .exact hn.1
    .exact hd' p hp'
   .have e:m=p.1:=inj m p.1 d hd1 (by rw[ha p hp',<-z])
    exact hd p hp' (by rw[XC,<-e];exact .head _)
  .have hb:(k==JD)=YF:=by simpa using hk
   simp only[Zjo,hb,Qg,if_false];exact Zf9 inj r _ hf' hn.2 ha hd' hp
structure Zth(h:YH)(lo:Nat)(names:List (Str×Vj))(acc cs:List (Str×YG)):Prop where
 mem:∀n c,(n,c)∈cs->(n,c)∈acc\/(h.IsCell c YC/\lo<=c/\(n,BW)∈names)
 has:∀n,(n,BW)∈names->∃c,(n,c)∈cs
 old:∀p∈acc,p∈cs
theorem Zgs:∀(names:List (Str×Vj)) (h:YH) (lo:Nat) (acc:List (Str×YG)),lo<=h.objs.size->Zth (Vw h names) lo names acc (BV h.objs.size names acc)
 | [],_,_,_,_=>⟨λ_ _ m=>.inl m,(λ_ m=>nomatch m),λ_ m=>m⟩
 | (name,kind)::r,h,lo,acc,hlo=>by
  by_cases hk:(kind==BW)=YD
  .have ek:kind= .cell:=by simpa using hk
   subst ek;have ih:=Zgs r (h.push { cls:=.type "cell",data:=.cell YC }) lo ((name,h.objs.size)::acc) (by rw[QC];omega);rw[QC]at ih;have e1:BV h.objs.size ((name,.cell)::r) acc=BV (h.objs.size+1) r ((name,h.objs.size)::acc):=by
    rw[BV,YM hk]
   have e2:Vw h ((name,.cell)::r)=Vw (h.push { cls:=.type "cell",data:=.cell YC }) r:=by
    rw[Vw,YM hk]
   rw[e1,e2];refine⟨λn c m=>?_,λn m=>?_,λp m=>ih.old p (.tail _ m)⟩
   .rcases ih.mem n c m with z|⟨z1,z2,z3⟩
    .rcases Xl.mp z with z|z
     .cases z
      exact .inr ⟨⟨_,pushCells_keeps _ _ _ _ (Xv _ rfl),rfl⟩,hlo,.head _⟩
     .exact .inl z
    .exact .inr ⟨z1,z2,.tail _ z3⟩
   .rcases Xl.mp m with z|z
    .cases z
     exact⟨_,ih.old _ (!8)⟩
    .exact ih.has n z
  .have ih:=Zgs r h lo acc hlo
   have e1:BV h.objs.size ((name,kind)::r) acc=BV h.objs.size r acc:=by
    rw[BV,YQ hk]
   have e2:Vw h ((name,kind)::r)=Vw h r:=by
    rw[Vw,YQ hk]
   rw[e1,e2];refine⟨λn c m=>(ih.mem n c m).imp id λ⟨z1,z2,z3⟩=>⟨z1,z2,.tail _ z3⟩,λn m=>?_,ih.old⟩;rcases Xl.mp m with z|z
   .cases z
    exact YZ rfl hk
   .exact ih.has n z
def Zh8(names:List (Str×Vj)):∀(h:YH) (acc:List (Str×YG)),(acc.Pairwise λx y=>x.2≠y.2)->(∀p∈acc,p.2<h.objs.size)->(BV h.objs.size names acc).Pairwise λx y=>x.2≠y.2:=by
 induction names with
 | nil=>intro h acc ha _;exact ha
 | cons y r ih=>
  intro h acc ha hb;obtain⟨name,kind⟩:=y;unfold BV;split
  .have:=ih (h.push { cls:=.type "cell",data:=.cell YC }) ((name,h.objs.size)::acc) (List.pairwise_cons.mpr ⟨λp hp=>XX (hb p hp),ha⟩) (λp hp=>by
    rw[QC];rcases Xl.mp hp with rfl|hp
    .exact Qx _
    .exact BK (hb p hp))
   rwa[QC]at this
  .exact ih h acc ha hb
theorem Zjx{globals:YG}{cl:List (Str×YG)}{env:Env}{Q:Env->Xg->Prop}
  (hQ:Q (newEnv scope s.heap.objs.size globals (BV (s.heap.objs.size+1) scope.names cl) qual YC .none (YB env) builtinsNs)
   { s with heap:=Vw (s.heap.push { cls:=.type "dict",data:=.dict #[] }) scope.names }) :
  Xy M A (newFunctionEnv scope globals cl [] qual YC .none (YB env)) Q E s:=by
 simp only[newFunctionEnv,Option.isSome_some,if_true];refine Xb (wpAny_alloc ?_);refine Xb (wpAny_layCells _ (λname kind cells=>by cases hkc:kind==BW<;>simp[hkc]) _ _ _ _ ?_);rw[show({ s with heap:=s.heap.push { cls:=.type "dict",data:=.dict #[] } }:Xg).heap.objs.size=s.heap.objs.size+1 from QC ..];rw[List.forIn_nil];exact Xb (Xj (Xj hQ))
def Wx(X:Cx)(N':List Str)(sc:YL)(C:YG)(cells:List (Str×YG))(s₂:Xg)(H₂:Hp)(fp:List YG):Cx :=
 { X with N:=N',s₀:=s₂,H₀:=H₂,env:=compEnvC sc cells C X.env,outer:=X.stack,stack:=X.stack,ex:=fp,fn:=λx=>sc.names.lookup x==YB .cell,pn:=[],xe:=λ_ _=>False }
theorem Zef{env:Env}:∀{names:List (Str×Vj)} {x:Str} {k:Vj},names.lookup x=YB k ->
  (names.map λ(n,k)=>if(k==JD&&env.scope.kind== .function&&env.kindOf n==YB .cell)then(n,BW)else(n,k)).lookup x=
   YB (if(k==JD&&env.scope.kind== .function&&env.kindOf x==YB .cell)then BW else k)
 | [],_,_,h=>by simp at h
 | (n,k')::r,x,k,h=>by
  have ih:=@Zef env r x k;show List.lookup x ((if(k'==JD&&env.scope.kind== .function&&env.kindOf n==YB .cell)=YD then(n,BW)else(n,k'))::_)=_;cases hx:x==n with
  | true=>
   simp only[JH,hx]at h;cases h;have e:=ZC.mp hx;subst e;split<;>simp[JH]
  | false=>
   simp only[JH,hx]at h;split
   .simp only[JH,hx];exact ih h
   .simp only[JH,hx];exact ih h
theorem Zg1{env:Env}:∀{names:List (Str×Vj)} {x:Str},names.lookup x=YC ->
  (names.map λ(n,k)=>if(k==JD&&env.scope.kind== .function&&env.kindOf n==YB .cell)then(n,BW)else(n,k)).lookup x=YC
 | [],_,_=>rfl
 | (n,k')::r,x,h=>by
  have ih:=@Zg1 env r x;show List.lookup x ((if(k'==JD&&env.scope.kind== .function&&env.kindOf n==YB .cell)=YD then(n,BW)else(n,k'))::_)=_;cases hx:x==n with
  | true=>
   simp only[JH,hx]at h;cases h
  | false=>
   simp only[JH,hx]at h;split
   .simp only[JH,hx];exact ih h
   .simp only[JH,hx];exact ih h
theorem Zf0:∀{l:List (Str×Y)} {n:Str} {c:Y},(l.map (·.1)).Nodup->(n,c)∈l->l.lookup n=YB c
 | (k,v)::r,n,c,hd,h=>by
  rw[XC,JF]at hd;rcases Xl.mp h with e|hr
  .cases e
   simp[JH]
  .have hne:(n==k)=YF:=by
    refine Bool.eq_false_iff.mpr λz=>hd.1 ?_;have e:n=k:=ZC.mp z;rw[<-e];exact Qk.mpr ⟨(n,c),hr,rfl⟩
   rw[JH,hne];exact Zf0 hd.2 hr
theorem Y8:∀{l:List (Str×Y)} {n:Str} {c:Y},(n,c)∈l->∃d,l.lookup n=YB d/\(n,d)∈l
 | (k,v)::r,n,c,h=>by
  by_cases e:n=k
  .subst e
   exact⟨v,by simp[JH],List.mem_cons_self⟩
  .have hne:(n==k)=YF:=by simpa using e
   rcases Xl.mp h with z|z
   .cases z;exact YZ rfl e
   .obtain⟨d,h1,h2⟩:=Y8 z
    exact⟨d,by rw[JH,hne];exact h1,.tail _ h2⟩
structure CompScope(X:Cx)(own:List Str)(caps:List Nat)(N':List Str)(sc:YL):Prop where
 kind:sc.kind= .function
 nd:N'.Nodup
 names:N'=own++caps.map λi=>X.N.getD i Str.empty
 nn:(sc.names.map (·.1)).Nodup
 free:(sc.names.all λy=>y.2 != .free||(X.env.kindOf y.1==YB .cell||X.env.kindOf y.1==YB .free))=YD
 caps:(caps.all λi=>sc.names.lookup (X.N.getD i Str.empty)==YB .free)=YD
def Za9(own:List Str)(caps:List Nat)(O:St):St:=own.map (λ_=>YC)++caps.map λi=>(O[i]?).getD YC
section
variable {own:List Str}{caps:List Nat}{N':List Str}
theorem CompScope.lk(S:CompScope X own caps N' sc){n:Str}{k:Vj}(h:(n,k)∈sc.names):sc.names.lookup n=YB k:=Zf0 S.nn h
theorem CompScope.fr(S:CompScope X own caps N' sc){n:Str}(h:(n,JD)∈sc.names):X.env.kindOf n=YB .cell\/X.env.kindOf n=YB .free:=by
 have:=Ul.mp S.free _ h;simpa using this
theorem Zs3{O:St}{fp:List YG}{cl:List (Str×YG)}(S:CompScope X own caps N' sc)(I:Inv X pins O H s)
  (f:∀b∈fp,Zkw X pins H b) (fo:∀b∈fp,∃o,s.heap.get? b=YB o)
  (hcl:∀n c,(n,c)∈cl->(n,JD)∈sc.names/\X.env.cells.lookup n=YB c) (hcl2:∀n,(n,JD)∈sc.names->∃c,(n,c)∈cl) (hapart:cl.Pairwise λx y=>x.2≠y.2) :
  Inv (Wx X N' sc (s.heap.objs.size+1) (BV (s.heap.objs.size+2) sc.names cl) s H fp) [] (Za9 own caps O) (upd H s.heap.objs.size (.lst []))
   { s with heap:=Vw ((s.heap.push { cls:=.type "list",data:=.seq #[] }).push { cls:=.type "dict",data:=.dict #[] }) sc.names }:=by
 generalize hh1:s.heap.push { cls:=.type "list",data:=.seq #[] }=h1;have z1:h1.objs.size=s.heap.objs.size+1:=by rw[<-hh1,QC]
 generalize hh2:h1.push { cls:=.type "dict",data:=.dict #[] }=h2;have z2:h2.objs.size=s.heap.objs.size+2:=by rw[<-hh2,QC,z1]
 have BC:=Zgs sc.names h2 (s.heap.objs.size+2) cl (!0);have AP:=Zh8 sc.names h2 cl hapart (λp hp=>by
  obtain⟨v,hv⟩:=I.cell p.1 p.2 (hcl p.1 p.2 hp).2;exact X8 hv.lt (!0))
 rw[z2]at BC AP;have keep:∀b o,s.heap.get? b=YB o->(Vw h2 sc.names).get? b=YB o:=λb o e=>pushCells_keeps _ _ _ _ (by
  rw[<-hh2];refine Xe _ ?_;rw[<-hh1];exact Xe _ e)
 have hD:(Vw h2 sc.names).get? s.heap.objs.size=YB { cls:=.type "list",data:=.seq #[] }:=pushCells_keeps _ _ _ _ (by
  rw[<-hh2];refine Xe _ ?_;rw[<-hh1];exact Xv _ rfl)
 have hC:(Vw h2 sc.names).Ns (s.heap.objs.size+1) (λ_=>YC):=by
  refine Heap.Ns.keeps ?_ (pushCells_keeps _ _);have:=Heap.Ns.new h1 (.type "dict");rw[hh2,z1]at this;exact this
 have cellOld:∀n c,X.env.cells.lookup n=YB c->c<s.heap.objs.size:=λn c e=>by
  obtain⟨v,hv⟩:=I.cell n c e;exact hv.lt
 have lk':∀n c,(BV (s.heap.objs.size+2) sc.names cl).lookup n=YB c->(n,c)∈BV (s.heap.objs.size+2) sc.names cl:=λn c e=>Bx e;have hnD:H s.heap.objs.size=YC:=I.fresh;have fresh:∀c,s.heap.objs.size<c->upd H s.heap.objs.size (.lst []) c=YC:=λc hc=>by
  rw[Zz (XX hc)];exact I.hok.fresh (U6 hc)
 have isc:∀n c,(n,c)∈BV (s.heap.objs.size+2) sc.names cl->∃v,(Vw h2 sc.names).IsCell c v:=λn c m=>by
  rcases BC.mem n c m with z|⟨z,_⟩
  .obtain⟨v,hv⟩:=I.cell n c (hcl n c z).2
   exact⟨v,hv.keeps keep⟩
  .exact⟨YC,z⟩
 have okH:HOk X.prog X.w (upd H s.heap.objs.size (.lst [])) (Vw h2 sc.names):=by
  refine I.hok.laid keep (Xx _) ?_;exact⟨Qp _,[],0,.nil,hD⟩
 have kinds:∀x k,sc.names.lookup x=YB k->(relabel sc X.env).names.lookup x=YB (if(k==JD&&X.env.scope.kind== .function&&X.env.kindOf x==YB .cell)then BW else k):=λx k e=>Zef e;have kindsR:∀x k,(relabel sc X.env).names.lookup x=YB k->∃k',(x,k')∈sc.names/\k=(if(k'==JD&&X.env.scope.kind== .function&&X.env.kindOf x==YB .cell)then BW else k'):=λx k e=>by
  cases q:sc.names.lookup x with
  | none=>
   have:=Zg1 (env:=X.env) q;rw[show(relabel sc X.env).names.lookup x=_ from this]at e;cases e
  | some k'=>
   refine⟨k',Bx q,?_⟩;rw[kinds x k' q]at e;exact(Qo e).symm
 refine⟨⟨I.ok.mod,S.kind,I.ok.glob,I.ok.blt,?_,?_,?_,?_,I.ok.hd,I.ok.frames,.inl rfl,?_,?_,?_,?_,?_,?_,?_⟩,rfl,I.bare,?_,?_,?_,?_,?_,(λp hp=>nomatch hp),okH,?_⟩
 .show s.heap.objs.size<=s.heap.objs.size+1;omega
 .intro x y c e1 e2
  exact name_of_addr AP (lk' x c e1) (lk' y c e2)
 .intro x hx
  rcases hx with hx|hx
  .obtain⟨k',hm,hk'⟩:=kindsR x _ hx
   cases k' with
   | cell=>
    obtain⟨c,hc⟩:=BC.has x hm;obtain⟨d,h1,_⟩:=Y8 hc;exact⟨d,h1⟩
   | free=>
    obtain⟨c,hc⟩:=hcl2 _ hm;obtain⟨d,h1,_⟩:=Y8 (BC.old _ hc);exact⟨d,h1⟩
   | _=>simp at hk'
  .obtain⟨k',hm,hk'⟩:=kindsR x _ hx
   cases k' with
   | free=>
    obtain⟨c,hc⟩:=hcl2 _ hm;obtain⟨d,h1,_⟩:=Y8 (BC.old _ hc);exact⟨d,h1⟩
   | _=>simp at hk'
 .intro x c hf e
  have hf':sc.names.lookup x=YB .cell:=by simpa [Wx]using hf
  rcases BC.mem x c (lk' x c e)with z|⟨_,z,_⟩
  .-- a free one and a cell at once: the name stands once
   exfalso;have q:=S.lk (hcl x c z).1;rw[hf']at q;cases q
  .show s.heap.objs.size<=c;omega
 .intro b hb
  obtain⟨o,ho⟩:=fo b hb;have hlt:=Xz ho;refine⟨Xn (Vy hlt (Qx _)),λx c e z=>?_⟩;rcases BC.mem x c (lk' x c e)with q|⟨_,q,_⟩
  .exact(f b hb).2.2.2.2.1 x c (hcl x c q).2 z
  .subst z
   exact YZ hlt (Nat.not_lt.mpr (XD (Vb _ 2) q))
 .exact I.bs
 .exact XD I.ok.bsz I.sz
 .intro b o e hb
  rcases(f b hb).2.2.2.1 with z|z
  .exact I.ok.noex b o e z
  .exact YZ (X8 (Xz e) I.ok.bsz) (Nat.not_lt.mpr z)
 .intro b hb z
  rcases Xl.mp (I.stkSub b z)with q|q
  .exact(f b hb).2.1 q
  .exact(f b hb).2.2.1 q
 .exact I.stack
 .exact I.stkFree
 .exact Un.laid keep (Xx _) hnD
 .refine⟨_,hC,λi x v e1 e2 e3=>?_⟩
  have e1':(own++caps.map λi=>X.N.getD i Str.empty)[i]? =YB x:=by rw[<-S.names];exact e1
  have e2':(own.map (λ_=>(YC:Option V))++caps.map λi=>(O[i]?).getD YC)[i]? =YB (YB v):=e2
  by_cases hi:i<own.length
  .rw[Qt (by simpa using hi),Xq]at e2'
   cases q:own[i]? with
   | none=>rw[q]at e2';cases e2'
   | some y=>rw[q]at e2';cases e2'
  .rw[JZ (by simpa using hi),Xq]at e2'
   rw[JZ (!0),Xq]at e1';rw[Xf]at e2';cases q:caps[i-own.length]? with
   | none=>rw[q]at e2';cases e2'
   | some j=>
    rw[q]at e1' e2';have e1:X.N.getD j Str.empty=x:=Qo e1';have e2:(O[j]?).getD YC=YB v:=Qo e2';have e4:O[j]? =YB (YB v):=by
     cases r:O[j]? with
     | none=>rw[r]at e2;cases e2
     | some o=>rw[r]at e2;exact YW YB e2
    have hj:j<X.N.length:=by rw[<-I.len];exact(Xk.mp e4).1
    have e5:X.N[j]? =YB x:=by rw[<-e1];simp[Xu,hj]
    have hc:=Ul.mp S.caps j (Qq q);have e6:sc.names.lookup x=YB .free:=by rw[<-e1];simpa using hc
    have hm:=Bx e6;have kx:=S.fr hm;obtain⟨m,hn,hl⟩:=I.loc;obtain⟨u,ru,lo⟩:=hl j x v e5 e4 (by rcases kx with z|z;exact .inr (.inl z);exact .inr (.inr z));refine⟨u,ru,.inr ⟨?_,?_⟩⟩
    .have:=kinds x _ e6
     show(relabel sc X.env).names.lookup x=_\/(relabel sc X.env).names.lookup x=_;rw[this];split
     .exact .inl rfl
     .exact .inr rfl
    .rcases lo with⟨z,_⟩|⟨_,c,hc1,hc2⟩
     .rcases kx with w|w<;>(rw[w]at z;cases z)
     .obtain⟨d,hd⟩:=hcl2 x hm
      obtain⟨d',h1,h2⟩:=Y8 (BC.old _ hd);refine⟨d',h1,?_⟩;rcases BC.mem x d' h2 with w|⟨_,_,w⟩
      .have w':=(hcl x d' w).2
       rw[hc1]at w';cases w';exact hc2.keeps keep
      .have:=S.lk w
       rw[e6]at this;cases this
 .intro x c e
  exact isc x c (lk' x c e)
 .exact fresh _ (Qx _)
 .intro x c e
  rcases BC.mem x c (lk' x c e)with z|⟨_,z,_⟩
  .have e':=(hcl x c z).2
   have hlt:=cellOld x c e';rw[Zz (Xn hlt)];exact I.freeC x c e'
  .exact fresh c (!0)
 .show(Za9 own caps O).length=N'.length
  rw[S.names];unfold Za9;simp
end
def Z8p(J:It)(g:TG)(tt:TT)(te:TE)(O0:St)(D:YG)(Q:Hp->Prop)(H1:Hp):Prop :=
 ∃W:Nat->Nat->St->Hp->Prop,(∃m,W 0 m O0 (upd H1 D (.lst [])))/\∀i m O' H',W i m O' H' ->
  (J.stop i H'/\Q H')\/(J.go i H'/\∀x H2,J.yld i H' x H2->g x O' H2 λO2 H3=>tt O2 H3 λb H4=>
   if b=YD then te O2 H4 λy H5=>∃ys,H5 D=YB (.lst ys)/\ys.length<Xp/\∃m',m'<m/\W (i+1) m' O2 (upd H5 D (.lst (ys++[y])))
   else∃m',m'<m/\W (i+1) m' O2 H4)
def Z44(own:List Str)(caps:List Nat)(wi:TI)(g:TG)(tt:TT)(te:TE):TE:=λO H Q=>wi O H λJ H1=>∀D,H1 D=YC->Z8p J g tt te (Za9 own caps O) D (Q (.ref D)) H1
def Yht:TT:=λ_ H Q=>Q YD H
def Z7h(X:Cx)(ifs:List YJ)(t:TT):Prop :=
 ∀(pins:List (YG×Obj)) (s:Xg) (O:St) (H:Hp) (Q:Bool->Hp->Prop),Inv X pins O H s->t O H Q ->
  Xy (X4 X.prog X.w) X.A (forIn ifs YD λc r=>if r=YD then do let ok<-isTrue c X.env (eval c X.env);pure (Bv ok)else pure (Bv r)) (TP X pins O Q) X.xe s
def Z46:Z7h X [] Yht:=λpins s O H Q I h=>by
 rw[List.forIn_nil];exact Xj ⟨H,I,h⟩
def Z5l{c:YJ}{t:TT}(h:PT X c t):Z7h X [c] t:=λpins s O H Q I q=>wpAny_tests_one (h pins s O H Q I q)
theorem Z7l{t:Sem Y}{Q Q':Y->Xg->Prop}(h:Xy M A t Q (λ_ _=>False) s)(hQ:∀a s,Q a s->Q' a s):Xy M A t Q' E s :=
 QQ h hQ λ_ _ z=>z.elim
section
variable {own:List Str}{caps:List Nat}{N':List Str}{elt:YJ}{ifs:List YJ}{wi:TI}{g:TG}{tt:TT}
theorem Zrt{p':List (YG×Obj)}{O O':St}{fp:List YG}{cells:List (Str×YG)}(I:Inv X pins O H s)(f:∀b∈fp,Zkw X pins H b)
  (I':Inv (Wx X N' sc C cells s H fp) p' O' H' s') (hs:JP C s'.heap h'):Inv X pins O H' { s' with heap:=h' }:=by
 have hC:s.heap.objs.size<=C:=I'.ok.above;have B:=I'.base;have ne:∀b o,s.heap.get? b=YB o->b≠C:=λb o e=>Xn (X8 (Xz e) hC);obtain⟨m,⟨oC,_,_,hoC,_⟩,_⟩:=I'.loc;refine I.call' (ch:=fp) (s':={ s' with heap:=h' }) I'.os ⟨λb o e n hb hx=>?_,λb o e n hb hx=>?_,B.free,λb o e hx=>?_,B.tups,B.frzs,B.tbls⟩ (λb ob e=>?_) I'.bare λb hb=>?_
 .exact(hs.2 b (ne b o e)).trans (B.keep b o e n hb hx)
 .obtain⟨sl,q⟩:=B.slot b o e n hb hx
  exact⟨sl,(hs.2 b (ne b o e)).trans q⟩
 .obtain⟨o',q⟩:=B.there b o e hx
  exact⟨o',(hs.2 b (ne b o e)).trans q⟩
 .have hfree:H' C=YC:=I'.free
  refine(I'.hok b ob e).stay (λc w' hc q=>(hs.2 c ?_).trans q) (λ_ q=>q) λ_ _ q=>q;rintro rfl;rcases hc with rfl|hc
  .rw[hfree]at e;cases e
  .rw[hfree]at hc;cases hc
 .obtain⟨_,f1,_,f3,f4,f5⟩:=f b hb
  exact⟨f3,f1,f4,f5⟩
theorem Zkd{Qf:Result->Xg->Prop}(S:CompScope X own caps N' sc)(hc:X.calm=YD)
  (hg:∀C cells s₂ H₂ fp,PG (Wx X N' sc C cells s₂ H₂ fp) tg g) (ht:∀C cells s₂ H₂ fp,Z7h (Wx X N' sc C cells s₂ H₂ fp) ifs tt) (he:∀C cells s₂ H₂ fp,PE (Wx X N' sc C cells s₂ H₂ fp) elt te)
   {O:St}   {fp:List YG} {it:YG} {tn:Nat->YH->Prop} {J:It} {Q:Hp->Prop} (I:Inv X pins O H s) (T:Turn X.prog X.w X.K tg J fp it tn) (st:tn 0 s.heap) (f:∀b∈fp,Zkw X pins H b)
  (h:Z8p J g tt te (Za9 own caps O) s.heap.objs.size Q H)
  (fin:∀s' O' H' p' C cells,Inv (Wx X N' sc C cells s H fp) p' O' H' s'->C=s.heap.objs.size+1->Q H'->Qf (.ok .next) s') :
  Xy (X4 X.prog X.w) X.A (newFunctionEnv sc X.env.globals (Zjo X.env sc.names []) [] X.env.qual YC .none (YB X.env)) (λcenv s₄=>
   cenv.locals=s.heap.objs.size+1/\codeAny (X4 X.prog X.w) X.A (.compStart (.ListComp elt [⟨tg,iter,ifs,0⟩] sc pos) 0 (.ref it) (.ref s.heap.objs.size) { cenv with scope:=relabel sc X.env }) Qf s₄) X.xe
    { s with heap:=s.heap.push { cls:=.type "list",data:=.seq #[] } }:=by
 have hf:∀y∈sc.names,y.2= .free->∃c,X.env.cells.lookup y.1=YB c:=λy hy e=>by
  obtain⟨n,k⟩:=y;have e':k= .free:=e;subst e';exact I.ok.has n (S.fr hy)
 have hcl:∀n c,(n,c)∈Zjo X.env sc.names []->(n,JD)∈sc.names/\X.env.cells.lookup n=YB c:=λn c m=>(Zmb sc.names [] hf n c m).elim (!12) id;have hap:=Zf9 I.ok.inj sc.names [] hf S.nn (λ_ z=>nomatch z) (λ_ z=>nomatch z) .nil;have I0:=Zs3 (cl:=Zjo X.env sc.names []) S I f (λb hb=>let⟨o,e,_⟩:=T.obj _ _ st b hb;⟨o,e⟩) hcl (λn m=>Zk4 sc.names [] n m) hap;refine Zjx ?_;rw[show({ s with heap:=s.heap.push { cls:=.type "list",data:=.seq #[] } }:Xg).heap.objs.size=s.heap.objs.size+1 from QC ..];refine⟨rfl,?_⟩;dsimp only;generalize hs0:({ s with heap:=Vw ((s.heap.push { cls:=.type "list",data:=.seq #[] }).push { cls:=.type "dict",data:=.dict #[] }) sc.names }:Xg)=s0 at I0|-
 have st0:tn 0 s0.heap:=T.keep _ _ _ st λb hb o e=>by
  rw[<-hs0];exact pushCells_keeps _ _ _ _ (Xe _ (Xe _ e))
 generalize hcells:BV (s.heap.objs.size+1+1) sc.names (Zjo X.env sc.names [])=cells at I0|-
 -- the loop
 obtain⟨W,⟨m0,w0⟩,turn⟩:=h;have loop:codeAny (X4 X.prog X.w) X.A (.compLoop (.ListComp elt [⟨tg,iter,ifs,0⟩] sc pos) 0 (.ref it) (.ref s.heap.objs.size) (Wx X N' sc (s.heap.objs.size+1) cells s H fp).env) Qf s0:=by
  generalize hX':Wx X N' sc (s.heap.objs.size+1) cells s H fp=X' at I0|-
  have hg':=hg (s.heap.objs.size+1) cells s H fp;have ht':=ht (s.heap.objs.size+1) cells s H fp;have he':=he (s.heap.objs.size+1) cells s H fp;have fin':=λs' O' H' p' (z:Inv (Wx X N' sc (s.heap.objs.size+1) cells s H fp) p' O' H' s')=>fin s' O' H' p' _ _ z rfl;rw[hX']at hg' ht' he' fin';have hxe:X'.xe= λ_ _=>False:=by rw[<-hX'];rfl
  have hpr:X'.prog=X.prog:=by rw[<-hX'];rfl
  have hw:X'.w=X.w:=by rw[<-hX'];rfl
  have hK:X'.K=X.K:=by rw[<-hX'];rfl
  have hA:X'.A=X.A:=by rw[<-hX'];rfl
  have hcm:X'.calm=YD:=by rw[<-hX'];exact hc
  have hex:X'.ex=fp:=by rw[<-hX'];rfl
  have hpn:X'.pn=[]:=by rw[<-hX'];rfl
  have stat:∀{H':Hp},(∀b∈fp,H' b=YC)->∀b∈fp,Zkw X' [] H' b:=λhn b hb=>by
   have e1:=I0.ok.exf b (by rw[hex];exact hb);have e2:=I0.ok.exfs b (by rw[hex];exact hb);exact⟨hn b hb,e1.1,e2,.inl (by rw[hex];exact hb),e1.2,λp hp=>by rw[hpn]at hp;exact nomatch hp⟩
  have frD:∀b∈fp,(upd H s.heap.objs.size (.lst [])) b=YC:=λb hb=>by
   obtain⟨o,e,_⟩:=T.obj _ _ st b hb;rw[Zz (Xn (Xz e))];exact(f b hb).1
  have T':Turn X'.prog X'.w X'.K tg J fp it tn:=by rw[hpr,hw,hK];exact T
  rw[<-hpr,<-hw,<-hA];refine Znv (λn s'=>∃i O' H',Inv X' [] O' H' s'/\tn i s'.heap/\(∀b∈fp,H' b=YC)/\W i n O' H') ?_ m0 ⟨0,_,_,I0,st0,frD,w0⟩;rintro n s3 ⟨i,O3,H3,I3,st3,fr3,w3⟩;rcases turn i n O3 H3 w3 with⟨stop,qn⟩|⟨go,step⟩
  .refine Z7l (T'.done X' rfl rfl rfl hcm i [] s3 O3 H3 _ I3 (stat fr3) st3 stop) λr s4 qz9=>?_
   obtain⟨hr,I4⟩:=qz9;subst hr;exact fin' s4 O3 H3 [] I4 qn
  .refine Z7l (T'.item X' rfl rfl rfl hcm i [] s3 O3 H3 _ I3 (stat fr3) st3 go) λr s4 qz9=>?_
   obtain⟨u,hr,h4⟩:=qz9;subst hr;refine Z7l h4 λ_ s5 qz9=>?_;obtain⟨x,H5,I5,r5,y5,st5,fr5⟩:=qz9;have I5':=I5.pinned (stat fr5) (T.obj _ _ st5);have hgg:=hg' _ s5 O3 H5 x u _ I5' r5 (step x H5 y5);rw[hxe]at hgg;refine Z7l hgg λ_ s6 qz9=>?_;obtain⟨O6,H6,I6,q6⟩:=qz9;have htt:=ht' _ s6 O6 H6 _ I6 q6;rw[hxe]at htt;refine Z7l htt λok s7 qz9=>?_;obtain⟨H7,I7,q7⟩:=qz9;have again:∀{O7:St} {H7:Hp} {s7:Xg} {m:Nat},Inv X' ([]++Znd fp s5.heap) O7 H7 s7->W (i+1) m O7 H7->m<n->∃m,m<n/\∃i O' H',Inv X' [] O' H' s7/\tn i s7.heap/\(∀b∈fp,H' b=YC)/\W i m O' H':=fun{O7 H7 s7 m} I7 w7 hm=>by
    refine⟨m,hm,i+1,O7,H7,I7.unpinned,T.keep _ _ _ st5 λb hb o e=>(I7.pin (b,o) (Qi _ (Qi _ (Zd4 hb e)))).1,λb hb=>?_,w7⟩;obtain⟨o,e,d⟩:=T.obj _ _ st5 b hb;exact(I7.pin (b,o) (Qi _ (Qi _ (Zd4 hb e)))).2.1
   cases ok with
   | false=>
    obtain⟨m',hm,w7⟩:=q7;rw[YQ XJ];exact again I7 w7 hm
   | true=>
    rw[YM rfl];have hee:=he' _ s7 O6 H7 _ I7 q7;rw[hxe]at hee;refine Z7l hee λy s8 qz9=>?_;obtain⟨vy,H8,I8,r8,ys,hD,hlen,m',hm,w8⟩:=qz9;have hap:=Zmv (X:=X') _ s8 O6 H8 (.ref s.heap.objs.size) [vy] (.ref s.heap.objs.size) [y] (λ_ H'=>W (i+1) m' O6 H') I8 rfl (.cons r8 .nil) ⟨_,ys,vy,rfl,rfl,hD,hlen,w8⟩;rw[hxe]at hap;refine Z7l hap λz s9 qz9=>?_;obtain⟨_,H9,I9,_,w9⟩:=qz9;exact again I9 w9 hm
 exact codeAny_compStart_list loop (T.self _ 0 _ _ _ st0 loop)
theorem Z60(S:CompScope X own caps N' sc)(hc:X.calm=YD)(hi:PI X tg iter wi)
  (hg:∀C cells s₂ H₂ fp,PG (Wx X N' sc C cells s₂ H₂ fp) tg g) (ht:∀C cells s₂ H₂ fp,Z7h (Wx X N' sc C cells s₂ H₂ fp) ifs tt) (he:∀C cells s₂ H₂ fp,PE (Wx X N' sc C cells s₂ H₂ fp) elt te)
  (hs:∀x,Vl iter X.env x=pure x:=by intro _;rfl):PE X (.ListComp elt [⟨tg,iter,ifs,0⟩] sc pos) (Z44 own caps wi g tt te):=by
 intro pins s O H Q I h;rw[eval_ListComp];have hf:∀y∈sc.names,y.2= .free->∃c,X.env.cells.lookup y.1=YB c:=λy hy e=>by
  obtain⟨n,k⟩:=y;have e':k= .free:=e;subst e';exact I.ok.has n (S.fr hy)
 refine wpAny_comprehension_free (use:=YC) rfl hs (Zeg hf) S.kind (λy hy e=>by obtain⟨n,k⟩:=y;have e':k= .local:=e;subst e';exact S.lk hy) ?_;refine thn (hi pins s O H _ I h) λv s1 h1=>thn h1 λitv s2 h2=>?_;obtain⟨it,fp,tn,J,H2,e,I2,T,st2,f2,q⟩:=h2;subst e;refine QG ?_;refine thn (Zkd (iter:=iter) (pos:=pos) (Qf:=compPost (X4 X.prog X.w) X.A X.xe YC (EP X pins O Q) (.ref s2.heap.objs.size) (s2.heap.objs.size+1)) S hc hg ht he I2 T st2 f2 (q s2.heap.objs.size I2.fresh) ?_) λcenv s4 ⟨hl,hr⟩=>?_
 .intro s' O' H' p' C cells I' eC q'
  subst eC;obtain⟨m,hn,_⟩:=id I'.loc;exact⟨m,hn,λh' hs'=>⟨.ref s2.heap.objs.size,H',Zrt I2 f2 I' hs',rfl,q'⟩⟩
 .rw[<-hl]at hr
  exact hr
end
section
variable {own:List Str}{caps:List Nat}{N':List Str}{elt:YJ}{ifs:List YJ}{wi:TI}{g:TG}{tt:TT}
theorem Zsz{y:Str}{spos:Pos}(hN:X.N.Nodup)(hy:X.N[i]? =YB y)(hx:Loc X.env.scope y)(S:CompScope X own caps N' sc)(hc:X.calm=YD)(hi:PI X tg iter wi)
  (hg:∀C cells s₂ H₂ fp,PG (Wx X N' sc C cells s₂ H₂ fp) tg g) (ht:∀C cells s₂ H₂ fp,Z7h (Wx X N' sc C cells s₂ H₂ fp) ifs tt) (he:∀C cells s₂ H₂ fp,PE (Wx X N' sc C cells s₂ H₂ fp) elt te)
  (hsw:Vv (.ListComp elt [⟨tg,iter,ifs,0⟩] sc pos) (YB (.Name y py)) spos.line X.env=pure YD:=by rfl)
  (hs:∀x,Vl iter X.env x=pure x:=by intro _;rfl) (hf:X.fn y=YD\/X.env.scope.names.lookup y=YB .local:=by first|exact .inl rfl|exact .inr rfl|assumption) :
  PS X (.Assign [.Name y py] (.ListComp elt [⟨tg,iter,ifs,0⟩] sc pos) spos) (Z8v (Z44 own caps wi g tt te) (Zsk i)):=by
 intro pins s O H D I h;have hfr:∀y∈sc.names,y.2= .free->∃c,X.env.cells.lookup y.1=YB c:=λy hy e=>by
  obtain⟨n,k⟩:=y;have e':k= .free:=e;subst e';exact I.ok.has n (S.fr hy)
 rw[exec_Assign_Name_used _ _ _ _ hsw];refine Xb (wpAny_standAt (Xb ?_));show Xy _ X.A (do let _<-comprehension (.ListComp elt [⟨tg,iter,ifs,0⟩] sc pos) sc X.env _ (newList []) YF (eval iter X.env) (YB (assign (.Name y py) X.env))) _ _ s;refine Xb (QQ (wpAny_comprehension_free (use:=YB (assign (.Name y py) X.env)) (Q:=λ_ s'=>SP X pins D .next s') rfl hs (Zeg hfr) S.kind (λy hy e=>by obtain⟨n,k⟩:=y;have e':k= .local:=e;subst e';exact S.lk hy) ?_) (λ_ s' hq=>Xj (Xj hq)) λ_ _ e=>e);refine thn (hi pins s O H _ I h) λv s1 h1=>thn h1 λitv s2 h2=>?_;obtain⟨it,fp,tn,J,H2,e,I2,T,st2,f2,q⟩:=h2;subst e;refine QG ?_;refine thn (Zkd (iter:=iter) (pos:=pos) (Qf:=compPost (X4 X.prog X.w) X.A X.xe (YB (assign (.Name y py) X.env)) (λ_ s'=>SP X pins D .next s') (.ref s2.heap.objs.size) (s2.heap.objs.size+1)) S hc hg ht he I2 T st2 f2 (q s2.heap.objs.size I2.fresh) ?_) λcenv s4 ⟨hl,hr⟩=>?_
 .intro s' O' H' p' C cells I' eC q'
  subst eC;obtain⟨m,hn,_⟩:=id I'.loc;have I3:Inv X pins O H' s':=Zrt I2 f2 I' (.refl ..);show Xy _ X.A (assign (.Name y py) X.env (.ref s2.heap.objs.size)) _ _ s';refine wpAny_assign_Name (Zom (v:=.ref s2.heap.objs.size) I3 hN hy hx rfl (λs5 I5 hsb=>?_) hf);have hC:s2.heap.objs.size<s2.heap.objs.size+1:=Qx _;have ltL:X.env.locals<s2.heap.objs.size:=I2.lt;have ltC:∀x c,X.env.cells.lookup x=YB c->c<s2.heap.objs.size:=λx c e=>by
   obtain⟨w',z⟩:=I2.cell x c e;exact z.lt
  refine⟨m,?_,λh' hs'=>⟨O.set i (YB (.ref s2.heap.objs.size)),H',?_,q'⟩⟩
  .obtain⟨a,hsa,ha⟩:=hsb
   refine hn.sameBut hsa ?_;rcases ha with ha|ha
   .rw[ha];exact XX (Vy ltL hC)
   .exact XX (Vy (ltC _ _ ha) hC)
  .refine I5.turned (t':=s5.toks) (it:=s2.heap.objs.size+1) (λb o hb e=>(hs'.2 b hb).trans e) I'.free (XX (Vy ltL hC)) (.inr (XD I2.sz (U6 hC))) (λx c e=>Xn (Vy (ltC x c e) hC)) λp hp=>?_
   obtain⟨e,_⟩:=I2.pin p hp;exact Xn (Vy (Xz e) hC)
 .rw[<-hl]at hr
  exact hr
end
section
variable (n:Nat)(D:YG)(Pv:Nat->List V->St->Hp->Prop)
variable {n D Pv}
end
mutual
inductive Is(H:Hp)(L:YG->Prop):V->Xa->Prop where
 | non:Is H L .non .none
 | bl (b:Bool):Is H L (.bl b) (.bool b)
 | int (i:Int):Is H L (.int i) (.int i)
 | str (x:Str):Is H L (.str x) (.str x)
 | lst {a:YG} {xs:List V} {ds:List Xa}:L a->H a=YB (.lst xs)->IsAll H L xs ds->Is H L (.ref a) (.list ds)
 | tup {a:YG} {xs:List V} {ds:List Xa}:H a=YB (.tup xs)->IsAll H L xs ds->Is H L (.ref a) (.tuple ds)
inductive IsAll(H:Hp)(L:YG->Prop):List V->List Xa->Prop where
 | nil:IsAll H L [] []
 | cons {x:V} {xs:List V} {d:Xa} {ds:List Xa}:Is H L x d->IsAll H L xs ds->IsAll H L (x::xs) (d::ds)
end
section
variable {L L':YG->Prop}
def IsAll.ind{Q:List V->List Xa->Prop}(n:Q [] [])(c:∀{x:V} {xs:List V} {d:Xa} {ds:List Xa},Is H L x d->IsAll H L xs ds->Q xs ds->Q (x::xs) (d::ds)):∀{xs ds},IsAll H L xs ds->Q xs ds:=λh=>
 IsAll.rec (motive_1:=λ_ _ _=>True) (motive_2:=λxs ds _=>Q xs ds) trivial (λ_=>trivial) (λ_=>trivial) (λ_=>trivial) (λ_ _ _ _=>trivial) (λ_ _ _=>trivial) n (λp q _ r=>c p q r) h
theorem IsAll.length{ds:List Xa}(h:IsAll H L xs ds):xs.length=ds.length:=IsAll.ind (Q:=λxs ds=>xs.length=ds.length) rfl (λ_ _ r=>YW (·+1) r) h
theorem IsAll.set{xs:List V}{ds:List Xa}{x:V}{d:Xa}(i:Nat)(h:IsAll H L xs ds)(k:Is H L x d):IsAll H L (xs.set i x) (ds.set i d) :=
 IsAll.ind (Q:=λxs ds=>∀i,IsAll H L (xs.set i x) (ds.set i d)) (λ_=>.nil) (λh q r i=>Nat.casesOn i (.cons k q) λi=>.cons h (r i)) h i
end
section
variable {O:St}{L L':YG->Prop}
end
abbrev Shp(d:Xa):Prop:=Va d=YD
mutual
def J9:Xa->Bool
 | .none=>YD
 | .int _=>YD
 | .str _=>YD
 | .list ds=>Ze2 ds
 | .tuple ds=>Ze2 ds
 | _=>YF
def Ze2:List Xa->Bool
 | []=>YD
 | d::ds=>J9 d&&Ze2 ds
end
mutual
theorem Zqg:∀(d e:Xa),J9 d=YD->J9 e=YD->(JT d e=YD↔d=e)
 | .none,e,_,he=>by cases e<;>simp_all [JT,J9]
 | .int i,e,_,he=>by cases e<;>simp_all [JT,J9]
 | .str i,e,_,he=>by cases e<;>simp_all [JT,J9]
 | .list ds,e,hd,he=>by
  cases e with
  | list es=>
   rw[J9]at hd he;rw[JT,V9.injEq];exact Zgb ds es hd he
  | _=>simp_all [JT,J9]
 | .tuple ds,e,hd,he=>by
  cases e with
  | tuple es=>
   rw[J9]at hd he;rw[JT,Q5.injEq];exact Zgb ds es hd he
  | _=>simp_all [JT,J9]
 | .bool b,e,hd,_=>by simp[J9]at hd
 | .dict b,e,hd,_=>by simp[J9]at hd
theorem Zgb:∀(ds es:List Xa),Ze2 ds=YD->Ze2 es=YD->(PyData.eqvAll ds es=YD↔ds=es)
 | [],[],_,_=>by simp[PyData.eqvAll]
 | [],_::_,_,_=>by simp[PyData.eqvAll]
 | _::_,[],_,_=>by simp[PyData.eqvAll]
 | d::ds,e::es,hd,he=>by
  rw[Ze2,XR]at hd he;rw[PyData.eqvAll,XR,Zqg d e hd.1 he.1,Zgb ds es hd.2 he.2,List.cons.injEq]
end
theorem Ybh{d e:Xa}(h:J9 d=YD)(k:J9 e=YD)(q:d=e):JT d e=YD:=(Zqg d e h k).mpr q
def fr(a b:Int):Xa:=.tuple [.int a,.int b]
def Yaz{a b c d:Int}:fr a b=fr c d↔a=c/\b=d:=by
 unfold fr;simp
def Zls{t b:Int}(hb:b≠0):0<(Vp t b:Int):=by
 have:=Int.gcd_pos_of_ne_zero_right t hb;omega
def Zit{t g:Int}(hg:0<g):t.fdiv g=t/g:=Int.fdiv_eq_ediv_of_nonneg t (!0)
def Zdo{t g:Int}(hg:0<g)(h:g∣t):t.fdiv (-g)= -(t/g):=by
 obtain⟨k,rfl⟩:=h;rw[Int.mul_ediv_cancel_left _ (!0)];have e:g*k=(-k)*(-g):=by rw[Int.neg_mul_neg,Int.mul_comm]
 rw[e,Int.mul_fdiv_cancel _ (!0)]
def shr(t b:Int):Int:=if b<0 then -(Vp t b:Int)else(Vp t b:Int)
def Z6f{t b:Int}(hb:b≠0):t.fdiv (shr t b)=(Qw t b).num:=by
 have hg:=Zls (t:=t) hb;have hd:(Vp t b:Int)∣t:=Int.gcd_dvd_left ..;rw[Rat.num_divInt,Int.gcd_comm b t];unfold shr
 by_cases h:b<0
 .rw[YM h,Zdo hg hd,Int.sign_eq_neg_one_of_neg h,Int.neg_one_mul,Int.neg_ediv_of_dvd hd]
 .rw[YQ h,Zit hg,Int.sign_eq_one_of_pos (!0),Int.one_mul]
def Z8l{t b:Int}(hb:b≠0):b.fdiv (shr t b)=((Qw t b).den:Int):=by
 have hg:=Zls (t:=t) hb;have hd:(Vp t b:Int)∣b:=Int.gcd_dvd_right ..;rw[Rat.den_divInt,YQ hb,Int.gcd_comm b t];unfold shr
 by_cases h:b<0
 .have e:(b.natAbs:Int)= -b:=by omega
  rw[YM h,Zdo hg hd,Int.natCast_ediv,e,Int.neg_ediv_of_dvd hd]
 .have e:(b.natAbs:Int)=b:=by omega
  rw[YQ h,Zit hg,Int.natCast_ediv,e]
def Z2x{t b:Int}(hb:b≠0):shr t b≠0:=by
 have hg:=Zls (t:=t) hb;unfold shr;split<;>omega
def Z2c{n:Nat}{t b:Int}(hb:b≠0)(h:Bt n b):Bt n (shr t b):=by
 have h1:Bt n (Vp t b:Int):=by
  refine Bt.of_le h ?_;have:=Int.gcd_le_natAbs_right t hb;omega
 unfold shr;split
 .exact h1.neg
 .exact h1
def Z1y(q:Rat):(0:Int)<(q.den:Int):=by
 have:=q.den_pos;omega
def frD(q:Rat):Xa:=fr q.num (q.den:Int)
def Zp6{q r:Rat}:frD q=frD r↔q=r:=by
 unfold frD;rw[Yaz];constructor
 .rintro⟨h1,h2⟩
  exact Rat.ext h1 (!0)
 .rintro rfl
  exact⟨rfl,rfl⟩
def BQ(n:Nat)(q:Rat):Prop:=Bt n q.num/\Bt n (q.den:Int)
def BQ.mono{m n:Nat}{q:Rat}(h:BQ m q)(k:m<=n):BQ n q:=⟨h.1.mono k,h.2.mono k⟩
theorem BQ.zero:BQ 1 0:=⟨by unfold Bt;decide,by unfold Bt;decide⟩
section
variable {a o:YJ}
def Zll(hK:X.K=K):IxR X (rIx K):=hK▸Yah
def Zzs(hK:X.K=K):SlR X (Ym7 K):=hK▸Z6o
def Ylc(K:Xc):List V->Hp->VK->Prop:=λxs H Q=>∃p ys,xs=[.ref p]/\(SqL K H p ys\/SqT K H p ys)/\Q (.int ys.length) H
def Ziz(hK:X.K=K):Zbe X (.builtin "len") (Ylc K):=by subst hK;exact Znm
def Zve(K:Xc):List V->Hp->VK->Prop:=λxs H Q=>∃p ys,xs=[.ref p]/\(SqL K H p ys\/SqT K H p ys)/\∀l,H l=YC->Q (.ref l) (upd H l (.lst ys))
def Ztg(hK:X.K=K):Zbe X (.type "list") (Zve K):=by subst hK;exact Zny
def Z3u(K:Xc):List V->Hp->VK->Prop:=λxs H Q=>∃p ys,xs=[.ref p]/\((SqL K H p ys/\∀l,H l=YC->Q (.ref l) (upd H l (.tup ys)))\/(SqT K H p ys/\Q (.ref p) H))
def Zi1(hK:X.K=K):Zbe X (.type "tuple") (Z3u K):=by subst hK;exact Zk3
def Yo7(K:Xc)(ta:TE):TT:=λO H Q=>ta O H λx H'=>∃k,Yin K x H' k/\Q k H'
def Z4b(hK:X.K=K)(ha:PE X a ta)(he:∀whole,isTrue a X.env whole=(do let v<-whole;standAt a.pos;holding [v] (truthy v))):PT X a (Yo7 K ta):=by subst hK;exact Z0a ha he
def Z1r{l:YJ}(hK:X.K=K)(hl:PE X l tl):PI X tg l (Z9h K tl):=by subst hK;exact Z38 hl
end
theorem Z9{p:YG}(h:H p=YC)(o:HO):Same H (upd H p o):=λb u q=>by rw[Zz (Y6 q h)];exact q
def But(p:YG)(H H':Hp):Prop:=∀b o,b≠p->H b=YB o->H' b=YB o
theorem But.refl(p:YG)(H:Hp):But p H H:=λ_ _ _ h=>h
theorem But.trans{p:YG}(a:But p H H1)(b:But p H1 H2):But p H H2:=λc o n e=>b c o n (a c o n e)
theorem But.upd(p:YG)(H:Hp)(o:HO):But p H (upd H p o):=λb u n e=>by rw[Zz n];exact e
def Pl(H:Hp)(p:YG)(n:Nat):Prop:=∃a b c:Int,H p=YB (.lst [.int a,.int b,.int c])/\0<=c/\c<=n
def Pl.mono{p:YG}{m n:Nat}(h:Pl H p m)(k:m<=n):Pl H p n:=by
 obtain⟨a,b,c,e,h1,h2⟩:=h;exact⟨a,b,c,e,h1,by omega⟩
theorem Pl.at{H:Hp}{p:YG}{n:Nat}(h:Pl H p n):∃xs,H p=YB (.lst xs):=by
 obtain⟨a,b,c,e,h1,h2⟩:=h;exact⟨_,e⟩
namespace B
def boot_abs:Qd "abs"=YB (.builtin "abs"):=by decide +kernel
def boot_len:Qd "len"=YB (.builtin "len"):=by decide +kernel
def boot_max:Qd "max"=YB (.builtin "max"):=by decide +kernel
def boot_min:Qd "min"=YB (.builtin "min"):=by decide +kernel
def boot_isinstance:Qd "isinstance"=YB (.builtin "isinstance"):=by decide +kernel
def boot_sorted:Qd "sorted"=YB (.builtin "sorted"):=by decide +kernel
def boot_int:Qd "int"=YB (.type "int"):=by decide +kernel
def boot_bool:Qd "bool"=YB (.type "bool"):=by decide +kernel
def boot_str:Qd "str"=YB (.type "str"):=by decide +kernel
def boot_list:Qd "list"=YB (.type "list"):=by decide +kernel
def boot_tuple:Qd "tuple"=YB (.type "tuple"):=by decide +kernel
def boot_range:Qd "range"=YB (.type "range"):=by decide +kernel
def boot_zip:Qd "zip"=YB (.type "zip"):=by decide +kernel
def boot_set:Qd "set"=YB (.type "set"):=by decide +kernel
end B
def Zfs{a b:Int}(hb:0<b):a.fmod b=a%b:=Int.fmod_eq_emod_of_nonneg a (!0)
def Z1e{x y:Int}(hx:0<=x)(hy:0<y):Vp y (x.fmod y)=Vp x y:=by
 rw[Zfs hy,Int.gcd_comm x y];have e:=Int.emod_add_mul_ediv x y
 conv=>rhs;rw[<-e]
 rw[Int.gcd_add_mul_left_right]
def Ydq:(2:Nat)<=Xp:=by decide
theorem BQ.n{n:Nat}{q:Rat}(h:BQ n q):Bt n q.num:=h.1
theorem BQ.d{n:Nat}{q:Rat}(h:BQ n q):Bt n (q.den:Int):=h.2
variable {G:Xc}
def KS(G:Xc)(a:YG)(ns:List Int):Prop:=∃(o:Obj) (its:Array Xd) (n:Nat),G.lookup a=YB o/\o.cls= .type "list"/\o.dict=YC/\o.data= .seq its n/\its.size<=Xp/\Vals (ns.map V.int) its.toList
def KS.sq{G:Xc}(h:KS G a ns):SqL G H a (ns.map V.int):=.inr h
def exD(x:Str):Xa:=.dict [(.str x,.none)]
def fnD(x:Str):Xa:=.dict [(.str x,.bool YD)]
def Zhm:Xa->Bool| .dict ((_,.bool _)::_)=>YD|_=>YF
def ClsAt(G:Xc)(x:Str)(C:YG):Prop:=Qh G XN x=YB (YB (.ref C))
structure Zdr(G:Xc)(C:YG):Prop where
 ga:VB G (.ref C) "__getattribute__"=YB (YB (.builtin "BaseException.__getattribute__"))
 gt:VB G (.ref C) "__getattr__"=YB YC
 cl:VB G (.ref C) "__class__"=YB (YB (.builtin "object.__class__"))
 isB:VN G (.ref C) (.type "BaseException")=YB YD
 isO:VN G (.ref C) (.type "object")=YB YD
 isC:(PySem.W.clsIn G C).isSome=YD
 k1:QB G (.ref C) (.type "int")=YB YF
 k2:QB G (.ref C) (.type "bool")=YB YF
 k3:QB G (.ref C) (.type "str")=YB YF
 k4:QB G (.ref C) (.type "list")=YB YF
 k5:QB G (.ref C) (.type "tuple")=YB YF
def ExO(C a:YG)(h:YH):Prop:=∃o vs,h.get? a=YB o/\o.cls= .ref C/\o.data= .fields vs
inductive ImO where
 | tup (xs:List V)
 | ext (φ:YH->Prop)
def ImO.ho:ImO->HO
 | .tup xs=>.tup xs
 | .ext φ=>.ext φ
inductive MuO where
 | lst (xs:List V)
 | dK (kvs:List (Key×V))
 | dT (kvs:List (List Key×V))
def MuO.ho:MuO->HO
 | .lst xs=>.lst xs
 | .dK kvs=>.dK kvs
 | .dT kvs=>.dT kvs
def Z8s:Key->Xa
 | .inl i=>.int i
 | .inr x=>.str x
def keyT(ks:List Key):Xa:=.tuple (ks.map Z8s)
abbrev KY:=Sum Key (List Key)
def kyD:KY->Xa
 | .inl k=>Z8s k
 | .inr ks=>keyT ks
def MuO.dic(t:Bool)(ks:List KY)(xs:List V):MuO->Prop
 | .lst _=>False
 | .dK kvs=>t=YF/\ks=kvs.map (λp=>.inl p.1)/\xs=kvs.map (·.2)
 | .dT kvs=>t=YD/\ks=kvs.map (λp=>.inr p.1)/\xs=kvs.map (·.2)
def dcD(t:Bool)(ks:List KY)(ds:List Xa):Xa:=.dict ((.none,.bool t)::(ks.map kyD).zip ds)
theorem ImO.nm{H:Hp}{a:YG}{x:ImO}{y:MuO}(h:H a=YB x.ho)(h':H a=YB y.ho):False:=by
 rw[h]at h';cases x<;>cases y<;>cases h'
theorem ImO.nl{x:ImO}(h:H a=YB x.ho)(h':H a=YB (.lst ys)):False:=by
 rw[h]at h';cases x<;>cases h'
mutual
inductive Da(G:Xc)(H:Hp)(L:YG->Prop):V->Xa->Prop where
 | non:Da G H L .non .none
 | bl (b:Bool):Da G H L (.bl b) (.bool b)
 | int (i:Int):Da G H L (.int i) (.int i)
 | str (x:Str):Da G H L (.str x) (.str x)
 | lst {a:YG} {xs:List V} {ds:List Xa}:L a->Rd H a (.lst xs)->Das G H L xs ds->Da G H L (.ref a) (.list ds)
 | tup {a:YG} {xs:List V} {ds:List Xa}:H a=YB (.tup xs)->Das G H L xs ds->Da G H L (.ref a) (.tuple ds)
 | scr {a:YG} {ns:List Int}:KS G a ns->Da G H L (.ref a) (.list (ns.map Xo))
 | exc {a C:YG} {x:Str}:Zdr G C->ClsAt G x C->H a=YB (.ext (ExO C a))->Da G H L (.ref a) (exD x)
 | fn {a:YG} {x:Str}:ClsAt G x a->Da G H L (.ref a) (fnD x)
 | dic {a:YG} {o:MuO} {t:Bool} {ks:List KY} {xs:List V} {ds:List Xa}:L a->Rd H a o.ho->o.dic t ks xs->Das G H L xs ds->Da G H L (.ref a) (dcD t ks ds)
inductive Das(G:Xc)(H:Hp)(L:YG->Prop):List V->List Xa->Prop where
 | nil:Das G H L [] []
 | cons {x:V} {xs:List V} {d:Xa} {ds:List Xa}:Da G H L x d->Das G H L xs ds->Das G H L (x::xs) (d::ds)
end
section
variable {L L':YG->Prop}
def Da.both{P:V->Xa->Prop}{Q:List V->List Xa->Prop}(c1:P .non .none)(c2:∀b,P (.bl b) (.bool b))(c3:∀i,P (.int i) (.int i))(c4:∀x,P (.str x) (.str x))
  (c5:∀{a:YG} {xs:List V} {ds:List Xa},L a->Rd H a (.lst xs)->Q xs ds->P (.ref a) (.list ds)) (c6:∀{a:YG} {xs:List V} {ds:List Xa},H a=YB (.tup xs)->Q xs ds->P (.ref a) (.tuple ds))
  (c7:∀{a:YG} {ns:List Int},KS G a ns->P (.ref a) (.list (ns.map Xo))) (c8:∀{a C:YG} {x:Str},Zdr G C->ClsAt G x C->H a=YB (.ext (ExO C a))->P (.ref a) (exD x)) (c9:∀{a:YG} {x:Str},ClsAt G x a->P (.ref a) (fnD x))
  (c10:∀{a:YG} {o:MuO} {t:Bool} {ks:List KY} {xs:List V} {ds:List Xa},L a->Rd H a o.ho->o.dic t ks xs->Q xs ds->P (.ref a) (dcD t ks ds)) (n:Q [] []) (c:∀{x:V} {xs:List V} {d:Xa} {ds:List Xa},P x d->Q xs ds->Q (x::xs) (d::ds)):(∀{v d},Da G H L v d->P v d)/\∀{xs ds},Das G H L xs ds->Q xs ds :=
 ⟨λh=>Da.rec (motive_1:=λv d _=>P v d) (motive_2:=λxs ds _=>Q xs ds) c1 c2 c3 c4 (λp e _ r=>c5 p e r) (λe _ r=>c6 e r) (λk=>c7 k) (λk l m=>c8 k l m) (λk=>c9 k) (λp e k _ r=>c10 p e k r) n (λ_ _ p q=>c p q) h,
   λh=>Das.rec (motive_1:=λv d _=>P v d) (motive_2:=λxs ds _=>Q xs ds) c1 c2 c3 c4 (λp e _ r=>c5 p e r) (λe _ r=>c6 e r) (λk=>c7 k) (λk l m=>c8 k l m) (λk=>c9 k) (λp e k _ r=>c10 p e k r) n (λ_ _ p q=>c p q) h⟩
def Das.ind{Q:List V->List Xa->Prop}(n:Q [] [])(c:∀{x:V} {xs:List V} {d:Xa} {ds:List Xa},Da G H L x d->Das G H L xs ds->Q xs ds->Q (x::xs) (d::ds)):∀{xs ds},Das G H L xs ds->Q xs ds:=λh=>
 Das.rec (motive_1:=λ_ _ _=>True) (motive_2:=λxs ds _=>Q xs ds) trivial (λ_=>trivial) (λ_=>trivial) (λ_=>trivial) (λ_ _ _ _=>trivial) (λ_ _ _=>trivial) (λ_=>trivial) (λ_ _ _=>trivial) (λ_=>trivial) (λ_ _ _ _ _=>trivial) n (λp q _ r=>c p q r) h
def Da.frame2(hl:∀a (xs:MuO),L a->Rd H a xs.ho->L' a/\Rd H' a xs.ho)(ht:∀a (xs:ImO),H a=YB xs.ho->H' a=YB xs.ho):(∀{v:V} {d:Xa},Da G H L v d->Da G H' L' v d)/\∀{xs:List V} {ds:List Xa},Das G H L xs ds->Das G H' L' xs ds :=
 Da.both .non .bl .int .str (fun{_ xs _} p e r=>.lst (hl _ (.lst xs) p e).1 (hl _ (.lst xs) p e).2 r) (fun{_ xs _} e r=>.tup (ht _ (.tup xs) e) r) .scr (λc n e=>.exc c n (ht _ (.ext _) e)) .fn (λp e k r=>.dic (hl _ _ p e).1 (hl _ _ p e).2 k r) .nil .cons
theorem Da.frame(hl:∀a (xs:MuO),L a->Rd H a xs.ho->L' a/\Rd H' a xs.ho)(ht:∀a (xs:ImO),H a=YB xs.ho->H' a=YB xs.ho){v:V}{d:Xa}(h:Da G H L v d):Da G H' L' v d:=(Da.frame2 hl ht).1 h
theorem Das.frame(hl:∀a (xs:MuO),L a->Rd H a xs.ho->L' a/\Rd H' a xs.ho)(ht:∀a (xs:ImO),H a=YB xs.ho->H' a=YB xs.ho){xs:List V}{ds:List Xa}(h:Das G H L xs ds):Das G H' L' xs ds:=(Da.frame2 hl ht).2 h
theorem Rd.same{u:HO}(s:Same H H')(h:Rd H a u):Rd H' a u:=h.imp (s _ _) λ⟨o,h⟩=>⟨o,s _ _ h⟩
theorem Rd.some{a:YG}{u:HO}(h:Rd H a u):H a≠Option.none:=by
 rcases h with h|⟨o,h⟩<;>rw[h]<;>intro z<;>cases z
theorem Da.same(h:Same H H'){d:Xa}(x:Da G H L v d):Da G H' L v d:=x.frame (λa xs p e=>⟨p,e.same h⟩) λa xs e=>h _ _ e
theorem Das.same(h:Same H H'){v:List V}{d:List Xa}(x:Das G H L v d):Das G H' L v d:=x.frame (λa xs p e=>⟨p,e.same h⟩) λa xs e=>h _ _ e
theorem Da.wide(h:∀a,L a->H a≠YC->L' a){d:Xa}(x:Da G H L v d):Da G H L' v d:=x.frame (λa xs p e=>⟨h a p e.some,e⟩) λa xs e=>e
theorem Das.wide(h:∀a,L a->H a≠YC->L' a){v:List V}{d:List Xa}(x:Das G H L v d):Das G H L' v d:=x.frame (λa xs p e=>⟨h a p e.some,e⟩) λa xs e=>e
theorem Das.length{ds:List Xa}(h:Das G H L xs ds):xs.length=ds.length:=Das.ind (Q:=λxs ds=>xs.length=ds.length) rfl (λ_ _ r=>YW (·+1) r) h
def Das.append{ds es:List Xa}(h:Das G H L xs ds)(k:Das G H L ys es):Das G H L (xs++ys) (ds++es):=Das.ind (Q:=λxs ds=>Das G H L (xs++ys) (ds++es)) k (λh _ r=>.cons h r) h
theorem Das.snoc{ds:List Xa}{x:V}{d:Xa}(h:Das G H L xs ds)(k:Da G H L x d):Das G H L (xs++[x]) (ds++[d]):=h.append (.cons k .nil)
theorem Das.get{ds:List Xa}{d:Xa}(h:Das G H L xs ds):ds[i]? =YB d->∃x,xs[i]? =YB x/\Da G H L x d :=
 Das.ind (Q:=λxs ds=>∀i,ds[i]? =YB d->∃x,xs[i]? =YB x/\Da G H L x d) (λ_ e=>(Option.some_ne_none _ (e.symm.trans U4)).elim) (fun{x _ _ _} h _ r i=>Nat.casesOn i (λe=>⟨x,rfl,Qo e▸h⟩) λi e=>r i e) h i
def Das.get'{ds:List Xa}{x:V}(h:Das G H L xs ds):xs[i]? =YB x->∃d,ds[i]? =YB d/\Da G H L x d :=
 Das.ind (Q:=λxs ds=>∀i,xs[i]? =YB x->∃d,ds[i]? =YB d/\Da G H L x d) (λ_ e=>(Option.some_ne_none _ (e.symm.trans U4)).elim) (fun{_ _ d _} h _ r i=>Nat.casesOn i (λe=>⟨d,rfl,Qo e▸h⟩) λi e=>r i e) h i
theorem Das.take{ds:List Xa}(n:Nat)(h:Das G H L xs ds):Das G H L (xs.take n) (ds.take n) :=
 Das.ind (Q:=λxs ds=>∀n,Das G H L (xs.take n) (ds.take n)) (λn=>by rw[List.take_nil,List.take_nil];exact .nil) (λh _ r n=>Nat.casesOn n .nil λn=>.cons h (r n)) h n
theorem Das.drop{xs:List V}{ds:List Xa}(n:Nat)(h:Das G H L xs ds):Das G H L (xs.drop n) (ds.drop n) :=
 Das.ind (Q:=λxs ds=>∀n,Das G H L (xs.drop n) (ds.drop n)) (λn=>by rw[List.drop_nil,List.drop_nil];exact .nil) (λh q r n=>Nat.casesOn n (.cons h q) λn=>r n) h n
def Das.ints(ns:List Int):Das G H L (ns.map V.int) (ns.map Xo):=by
 induction ns with
 | nil=>exact .nil
 | cons n ns ih=>exact .cons (.int n) ih
def Das.int_inv(h:Das G H L xs (ns.map Xo)):xs=ns.map V.int:=by
 induction ns generalizing xs with
 | nil=>cases h;rfl
 | cons n ns ih=>
  rw[XC]at h;cases h with
  | cons h r=>cases h;rw[ih r];rfl
end
def Zs2(ns:List Int)(v:Vals (ns.map V.int) us):∃as,ReadsAll h us (ns.map Xo) as:=by
 induction ns generalizing us with
 | nil=>cases v;exact⟨_,.nil⟩
 | cons n ns ih=>
  rw[XC]at v;cases v with
  | cons r rs=>
   obtain⟨t,e⟩:=(show∃t,_=Uj n t from r);subst e;obtain⟨bs,k'⟩:=ih rs;exact⟨_,.cons (.int n t) k'⟩
section
variable {O:St}{L L':YG->Prop}
def Da.reads2(hG:X.K=G)(I:Inv X pins O H s):(∀{v:V} {d:Xa},Da G H L v d->∀u,RelV v u->d.canLay0=YD->∃as,Reads s.heap u d as)/\∀{xs:List V} {ds:List Xa},Das G H L xs ds->∀us,Vals xs us->Bu ds=YD->∃as,ReadsAll s.heap us ds as:=by
 refine Da.both ?_ ?_ ?_ ?_ ?_ ?_ ?_ ?_ ?_ ?_ ?_ ?_
 .intro u r _
  cases(show _=QF from r);exact⟨_,.none⟩
 .intro b u r _
  cases(show _=Value.bool b from r);exact⟨_,.bool b⟩
 .intro i u r _
  obtain⟨t,e⟩:=(show∃t,_=Uj i t from r);subst e;exact⟨_,.int i t⟩
 .intro x u r _
  obtain⟨t,e⟩:=(show∃t,_=Value.str x t from r);subst e;exact⟨_,.str x t⟩
 .intro a xs ds _ e q u r hcl
  cases(show _=X7 a from r);obtain⟨_,its,n,vs,h1⟩:=(show ObjOk X.prog X.w H s.heap a (.lst xs)from e.ok I.hok);rw[Vc]at hcl;obtain⟨as,k⟩:=q _ vs hcl;exact⟨_,Reads.list h1 rfl rfl k⟩
 .intro a xs ds e q u r hcl
  cases(show _=X7 a from r);obtain⟨_,its,vs,o,ho,hc,n,hd⟩:=(show ObjOk X.prog X.w H s.heap a (.tup xs)from I.hok a _ e);rw[Vc]at hcl;obtain⟨as,k⟩:=q _ vs hcl;exact⟨_,Reads.tuple ho hc hd k⟩
 .intro a ns k u r _
  cases(show _=X7 a from r);subst hG;obtain⟨its,vs,⟨o,n,ho,hc,hd,hs⟩,_⟩:=I.list (k.sq (H:=H));obtain⟨as,q⟩:=Zs2 ns vs;exact⟨_,Reads.list ho hc hs q⟩
 .intro a C x _ _ e u r hc
  rw[exD,Vc]at hc;cases hc
 .intro a x _ u r hc
  rw[fnD,Vc]at hc;cases hc
 .intro a o t ks xs ds _ _ _ _ u r hc
  rw[dcD,Vc]at hc;cases hc
 .intro us v _
  cases v;exact⟨_,.nil⟩
 .intro x xs d ds h q us v hc
  cases v with
  | cons r rs=>
   rw[Bu,XR]at hc;obtain⟨as,k⟩:=h _ r hc.1;obtain⟨bs,k'⟩:=q _ rs hc.2;exact⟨_,.cons k k'⟩
theorem Da.reads(hG:X.K=G)(I:Inv X pins O H s){d:Xa}(h:Da G H L v d)(r:RelV v u)(c:d.canLay0=YD):∃as,Reads s.heap u d as:=(Da.reads2 hG I).1 h u r c
theorem Das.reads(hG:X.K=G)(I:Inv X pins O H s){ds:List Xa}(h:Das G H L xs ds)(r:Vals xs us)(c:Bu ds=YD):∃as,ReadsAll s.heap us ds as:=(Da.reads2 hG I).2 h us r c
end
inductive OT where
 | fz (d:Xa)
 | nd (ts:List OT)
 | tp (ts:List OT)
 | dc (t:Bool) (ks:List KY) (ds:List Xa)
mutual
def OT.data:OT->Xa
 | .fz d=>d
 | .nd ts=>.list (OT.datas ts)
 | .tp ts=>.tuple (OT.datas ts)
 | .dc t ks ds=>dcD t ks ds
def OT.datas:List OT->List Xa
 | []=>[]
 | t::ts=>t.data::OT.datas ts
end
def OT.datas_map:∀(ts:List OT),OT.datas ts=ts.map OT.data
 | []=>rfl
 | t::ts=>by rw[OT.datas,OT.datas_map ts];rfl
@[simp] theorem OT.data_fz(d:Xa):(OT.fz d).data=d:=by rw[OT.data]
@[simp] theorem OT.data_nd(ts:List OT):(OT.nd ts).data= .list (ts.map OT.data):=by rw[OT.data,OT.datas_map]
@[simp] theorem OT.data_tp(ts:List OT):(OT.tp ts).data= .tuple (ts.map OT.data):=by rw[OT.data,OT.datas_map]
theorem OT.data_dc(t:Bool)(ks:List KY)(ds:List Xa):(OT.dc t ks ds).data=dcD t ks ds:=by rw[OT.data]
@[simp] theorem OT.map_fz(ds:List Xa):(ds.map OT.fz).map OT.data=ds:=by
 rw[X6];exact(Qy λd _=>OT.data_fz d).trans (List.map_id _)
mutual
inductive Own(G:Xc)(H:Hp)(L:YG->Prop):V->OT->List YG->Prop where
 | fz {v:V} {d:Xa}:Da G H L v d->Own G H L v (.fz d) []
 | nd {a:YG} {xs:List V} {ts:List OT} {bs:List YG}:H a=YB (.lst xs)->Owns G H L xs ts bs->Own G H L (.ref a) (.nd ts) (a::bs)
 | tp {a:YG} {xs:List V} {ts:List OT} {bs:List YG}:H a=YB (.tup xs)->Owns G H L xs ts bs->Own G H L (.ref a) (.tp ts) bs
 | dc {a:YG} {o:MuO} {t:Bool} {ks:List KY} {xs:List V} {ds:List Xa}:H a=YB o.ho->o.dic t ks xs->Das G H L xs ds->Own G H L (.ref a) (.dc t ks ds) [a]
inductive Owns(G:Xc)(H:Hp)(L:YG->Prop):List V->List OT->List YG->Prop where
 | nil:Owns G H L [] [] []
 | cons {x:V} {xs:List V} {t:OT} {ts:List OT} {as bs:List YG}:Own G H L x t as->Owns G H L xs ts bs->Owns G H L (x::xs) (t::ts) (as++bs)
end
section
variable {L L':YG->Prop}
def Own.both{P:V->OT->List YG->Prop}{Q:List V->List OT->List YG->Prop}(c1:∀{v:V} {d:Xa},Da G H L v d->P v (.fz d) [])(c2:∀{a:YG} {xs:List V} {ts:List OT} {bs:List YG},H a=YB (.lst xs)->Q xs ts bs->P (.ref a) (.nd ts) (a::bs))
  (c3:∀{a:YG} {xs:List V} {ts:List OT} {bs:List YG},H a=YB (.tup xs)->Q xs ts bs->P (.ref a) (.tp ts) bs) (c4:∀{a:YG} {o:MuO} {t:Bool} {ks:List KY} {xs:List V} {ds:List Xa},H a=YB o.ho->o.dic t ks xs->Das G H L xs ds->P (.ref a) (.dc t ks ds) [a]) (n:Q [] [] []) (c:∀{x:V} {xs:List V} {t:OT} {ts:List OT} {as bs:List YG},P x t as->Q xs ts bs->Q (x::xs) (t::ts) (as++bs)) :
  (∀ {v t as},Own G H L v t as->P v t as)/\∀{xs ts as},Owns G H L xs ts as->Q xs ts as :=
 ⟨λh=>Own.rec (motive_1:=λv t as _=>P v t as) (motive_2:=λxs ts as _=>Q xs ts as) c1 (λe _ r=>c2 e r) (λe _ r=>c3 e r) (λe k r=>c4 e k r) n (λ_ _ p q=>c p q) h,
   λh=>Owns.rec (motive_1:=λv t as _=>P v t as) (motive_2:=λxs ts as _=>Q xs ts as) c1 (λe _ r=>c2 e r) (λe _ r=>c3 e r) (λe k r=>c4 e k r) n (λ_ _ p q=>c p q) h⟩
def Own.frame2(hl:∀a (xs:MuO),L a->Rd H a xs.ho->L' a/\Rd H' a xs.ho)(ht:∀a (xs:ImO),H a=YB xs.ho->H' a=YB xs.ho) :
  (∀ {v:V} {t:OT} {as:List YG},Own G H L v t as->(∀a∈as,∀xs:MuO,H a=YB xs.ho->H' a=YB xs.ho)->Own G H' L' v t as)/\∀{xs:List V} {ts:List OT} {as:List YG},Owns G H L xs ts as->(∀a∈as,∀xs:MuO,H a=YB xs.ho->H' a=YB xs.ho)->Owns G H' L' xs ts as :=
 Own.both (λh _=>.fz (h.frame hl ht)) (fun{_ xs _ _} e r ha=>.nd (ha _ (!8) (.lst xs) e) (r λa m=>ha a (.tail _ m))) (fun{_ xs _ _} e r ha=>.tp (ht _ (.tup xs) e) (r ha)) (λe k r ha=>.dc (ha _ (!8) _ e) k (r.frame hl ht)) (λ_=>.nil) (λh r ha=>.cons (h λa m=>ha a (Bp _ m)) (r λa m=>ha a (Qi _ m)))
theorem Own.frame(hl:∀a (xs:MuO),L a->Rd H a xs.ho->L' a/\Rd H' a xs.ho)(ht:∀a (xs:ImO),H a=YB xs.ho->H' a=YB xs.ho){v:V}{t:OT}{as:List YG}(ha:∀a∈as,∀xs:MuO,H a=YB xs.ho->H' a=YB xs.ho)(h:Own G H L v t as):Own G H' L' v t as:=(Own.frame2 hl ht).1 h ha
theorem Owns.frame(hl:∀a (xs:MuO),L a->Rd H a xs.ho->L' a/\Rd H' a xs.ho)(ht:∀a (xs:ImO),H a=YB xs.ho->H' a=YB xs.ho){xs:List V}{ts:List OT}{as:List YG}(ha:∀a∈as,∀xs:MuO,H a=YB xs.ho->H' a=YB xs.ho)(h:Owns G H L xs ts as):Owns G H' L' xs ts as:=(Own.frame2 hl ht).2 h ha
theorem Own.same(h:Same H H'){t:OT}{as:List YG}(x:Own G H L v t as):Own G H' L v t as:=x.frame (λa xs p e=>⟨p,e.same h⟩) (λa xs e=>h _ _ e) λa _ xs e=>h _ _ e
theorem Own.wide(h:∀a,L a->H a≠YC->L' a){t:OT}{as:List YG}(x:Own G H L v t as):Own G H L' v t as:=x.frame (λa xs p e=>⟨h a p e.some,e⟩) (λa xs e=>e) λa _ xs e=>e
theorem Owns.wide(h:∀a,L a->H a≠YC->L' a){v:List V}{t:List OT}{as:List YG}(x:Owns G H L v t as):Owns G H L' v t as:=x.frame (λa xs p e=>⟨h a p e.some,e⟩) (λa xs e=>e) λa _ xs e=>e
theorem Owns.same(h:Same H H'){v:List V}{t:List OT}{as:List YG}(x:Owns G H L v t as):Owns G H' L v t as:=x.frame (λa xs p e=>⟨p,e.same h⟩) (λa xs e=>h _ _ e) λa _ xs e=>h _ _ e
def Own.da2(h:∀a,L a->H a≠YC->L' a):(∀{v:V} {t:OT} {as:List YG},Own G H L v t as->(∀a∈as,L' a)->Da G H L' v t.data)/\∀{v:List V} {t:List OT} {as:List YG},Owns G H L v t as->(∀a∈as,L' a)->Das G H L' v (OT.datas t) :=
 Own.both (λk _=>by rw[OT.data_fz];exact k.wide h) (λe r ha=>by rw[OT.data];exact .lst (ha _ (!8)) (.inl e) (r λa m=>ha a (.tail _ m))) (λe r ha=>by rw[OT.data];exact .tup e (r ha)) (λe k r ha=>by rw[OT.data];exact .dic (ha _ (!8)) (.inl e) k (r.wide h)) (λ_=>.nil) (λk r ha=>.cons (k λa m=>ha a (Bp _ m)) (r λa m=>ha a (Qi _ m)))
theorem Own.da(h:∀a,L a->H a≠YC->L' a){t:OT}{as:List YG}(ha:∀a∈as,L' a)(k:Own G H L v t as):Da G H L' v t.data:=(Own.da2 h).1 k ha
def Owns.das(h:∀a,L a->H a≠YC->L' a){v:List V}{t:List OT}{as:List YG}(ha:∀a∈as,L' a)(k:Owns G H L v t as):Das G H L' v (OT.datas t):=(Own.da2 h).2 k ha
def Own.some2:(∀{v:V} {t:OT} {as:List YG},Own G H L v t as->∀a∈as,∃xs:MuO,H a=YB xs.ho)/\∀{v:List V} {t:List OT} {as:List YG},Owns G H L v t as->∀a∈as,∃xs:MuO,H a=YB xs.ho :=
 Own.both (λ_ _ m=>nomatch m) (fun{_ xs _ _} e r a m=>(Xl.mp m).elim (λq=>⟨.lst xs,q▸e⟩) (r a)) (λ_ r=>r) (fun{_ o _ _ _ _} e _ _ a m=>⟨o,Xm.mp m▸e⟩) (λ_ m=>nomatch m) (λk r a m=>(X3.mp m).elim (k a) (r a))
theorem Own.some{v:V}{t:OT}{as:List YG}(h:Own G H L v t as):∀a∈as,∃xs:MuO,H a=YB xs.ho:=Own.some2.1 h
theorem Owns.some{v:List V}{t:List OT}{as:List YG}(h:Owns G H L v t as):∀a∈as,∃xs:MuO,H a=YB xs.ho:=Own.some2.2 h
theorem Owns.length{ts:List OT}{as:List YG}(h:Owns G H L xs ts as):xs.length=ts.length:=(Own.both (P:=λ_ _ _=>True) (Q:=λxs ts _=>xs.length=ts.length) (λ_=>trivial) (λ_ _=>trivial) (λ_ _=>trivial) (λ_ _ _=>trivial) rfl (λ_ r=>YW (·+1) r)).2 h
def Das.owns{ds:List Xa}(h:Das G H L xs ds):Owns G H L xs (ds.map OT.fz) []:=Das.ind (Q:=λxs ds=>Owns G H L xs (ds.map OT.fz) []) .nil (λh _ r=>.cons (.fz h) r) h
end
variable {G:Xc}
abbrev Zg:=List (Option OT)
abbrev Fp:=Nat->List YG
set_option genInjectivity false in
structure MC(G:Xc) where
 H₀:Hp
 as₀:YG->Prop
 L:YG->Prop
 O₀:St
def Foot(fp:Fp)(a:YG):Prop:=∃i,a∈fp i
def Lf(C:MC G)(fp:Fp)(ex:YG->Prop)(a:YG):Prop:=¬Foot fp a/\¬ex a/\(C.L a\/C.H₀ a=YC)
structure Rel(C:MC G)(io:List Nat)(H:Hp)(O:St)(δ:Zg)(fp:Fp)(ex:YG->Prop):Prop where
 len:O.length=δ.length
 own:∀(i:Nat) (t:OT),δ[i]? =YB (YB t)->∃v,O[i]? =YB (YB v)/\Own G H (Lf C fp ex) v t (fp i)
 emp:∀i:Nat,(∀t,δ[i]? ≠YB (YB t))->fp i=[]
 nd:∀i,(fp i).Nodup
 dj:∀i j a,a∈fp i->a∈fp j->i=j
 dx:∀i a,a∈fp i->¬ex a
 xa:∀a,ex a->H a≠YC
 fr:∀b o,C.H₀ b=YB o->¬C.as₀ b->H b=YB o
 al:∀b,H b=YC->C.H₀ b=YC
 new:∀i a,a∈fp i->(i∈io/\C.as₀ a)\/C.H₀ a=YC
 io:∀i∈io,O[i]? =C.O₀[i]?
structure Stp(p:Bool)(H:Hp)(δ:Zg)(fp:Fp)(H':Hp)(δ':Zg)(fp':Fp):Prop where
 keep:∀b o,H b=YB o->(p=YD\/¬Foot fp b)->H' b=YB o
 env:p=YD->δ'=δ/\fp'=fp
 grow:∀a,Foot fp' a->Foot fp a\/H a=YC
 al:∀b,H' b=YC->H b=YC
variable {L L' ex ex':YG->Prop}{c p p':Bool}{env:Env}{elt:YJ}{fp fp':Fp}{H'':Hp}{J:It}{as:List YG}{ifs:List YJ}{caps io:List Nat}{ts rs:List OT}{own N':List Str}{ds:List Xa}{R:Result->Xg->Prop}{G:Xc}{δ δ':Zg}
section
variable {C:MC G}{O:St}{δ'':Zg}{fp'':Fp}{d:Xa}{r:OT}{new:List YG}
theorem Rel.foot(R:Rel C io H O δ fp ex)(h:Foot fp a):∃xs:MuO,H a=YB xs.ho:=by
 obtain⟨i,h⟩:=h
 by_cases q:∃t,δ[i]? =YB (YB t)
 .obtain⟨t,q⟩:=q
  obtain⟨v,_,o⟩:=R.own i t q;exact o.some a h
 .rw[R.emp i (λt z=>q ⟨t,z⟩)]at h
  exact nomatch h
theorem Rel.footSome(R:Rel C io H O δ fp ex)(h:H a=YC):¬Foot fp a:=λz=>by
 obtain⟨xs,e⟩:=R.foot z;rw[h]at e;cases e
theorem Stp.refl(p:Bool)(H:Hp)(δ:Zg)(fp:Fp):Stp p H δ fp H δ fp:=⟨λ_ _ h _=>h,λ_=>⟨rfl,rfl⟩,λ_ h=>.inl h,λ_ h=>h⟩
theorem Stp.same(h:Same H H')(hn:∀b,H' b=YC->H b=YC):Stp p H δ fp H' δ fp:=⟨λ_ _ q _=>h _ _ q,λ_=>⟨rfl,rfl⟩,λ_ h=>.inl h,hn⟩
theorem Same.al(h:Same H H'):∀b,H' b=YC->H b=YC:=λ_ q=>h.free q
theorem Stp.trans(a:Stp p H δ fp H' δ' fp')(b:Stp p' H' δ' fp' H'' δ'' fp''):Stp (p&&p') H δ fp H'' δ'' fp'' where
 keep:=λx o e h=>by
  rcases h with h|h
  .rw[XR]at h
   exact b.keep x o (a.keep x o e (.inl h.1)) (.inl h.2)
  .refine b.keep x o (a.keep x o e (.inr h)) (.inr λz=>?_)
   rcases a.grow x z with z|z
   .exact h z
   .rw[e]at z;cases z
 env:=λh=>by
  rw[XR]at h;obtain⟨e1,e2⟩:=a.env h.1;obtain⟨e3,e4⟩:=b.env h.2;exact⟨e3.trans e1,e4.trans e2⟩
 grow:=λx h=>by
  rcases b.grow x h with h|h
  .exact a.grow x h
  .exact .inr (a.al x h)
 al:=λx h=>a.al x (b.al x h)
def Rel.frameL(R:Rel C io H O δ fp ex)(S:Stp p H δ fp H' δ' fp')(hc:p=YD\/c=YD)(hx:∀a,ex' a->ex a\/H a=YC) :
  (∀ a (xs:MuO),(c=YD->Lf C fp ex a)->Rd H a xs.ho->(c=YD->Lf C fp' ex' a)/\Rd H' a xs.ho)/\(∀a (xs:ImO),H a=YB xs.ho->H' a=YB xs.ho):=by
 have nf:∀a,Foot fp a->∃xs:MuO,H a=YB xs.ho:=λa h=>R.foot h;refine⟨λa xs l q=>⟨λhc'=>?_,?_⟩,λa xs q=>S.keep a _ q (.inr λz=>?_)⟩
 .obtain⟨l1,l2,l3⟩:=l hc'
  refine⟨λz=>?_,λz=>?_,l3⟩
  .rcases S.grow a z with z|z
   .exact l1 z
   .exact q.some z
  .rcases hx a z with z|z
   .exact l2 z
   .exact q.some z
 .have hk:p=YD\/¬Foot fp a:=by
   rcases hc with h|h
   .exact .inl h
   .exact .inr (l h).1
  rcases q with q|⟨o,q⟩
  .exact .inl (S.keep a _ q hk)
  .exact .inr ⟨o,S.keep a _ q hk⟩
 .obtain⟨ys,e⟩:=nf a z
  exact ImO.nm q e
theorem Rel.own_step(R:Rel C io H O δ fp ex)(S:Stp p H δ fp H' δ' fp')(hc:p=YD\/c=YD)(hx:∀a,ex' a->ex a\/H a=YC)(hn:∀a∈new,ex a)
  (x:Own G H (λa=>c=YD->Lf C fp ex a) v r new):Own G H' (λa=>c=YD->Lf C fp' ex' a) v r new :=
 x.frame (R.frameL S hc hx).1 (R.frameL S hc hx).2 λa m xs e=>S.keep a _ e (.inr λ⟨i,z⟩=>R.dx i a z (hn a m))
theorem Rel.owns_step(R:Rel C io H O δ fp ex)(S:Stp p H δ fp H' δ' fp')(hc:p=YD\/c=YD)(hx:∀a,ex' a->ex a\/H a=YC)(hn:∀a∈new,ex a){vs:List V}
  (x:Owns G H (λa=>c=YD->Lf C fp ex a) vs rs new):Owns G H' (λa=>c=YD->Lf C fp' ex' a) vs rs new :=
 x.frame (R.frameL S hc hx).1 (R.frameL S hc hx).2 λa m xs e=>S.keep a _ e (.inr λ⟨i,z⟩=>R.dx i a z (hn a m))
theorem Rel.drop(R:Rel C io H O δ fp ex)(h:∀a,ex' a->ex a):Rel C io H O δ fp ex' :=
 ⟨R.len,λi t e=>by
  obtain⟨v,e1,o⟩:=R.own i t e;exact⟨v,e1,o.wide λa l _=>⟨l.1,λz=>l.2.1 (h a z),l.2.2⟩⟩,R.emp,R.nd,R.dj,λi a m z=>R.dx i a m (h a z),λa z=>R.xa a (h a z),R.fr,R.al,R.new,R.io⟩
theorem Rel.made(R:Rel C io H O δ fp ex)(s:Same H H')(hn:∀a∈new,H a=YC/\H' a≠YC):Rel C io H' O δ fp (λa=>ex a\/a∈new) :=
 ⟨R.len,λi t e=>by
  obtain⟨v,e1,o⟩:=R.own i t e;refine⟨v,e1,(o.wide λa l q=>⟨l.1,λz=>?_,l.2.2⟩).same s⟩;rcases z with z|z
  .exact l.2.1 z
  .exact q (hn a z).1,R.emp,R.nd,R.dj,λi a m z=>by
   rcases z with z|z
   .exact R.dx i a m z
   .exact R.footSome (hn a z).1 ⟨i,m⟩,λa z=>by
   rcases z with z|z
   .intro q;exact R.xa a z (s.free q)
   .exact(hn a z).2,λb o e n=>s _ _ (R.fr b o e n),λb q=>R.al b (s.free q),R.new,R.io⟩
end
abbrev MEt:=Zg->(OT->Zg->Prop)->Prop
abbrev MAt:=Zg->(List OT->Zg->Prop)->Prop
abbrev MTt:=Zg->(Bool->Zg->Prop)->Prop
abbrev exu(ex:YG->Prop)(new:List YG):YG->Prop:=λa=>ex a\/a∈new
structure RE(C:MC G)(io:List Nat)(p c:Bool)(H:Hp)(O:St)(δ:Zg)(fp:Fp)(ex:YG->Prop)(H':Hp)(v:V)(r:OT)(δ':Zg)(fp':Fp)(new:List YG):Prop where
 rel:Rel C io H' O δ' fp' (exu ex new)
 stp:Stp p H δ fp H' δ' fp'
 own:Own G H' (λa=>c=YD->Lf C fp' (exu ex new) a) v r new
 nd:new.Nodup
 fresh:∀a∈new,H a=YC
structure RA(C:MC G)(io:List Nat)(p c:Bool)(H:Hp)(O:St)(δ:Zg)(fp:Fp)(ex:YG->Prop)(H':Hp)(v:List V)(r:List OT)(δ':Zg)(fp':Fp)(new:List YG):Prop where
 rel:Rel C io H' O δ' fp' (exu ex new)
 stp:Stp p H δ fp H' δ' fp'
 own:Owns G H' (λa=>c=YD->Lf C fp' (exu ex new) a) v r new
 nd:new.Nodup
 fresh:∀a∈new,H a=YC
def SE(G:Xc)(io:List Nat)(p c:Bool)(t:TE)(m:MEt):Prop:=∀(C:MC G) (H:Hp) (O:St) (δ:Zg) (fp:Fp) (ex:YG->Prop) (K:OT->Zg->Prop) (Q:VK),Rel C io H O δ fp ex->m δ K ->
 (∀ H' v r δ' fp' new,RE C io p c H O δ fp ex H' v r δ' fp' new->K r δ'->Q v H')->t O H Q
def SA(G:Xc)(io:List Nat)(p c:Bool)(t:TA)(m:MAt):Prop:=∀(C:MC G) (H:Hp) (O:St) (δ:Zg) (fp:Fp) (ex:YG->Prop) (K:List OT->Zg->Prop) (Q:List V->Hp->Prop),Rel C io H O δ fp ex->m δ K ->
 (∀ H' v r δ' fp' new,RA C io p c H O δ fp ex H' v r δ' fp' new->K r δ'->Q v H')->t O H Q
def STt(G:Xc)(io:List Nat)(p:Bool)(t:TT)(m:MTt):Prop:=∀(C:MC G) (H:Hp) (O:St) (δ:Zg) (fp:Fp) (ex:YG->Prop) (K:Bool->Zg->Prop) (Q:Bool->Hp->Prop),Rel C io H O δ fp ex->m δ K ->
 (∀ H' b δ' fp',Rel C io H' O δ' fp' ex->Stp p H δ fp H' δ' fp'->K b δ'->Q b H')->t O H Q
def ME(X:Cx)(io:List Nat)(p c:Bool)(e:YJ)(m:MEt):Prop:=∃t,PE X e t/\SE X.K io p c t m
def MA(X:Cx)(io:List Nat)(p c:Bool)(e:List YJ)(m:MAt):Prop:=∃t,PA X e t/\SA X.K io p c t m
def MT(X:Cx)(io:List Nat)(p:Bool)(e:YJ)(m:MTt):Prop:=∃t,PT X e t/\STt X.K io p t m
def MW(X:Cx)(io:List Nat)(p:Bool)(e:YJ)(m:MTt):Prop:=∃t,PW X e t/\STt X.K io p t m
section
variable {C:MC G}{O:St}{δ'':Zg}{fp'':Fp}{d:Xa}{r:OT}{vs:List V}{new:List YG}
theorem Rel.newOk(R:Rel C io H O δ fp ex)(h:H a=YC):¬Foot fp a/\¬ex a/\C.H₀ a=YC:=⟨R.footSome h,λz=>R.xa a z h,R.al a h⟩
theorem RE.da(R:RE C io p c H O δ fp ex H' v r δ' fp' new)(R0:Rel C io H O δ fp ex):Da G H' (λa=>c=YD->Lf C fp' ex a) v r.data:=by
 refine R.own.da (λa l _ h=>?_) (λa m _=>?_)
 .exact⟨(l h).1,λz=>(l h).2.1 (.inl z),(l h).2.2⟩
 .refine⟨λqz9=>?_,(R0.newOk (R.fresh a m)).2.1,.inr (R0.newOk (R.fresh a m)).2.2⟩
  obtain⟨i,z⟩:=qz9;exact R.rel.dx i a z (.inr m)
def RA.das(R:RA C io p c H O δ fp ex H' vs rs δ' fp' new)(R0:Rel C io H O δ fp ex):Das G H' (λa=>c=YD->Lf C fp' ex a) vs (OT.datas rs):=by
 refine R.own.das (λa l _ h=>?_) (λa m _=>?_)
 .exact⟨(l h).1,λz=>(l h).2.1 (.inl z),(l h).2.2⟩
 .refine⟨λqz9=>?_,(R0.newOk (R.fresh a m)).2.1,.inr (R0.newOk (R.fresh a m)).2.2⟩
  obtain⟨i,z⟩:=qz9;exact R.rel.dx i a z (.inr m)
theorem RE.base(R:RE C io p c H O δ fp ex H' v r δ' fp' new):Rel C io H' O δ' fp' ex:=R.rel.drop λa z=>.inl z
theorem RA.base(R:RA C io p c H O δ fp ex H' vs rs δ' fp' new):Rel C io H' O δ' fp' ex:=R.rel.drop λa z=>.inl z
theorem Zdq{a:YG}:exu ex [] a↔ex a:=by simp[exu]
theorem RE.fz(R:Rel C io H' O δ' fp' ex)(S:Stp p H δ fp H' δ' fp')(h:Da G H' (λa=>c=YD->Lf C fp' ex a) v d):RE C io p c H O δ fp ex H' v (.fz d) δ' fp' [] :=
 ⟨R.drop λa z=>Zdq.mp z,S,.fz (h.wide λa l _ hc=>⟨(l hc).1,λz=>(l hc).2.1 (Zdq.mp z),(l hc).2.2⟩),.nil,λa m=>nomatch m⟩
def RE.tree(R0:Rel C io H O δ fp ex)(R:Rel C io H1 O δ' fp' ex)(S:Stp p H δ fp H1 δ' fp')(s:Same H1 H')(hn:∀a∈new,H1 a=YC)(nd:new.Nodup)
  (o:Own G H' (λa=>((c=YD->Lf C fp' ex a)\/H1 a=YC)/\a∉new) v r new):RE C io p c H O δ fp ex H' v r δ' fp' new:=by
 refine⟨R.made s λa m=>⟨hn a m,λz=>?_⟩,?_,o.wide λa l q hc=>?_,nd,λa m=>S.al a (hn a m)⟩
 .obtain⟨xs,e⟩:=o.some a m
  rw[z]at e;cases e
 .have:=S.trans (p':=YD) (Stp.same (p:=YD) (δ:=δ') (fp:=fp') s s.al)
  rwa[Bool.and_true]at this
 .rcases l.1 with l1|l1
  .exact⟨(l1 hc).1,λz=>z.elim (l1 hc).2.1 l.2,(l1 hc).2.2⟩
  .exact⟨R.footSome l1,λz=>z.elim (λz=>R.xa a z l1) l.2,.inr (R.al a l1)⟩
end
inductive ScD:V->Xa->Prop where
 | non:ScD .non .none
 | bl (b:Bool):ScD (.bl b) (.bool b)
 | int (i:Int):ScD (.int i) (.int i)
 | str (x:Str):ScD (.str x) (.str x)
theorem ScD.da{d:Xa}(h:ScD v d):Da G H L v d:=by
 cases h
 .exact .non
 .exact .bl _
 .exact .int _
 .exact .str _
section
variable {c':Bool}{a:YJ}{m ma mb:MEt}
def Ygq(i:Nat):MEt:=λδ K=>match δ[i]? with|some (YB (.fz d))=>K (.fz d) δ|_=>False
def Ygj(i:Nat):MEt:=λδ K=>match δ[i]? with|some (YB t)=>K (.fz t.data) δ|_=>False
def mC(d:Xa):MEt:=λδ K=>K (.fz d) δ
def mv(i:Nat)(hN:X.N[i]? =YB x:=by rfl)(hv:Vis X.env.scope x:=by first|exact QT rfl|exact QM (QT rfl)|exact QM (QM rfl))(hd:(x==(!10))=YF:=by decide)
  (hcd:(x==(!17))=YF:=by decide):ME X io YD YD (.Name x pos) (Ygq i):=by
 refine⟨_,pv i hN hv hd hcd,λC H O δ fp ex K Q R h k=>?_⟩;unfold Ygq at h;split at h
 .rename_i d hd
  obtain⟨v,e,o⟩:=R.own i _ hd;refine⟨v,e,k H v _ δ fp [] (.fz R (.refl _ _ _ _) ?_) h⟩;generalize fp i=as at o;cases o with
  | fz q=>exact q.wide λa l _ _=>l
 .exact h.elim
def mo(i:Nat)(hN:X.N[i]? =YB x:=by rfl)(hv:Vis X.env.scope x:=by first|exact QT rfl|exact QM (QT rfl)|exact QM (QM rfl))(hd:(x==(!10))=YF:=by decide)
  (hcd:(x==(!17))=YF:=by decide):ME X io YD YF (.Name x pos) (Ygj i):=by
 refine⟨_,pv i hN hv hd hcd,λC H O δ fp ex K Q R h k=>?_⟩;unfold Ygj at h;split at h
 .rename_i d hd
  obtain⟨v,e,o⟩:=R.own i _ hd;exact⟨v,e,k H v _ δ fp [] (.fz R (.refl _ _ _ _) (o.da (λa _ _ z=>(nomatch z)) λa _ z=>(nomatch z))) h⟩
 .exact h.elim
def Zk2{t:V}{d:Xa}(h:PE X e (tC t))(s:ScD t d):ME X io YD YD e (mC d) :=
 ⟨_,h,λC H O δ fp ex K Q R h k=>k H t _ δ fp [] (.fz R (.refl _ _ _ _) s.da) h⟩
def Yfu{i j pos}:ME X io YD YD (.Constant (.int i) j pos) (mC (.int i)):=Zk2 Ybl (.int i)
def Zct{b j pos}:ME X io YD YD (.Constant (.bool b) j pos) (mC (.bool b)):=Zk2 Yhb (.bl b)
def J6{j pos}:ME X io YD YD (.Constant .none j pos) (mC .none):=Zk2 Yec .non
def Zk{x j pos}:ME X io YD YD (.Constant (.str x) j pos) (mC (.str x)):=Zk2 Ycg (.str x)
theorem SE.two(ha:SE G io p c ta ma)(hb:SE G io p' c' tb mb)(hc:p'=YD\/c=YD){C:MC G}{O:St}{K:OT->OT->Zg->Prop}{Q:V->V->Hp->Prop}
  (R:Rel C io H O δ fp ex) (h:ma δ λx δ1=>mb δ1 λy δ2=>K x y δ2)
  (k:∀H' x y u v δ' fp',Rel C io H' O δ' fp' ex->Stp (p&&p') H δ fp H' δ' fp'->Da G H' (λa=>(c&&c')=YD->Lf C fp' ex a) x u.data->Da G H' (λa=>(c&&c')=YD->Lf C fp' ex a) y v.data->K u v δ'->Q x y H') :
  ta O H λx H1=>tb O H1 λy H2=>Q x y H2:=by
 refine ha C H O δ fp ex _ _ R h λH1 x u δ1 fp1 new1 r1 h1=>?_;refine hb C H1 O δ1 fp1 (exu ex new1) _ _ r1.rel h1 λH2 y v δ2 fp2 new2 r2 h2=>?_;have o1:=r1.rel.own_step (ex':=exu (exu ex new1) new2) r2.stp (c:=c) hc (λa z=>z.imp id λz=>r2.fresh a z) (λa m=>.inr m) r1.own;have R2:Rel C io H2 O δ2 fp2 ex:=r2.rel.drop λa z=>.inl (.inl z);have q1:Da G H2 (λa=>c=YD->Lf C fp2 ex a) x u.data:=by
  refine o1.da (λa l _ z=>?_) (λa m z=>?_)
  .exact⟨(l z).1,λw=>(l z).2.1 (.inl (.inl w)),(l z).2.2⟩
  .have:=R.newOk (r1.fresh a m)
   refine⟨λqz9=>?_,this.2.1,.inr this.2.2⟩;obtain⟨i,w⟩:=qz9;exact r2.rel.dx i a w (.inl (.inr m))
 have q2:=r2.da r1.rel;refine k H2 x y u v δ2 fp2 R2 (r1.stp.trans r2.stp) (q1.wide λa l _ z=>l (by rw[XR]at z;exact z.1)) (q2.wide λa l _ z=>?_) h2;have l:=l (by rw[XR]at z;exact z.2);exact⟨l.1,λw=>l.2.1 (.inl w),l.2.2⟩
def P2s(G:Xc)(r:R2)(rp:Xa->Xa->(Xa->Prop)->Prop):Prop:=∀(H:Hp) (L:YG->Prop) (x y:V) (d e:Xa) (k:Xa->Prop) (Q:VK),Da G H L x d->Da G H L y e->rp d e k->(∀v d',ScD v d'->k d'->Q v H)->r x y H Q
def P2(G:Xc)(r:R2)(rp:Xa->Xa->(OT->Prop)->Prop):Prop:=∀(H:Hp) (L:YG->Prop) (x y:V) (d e:Xa) (k:OT->Prop) (Q:VK),Da G H L x d->Da G H L y e->rp d e k ->
 (∀ H' v o new,Same H H'->Own G H' (λa=>(L a\/H a=YC)/\a∉new) v o new->new.Nodup->(∀a∈new,H a=YC)->k o->Q v H')->r x y H Q
def Zo5(rp:Xa->Xa->(Xa->Prop)->Prop)(ma mb:MEt):MEt:=λδ K=>ma δ λx δ1=>mb δ1 λy δ2=>rp x.data y.data λd=>K (.fz d) δ2
def Ye9(rp:Xa->Xa->(OT->Prop)->Prop)(ma mb:MEt):MEt:=λδ K=>ma δ λx δ1=>mb δ1 λy δ2=>rp x.data y.data λd=>K d δ2
def Z7o{rp}(P:P2s G r rp)(ha:SE G io p c ta ma)(hb:SE G io p' c' tb mb)(hc:p'=YD\/c=YD):SE G io (p&&p') YD (tOp r ta tb) (Zo5 rp ma mb):=by
 intro C H O δ fp ex K Q R h k;refine SE.two (K:=λx y δ2=>rp x.data y.data λd=>K (.fz d) δ2) (Q:=λx y H2=>r x y H2 Q) ha hb hc R h λH' x y u v δ' fp' R' S q1 q2 h'=>?_;exact P H' _ x y _ _ _ _ q1 q2 h' λw d' sc h''=>k H' w _ δ' fp' [] (.fz R' S sc.da) h''
def Yi6{rp}(P:P2 G r rp)(ha:SE G io p c ta ma)(hb:SE G io p' c' tb mb)(hc:p'=YD\/c=YD):SE G io (p&&p') (c&&c') (tOp r ta tb) (Ye9 rp ma mb):=by
 intro C H O δ fp ex K Q R h k;refine SE.two (K:=λx y δ2=>rp x.data y.data λd=>K d δ2) (Q:=λx y H2=>r x y H2 Q) ha hb hc R h λH' x y u v δ' fp' R' S q1 q2 h'=>?_;exact P H' _ x y _ _ _ _ q1 q2 h' λH2 w o new s ow nd hn h''=>k H2 w o δ' fp' new (RE.tree R R' S s hn nd ow) h''
def W0{op:Operator}{rp}(ho:OpR X (Ut op) r)(P:P2s X.K r rp)(ha:ME X io p c a ma)(hb:ME X io p' c' b mb)(hc:p'=YD\/c=YD:=by first|exact QT rfl|exact QM rfl):ME X io (p&&p') YD (.BinOp a op b pos) (Zo5 rp ma mb):=by
 obtain⟨_,A,sa⟩:=ha;obtain⟨_,B,sb⟩:=hb;exact⟨_,Ydk ho A B,Z7o P sa sb hc⟩
def Z47{op:Operator}{rp}(ho:OpR X (Ut op) r)(P:P2 X.K r rp)(ha:ME X io p c a ma)(hb:ME X io p' c' b mb)(hc:p'=YD\/c=YD:=by first|exact QT rfl|exact QM rfl):ME X io (p&&p') (c&&c') (.BinOp a op b pos) (Ye9 rp ma mb):=by
 obtain⟨_,A,sa⟩:=ha;obtain⟨_,B,sb⟩:=hb;exact⟨_,Ydk ho A B,Yi6 P sa sb hc⟩
def Zf1{rp}(ho:OpR X (JR op) r)(P:P2s X.K r rp)(ha:ME X io p c a ma)(hb:ME X io p' c' b mb)(hc:p'=YD\/c=YD:=by first|exact QT rfl|exact QM rfl)(hm:behindInMarks op b=YF):ME X io (p&&p') YD (.Compare a [op] [b] pos) (Zo5 rp ma mb):=by
 obtain⟨_,A,sa⟩:=ha;obtain⟨_,B,sb⟩:=hb;exact⟨_,Z4m ho A B hm,Z7o P sa sb hc⟩
def Ygc{rp}(ho:IxR X r)(P:P2 X.K r rp)(ha:ME X io p c a ma)(hb:ME X io p' c' b mb)(hc:p'=YD\/c=YD:=by first|exact QT rfl|exact QM rfl)(hs:Zph b):ME X io (p&&p') (c&&c') (.Subscript a b pos) (Ye9 rp ma mb):=by
 obtain⟨_,A,sa⟩:=ha;obtain⟨_,B,sb⟩:=hb;exact⟨_,Yjn ho A B hs,Yi6 P sa sb hc⟩
def kB(K:Bool->Zg->Prop):OT->Zg->Prop:=λo δ=>match o with| .fz (.bool b)=>K b δ|_=>False
def Ya5{t:TE}(h:SE G io p c t m):STt G io p (Z7i t) (λδ K=>m δ (kB K)):=by
 intro C H O δ fp ex K Q R h' k;refine h C H O δ fp ex _ _ R h' λH' v r δ' fp' new r1 h1=>?_;cases r with
 | nd ts=>exact h1.elim
 | tp ts=>exact h1.elim
 | dc _ _ _=>exact h1.elim
 | fz d=>
  cases d with
  | bool b=>
   cases r1.own with
   | fz q=>
    cases q;exact⟨b,rfl,k H' b δ' fp' r1.base r1.stp h1⟩
  | _=>exact h1.elim
def Zbi{rp}(ho:OpR X (JR op) r)(P:P2s X.K r rp)(ha:ME X io p c a ma)(hb:ME X io p' c' b mb)(hc:p'=YD\/c=YD:=by first|exact QT rfl|exact QM rfl)(hm:behindInMarks op b=YF) :
  MT X io (p&&p') (.Compare a [op] [b] pos) (λδ K=>Zo5 rp ma mb δ (kB K)):=by
 obtain⟨_,A,sa⟩:=ha;obtain⟨_,B,sb⟩:=hb;exact⟨_,Z7z ho A B hm,Ya5 (Z7o P sa sb hc)⟩
end
variable {G:Xc}
section
variable {p'' c':Bool}{a:YJ}{m ma mb:MEt}{rest:List YJ}{ta tb:MTt}
def Ylm(t:MTt):MTt:=λδ K=>t δ λb δ'=>K (!b) δ'
def Ym3(t u:MTt):MTt:=λδ K=>t δ λb δ'=>if b=YD then u δ' K else K YF δ'
def mOr(t u:MTt):MTt:=λδ K=>t δ λb δ'=>if b=YD then K YD δ' else u δ' K
def Zm6(h:MT X io p a ta):MT X io p (.UnaryOp .Not a pos) (Ylm ta):=by
 obtain⟨_,A,sa⟩:=h;exact⟨_,Ycj A,λC H O δ fp ex K Q R h k=>sa C H O δ fp ex _ _ R h λH' b δ' fp' R' S h'=>k H' (!b) δ' fp' R' S h'⟩
def Ziw(h:MT X io p a ta):MW X io p (.BoolOp .And [a] pos) ta:=by
 obtain⟨_,A,sa⟩:=h;exact⟨_,Z7a A,sa⟩
def Zfr(h:MT X io p a ta):MW X io p (.BoolOp .Or [a] pos) ta:=by
 obtain⟨_,A,sa⟩:=h;exact⟨_,Yef A,sa⟩
def Stp.andL(S:Stp p H δ fp H' δ' fp'):Stp (p&&p') H δ fp H' δ' fp':=by
 have:=S.trans (Stp.refl p' H' δ' fp');exact this
def Zn8(h:MT X io p a ta)(g:MW X io p' (.BoolOp .And (b::rest) pos) tb):MW X io (p&&p') (.BoolOp .And (a::b::rest) pos) (Ym3 ta tb):=by
 obtain⟨_,A,sa⟩:=h;obtain⟨_,B,sb⟩:=g;exact⟨_,Yew A B,λC H O δ fp ex K Q R h k=>sa C H O δ fp ex _ _ R h λH' b δ' fp' R' S h'=>by
  cases b with
  | true=>
   rw[YM rfl]at h'|-
   exact sb C H' O δ' fp' ex _ _ R' h' λH2 b2 δ2 fp2 R2 S2 h2=>k H2 b2 δ2 fp2 R2 (S.trans S2) h2
  | false=>
   rw[YQ XJ]at h'|-
   exact k H' YF δ' fp' R' S.andL h'⟩
def Zf3(h:MT X io p a ta)(g:MW X io p' (.BoolOp .Or (b::rest) pos) tb):MW X io (p&&p') (.BoolOp .Or (a::b::rest) pos) (mOr ta tb):=by
 obtain⟨_,A,sa⟩:=h;obtain⟨_,B,sb⟩:=g;exact⟨_,Yio A B,λC H O δ fp ex K Q R h k=>sa C H O δ fp ex _ _ R h λH' b δ' fp' R' S h'=>by
  cases b with
  | true=>
   rw[YM rfl]at h'|-
   exact k H' YD δ' fp' R' S.andL h'
  | false=>
   rw[YQ XJ]at h'|-
   exact sb C H' O δ' fp' ex _ _ R' h' λH2 b2 δ2 fp2 R2 S2 h2=>k H2 b2 δ2 fp2 R2 (S.trans S2) h2⟩
theorem MW.mt(h:MW X io p e ta):MT X io p e ta:=by
 obtain⟨_,A,sa⟩:=h;exact⟨_,A.pt,sa⟩
def Z1t:Xa->Option Bool
 | .none=>YB YF
 | .bool b=>YB b
 | .int i=>YB (i !=0)
 | .list ds=>YB (!ds.isEmpty)
 | .tuple ds=>YB (!ds.isEmpty)
 | _=>YC
def Ym9(m:MEt):MTt:=λδ K=>m δ λr δ'=>match Z1t r.data with|some b=>K b δ'|none=>False
theorem Das.isEmpty(h:Das G H L xs ds):xs.isEmpty=ds.isEmpty:=by cases h<;>rfl
def Zar(ha:ME X io p c a ma)(he:∀whole,isTrue a X.env whole=(do let v<-whole;standAt a.pos;holding [v] (truthy v))):MT X io p a (Ym9 ma):=by
 obtain⟨_,A,sa⟩:=ha;exact⟨_,Z4b rfl A he,λC H O δ fp ex K' Q R h k=>sa C H O δ fp ex _ _ R h λH' v r δ' fp' new r1 h1=>by
  have q:=r1.da R;generalize r.data=d at q h1;cases q with
  | non=>exact⟨_,rfl,k H' _ δ' fp' r1.base r1.stp h1⟩
  | bl b=>exact⟨_,rfl,k H' _ δ' fp' r1.base r1.stp h1⟩
  | int b=>exact⟨_,rfl,k H' _ δ' fp' r1.base r1.stp h1⟩
  | str x=>exact h1.elim
  | lst _ e q=>exact⟨_,.inl ⟨_,.inl e,rfl⟩,k H' _ δ' fp' r1.base r1.stp (by rw[q.isEmpty];exact h1)⟩
  | tup e q=>exact⟨_,.inr (.inl ⟨_,.inl (.inl e),rfl⟩),k H' _ δ' fp' r1.base r1.stp (by rw[q.isEmpty];exact h1)⟩
  | scr q=>exact⟨_,.inl ⟨_,q.sq,rfl⟩,k H' _ δ' fp' r1.base r1.stp (by simpa [Z1t]using h1)⟩
  | exc _ _ _=>exact h1.elim
  | fn _=>exact h1.elim
  | dic _ _ _ _=>exact h1.elim⟩
def asB(d:Xa)(k:Bool->Prop):Prop:=match d with| .bool b=>k b|_=>False
def Yfl(a b:MEt):MEt:=λδ K=>a δ λx δ1=>asB x.data λc=>if c=YD then b δ1 K else K (.fz (.bool YF)) δ1
def Ynh(a b:MEt):MEt:=λδ K=>a δ λx δ1=>asB x.data λc=>if c=YD then K (.fz (.bool YD)) δ1 else b δ1 K
def Z9i(a:MEt):MEt:=λδ K=>a δ λx δ1=>asB x.data λc=>K (.fz (.bool (!c))) δ1
def mIf(t:MTt)(a b:MEt):MEt:=λδ K=>t δ λc δ1=>if c=YD then a δ1 K else b δ1 K
def Da.boolInv{d:Xa}{k:Bool->Prop}(q:Da G H L v d)(h:asB d k):∃b,v= .bl b/\k b:=by
 cases q with
 | bl b=>exact⟨b,rfl,h⟩
 | _=>exact h.elim
theorem RE.step{C:MC G}{O:St}{δ1 δ2:Zg}{fp1 fp2:Fp}{r:OT}{new:List YG}(S:Stp p H δ fp H1 δ1 fp1)(R:RE C io p' c H1 O δ1 fp1 ex H2 v r δ2 fp2 new) :
  RE C io (p&&p') c H O δ fp ex H2 v r δ2 fp2 new:=⟨R.rel,S.trans R.stp,R.own,R.nd,λa m=>S.al a (R.fresh a m)⟩
def Zja{op}(h:ME X io p c a ma):ME X io p c (.BoolOp op [a] pos) ma:=by
 obtain⟨_,A,sa⟩:=h;exact⟨_,Yex A,sa⟩
def Zho(ha:ME X io p c a ma)(hb:ME X io p' c' (.BoolOp .And (b::rest) pos) mb):ME X io (p&&p') c' (.BoolOp .And (a::b::rest) pos) (Yfl ma mb):=by
 obtain⟨_,A,sa⟩:=ha;obtain⟨_,B,sb⟩:=hb;exact⟨_,Ye0 A B,λC H O δ fp ex K Q R h k=>sa C H O δ fp ex _ _ R h λH' v r δ' fp' new r1 h1=>by
  obtain⟨b,rfl,h1⟩:=(r1.da R).boolInv h1;refine⟨b,rfl,?_⟩;cases b with
  | true=>
   rw[YM rfl]at h1|-
   exact sb C H' O δ' fp' ex _ _ r1.base h1 λH2 w r2 δ2 fp2 new2 R2 h2=>k H2 w r2 δ2 fp2 new2 (R2.step r1.stp) h2
  | false=>
   rw[YQ XJ]at h1|-
   exact k H' _ _ δ' fp' [] (RE.fz r1.base r1.stp.andL (.bl YF)) h1⟩
def Yoq(ha:ME X io p c a ma)(hb:ME X io p' c' (.BoolOp .Or (b::rest) pos) mb):ME X io (p&&p') c' (.BoolOp .Or (a::b::rest) pos) (Ynh ma mb):=by
 obtain⟨_,A,sa⟩:=ha;obtain⟨_,B,sb⟩:=hb;exact⟨_,Yje A B,λC H O δ fp ex K Q R h k=>sa C H O δ fp ex _ _ R h λH' v r δ' fp' new r1 h1=>by
  obtain⟨b,rfl,h1⟩:=(r1.da R).boolInv h1;refine⟨b,rfl,?_⟩;cases b with
  | true=>
   rw[YM rfl]at h1|-
   exact k H' _ _ δ' fp' [] (RE.fz r1.base r1.stp.andL (.bl YD)) h1
  | false=>
   rw[YQ XJ]at h1|-
   exact sb C H' O δ' fp' ex _ _ r1.base h1 λH2 w r2 δ2 fp2 new2 R2 h2=>k H2 w r2 δ2 fp2 new2 (R2.step r1.stp) h2⟩
def Ybb(ha:ME X io p c a ma):ME X io p YD (.UnaryOp .Not a pos) (Z9i ma):=by
 obtain⟨_,A,sa⟩:=ha;exact⟨_,Yay A,λC H O δ fp ex K Q R h k=>sa C H O δ fp ex _ _ R h λH' v r δ' fp' new r1 h1=>by
  obtain⟨b,rfl,h1⟩:=(r1.da R).boolInv h1;exact⟨b,rfl,k H' _ _ δ' fp' [] (RE.fz r1.base r1.stp (.bl _)) h1⟩⟩
theorem Stp.cast(h:p'=YD->p=YD)(S:Stp p H δ fp H' δ' fp'):Stp p' H δ fp H' δ' fp' :=
 ⟨λb o e q=>S.keep b o e (q.imp h id),λq=>S.env (h q),S.grow,S.al⟩
theorem RE.cast{C:MC G}{O:St}{δ1:Zg}{fp1:Fp}{r:OT}{new:List YG}(hp:p'=YD->p=YD)(hc:c'=YD->c=YD)(R:RE C io p c H O δ fp ex H1 v r δ1 fp1 new) :
  RE C io p' c' H O δ fp ex H1 v r δ1 fp1 new:=⟨R.rel,R.stp.cast hp,R.own.wide λa l _ z=>l (hc z),R.nd,R.fresh⟩
def Yml{t:YJ}(ht:MT X io p t ta)(ha:ME X io p' c a ma)(hb:ME X io p'' c' b mb):ME X io (p&&(p'&&p'')) (c&&c') (.IfExp t a b pos) (mIf ta ma mb):=by
 obtain⟨_,T,st⟩:=ht;obtain⟨_,A,sa⟩:=ha;obtain⟨_,B,sb⟩:=hb;exact⟨_,Zz3 T A B,λC H O δ fp ex K Q R h k=>st C H O δ fp ex _ _ R h λH' b δ' fp' R' S h'=>by
  cases b with
  | true=>
   rw[YM rfl]at h'|-
   exact sa C H' O δ' fp' ex _ _ R' h' λH2 w r2 δ2 fp2 new2 R2 h2=>k H2 w r2 δ2 fp2 new2 ((R2.step S).cast (λz=>by simp at z;simp[z]) (λz=>by simp at z;exact z.1)) h2
  | false=>
   rw[YQ XJ]at h'|-
   exact sb C H' O δ' fp' ex _ _ R' h' λH2 w r2 δ2 fp2 new2 R2 h2=>k H2 w r2 δ2 fp2 new2 ((R2.step S).cast (λz=>by simp at z;simp[z]) (λz=>by simp at z;exact z.2)) h2⟩
end
section
variable {p'' c':Bool}{a:YJ}{m ma mb:MEt}{rest:List YJ}{mr:MAt}
def Yny:MAt:=λδ K=>K [] δ
def Yaj(m:MEt)(mr:MAt):MAt:=λδ K=>m δ λr δ1=>mr δ1 λrs δ2=>K (r::rs) δ2
def Zen:MA X io YD YD [] Yny:=⟨_,Zi9,λC H O δ fp ex K Q R h k=>k H [] [] δ fp [] ⟨R.drop λa z=>Zdq.mp z,.refl _ _ _ _,.nil,.nil,λa m=>nomatch m⟩ h⟩
theorem Z45(ha:ME X io p c e m)(hr:MA X io p' c' es mr)(hc:p'=YD\/c=YD)(hs:Xr (e::es) X.env=(YF,eval e X.env)::Xr es X.env:=by rfl):MA X io (p&&p') (c&&c') (e::es) (Yaj m mr):=by
 obtain⟨tA,A,sa⟩:=ha;obtain⟨tB,B,sb⟩:=hr;refine⟨_,Wr A B hs,λC H O δ fp ex K Q R h k=>?_⟩;refine sa C H O δ fp ex _ _ R h λH1 x u δ1 fp1 new1 r1 h1=>?_;refine sb C H1 O δ1 fp1 (exu ex new1) _ _ r1.rel h1 λH2 ys us δ2 fp2 new2 r2 h2=>?_;have o1:=r1.rel.own_step (ex':=exu (exu ex new1) new2) r2.stp (c:=c) hc (λa z=>z.imp id λz=>r2.fresh a z) (λa m=>.inr m) r1.own;have eqx:∀a,exu ex (new1++new2) a->exu (exu ex new1) new2 a:=λa z=>by
  rcases z with z|z
  .exact .inl (.inl z)
  .rcases X3.mp z with z|z
   .exact .inl (.inr z)
   .exact .inr z
 refine k H2 (x::ys) (u::us) δ2 fp2 (new1++new2) ⟨r2.rel.drop eqx,r1.stp.trans r2.stp,.cons (o1.wide λa l _ z=>?_) (r2.own.wide λa l _ z=>?_),?_,?_⟩ h2
 .have l:=l (by rw[XR]at z;exact z.1)
  exact⟨l.1,λw=>l.2.1 (eqx a w),l.2.2⟩
 .have l:=l (by rw[XR]at z;exact z.2)
  exact⟨l.1,λw=>l.2.1 (eqx a w),l.2.2⟩
 .refine List.nodup_append.mpr ⟨r1.nd,r2.nd,λa m b m' z=>?_⟩
  subst z;obtain⟨xs,e⟩:=r1.own.some a m;rw[r2.fresh a m']at e;cases e
 .intro a m
  rcases X3.mp m with m|m
  .exact r1.fresh a m
  .exact r1.stp.al a (r2.fresh a m)
def Ynk(m:MAt):MEt:=λδ K=>m δ λrs δ'=>rs.length<=Xp/\K (.fz (.tuple (OT.datas rs))) δ'
def Ynp(m:MAt):MEt:=λδ K=>m δ λrs δ'=>rs.length<=Xp/\K (.nd rs) δ'
def Yhe{x1}(h:MA X io p c es mr):ME X io p c (.Tuple es x1 pos) (Ynk mr):=by
 obtain⟨tA,A,sa⟩:=h;refine⟨_,Zxc A,λC H O δ fp ex K Q R h k=>?_⟩;refine sa C H O δ fp ex _ _ R h λH1 vs rs δ1 fp1 new1 r1 h1=>⟨by rw[r1.own.length];exact h1.1,λq hq=>?_⟩;have s:=Z9 hq (.tup vs);have R1:=r1.base;have S:=r1.stp.trans (p':=YD) (Stp.same (p:=YD) (δ:=δ1) (fp:=fp1) s s.al);rw[Bool.and_true]at S;refine k _ _ _ δ1 fp1 [] (.fz ?_ S (.tup Z8 ((r1.das R).same s))) h1.2;exact(R1.made (new:=[]) s λa m=>nomatch m).drop λa z=>.inl z
def Yib(h:MA X io p c es mr):ME X io p c (.List es pos) (Ynp mr):=by
 obtain⟨tA,A,sa⟩:=h;refine⟨_,Yfh A,λC H O δ fp ex K Q R h k=>?_⟩;refine sa C H O δ fp ex _ _ R h λH1 vs rs δ1 fp1 new1 r1 h1=>⟨by rw[r1.own.length];exact h1.1,λq hq=>?_⟩;have s:=Z9 hq (.lst vs);have S:=r1.stp.trans (p':=YD) (Stp.same (p:=YD) (δ:=δ1) (fp:=fp1) s s.al);rw[Bool.and_true]at S;have hqn:q∉new1:=λm=>by
  obtain⟨xs,e⟩:=r1.own.some q m;rw[hq]at e;cases e
 have R2:=(r1.rel.made (new:=[q]) s λa m=>by
  rcases Xm.mp m with rfl;exact⟨hq,by rw[Z8];intro z;cases z⟩)
 have eqx:∀a,exu ex (q::new1) a->exu (exu ex new1) [q] a:=λa z=>by
  rcases z with z|z
  .exact .inl (.inl z)
  .rcases Xl.mp z with z|z
   .exact .inr (Xm.mpr z)
   .exact .inl (.inr z)
 refine k _ _ _ δ1 fp1 (q::new1) ⟨R2.drop eqx,S,.nd Z8 ((r1.own.wide λa l w z=>?_).same s),JF.mpr ⟨hqn,r1.nd⟩,λa m=>?_⟩ h1.2
 .have l:=l z
  refine⟨l.1,λy=>?_,l.2.2⟩;rcases eqx a y with y|y
  .exact l.2.1 y
  .rcases Xm.mp y with rfl
   exact w hq
 .rcases Xl.mp m with rfl|m
  .exact r1.stp.al _ hq
  .exact r1.fresh a m
end
variable {G:Xc}
def spD(G:Xc)(S:List Xa->(OT->Prop)->Prop):Sp:=λvs H Q _=>∃L ds k,Das G H L vs ds/\S ds k/\
 ∀r v H' new,k r->Same H H'->Own G H' (λa=>(L a\/H a=YC)/\a∉new) v r new->new.Nodup->(∀a∈new,H a=YC)->Q v H'
section
variable {p'' c':Bool}{a:YJ}{m ma mb:MEt}{rest:List YJ}{mr:MAt}
variable {k:Nat}{f:YG}{fd:X5}{ps:List Str}{E:XK}{pp:Pos}
def Z6i(S:List Xa->(OT->Prop)->Prop)(mr:MAt):MEt:=λδ K=>mr δ λrs δ1=>S (OT.datas rs) λr=>K r δ1
def Ykm{S}{t:TA}(sa:SA G io p c t mr):SE G io p c (Ydt (spD G S) [] E t) (Z6i S mr):=by
 intro C H O δ fp ex K Q R h kk;refine sa C H O δ fp ex _ _ R h λH1 vs rs δ1 fp1 new1 r1 h1=>?_;rw[JG];refine⟨_,_,_,r1.das R,h1,λr v H' new kr s o nd hn=>?_⟩;exact kk H' v r δ1 fp1 new (RE.tree R r1.base r1.stp s hn nd o) kr
def Zje{S}(F:FnOk X.prog X.w X.K X.mg X.base CX k f fd ps (spD X.K S))(hr:Room k X.A)(hg:Gl X x)(hm:X.mg x=YB (.ref f))(hk:Vz X.K (.ref f)=YD)(hb:Binds X.K fd ps [])(hx:Zrb CX X E)
  (ha:MA X io p c (e::es) mr) (hdb:(x==(!10))=YF:=by decide) (he:Xr (e::es) X.env=(YF,eval e X.env)::Xr es X.env:=by rfl) (hpl:(Ba pos (Xr es X.env)).any (·.1)=YF:=by rfl) :
  ME X io p c (.Call (.Name x pp) (e::es) [] pos) (Z6i S mr):=by
 obtain⟨_,A,sa⟩:=ha;exact⟨_,Z6l F hr hg hm hk hb .nil hx A hdb he hpl,Ykm sa⟩
def fpu(fp:Fp)(i:Nat)(as:List YG):Fp:=λj=>if j=i then as else fp j
theorem Ym:fpu fp i as i=as:=YM rfl
theorem Y7(h:j≠i):fpu fp i as j=fp j:=YQ h
theorem Foot.of_u{fp:Fp}{i:Nat}{as:List YG}{a:YG}(h:Foot (fpu fp i as) a):a∈as\/∃j,j≠i/\a∈fp j:=by
 obtain⟨j,h⟩:=h
 by_cases e:j=i
 .subst e;rw[Ym]at h;exact .inl h
 .rw[Y7 e]at h;exact .inr ⟨j,e,h⟩
theorem Rel.change{C:MC G}{H H':Hp}{O:St}{δ:Zg}{fp:Fp}{ex:YG->Prop}{i:Nat}{t t':OT}{v:V}{as' new:List YG}(R:Rel C io H O δ fp ex)(hi:δ[i]? =YB (YB t))(hv:O[i]? =YB (YB v))
  (keep:∀b o,H b=YB o->b∉fp i->H' b=YB o) (al:∀b,H' b=YC->H b=YC) (o:Own G H' (Lf C (fpu fp i as') (exu ex new)) v t' as') (nd:as'.Nodup) (new':∀a∈as',a∈fp i\/H a=YC)
  (hn:∀a∈new,H a=YC/\H' a≠YC/\a∉as') :
  Rel C io H' O (δ.set i (YB t')) (fpu fp i as') (exu ex new)/\Stp YF H δ fp H' (δ.set i (YB t')) (fpu fp i as'):=by
 have hil:i<δ.length:=(Xk.mp hi).1;have apart:∀j a,j≠i->a∈fp j->a∉as':=λj a e m z=>by
  rcases new' a z with z|z
  .exact e (R.dj j i a m z)
  .exact R.footSome z ⟨j,m⟩
 constructor
 .refine⟨by rw[Bb];exact R.len,λj t'' e=>?_,λj h=>?_,λj=>?_,λj k a h1 h2=>?_,λj a h z=>?_,λa z w=>z.elim (λz=>R.xa a z (al a w)) (λz=>(hn a z).2.1 w),λb ob e n=>?_,λb z=>R.al b (al b z),λj a h=>?_,R.io⟩
  .by_cases ej:j=i
   .subst ej
    rw[QK hil]at e;cases e;exact⟨v,hv,by rw[Ym];exact o⟩
   .rw[Qn (BL ej)]at e
    obtain⟨w,e1,o1⟩:=R.own j t'' e;refine⟨w,e1,?_⟩;rw[Y7 ej];refine o1.frame (λa xs l q=>?_) (λa xs q=>keep a _ q λz=>?_) λa m xs q=>keep a _ q λz=>ej (R.dj j i a m z)
    .have na:a∉fp i:=λz=>l.1 ⟨i,z⟩
     refine⟨⟨λz=>?_,λz=>z.elim l.2.1 λz=>q.some (hn a z).1,l.2.2⟩,?_⟩
     .rcases z.of_u with z|⟨k,_,z⟩
      .rcases new' a z with z|z
       .exact na z
       .exact q.some z
      .exact l.1 ⟨k,z⟩
     .rcases q with q|⟨u,q⟩
      .exact .inl (keep a _ q na)
      .exact .inr ⟨u,keep a _ q na⟩
    .obtain⟨ys,e⟩:=R.foot ⟨i,z⟩
     exact ImO.nm q e
  .by_cases ej:j=i
   .subst ej
    exact YZ (QK hil) (h t')
   .rw[Y7 ej]
    refine R.emp j λt'' z=>h t'' ?_;rw[Qn (BL ej)];exact z
  .by_cases ej:j=i
   .subst ej;rw[Ym];exact nd
   .rw[Y7 ej];exact R.nd j
  .by_cases ej:j=i
   .subst ej
    rw[Ym]at h1
    by_cases ek:k=j
    .exact ek.symm
    .rw[Y7 ek]at h2
     exact YZ h1 (apart k a ek h2)
   .rw[Y7 ej]at h1
    by_cases ek:k=i
    .subst ek
     rw[Ym]at h2;exact YZ h2 (apart j a ej h1)
    .rw[Y7 ek]at h2
     exact R.dj j k a h1 h2
  .by_cases ej:j=i
   .subst ej
    rw[Ym]at h;rcases z with z|z
    .rcases new' a h with w|w
     .exact R.dx _ a w z
     .exact R.xa a z w
    .exact(hn a z).2.2 h
   .rw[Y7 ej]at h
    rcases z with z|z
    .exact R.dx j a h z
    .exact R.footSome (hn a z).1 ⟨j,h⟩
  .refine keep b ob (R.fr b ob e n) λz=>?_
   rcases R.new i b z with w|w
   .exact n w.2
   .rw[e]at w;cases w
  .by_cases ej:j=i
   .subst ej
    rw[Ym]at h;rcases new' a h with w|w
    .exact R.new _ a w
    .exact .inr (R.al a w)
   .rw[Y7 ej]at h
    exact R.new j a h
 .refine⟨λb ob e q=>keep b ob e λz=>(q.resolve_left (!1)) ⟨i,z⟩,λz=>(nomatch z),λa z=>?_,al⟩
  rcases z.of_u with z|⟨j,_,z⟩
  .exact(new' a z).imp (λw=>⟨i,w⟩) id
  .exact .inl ⟨j,z⟩
def PNs(G:Xc)(r:List V->Hp->VK->Prop)(rp:List Xa->(Xa->Prop)->Prop):Prop:=∀(H:Hp) (L:YG->Prop) (xs:List V) (ds:List Xa) (k:Xa->Prop) (Q:VK),Das G H L xs ds->rp ds k->(∀v d',ScD v d'->k d'->Q v H)->r xs H Q
def PN(G:Xc)(r:List V->Hp->VK->Prop)(rp:List Xa->(OT->Prop)->Prop):Prop:=∀(H:Hp) (L:YG->Prop) (xs:List V) (ds:List Xa) (k:OT->Prop) (Q:VK),Das G H L xs ds->rp ds k ->
 (∀ H' v o new,Same H H'->Own G H' (λa=>(L a\/H a=YC)/\a∉new) v o new->new.Nodup->(∀a∈new,H a=YC)->k o->Q v H')->r xs H Q
def Yg1(rp:List Xa->(Xa->Prop)->Prop)(mr:MAt):MEt:=λδ K=>mr δ λrs δ1=>rp (OT.datas rs) λd=>K (.fz d) δ1
def mBl(rp:List Xa->(OT->Prop)->Prop)(mr:MAt):MEt:=λδ K=>mr δ λrs δ1=>rp (OT.datas rs) λo=>K o δ1
def Ylt{r rp}{t:TA}(P:PNs G r rp)(sa:SA G io p c t mr):SE G io p YD (tCB r t) (Yg1 rp mr):=λC H O δ fp ex K Q R h kk=>
 sa C H O δ fp ex _ _ R h λH1 vs rs δ1 fp1 new1 r1 h1=>P H1 _ vs _ _ _ (r1.das R) h1 λv d' sc h2=>kk H1 v _ δ1 fp1 [] (.fz r1.base r1.stp sc.da) h2
def sBl{r rp}{t:TA}(P:PN G r rp)(sa:SA G io p c t mr):SE G io p c (tCB r t) (mBl rp mr):=λC H O δ fp ex K Q R h kk=>
 sa C H O δ fp ex _ _ R h λH1 vs rs δ1 fp1 new1 r1 h1=>P H1 _ vs _ _ _ (r1.das R) h1 λH' v o new s ow nd hn h2=>kk H' v o δ1 fp1 new (RE.tree R r1.base r1.stp s hn nd ow) h2
variable {T:String}{r:List V->Hp->VK->Prop}
def Zhi{rp}(P:PNs X.K r rp)(hc:Zbe X (.builtin id) r)(hg:Gl X x)(hm:X.mg x=YC)(hv:Qd x=YB (.builtin id))(ha:MA X io p c (e::es) mr)(hn:x≠"__name__" :=by decide)(hdb:(x==(!10))=YF:=by decide)
  (he:Xr (e::es) X.env=(YF,eval e X.env)::Xr es X.env:=by rfl) (hpl:(Ba pos (Xr es X.env)).any (·.1)=YF:=by rfl):ME X io p YD (.Call (.Name x pp) (e::es) [] pos) (Yg1 rp mr):=by
 obtain⟨_,A,sa⟩:=ha;exact⟨_,Zd6 hc hg hm hv A hn hdb he hpl,Ylt P sa⟩
def Yov{rp}(P:PN X.K r rp)(hc:Zbe X (.builtin id) r)(hg:Gl X x)(hm:X.mg x=YC)(hv:Qd x=YB (.builtin id))(ha:MA X io p c (e::es) mr)(hn:x≠"__name__" :=by decide)(hdb:(x==(!10))=YF:=by decide)
  (he:Xr (e::es) X.env=(YF,eval e X.env)::Xr es X.env:=by rfl) (hpl:(Ba pos (Xr es X.env)).any (·.1)=YF:=by rfl):ME X io p c (.Call (.Name x pp) (e::es) [] pos) (mBl rp mr):=by
 obtain⟨_,A,sa⟩:=ha;exact⟨_,Zd6 hc hg hm hv A hn hdb he hpl,sBl P sa⟩
def Zj8{rp}(P:PNs X.K r rp)(hc:Zbe X (.type T) r)(hg:Gl X x)(hm:X.mg x=YC)(hv:Qd x=YB (.type T))(ha:MA X io p c (e::es) mr)(hn:x≠"__name__" :=by decide)(hdb:(x==(!10))=YF:=by decide)
  (he:Xr (e::es) X.env=(YF,eval e X.env)::Xr es X.env:=by rfl) (hpl:(Ba pos (Xr es X.env)).any (·.1)=YF:=by rfl):ME X io p YD (.Call (.Name x pp) (e::es) [] pos) (Yg1 rp mr):=by
 obtain⟨_,A,sa⟩:=ha;exact⟨_,Zn2 hc hg hm hv A hn hdb he hpl,Ylt P sa⟩
def Ygo{rp}(P:PN X.K r rp)(hc:Zbe X (.type T) r)(hg:Gl X x)(hm:X.mg x=YC)(hv:Qd x=YB (.type T))(ha:MA X io p c (e::es) mr)(hn:x≠"__name__" :=by decide)(hdb:(x==(!10))=YF:=by decide)
  (he:Xr (e::es) X.env=(YF,eval e X.env)::Xr es X.env:=by rfl) (hpl:(Ba pos (Xr es X.env)).any (·.1)=YF:=by rfl):ME X io p c (.Call (.Name x pp) (e::es) [] pos) (mBl rp mr):=by
 obtain⟨_,A,sa⟩:=ha;exact⟨_,Zn2 hc hg hm hv A hn hdb he hpl,sBl P sa⟩
end
variable {G:Xc}
mutual
def Zbh:Xa->Bool
 | .none=>YD
 | .bool _=>YD
 | .int _=>YD
 | .str _=>YD
 | .tuple ds=>Zhc ds
 | .list _=>YF
 | .dict _=>YF
def Zhc:List Xa->Bool
 | []=>YD
 | d::ds=>Zbh d&&Zhc ds
end
def Da.flat2:(∀{v:V} {d:Xa},Da G H L v d->Zbh d=YD->Da G H L' v d)/\∀{v:List V} {d:List Xa},Das G H L v d->Zhc d=YD->Das G H L' v d :=
 Da.both (λ_=>.non) (λb _=>.bl b) (λi _=>.int i) (λx _=>.str x) (λ_ _ _ h=>by rw[Zbh]at h;cases h) (λe r h=>.tup e (r (by rw[Zbh]at h;exact h))) (λk _=>.scr k) (λc n e _=>.exc c n e) (λk _=>.fn k) (λ_ _ _ _ h=>by rw[dcD,Zbh]at h;cases h) (λ_=>.nil)
  (λk r h=>by rw[Zhc,XR]at h;exact .cons (k h.1) (r h.2))
def Da.flat{d:Xa}(h:Da G H L v d)(f:Zbh d=YD):Da G H L' v d:=Da.flat2.1 h f
set_option genInjectivity false in
structure Zin where
 nx:Zg->Prop
 rt:OT->Zg->Prop
 bk:Zg->Prop:=λ_=>False
 ct:Zg->Prop:=λ_=>False
abbrev MSt:=Zin->Zg->Prop
abbrev Kp(H:Hp)(fp:Fp)(H':Hp)(fp':Fp):Prop:=Stp YF H [] fp H' [] fp'
theorem Stp.kp{p:Bool}{H H':Hp}{δ δ':Zg}{fp fp':Fp}(S:Stp p H δ fp H' δ' fp'):Kp H fp H' fp':=⟨λb o e q=>S.keep b o e (.inr (q.resolve_left (!1))),λz=>(nomatch z),S.grow,S.al⟩
theorem Kp.trans{fp1 fp2:Fp}(a:Kp H fp H1 fp1)(b:Kp H1 fp1 H2 fp2):Kp H fp H2 fp2:=Stp.trans a b
theorem Kp.refl(H:Hp)(fp:Fp):Kp H fp H fp:=Stp.refl _ _ _ _
structure RelEnds(C:MC G)(io:List Nat)(ex:YG->Prop)(H:Hp)(fp:Fp)(D:Zin)(D':Ends):Prop where
 nx:∀H' O' δ' fp',Rel C io H' O' δ' fp' ex->Kp H fp H' fp'->D.nx δ'->D'.nx O' H'
 bk:∀H' O' δ' fp',Rel C io H' O' δ' fp' ex->Kp H fp H' fp'->D.bk δ'->D'.bk O' H'
 ct:∀H' O' δ' fp',Rel C io H' O' δ' fp' ex->Kp H fp H' fp'->D.ct δ'->D'.ct O' H'
 rt:∀H' O' v r δ' fp' new,Rel C io H' O' δ' fp' (exu ex new)->Own G H' (Lf C fp' (exu ex new)) v r new->new.Nodup->(∀a∈new,C.H₀ a=YC)->D.rt r δ'->D'.rt v H'
def RelEnds.shift{C:MC G}{fp1:Fp}{D:Zin}{D':Ends}(E:RelEnds C io ex H fp D D')(k:Kp H fp H1 fp1):RelEnds C io ex H1 fp1 D D' :=
 ⟨λH' O' δ' fp' R q=>E.nx H' O' δ' fp' R (k.trans q),λH' O' δ' fp' R q=>E.bk H' O' δ' fp' R (k.trans q),λH' O' δ' fp' R q=>E.ct H' O' δ' fp' R (k.trans q),E.rt⟩
def SS(G:Xc)(io:List Nat)(t:TS)(m:MSt):Prop:=∀(C:MC G) (H:Hp) (O:St) (δ:Zg) (fp:Fp) (ex:YG->Prop) (D:Zin) (D':Ends),Rel C io H O δ fp ex->m D δ->RelEnds C io ex H fp D D'->t D' O H
def MS(X:Cx)(io:List Nat)(st:YK)(m:MSt):Prop:=∃t,PS X st t/\SS X.K io t m
def MSs(X:Cx)(io:List Nat)(st:List YK)(m:MSt):Prop:=∃t,PSs X st t/\SS X.K io t m
section
variable {p'' c':Bool}{a:YJ}{m ma mb:MEt}{rest:List YJ}{mr:MAt}{sts:List YK}{u w:MSt}{mt:MTt}
def Ydn:MSt:=λD δ=>D.nx δ
def Ypp(w:MSt)(D:Zin)(δ:Zg):Prop:=w D δ
def Yhh(u w:MSt):MSt:=λD δ=>u { D with nx:=Ypp w D } δ
def Zb8:MSs X io [] Ydn:=⟨_,Z77,λC H O δ fp ex D D' R h E=>E.nx H O δ fp R (.refl _ _) h⟩
def Zf(h:MS X io st u):MSs X io [st] u:=by
 obtain⟨_,A,s⟩:=h;exact⟨_,Z4s A,s⟩
def Zb3(h:MS X io st u)(g:MSs X io sts w):MSs X io (st::sts) (Yhh u w):=by
 obtain⟨_,A,s⟩:=h;obtain⟨tb,B,s'⟩:=g;exact⟨_,Zz8 A B,λC H O δ fp ex D D' R h E=>s C H O δ fp ex _ _ R h ⟨λH1 O1 δ1 fp1 R1 k1 h1=>s' C H1 O1 δ1 fp1 ex D D' R1 h1 (E.shift k1),E.bk,E.ct,E.rt⟩⟩
def Yen:MSt:=λ_ _=>False
def Z0k:MS X io st Yen:=⟨_,Zzi,λC H O δ fp ex D D' R h E=>h.elim⟩
def Ybg(m:MEt):MSt:=λD δ=>m δ λ_ δ'=>D.nx δ'
def Z7j(he:ME X io p c e m)(hs:Vv e YC pos.line X.env=pure YF:=by rfl):MS X io (.Expr e pos) (Ybg m):=by
 obtain⟨_,A,s⟩:=he;exact⟨_,Ztz A hs,λC H O δ fp ex D D' R h E=>s C H O δ fp ex _ _ R h λH' v r δ' fp' new r1 h1=>E.nx H' O δ' fp' r1.base r1.stp.kp h1⟩
def Ynf(m:MEt):MSt:=λD δ=>m δ λr δ'=>D.rt r δ'
def Zfq(he:ME X io p YD e m):MS X io (.Return (YB e) pos) (Ynf m):=by
 obtain⟨_,A,s⟩:=he;exact⟨_,Z3b A,λC H O δ fp ex D D' R h E=>s C H O δ fp ex _ _ R h λH' v r δ' fp' new r1 h1=>E.rt H' O v r δ' fp' new r1.rel (r1.own.wide λa l _=>l rfl) r1.nd (λa m=>(R.newOk (r1.fresh a m)).2.2) h1⟩
def Z1p(i:Nat):MSt:=λD δ=>match δ[i]? with|some (YB t)=>D.rt t (δ.set i YC)|_=>False
theorem Rel.take{C:MC G}{O:St}{t:OT}(R:Rel C io H O δ fp ex)(hi:δ[i]? =YB (YB t)):Rel C io H O (δ.set i YC) (fpu fp i []) (exu ex (fp i)):=by
 have hil:i<δ.length:=(Xk.mp hi).1;have get:∀j (t':OT),(δ.set i YC)[j]? =YB (YB t')->j≠i/\δ[j]? =YB (YB t'):=λj t' e=>by
  by_cases ej:j=i
  .subst ej;rw[QK hil]at e;cases e
  .rw[Qn (BL ej)]at e;exact⟨ej,e⟩
 have sub:∀j a,a∈fpu fp i [] j->j≠i/\a∈fp j:=λj a m=>by
  by_cases ej:j=i
  .subst ej;rw[Ym]at m;exact nomatch m
  .rw[Y7 ej]at m;exact⟨ej,m⟩
 have lw:∀a,Lf C fp ex a->Lf C (fpu fp i []) (exu ex (fp i)) a:=λa l=>⟨λ⟨j,z⟩=>l.1 ⟨j,(sub j a z).2⟩,λz=>z.elim l.2.1 λz=>l.1 ⟨i,z⟩,l.2.2⟩;refine⟨by rw[Bb];exact R.len,λj t' e=>?_,λj h=>?_,λj=>?_,λj k a h1 h2=>R.dj j k a (sub j a h1).2 (sub k a h2).2,λj a h z=>?_,λa z w=>?_,R.fr,R.al,λj a h=>R.new j a (sub j a h).2,R.io⟩
 .obtain⟨ej,e⟩:=get j t' e
  obtain⟨w,e1,o⟩:=R.own j t' e;exact⟨w,e1,by rw[Y7 ej];exact o.wide λa l _=>lw a l⟩
 .by_cases ej:j=i
  .subst ej;rw[Ym]
  .rw[Y7 ej]
   exact R.emp j λt' z=>h t' (by rw[Qn (BL ej)];exact z)
 .by_cases ej:j=i
  .subst ej;rw[Ym];exact .nil
  .rw[Y7 ej];exact R.nd j
 .obtain⟨ej,h⟩:=sub j a h
  rcases z with z|z
  .exact R.dx j a h z
  .exact ej (R.dj j i a h z)
 .rcases z with z|z
  .exact R.xa a z w
  .exact R.footSome w ⟨i,z⟩
def Zpt(i:Nat)(hio:i∉io:=by decide)(hN:X.N[i]? =YB x:=by rfl)(hv:Vis X.env.scope x:=by first|exact QT rfl|exact QM (QT rfl)|exact QM (QM rfl))(hd:(x==(!10))=YF:=by decide)
  (hcd:(x==(!17))=YF:=by decide):MS X io (.Return (YB (.Name x px)) pos) (Z1p i):=by
 refine⟨_,Z3b (pv i hN hv hd hcd),λC H O δ fp ex D D' R h E=>?_⟩;unfold Z1p at h;split at h
 case h_2=>exact h.elim
 rename_i t hi;obtain⟨v,e,o⟩:=R.own i t hi;have lw:∀a,Lf C fp ex a->H a≠YC->Lf C (fpu fp i []) (exu ex (fp i)) a:=λa l _=>⟨λz=>by
  rcases z.of_u with z|⟨j,_,z⟩
  .exact nomatch z
  .exact l.1 ⟨j,z⟩,λz=>z.elim l.2.1 λz=>l.1 ⟨i,z⟩,l.2.2⟩
 have hn:∀a∈fp i,C.H₀ a=YC:=λa m=>by
  rcases R.new i a m with z|z
  .exact YZ z.1 hio
  .exact z
 exact⟨v,e,E.rt H O v t _ _ (fp i) (R.take hi) (o.wide lw) (R.nd i) hn h⟩
def Yn7(t:MTt)(u w:MSt):MSt:=λD δ=>t δ λb δ'=>if b=YD then u D δ' else w D δ'
def Znc{cnd:YJ}{ss ss':List YK}(hc:MT X io p cnd mt)(ha:MSs X io ss u)(hb:MSs X io ss' w):MS X io (.If cnd ss ss' pos) (Yn7 mt u w):=by
 obtain⟨_,T,s⟩:=hc;obtain⟨_,A,sa⟩:=ha;obtain⟨_,B,sb⟩:=hb;exact⟨_,Yhy T A B,λC H O δ fp ex D D' R h E=>s C H O δ fp ex _ _ R h λH' b δ' fp' R' S h'=>by
  cases b with
  | true=>
   rw[YM rfl]at h'|-
   exact sa C H' O δ' fp' ex D D' R' h' (E.shift S.kp)
  | false=>
   rw[YQ XJ]at h'|-
   exact sb C H' O δ' fp' ex D D' R' h' (E.shift S.kp)⟩
theorem Rel.put{C:MC G}{O:St}{r:OT}{new:List YG}(R:Rel C io H O δ fp (exu ex new))(hio:i∉io)(o:Own G H (Lf C fp (exu ex new)) v r new)(nd:new.Nodup)
  (hn:∀a∈new,C.H₀ a=YC/\¬ex a):∃fp',Rel C io H (O.set i (YB v)) (δ.set i (YB r)) fp' ex/\∀a,Foot fp' a->Foot fp a\/a∈new:=by
 by_cases hil:i<δ.length
 case neg=>
  refine⟨fp,?_,λa h=>.inl h⟩;have hl:=R.len;rw[List.set_eq_of_length_le (show δ.length<=i by omega),List.set_eq_of_length_le (show O.length<=i by omega)];exact R.drop λa z=>.inl z
 have hsl:i<O.length:=by rw[R.len];exact hil
 have sub:∀a,Foot (fpu fp i new) a->Foot fp a\/a∈new:=λa z=>by
  rcases z.of_u with z|⟨j,_,z⟩
  .exact .inr z
  .exact .inl ⟨j,z⟩
 have lw:∀a,Lf C fp (exu ex new) a->Lf C (fpu fp i new) ex a:=λa l=>⟨λz=>(sub a z).elim l.1 λz=>l.2.1 (.inr z),λz=>l.2.1 (.inl z),l.2.2⟩;refine⟨fpu fp i new,⟨by rw[Bb,Bb];exact R.len,λj t' e=>?_,λj h=>?_,λj=>?_,λj k a h1 h2=>?_,λj a h z=>?_,λa z=>R.xa a (.inl z),R.fr,R.al,λj a h=>?_,λj hj=>?_⟩,sub⟩
 .by_cases ej:j=i
  .subst ej
   rw[QK hil]at e;cases e;exact⟨v,QK hsl,by rw[Ym];exact o.wide λa l _=>lw a l⟩
  .rw[Qn (BL ej)]at e
   obtain⟨w,e1,o1⟩:=R.own j t' e;exact⟨w,by rw[Qn (BL ej)];exact e1,by rw[Y7 ej];exact o1.wide λa l _=>lw a l⟩
 .by_cases ej:j=i
  .subst ej;exact YZ (QK hil) (h r)
  .rw[Y7 ej]
   exact R.emp j λt' z=>h t' (by rw[Qn (BL ej)];exact z)
 .by_cases ej:j=i
  .subst ej;rw[Ym];exact nd
  .rw[Y7 ej];exact R.nd j
 .by_cases ej:j=i
  .subst ej
   rw[Ym]at h1
   by_cases ek:k=j
   .exact ek.symm
   .rw[Y7 ek]at h2
    exact YZ (.inr h1) (R.dx k a h2)
  .rw[Y7 ej]at h1
   by_cases ek:k=i
   .subst ek
    rw[Ym]at h2;exact YZ (.inr h2) (R.dx j a h1)
   .rw[Y7 ek]at h2
    exact R.dj j k a h1 h2
 .by_cases ej:j=i
  .subst ej
   rw[Ym]at h;exact(hn a h).2 z
  .rw[Y7 ej]at h
   exact R.dx j a h (.inl z)
 .by_cases ej:j=i
  .subst ej
   rw[Ym]at h;exact .inr (hn a h).1
  .rw[Y7 ej]at h
   exact R.new j a h
 .have ej:j≠i:=λz=>hio (z▸hj)
  rw[Qn (BL ej)];exact R.io j hj
theorem RE.put{C:MC G}{O:St}{r:OT}{new:List YG}(R:RE C io p YD H O δ fp ex H' v r δ' fp' new)(R0:Rel C io H O δ fp ex)(hio:i∉io) :
  ∃fp2,Rel C io H' (O.set i (YB v)) (δ'.set i (YB r)) fp2 ex/\Kp H fp H' fp2:=by
 obtain⟨fp2,R2,g⟩:=R.rel.put hio (R.own.wide λa l _=>l rfl) R.nd λa m=>⟨(R0.newOk (R.fresh a m)).2.2,(R0.newOk (R.fresh a m)).2.1⟩;refine⟨fp2,R2,λb o e q=>R.stp.keep b o e (.inr (q.resolve_left (!1))),λz=>(nomatch z),λa z=>?_,R.stp.al⟩;rcases g a z with z|z
 .exact R.stp.grow a z
 .exact .inr (R.fresh a z)
def RE.fzc{C:MC G}{O:St}{r:OT}{new:List YG}(R:RE C io p c H O δ fp ex H' v r δ' fp' new)(R0:Rel C io H O δ fp ex) :
  RE C io p c H O δ fp ex H' v (.fz r.data) δ' fp' []:=.fz R.base R.stp (R.da R0)
def RE.fzs{C:MC G}{O:St}{r:OT}{new:List YG}(R:RE C io p c H O δ fp ex H' v r δ' fp' new)(R0:Rel C io H O δ fp ex)(h:Zbh r.data=YD) :
  RE C io p YD H O δ fp ex H' v (.fz r.data) δ' fp' []:=.fz R.base R.stp ((R.da R0).flat h)
def Z82(i:Nat)(m:MEt):MSt:=λD δ=>m δ λr δ'=>D.nx (δ'.set i (YB (.fz r.data)))
def Z6k(i:Nat)(m:MEt):MSt:=λD δ=>m δ λr δ'=>Zbh r.data=YD/\D.nx (δ'.set i (YB (.fz r.data)))
def Zsm(i:Nat)(m:MEt):MSt:=λD δ=>m δ λr δ'=>D.nx (δ'.set i (YB r))
def Yla{t:TE}(s:SE G io p YD t m)(hio:i∉io):SS G io (Z8v t (Zsk i)) (Z82 i m):=λC H O δ fp ex D D' R h E=>s C H O δ fp ex _ _ R h λH' v r δ' fp' new r1 h1=>by
 obtain⟨fp2,R2,k2⟩:=(r1.fzc R).put R hio;exact E.nx H' _ _ fp2 R2 k2 h1
def Yhx{t:TE}(s:SE G io p c t m)(hio:i∉io):SS G io (Z8v t (Zsk i)) (Z6k i m):=λC H O δ fp ex D D' R h E=>s C H O δ fp ex _ _ R h λH' v r δ' fp' new r1 h1=>by
 obtain⟨fp2,R2,k2⟩:=(r1.fzs R h1.1).put R hio;exact E.nx H' _ _ fp2 R2 k2 h1.2
def Ybk{t:TE}(s:SE G io p YD t m)(hio:i∉io):SS G io (Z8v t (Zsk i)) (Zsm i m):=λC H O δ fp ex D D' R h E=>s C H O δ fp ex _ _ R h λH' v r δ' fp' new r1 h1=>by
 obtain⟨fp2,R2,k2⟩:=r1.put R hio;exact E.nx H' _ _ fp2 R2 k2 h1
def Ya7(hN:X.N.Nodup)(hi:X.N[i]? =YB x)(hx:Loc X.env.scope x)(he:ME X io p YD e m)(hio:i∉io:=by decide)(hs:Vv e (YB (.Name x px)) pos.line X.env=pure YF:=by rfl)(hf:X.fn x=YD\/X.env.scope.names.lookup x=YB .local:=by first|exact .inl rfl|exact .inr rfl|assumption) :
  MS X io (.Assign [.Name x px] e pos) (Z82 i m):=by
 obtain⟨_,A,s⟩:=he;exact⟨_,Zwg hN hi hx A hs hf,Yla s hio⟩
def Zwm(hN:X.N.Nodup)(hi:X.N[i]? =YB x)(hx:Loc X.env.scope x)(he:ME X io p c e m)(hio:i∉io:=by decide)(hs:Vv e (YB (.Name x px)) pos.line X.env=pure YF:=by rfl)(hf:X.fn x=YD\/X.env.scope.names.lookup x=YB .local:=by first|exact .inl rfl|exact .inr rfl|assumption) :
  MS X io (.Assign [.Name x px] e pos) (Z6k i m):=by
 obtain⟨_,A,s⟩:=he;exact⟨_,Zwg hN hi hx A hs hf,Yhx s hio⟩
def Zoz(hN:X.N.Nodup)(hi:X.N[i]? =YB x)(hx:Loc X.env.scope x)(he:ME X io p YD e m)(hio:i∉io:=by decide)(hs:Vv e (YB (.Name x px)) pos.line X.env=pure YF:=by rfl)(hf:X.fn x=YD\/X.env.scope.names.lookup x=YB .local:=by first|exact .inl rfl|exact .inr rfl|assumption) :
  MS X io (.Assign [.Name x px] e pos) (Zsm i m):=by
 obtain⟨_,A,s⟩:=he;exact⟨_,Zwg hN hi hx A hs hf,Ybk s hio⟩
def Z3x(t:MTt)(u:MSt):MSt:=λD δ=>∃W:Nat->Zg->Prop,(∃n,W n δ)/\∀n δ,W n δ->t δ λb δ'=>if b=YD then∃N:Zg->Prop,(∀δ',N δ'->∃n',n'<n/\W n' δ')/\u { D with nx:=N,ct:=N,bk:=D.nx } δ' else D.nx δ'
def Zqt{cnd:YJ}{ss:List YK}(hp:PassesOwn (X4 X.prog X.w) X.A X.env X.xe)(hc:MT X io p cnd mt)(ha:MSs X io ss u):MS X io (.While cnd ss [] pos) (Z3x mt u):=by
 obtain⟨_,T,s⟩:=hc;obtain⟨_,A,sa⟩:=ha;refine⟨_,Zz7 hp T A,λC H O δ fp ex D D' R h E=>?_⟩;obtain⟨W,⟨n0,w0⟩,turn⟩:=h;refine⟨λn O' H'=>∃δ' fp',Rel C io H' O' δ' fp' ex/\Kp H fp H' fp'/\W n δ',⟨n0,δ,fp,R,.refl _ _,w0⟩,?_⟩;rintro n O1 H1 ⟨δ1,fp1,R1,k1,w1⟩;refine s C H1 O1 δ1 fp1 ex _ _ R1 (turn n δ1 w1) λH2 b δ2 fp2 R2 S2 h2=>?_;have k2:=k1.trans S2.kp;cases b with
 | true=>
  rw[YM rfl]at h2|-
  obtain⟨N,hN,h2⟩:=h2;refine⟨λO' H'=>∃δ' fp',Rel C io H' O' δ' fp' ex/\Kp H fp H' fp'/\N δ',λO' H' ⟨δ',fp',R',k',n'⟩=>?_,?_⟩
  .obtain⟨n1,hn1,w1⟩:=hN δ' n'
   exact⟨n1,hn1,δ',fp',R',k',w1⟩
  .refine sa C H2 O1 δ2 fp2 ex _ _ R2 h2 ⟨λH' O' δ' fp' R' k' n'=>⟨δ',fp',R',k2.trans k',n'⟩,λH' O' δ' fp' R' k' n'=>E.nx H' O' δ' fp' R' (k2.trans k') n',λH' O' δ' fp' R' k' n'=>⟨δ',fp',R',k2.trans k',n'⟩,E.rt⟩
 | false=>
  rw[YQ XJ]at h2|-
  exact E.nx H2 O1 δ2 fp2 R2 k2 h2
end
variable {G:Xc}
def Zkz(N:List Str)(ds:List Xa):Zg:=ds.map (λd=>YB (.fz d))++By (N.length-ds.length) YC
section
variable {vs:List V}{N:List Str}
def Zw2{t:OT}{n:Nat}(h:(ds.map (λd=>YB (.fz d))++By n YC:Zg)[i]? =YB (YB t)):∃d,ds[i]? =YB d/\t= .fz d:=by
 rw[List.getElem?_append]at h;split at h
 .rw[Xq]at h
  cases e:ds[i]? with
  | none=>rw[e]at h;cases h
  | some d=>rw[e]at h;cases h;exact⟨d,rfl,rfl⟩
 .rw[List.getElem?_replicate]at h
  split at h
  .cases h
  .cases h
theorem Rel.entry(h:Das G H L vs ds):Rel (G:=G) ⟨H,λ_=>False,L,start N vs⟩ [] H (start N vs) (Zkz N ds) (λ_=>[]) (λ_=>False):=by
 refine⟨?_,λi t e=>?_,λ_ _=>rfl,λ_=>.nil,λi j a m=>(nomatch m),λi a m=>(nomatch m),λa z=>z.elim,λb o e _=>e,λb e=>e,λi a m=>(nomatch m),λi m=>nomatch m⟩
 .unfold start Zkz
  simp[h.length]
 .obtain⟨d,e',rfl⟩:=Zw2 e
  obtain⟨x,e1,q⟩:=h.get e';refine⟨x,?_,.fz (q.wide λa l _=>⟨λ⟨j,z⟩=>(nomatch z),λz=>z,.inl l⟩)⟩;unfold L2.start;rw[Qt (by rw[Xf];exact(Xk.mp e1).1),Xq,e1];rfl
variable {base:YH}
def Z7r(k:OT->Prop):Zin:={ nx:=λ_=>k (.fz .none),rt:=λr _=>k r }
theorem Fun.okD{f:YG}{fd:X5}{N ps:List Str}{n:Nat}{S:List Xa->(OT->Prop)->Prop}(F:Fun K x qual st f fd)(Sc:Z1 N ps (Zm st))(len:∀ds k,S ds k->ds.length=ps.length)
  (hbody:∀(cdv:Xd) (A:Qj) (outer:List Env) (s:Xg) (H:Hp) (E:XK),Room n (A.deeper (envOfC qual (Zm st) s.heap.objs.size f cdv)) ->
   ∃m,MSs (Zty CX0 P w K mg base N qual (Zm st) f cdv A outer s H E).nox [] (Za3 st) m/\∀ds k,S ds k->m (Z7r k) (Zkz N ds)):FnOk P w K mg base CX0 (n+1) f fd ps (spD K S):=by
 refine F.ok Sc (λvs H Q E h=>?_) (λcdv A outer s H vs Q E hr h=>?_)
 .obtain⟨L,ds,k,h1,h2,_⟩:=h
  rw[h1.length];exact len ds k h2
 .obtain⟨L,ds,k,h1,h2,h3⟩:=h
  obtain⟨m,⟨t,A1,s1⟩,q⟩:=hbody cdv A outer s H E hr;refine⟨t,A1,s1 ⟨H,λ_=>False,L,start N vs⟩ H _ _ _ _ (Z7r k) _ (Rel.entry h1) (q ds k h2) ⟨λH' O' δ' fp' R _ hk=>?_,λ_ _ _ _ _ _ z=>z.elim,λ_ _ _ _ _ _ z=>z.elim,λH' O' v r δ' fp' new R o nd hn hk=>?_⟩⟩
  .exact h3 _ .non H' [] hk (λb o e=>R.fr b o e id) (.fz .non) .nil λa m=>nomatch m
  .refine h3 r v H' new hk (λb o e=>R.fr b o e id) (o.wide λa l _=>⟨?_,λz=>l.2.1 (.inr z)⟩) nd hn
   exact l.2.2
end
abbrev MGt:=Xa->Zg->(Zg->Prop)->Prop
abbrev Zy4:=List Xa->Zg->(Zg->Prop)->Prop
def SG(G:Xc)(io:List Nat)(c:Bool)(t:TG)(g:MGt):Prop:=∀(C:MC G) (H:Hp) (O:St) (δ:Zg) (fp:Fp) (ex:YG->Prop) (v:V) (d:Xa) (k:Zg->Prop) (Q:St->Hp->Prop),Rel C io H O δ fp ex->Da G H (λa=>c=YD->Lf C fp ex a) v d->g d δ k ->
 (∀ O' δ' fp',Rel C io H O' δ' fp' ex->Kp H fp H fp'->k δ'->Q O' H)->t v O H Q
def SGs(G:Xc)(io:List Nat)(c:Bool)(t:TGs)(g:Zy4):Prop:=∀(C:MC G) (H:Hp) (O:St) (δ:Zg) (fp:Fp) (ex:YG->Prop) (v:List V) (d:List Xa) (k:Zg->Prop) (Q:St->Hp->Prop),Rel C io H O δ fp ex->Das G H (λa=>c=YD->Lf C fp ex a) v d->g d δ k ->
 (∀ O' δ' fp',Rel C io H O' δ' fp' ex->Kp H fp H fp'->k δ'->Q O' H)->t v O H Q
def MG(X:Cx)(io:List Nat)(c:Bool)(tg:YJ)(g:MGt):Prop:=∃t,PG X tg t/\SG X.K io c t g
def MGs(X:Cx)(io:List Nat)(c:Bool)(tg:List YJ)(g:Zy4):Prop:=∃t,PGs X tg t/\SGs X.K io c t g
def dName(i:Nat):MGt:=λd δ k=>k (δ.set i (YB (.fz d)))
theorem Rel.putD{C:MC G}{O:St}{d:Xa}(R:Rel C io H O δ fp ex)(hio:i∉io)(q:Da G H (Lf C fp ex) v d) :
  ∃fp',Rel C io H (O.set i (YB v)) (δ.set i (YB (.fz d))) fp' ex/\Kp H fp H fp':=by
 obtain⟨fp',R',g⟩:=(R.drop λa z=>Zdq.mp z).put (new:=[]) hio (.fz (q.wide λa l _=>⟨l.1,λz=>l.2.1 (Zdq.mp z),l.2.2⟩)) .nil (λa m=>nomatch m);exact⟨fp',R',λb o e _=>e,λz=>(nomatch z),λa z=>(g a z).imp id λz=>(nomatch z),λb e=>e⟩
def Zpo(hN:X.N.Nodup)(hi:X.N[i]? =YB x:=by rfl)(hx:Loc X.env.scope x:=by first|exact QT rfl|exact QM rfl)(hio:i∉io:=by decide)(hf:X.fn x=YD\/X.env.scope.names.lookup x=YB .local:=by first|exact .inl rfl|exact .inr rfl|assumption):MG X io YD (.Name x pos) (dName i) :=
 ⟨_,Z4e hN hi hx hf,λC H O δ fp ex v d k Q R q h kk=>by
  obtain⟨fp',R',k'⟩:=R.putD hio (q.wide λa l _=>l rfl);exact kk _ _ fp' R' k' h⟩
def Ymz:Zy4:=λds δ k=>ds=[]/\k δ
def Yci(g:MGt)(gs:Zy4):Zy4:=λds δ k=>match ds with|d::r=>g d δ λδ'=>gs r δ' k|[]=>False
def Zvn:MGs X io c [] Ymz:=⟨_,Z8g,λC H O δ fp ex v d k Q R q h kk=>by
 obtain⟨rfl,h⟩:=h;cases q;exact⟨rfl,kk O δ fp R (.refl _ _) h⟩⟩
def Rel.kp_das{C:MC G}{O:St}{vs:List V}(R:Rel C io H O δ fp ex)(S:Kp H fp H' fp')(h:Das G H (Lf C fp ex) vs ds):Das G H' (Lf C fp' ex) vs ds:=by
 have S':Stp YF H δ fp H' δ fp':=⟨S.keep,λz=>(nomatch z),S.grow,S.al⟩;obtain⟨f1,f2⟩:=R.frameL (c:=YD) (ex':=ex) S' (.inr rfl) λa z=>.inl z;exact h.frame (λa xs l q=>⟨(f1 a xs (λ_=>l) q).1 rfl,(f1 a xs (λ_=>l) q).2⟩) f2
def Zhz{g:MGt}{gs:Zy4}(h1:MG X io YD e g)(h2:MGs X io YD es gs)
  (hs:(Bm (e::es) X.env).map (·.2)=assign e X.env::(Bm es X.env).map (·.2):=by rfl):MGs X io YD (e::es) (Yci g gs):=by
 obtain⟨_,A,s⟩:=h1;obtain⟨_,B,s'⟩:=h2;exact⟨_,Z1f A B hs,λC H O δ fp ex v d k Q R q h kk=>by
  cases q with
  | nil=>exact h.elim
  | cons q qs=>
   refine⟨_,_,rfl,s C H O δ fp ex _ _ _ _ R q h λO1 δ1 fp1 R1 k1 h1=>?_⟩;exact s' C H O1 δ1 fp1 ex _ _ _ _ R1 ((R.kp_das k1 (qs.wide λa l _=>l rfl)).wide λa l _ _=>l) h1 λO2 δ2 fp2 R2 k2 h2=>kk O2 δ2 fp2 R2 (k1.trans k2) h2⟩
def dTup(n:Nat)(gs:Zy4):MGt:=λd δ k=>match d with| .tuple ds=>ds.length=n/\gs ds δ k|_=>False
def Z34{k:Nat}{gs:Zy4}{n:Nat}(hc:X.calm=YD)(h:MGs X io c es gs)
  (hn:(Bm es X.env).length=n:=by rfl) (hst:(Bm es X.env).findIdx? (·.1)=YC:=by rfl):MG X io c (.Tuple es k pos) (dTup n gs):=by
 obtain⟨_,A,s⟩:=h;exact⟨_,Yc1 hc A hn hst,λC H O δ fp ex v d k Q R q h kk=>by
  cases q with
  | tup e qs=>exact⟨_,_,rfl,.inl (.inl e),by rw[qs.length];exact h.1,s C H O δ fp ex _ _ _ _ R qs h.2 kk⟩
  | _=>exact h.elim⟩
def Yni(m:MEt)(g:MGt):MSt:=λD δ=>m δ λr δ'=>g r.data δ' D.nx
def Ybc{m:MEt}{g:MGt}(he:ME X io p c e m)(hg:MG X io c tg g)(hs:swapsWithSole [tg] e pos.line X.env=pure YF:=by rfl)(hw:swappedStores [tg] e X.env=pure YC:=by rfl)
  (h1:(Bm [tg] X.env).map (·.2)=[assign tg X.env]:=by rfl):MS X io (.Assign [tg] e pos) (Yni m g):=by
 obtain⟨_,A,s⟩:=he;obtain⟨_,B,s'⟩:=hg;exact⟨_,Z36 A B hs hw h1,λC H O δ fp ex D D' R h E=>s C H O δ fp ex _ _ R h λH' v r δ' fp' new r1 h1=>
  s' C H' O δ' fp' ex v _ _ _ r1.base (r1.da R) h1 λO2 δ2 fp2 R2 k2 h2=>E.nx H' O2 δ2 fp2 R2 (r1.stp.kp.trans k2) h2⟩
variable {G:Xc}
def IterOk(C:MC G)(fp:Fp)(ex:YG->Prop)(H1:Hp)(c:Bool)(J:It)(ds:List Xa):Prop:=∀H':Hp,(∀b o,H1 b=YB o->(c=YF\/¬Foot fp b)->H' b=YB o)->∀i:Nat,
 (∀ d,ds[i]? =YB d->J.go i H'/\∀x H'',J.yld i H' x H''->Same H' H''/\Da G H'' (λa=>c=YD->(Lf C fp ex a/\H1 a≠YC)) x d)/\(ds[i]? =YC->J.stop i H')
abbrev MIt:=Zg->(List Xa->Zg->Prop)->Prop
def SI(G:Xc)(io:List Nat)(p c:Bool)(t:TI)(m:MIt):Prop:=∀(C:MC G) (H:Hp) (O:St) (δ:Zg) (fp:Fp) (ex:YG->Prop) (K:List Xa->Zg->Prop) (Q:It->Hp->Prop),Rel C io H O δ fp ex->m δ K ->
 (∀ J H1 ds δ1 fp1,Rel C io H1 O δ1 fp1 ex->Stp p H δ fp H1 δ1 fp1->IterOk C fp1 ex H1 c J ds->K ds δ1->Q J H1)->t O H Q
def MI(X:Cx)(io:List Nat)(p c:Bool)(tg iter:YJ)(m:MIt):Prop:=∃t,PI X tg iter t/\SI X.K io p c t m
section
variable {a:YJ}{m:MEt}{mr:MAt}
def iL(m:MEt):MIt:=λδ K=>m δ λr δ'=>match r.data with| .list ds=>K ds δ'|_=>False
def Rel.kept{C:MC G}{H H':Hp}{O:St}{δ:Zg}{fp:Fp}{ex:YG->Prop}(R:Rel C io H O δ fp ex)(kp:∀b o,H b=YB o->(c=YF\/¬Foot fp b)->H' b=YB o) :
  (∀ a (xs:MuO),(c=YD->Lf C fp ex a)->Rd H a xs.ho->(c=YD->(Lf C fp ex a/\H a≠YC))/\Rd H' a xs.ho)/\(∀a (xs:ImO),H a=YB xs.ho->H' a=YB xs.ho):=by
 refine⟨λa xs l q=>⟨λhc=>⟨l hc,q.some⟩,?_⟩,λa xs q=>kp a _ q (.inr λz=>?_)⟩
 .have hk:c=YF\/¬Foot fp a:=by
   cases c with
   | false=>exact .inl rfl
   | true=>exact .inr (l rfl).1
  rcases q with q|⟨o,q⟩
  .exact .inl (kp a _ q hk)
  .exact .inr ⟨o,kp a _ q hk⟩
 .obtain⟨ys,e⟩:=R.foot z
  exact ImO.nm q e
def Z56(h:ME X io p c e m):MI X io p c tg e (iL m):=by
 obtain⟨_,A,s⟩:=h;exact⟨_,Z1r rfl A,λC H O δ fp ex K' Q R h kk=>s C H O δ fp ex _ _ R h λH1 v r δ1 fp1 new r1 h1=>by
  have q:=r1.da R;generalize r.data=d at q h1;cases q with
  | lst l e qs=>
   refine⟨_,rfl,⟨_,.inl e⟩,kk _ H1 _ δ1 fp1 r1.base r1.stp (λH' kp i=>?_) h1⟩;obtain⟨f1,f2⟩:=r1.base.kept kp;have e':=(f1 _ (.lst _) l e).2;have qs':=qs.frame f1 f2;refine⟨λd hd=>?_,λhd=>?_⟩
   .obtain⟨x,hx,qx⟩:=qs'.get hd
    refine⟨⟨_,x,.inl e',hx⟩,λy H'' hy=>?_⟩;obtain⟨rfl,hy⟩:=hy;have:=hy _ (.inl e');rw[hx]at this;cases this;exact⟨Same.refl _,qx⟩
   .exact⟨_,.inl e',by rw[qs'.length];exact Q4.mp hd⟩
  | scr ks=>
   refine⟨_,rfl,⟨_,ks.sq⟩,kk _ H1 _ δ1 fp1 r1.base r1.stp (λH' kp i=>?_) h1⟩;refine⟨λd hd=>?_,λhd=>?_⟩
   .obtain⟨x,hx,qx⟩:=(Das.ints (G:=X.K) (H:=H') (L:=λa=>c=YD->(Lf C fp1 ex a/\H1 a≠YC)) _).get hd
    refine⟨⟨_,x,ks.sq,hx⟩,λy H'' hy=>?_⟩;obtain⟨rfl,hy⟩:=hy;have:=hy _ ks.sq;rw[hx]at this;cases this;exact⟨Same.refl _,qx⟩
   .refine⟨_,ks.sq,?_⟩
    have:=Q4.mp hd;simpa using this
  | _=>exact h1.elim⟩
def Zro(lo:Int)(n:Nat):List Xa:=(QJ n).map λ(i:Nat)=>Xo (lo+(i:Int))
@[simp] theorem Zp5(lo:Int)(n:Nat):(Zro lo n).length=n:=by simp[Zro]
theorem Zqw{lo:Int}{n:Nat}{d:Xa}(h:(Zro lo n)[i]? =YB d):i<n/\d= .int (lo+i):=by
 have hi:i<n:=by
  have:=(Xk.mp h).1;simpa using this
 unfold Zro at h;rw[Xq,List.getElem?_range hi]at h;cases h;exact⟨hi,rfl⟩
def Z1j{C:MC G}{lo:Int}{n:Nat}:IterOk C fp ex H1 YD (Itr lo n) (Zro lo n):=λH' _ i=>by
 refine⟨λd hd=>?_,λhd=>?_⟩
 .obtain⟨hi,rfl⟩:=Zqw hd
  refine⟨hi,λx H'' hy=>?_⟩;obtain⟨rfl,rfl⟩:=hy;exact⟨Same.refl _,.int _⟩
 .have:=Q4.mp hd
  show n<=i;simpa using this
def iR1(mr:MAt):MIt:=λδ K=>mr δ λrs δ'=>match OT.datas rs with|[.int j]=>(-(2^62)<=j/\j<2^62)/\K (Zro 0 j.toNat) δ'|_=>False
def Zmk{p':Pos}(hg:Gl X "range")(hm:X.mg "range"=YC)(ha:MA X io p c [a] mr)(hs:Xr [a] X.env=[(YF,eval a X.env)]:=by rfl):MI X io p YD tg (.Call (.Name "range" p') [a] [] pos) (iR1 mr):=by
 obtain⟨_,A,s⟩:=ha;exact⟨_,Zup hg hm A hs,λC H O δ fp ex K' Q R h kk=>s C H O δ fp ex _ _ R h λH1 vs rs δ1 fp1 new r1 h1=>by
  have q:=r1.das R;generalize OT.datas rs=d at q h1;split at h1
  case h_2=>exact h1.elim
  cases q with
  | cons q1 q2=>
   cases q1;cases q2;exact⟨_,rfl,h1.1.1,h1.1.2,kk _ H1 _ δ1 fp1 r1.base r1.stp Z1j h1.2⟩⟩
theorem IterOk.at{C:MC G}{fp fp':Fp}{ex:YG->Prop}{H1 H' H'':Hp}{J:It}{ds:List Xa}{x:V}{d:Xa}(g:∀a,Foot fp' a->Foot fp a\/H1 a=YC)(h:Da G H'' (λa=>YD=YD->(Lf C fp ex a/\H1 a≠YC)) x d):Da G H'' (λa=>YD=YD->Lf C fp' ex a) x d :=
 h.wide λa l _ z=>⟨λw=>(g a w).elim (l z).1.1 (l z).2,(l z).1.2.1,(l z).1.2.2⟩
def Yh1(ds:List Xa)(g:MGt)(u:MSt)(D:Zin)(δ1:Zg):Prop:=∃I:Nat->Zg->Prop,I 0 δ1/\(∀(i:Nat) (d:Xa) (δ':Zg),ds[i]? =YB d->I i δ'->g d δ' λδ2=>u { D with nx:=I (i+1),ct:=I (i+1),bk:=D.nx } δ2)/\∀δ',I ds.length δ'->D.nx δ'
def Ynx(mi:MIt)(g:MGt)(u:MSt):MSt:=λD δ=>mi δ λds δ1=>Yh1 ds g u D δ1
theorem Rel.mk0{C:MC G}{O:St}(R:Rel C io H O δ fp ex)(s:Same H H'):Rel C io H' O δ fp ex:=(R.made (new:=[]) s λa m=>nomatch m).drop λa z=>.inl z
def Z3c{mi:MIt}{g:MGt}{u:MSt}(hp:PassesOwn (X4 X.prog X.w) X.A X.env X.xe)(hc:X.calm=YD)(hi:MI X io p YD tg iter mi)(hg:MG X io YD tg g)(hb:MSs X io body u)
  (hs:∀x,Vl iter X.env x=pure x:=by intro _;rfl):MS X io (.For tg iter body [] pos) (Ynx mi g u):=by
 obtain⟨_,A,s⟩:=hi;obtain⟨_,G,sg⟩:=hg;obtain⟨_,B,sb⟩:=hb;refine⟨_,Ye1 hp hc A G B hs,λC H O δ fp ex D D' R h E=>s C H O δ fp ex _ _ R h λJ H1 ds δ1 fp1 R1 S1 it h1=>?_⟩;obtain⟨I,h0,turn,fin⟩:=h1;refine⟨λi n O' H'=>n=ds.length-i/\i<=ds.length/\∃δ' fp',Rel C io H' O' δ' fp' ex/\Kp H1 fp1 H' fp'/\I i δ',⟨ds.length,rfl,Qp _,δ1,fp1,R1,.refl _ _,h0⟩,?_⟩;rintro i n O2 H2 ⟨rfl,hle,δ2,fp2,R2,k2,i2⟩;have itk:=it H2 (λb o e q=>k2.keep b o e (.inr (q.resolve_left (!1)))) i
 by_cases hlt:i<ds.length
 .have hd:ds[i]? =YB ds[i]:=Xi hlt
  obtain⟨go,yl⟩:=itk.1 _ hd;refine .inr ⟨go,λO' H'=>∃δ' fp',Rel C io H' O' δ' fp' ex/\Kp H1 fp1 H' fp'/\I (i+1) δ',λO' H' ⟨δ',fp',R',k',i'⟩=>⟨ds.length-(i+1),by omega,rfl,hlt,δ',fp',R',k',i'⟩,λx H3 hy=>?_⟩;obtain⟨s3,q3⟩:=yl x H3 hy;have R3:=R2.mk0 s3;have k3:Kp H1 fp1 H3 fp2:=k2.trans ⟨λb o e _=>s3 _ _ e,λz=>(nomatch z),λa z=>.inl z,s3.al⟩;refine sg C H3 O2 δ2 fp2 ex x _ _ _ R3 (IterOk.at (H':=H2) (J:=J) (ds:=ds) k2.grow q3) (turn i _ δ2 hd i2) λO4 δ4 fp4 R4 k4 h4=>?_;have k5:=k3.trans k4;refine sb C H3 O4 δ4 fp4 ex _ _ R4 h4 ⟨λH' O' δ' fp' R' k' n'=>⟨δ',fp',R',k5.trans k',n'⟩,λH' O' δ' fp' R' k' n'=>E.nx H' O' δ' fp' R' (S1.kp.trans (k5.trans k')) n',λH' O' δ' fp' R' k' n'=>⟨δ',fp',R',k5.trans k',n'⟩,E.rt⟩
 .have e:i=ds.length:=by omega
  subst e;exact .inl ⟨itk.2 (!5),E.nx H2 O2 δ2 fp2 R2 (S1.kp.trans k2) (fin δ2 i2)⟩
end
def gM(G:Xc)(io:List Nat)(c:Bool)(g:MGt):TG:=λv O H Q=>∃(C:MC G) (δ:Zg) (fp:Fp) (ex:YG->Prop) (d:Xa) (k:Zg->Prop),Rel C io H O δ fp ex/\Da G H (λa=>c=YD->Lf C fp ex a) v d/\g d δ k/\
 ∀O' δ' fp',Rel C io H O' δ' fp' ex->Kp H fp H fp'->k δ'->Q O' H
def tM(G:Xc)(io:List Nat)(p c:Bool)(m:MEt):TE:=λO H Q=>∃(C:MC G) (δ:Zg) (fp:Fp) (ex:YG->Prop) (K:OT->Zg->Prop),Rel C io H O δ fp ex/\m δ K/\∀H' v r δ' fp' new,RE C io p c H O δ fp ex H' v r δ' fp' new->K r δ'->Q v H'
def ttM(G:Xc)(io:List Nat)(p:Bool)(m:MTt):TT:=λO H Q=>∃(C:MC G) (δ:Zg) (fp:Fp) (ex:YG->Prop) (K:Bool->Zg->Prop),Rel C io H O δ fp ex/\m δ K/\∀H' b δ' fp',Rel C io H' O δ' fp' ex->Stp p H δ fp H' δ' fp'->K b δ'->Q b H'
def MIfs(X:Cx)(io:List Nat)(p:Bool)(ifs:List YJ)(m:MTt):Prop:=∃t,Z7h X ifs t/\STt X.K io p t m
section
variable {m:MEt}{mt:MTt}{g:MGt}
def MG.canon(h:MG X io c tg g):PG X tg (gM X.K io c g):=by
 obtain⟨t,A,s⟩:=h;rintro pins sh O H v u Q I r ⟨C,δ,fp,ex,d,k,R,q,h,kk⟩;exact A pins sh O H v u Q I r (s C H O δ fp ex v d k Q R q h kk)
def ME.canon(h:ME X io p c e m):PE X e (tM X.K io p c m):=by
 obtain⟨t,A,s⟩:=h;rintro pins sh O H Q I ⟨C,δ,fp,ex,K,R,h,kk⟩;exact A pins sh O H Q I (s C H O δ fp ex K Q R h kk)
def MIfs.canon(h:MIfs X io p ifs mt):Z7h X ifs (ttM X.K io p mt):=by
 obtain⟨t,A,s⟩:=h;rintro pins sh O H Q I ⟨C,δ,fp,ex,K,R,h,kk⟩;exact A pins sh O H Q I (s C H O δ fp ex K Q R h kk)
def Ycb:MTt:=λδ K=>K YD δ
def Zbq:MIfs X io YD [] Ycb:=⟨_,Z46,λC H O δ fp ex K Q R h kk=>kk H YD δ fp R (.refl _ _ _ _) h⟩
def Z54{cnd:YJ}(h:MT X io p cnd mt):MIfs X io p [cnd] mt:=by
 obtain⟨_,A,s⟩:=h;exact⟨_,Z5l A,s⟩
end
variable {G:Xc}
def blk(n:Nat)(caps:List Nat)(δ:Zg):Zg:=By n YC++caps.map λi=>(δ[i]?).getD YC
def Zaj(n:Nat)(caps:List Nat)(fp:Fp):Fp:=λk=>if k<n then[]else match caps[k-n]? with|some i=>fp i|none=>[]
def Zcn(n:Nat)(caps:List Nat):List Nat:=(QJ caps.length).map (·+n)
def Z12(C:MC G)(H1:Hp)(fp:Fp)(O0:St):MC G:=⟨H1,Foot fp,λa=>(C.L a\/C.H₀ a=YC)/\¬Foot fp a,O0⟩
def Zhn(ex:YG->Prop)(D:YG)(fp fpb:Fp)(a:YG):Prop:=ex a\/a=D\/(Foot fp a/\¬Foot fpb a)
section
variable {C:MC G}{O:St}{D:YG}{n:Nat}
theorem Zd2{k:Nat}(h:a∈Zaj n caps fp k):∃i,n<=k/\caps[k-n]? =YB i/\a∈fp i:=by
 unfold Zaj at h;split at h
 .exact nomatch h
 .split at h
  .rename_i i e
   exact⟨i,by omega,e,h⟩
  .exact nomatch h
def Z0j(h:caps[j]? =YB i):Zaj n caps fp (n+j)=fp i:=by
 unfold Zaj;rw[YQ (!0),show n+j-n=j by omega,h]
def Z98{k:Nat}{t:OT}(h:(blk n caps δ)[k]? =YB (YB t)):∃i,n<=k/\caps[k-n]? =YB i/\δ[i]? =YB (YB t):=by
 unfold blk at h;rw[List.getElem?_append]at h;split at h
 .rw[List.getElem?_replicate]at h
  split at h<;>cases h
 .rename_i hk
  rw[List.length_replicate]at hk h;rw[Xq]at h;cases e:caps[k-n]? with
  | none=>rw[e]at h;cases h
  | some i=>
   rw[e]at h;refine⟨i,by omega,rfl,?_⟩;simp only[Option.map_some]at h;cases e2:δ[i]? with
   | none=>rw[e2]at h;cases h
   | some o=>
    rw[e2]at h;simpa using h
theorem Rel.block(R:Rel C io H1 O δ fp ex)(nd:caps.Nodup)(hD:H1 D=YC) :
  Rel (Z12 C H1 fp (Za9 own caps O)) (Zcn own.length caps) (upd H1 D (.lst [])) (Za9 own caps O) (blk own.length caps δ) (Zaj own.length caps fp) (Zhn ex D fp (Zaj own.length caps fp)):=by
 have s:=Z9 hD (.lst []);have sub:∀a,Foot (Zaj own.length caps fp) a->Foot fp a:=λa q91=>by
  obtain⟨k,z⟩:=q91;obtain⟨i,_,_,z⟩:=Zd2 z;exact⟨i,z⟩
 have neD:∀a,H1 a≠YC->a≠D:=λa h z=>h (z▸hD);refine⟨by unfold Za9 blk;simp,λk t e=>?_,λk h=>?_,λk=>?_,λk l a h1 h2=>?_,λk a h z=>?_,λa z=>?_,λb o e _=>s _ _ e,λb e=>s.free e,λk a h=>?_,λk _=>rfl⟩
 .obtain⟨i,hk,e1,e2⟩:=Z98 e
  obtain⟨v,e3,o⟩:=R.own i t e2;refine⟨v,?_,?_⟩
  .unfold Za9
   rw[JZ (by simpa using hk),Xf,Xq,e1];simp[e3]
  .have ef:Zaj own.length caps fp k=fp i:=by
    have:=Z0j (n:=own.length) (fp:=fp) e1
    rwa[show own.length+(k-own.length)=k by omega]at this
   rw[ef];refine(o.wide λa l q=>⟨λz=>l.1 (sub a z),λz=>?_,.inl ⟨l.2.2,l.1⟩⟩).same s;rcases z with z|z|z
   .exact l.2.1 z
   .exact neD a q z
   .exact l.1 z.1
 .unfold Zaj
  split
  .rfl
  .split
   .rename_i i e1
    refine R.emp i λt z=>h t ?_;unfold blk;rw[JZ (by rw[List.length_replicate];omega),List.length_replicate,Xq,e1];simp[z]
   .rfl
 .unfold Zaj
  split
  .exact .nil
  .split
   .exact R.nd _
   .exact .nil
 .obtain⟨i,hk,e1,m1⟩:=Zd2 h1
  obtain⟨j,hl,e2,m2⟩:=Zd2 h2;have:=R.dj i j a m1 m2;subst this;have hlt:=(Xk.mp e1).1;have:=(List.getElem?_inj hlt nd).mp (e1.trans e2.symm);omega
 .obtain⟨i,hk,e1,m⟩:=Zd2 h
  rcases z with z|z|z
  .exact R.dx i a m z
  .exact R.footSome (z▸hD) ⟨i,m⟩
  .exact z.2 ⟨k,h⟩
 .rcases z with z|z|z
  .intro q;exact R.xa a z (s.free q)
  .subst z;rw[Z8];intro q;cases q
  .obtain⟨xs,e⟩:=R.foot z.1
   rw[s _ _ e];intro q;cases q
 .obtain⟨i,hk,e1,m⟩:=Zd2 h
  refine .inl ⟨?_,⟨i,m⟩⟩;have:=(Xk.mp e1).1;exact Qk.mpr ⟨k-own.length,by simpa using this,by omega⟩
def Z9c{O0:St}(hx:∀a,ex a->ex' a)(l:Lf (Z12 C H1 fp O0) fp' ex' a):Lf C fp ex a\/H1 a=YC:=by
 obtain⟨l1,l2,l3⟩:=l;rcases l3 with l3|l3
 .exact .inl ⟨l3.2,λz=>l2 (hx a z),l3.1⟩
 .exact .inr l3
theorem Rel.poke(R:Rel C io H' O δ fp ex)(hx:ex D)(hD:H' D=YB (.lst xs))(h0:C.H₀ D=YC):Rel C io (upd H' D (.lst ys)) O δ fp ex:=by
 have nf:¬Foot fp D:=λ⟨i,z⟩=>R.dx i D z hx;have kp:∀b o,b≠D->H' b=YB o->upd H' D (.lst ys) b=YB o:=λb o n e=>by rw[Zz n];exact e
 refine⟨R.len,λi t e=>?_,R.emp,R.nd,R.dj,R.dx,λa z=>?_,λb o e n=>?_,λb e=>?_,R.new,R.io⟩
 .obtain⟨v,e1,o⟩:=R.own i t e
  refine⟨v,e1,o.frame (λa zs l q=>⟨l,?_⟩) (λa zs q=>kp a _ (λz=>?_) q) λa m zs q=>kp a _ (λz=>nf ⟨i,z▸m⟩) q⟩
  .have na:a≠D:=λz=>l.2.1 (z▸hx)
   rcases q with q|⟨u,q⟩
   .exact .inl (kp a _ na q)
   .exact .inr ⟨u,kp a _ na q⟩
  .exact ImO.nl q (z▸hD)
 .by_cases e:a=D
  .subst e;rw[Z8];intro q;cases q
  .rw[Zz e];exact R.xa a z
 .refine kp b o (λz=>?_) (R.fr b o e n)
  rw[z,h0]at e;cases e
 .refine R.al b ?_
  by_cases q:b=D
  .subst q;rw[Z8]at e;cases e
  .rwa[Zz q]at e
theorem Owns.poke{zs:List V}(o:Owns G H' L zs rs as)(hD:H' D=Option.some (HO.lst xs))(hL:¬L D)(hn:D∉as):Owns G (upd H' D (.lst ys)) L zs rs as:=by
 refine o.frame (λa zs l q=>⟨l,?_⟩) (λa zs q=>?_) λa m zs q=>?_
 .have na:a≠D:=λz=>hL (z▸l)
  rcases q with q|⟨u,q⟩
  .exact .inl (by rw[Zz na];exact q)
  .exact .inr ⟨u,by rw[Zz na];exact q⟩
 .rw[Zz (λz=>ImO.nl q (z▸hD))];exact q
 .have na:a≠D:=λz=>hn (by rw[<-z];exact m)
  rw[Zz na];exact q
theorem Owns.snoc{bs:List YG}{x:V}{r:OT}(h:Owns G H' L xs rs as)(k:Own G H' L x r bs):Owns G H' L (xs++[x]) (rs++[r]) (as++bs) :=
 Owns.rec (motive_1:=λ_ _ _ _=>True) (motive_2:=λxs rs as _=>Owns G H' L (xs++[x]) (rs++[r]) (as++bs)) (λ_=>trivial) (λ_ _ _=>trivial) (λ_ _ _=>trivial) (λ_ _ _=>trivial) (by have:=Owns.cons k .nil;rwa[JG]at this) (λk _ _ ih=>by rw[Vg];exact .cons k ih) h
end
structure Z3p(C:MC G)(H1:Hp)(fp1:Fp)(ex:YG->Prop)(n:Nat)(caps:List Nat)(O0:St)(D:YG)(pb:Bool)(H':Hp)(O':St)(δ':Zg)(fp':Fp)(ys:List V)(rs:List OT)(new:List YG):Prop where
 keep:∀b o,H1 b=YB o->(pb=YD\/¬Foot (Zaj n caps fp1) b)->H' b=YB o
 al:∀b,H' b=YC->H1 b=YC
 dat:H' D=YB (.lst ys)
 rel:Rel (Z12 C H1 fp1 O0) (Zcn n caps) H' O' δ' fp' (exu (Zhn ex D fp1 (Zaj n caps fp1)) new)
 grow:∀a,Foot fp' a->Foot (Zaj n caps fp1) a\/H1 a=YC
 own:Owns G H' (λa=>YD=YD->Lf (Z12 C H1 fp1 O0) fp' (exu (Zhn ex D fp1 (Zaj n caps fp1)) new) a) ys rs new
 nd:new.Nodup
 fresh:∀a∈new,H1 a=YC/\a≠D
variable {c' p'' pe ci:Bool}{cnd:YJ}{fp1:Fp}{sts ss ss':List YK}{mr:MAt}{m ma mb:MEt}{mi:MIt}{pp:Pos}{δ1:Zg}{gs:Zy4}
section
variable {pt:Bool}{g:MGt}{mt:MTt}{me:MEt}
theorem Zuu{C:MC G}{O:St}{D:YG}{Qf:Hp->Prop}(I:Nat->List OT->Zg->Prop)(R1:Rel C io H1 O δ1 fp1 ex)
  (it:∀H':Hp,(∀b o,H1 b=YB o->((pt&&pe)=YD\/¬Foot (Zaj own.length caps fp1) b)->H' b=YB o)->∀i:Nat,(∀d,ds[i]? =YB d->J.go i H'/\∀x H'',J.yld i H' x H''->Same H' H''/\Da G H'' (λa=>ci=YD->(Lf C fp1 ex a/\H1 a≠YC)) x d)/\(ds[i]? =YC->J.stop i H'))
  (nd:caps.Nodup) (hD:H1 D=YC) (hz:ds.length<=Xp) (h0:I 0 [] (blk own.length caps δ1))
  (turn:∀(i:Nat) (d:Xa) (rs:List OT) (δ':Zg),ds[i]? =YB d->I i rs δ'->g d δ' λδ2=>mt δ2 λb δ3=>if b=YD then me δ3 λr δ4=>I (i+1) (rs++[r]) δ4 else I (i+1) rs δ3)
  (fin:∀H' O' δ' fp' ys rs new,Z3p C H1 fp1 ex own.length caps (Za9 own caps O) D (pt&&pe) H' O' δ' fp' ys rs new->I ds.length rs δ'->Qf H') :
  Z8p J (gM G (Zcn own.length caps) ci g) (ttM G (Zcn own.length caps) pt mt) (tM G (Zcn own.length caps) pe YD me) (Za9 own caps O) D Qf H1:=by
 have hx:Zhn ex D fp1 (Zaj own.length caps fp1) D:=.inr (.inl rfl);refine⟨λi n O' H'=>n=ds.length-i/\i<=ds.length/\∃rs ys new δ' fp',Z3p C H1 fp1 ex own.length caps (Za9 own caps O) D (pt&&pe) H' O' δ' fp' ys rs new/\ys.length<=i/\I i rs δ',⟨ds.length,rfl,Qp _,[],[],[],_,_,⟨λb o e _=>Z9 hD _ _ _ e,(Z9 hD _).al,Z8,?_,λa z=>.inl z,.nil,.nil,λa m=>(nomatch m)⟩,Xx _,h0⟩,?_⟩
 .exact(R1.block nd hD).drop λa z=>Zdq.mp z
 rintro i n O2 H2 ⟨rfl,hle,rs,ys,new,δ2,fp2,B,hl,i2⟩;have subB:∀b,Foot (Zaj own.length caps fp1) b->Foot fp1 b:=λb q92=>by
  obtain⟨k,z⟩:=q92;obtain⟨i,_,_,z⟩:=Zd2 z;exact⟨i,z⟩
 have itk:=it H2 B.keep i
 by_cases hlt:i<ds.length
 case neg=>
  have e:i=ds.length:=by omega
  subst e;exact .inl ⟨itk.2 (!5),fin H2 O2 δ2 fp2 ys rs new B i2⟩
 have hd:ds[i]? =YB ds[i]:=Xi hlt;obtain⟨go,yl⟩:=itk.1 _ hd;refine .inr ⟨go,λx H3 hy=>?_⟩;obtain⟨s3,q3⟩:=yl x H3 hy;have R3:=B.rel.mk0 s3;have D3:H3 D=YB (.lst ys):=s3 _ _ B.dat
 -- the item,clean in the block
 have q3':Da G H3 (λa=>ci=YD->Lf (Z12 C H1 fp1 (Za9 own caps O)) fp2 (exu (Zhn ex D fp1 (Zaj own.length caps fp1)) new) a) x ds[i]:=by
  refine q3.wide λa l _ z=>?_;obtain⟨⟨l1,l2,l3⟩,l4⟩:=l z;refine⟨λw=>?_,λw=>?_,.inl ⟨l3,l1⟩⟩
  .rcases B.grow a w with w|w
   .exact l1 (subB a w)
   .exact l4 w
  .rcases w with(w|w|w)|w
   .exact l2 w
   .subst w;exact l4 hD
   .exact l1 w.1
   .exact l4 (B.fresh a w).1
 refine⟨_,δ2,fp2,_,_,_,R3,q3',turn i _ rs δ2 hd i2,λO4 δ4 fp4 R4 k4 h4=>?_⟩;refine⟨_,δ4,fp4,_,_,R4,h4,λH5 b δ5 fp5 R5 S5 h5=>?_⟩
 -- the state behind the test
 have keep5:∀b o,H1 b=YB o->((pt&&pe)=YD\/¬Foot (Zaj own.length caps fp1) b)->H5 b=YB o:=λb o e q=>by
  refine S5.keep b o (s3 _ _ (B.keep b o e q)) ?_;rcases q with q|q
  .rw[XR]at q;exact .inl q.1
  .refine .inr λz=>?_
   rcases k4.grow b z with z|z
   .rcases B.grow b z with z|z
    .exact q z
    .rw[e]at z;cases z
   .rw[s3 _ _ (B.keep b o e (.inr q))]at z;cases z
 have al5:∀b,H5 b=YC->H1 b=YC:=λb e=>B.al b (s3.al b (S5.al b e));have grow4:∀a,Foot fp4 a->Foot (Zaj own.length caps fp1) a\/H1 a=YC:=λa z=>by
  rcases k4.grow a z with z|z
  .exact B.grow a z
  .exact .inr (B.al a (s3.al a z))
 have grow5:∀a,Foot fp5 a->Foot (Zaj own.length caps fp1) a\/H1 a=YC:=λa z=>by
  rcases S5.grow a z with z|z
  .exact grow4 a z
  .exact .inr (B.al a (s3.al a z))
 have D5:H5 D=YB (.lst ys):=S5.keep D _ D3 (.inr λ⟨k,z⟩=>R4.dx k D z (.inl hx));have own3:=B.own.same s3
 -- the items so far behind the target and the test
 have own4:Owns G H3 (λa=>YD=YD->Lf (Z12 C H1 fp1 (Za9 own caps O)) fp4 (exu (Zhn ex D fp1 (Zaj own.length caps fp1)) new) a) ys rs new:=by
  refine own3.wide λa l q z=>?_;obtain⟨l1,l2,l3⟩:=l z;exact⟨λw=>(k4.grow a w).elim l1 q,l2,l3⟩
 have own5:=R4.owns_step (ex':=exu (Zhn ex D fp1 (Zaj own.length caps fp1)) new) S5 (c:=YD) (.inr rfl) (λa z=>.inl z) (λa m=>.inr m) own4;dsimp only at h5|-
 cases b with
 | false=>
  rw[YQ XJ]at h5|-
  exact⟨ds.length-(i+1),by omega,rfl,hlt,rs,ys,new,δ5,fp5,⟨keep5,al5,D5,R5,grow5,own5,B.nd,B.fresh⟩,by omega,h5⟩
 | true=>
  rw[YM rfl]at h5|-
  refine⟨_,δ5,fp5,_,_,R5,h5,λH6 v r δ6 fp6 nr r6 h6=>?_⟩;have D6:H6 D=YB (.lst ys):=r6.stp.keep D _ D5 (.inr λ⟨k,z⟩=>R5.dx k D z (.inl hx));have hDnr:D∉nr:=λz=>by
   have:=r6.fresh D z;rw[D5]at this;cases this
  have own6:=R5.owns_step (ex':=exu (exu (Zhn ex D fp1 (Zaj own.length caps fp1)) new) nr) r6.stp (c:=YD) (.inr rfl) (λa z=>z.imp id λz=>r6.fresh a z) (λa m=>.inr m) own5;have eqx:∀a,exu (Zhn ex D fp1 (Zaj own.length caps fp1)) (new++nr) a->exu (exu (Zhn ex D fp1 (Zaj own.length caps fp1)) new) nr a:=λa z=>by
   rcases z with z|z
   .exact .inl (.inl z)
   .rcases X3.mp z with z|z
    .exact .inl (.inr z)
    .exact .inr z
  have lw:∀a,(YD=YD->Lf (Z12 C H1 fp1 (Za9 own caps O)) fp6 (exu (exu (Zhn ex D fp1 (Zaj own.length caps fp1)) new) nr) a)->H6 a≠YC->(YD=YD->Lf (Z12 C H1 fp1 (Za9 own caps O)) fp6 (exu (Zhn ex D fp1 (Zaj own.length caps fp1)) (new++nr)) a) :=
   λa l _ z=>⟨(l z).1,λw=>(l z).2.1 (eqx a w),(l z).2.2⟩
  have ownA:=(own6.snoc r6.own).wide lw;refine⟨ys,D6,by omega,ds.length-(i+1),by omega,rfl,hlt,rs++[r],ys++[v],new++nr,δ6,fp6,⟨λb o e q=>?_,λb e=>?_,Z8,?_,λa z=>?_,?_,?_,λa m=>?_⟩,by rw[Xw];show ys.length+1<=i+1;omega,h6⟩
  .have nD:b≠D:=λz=>by rw[z,hD]at e;cases e
   rw[Zz nD];refine r6.stp.keep b o (keep5 b o e q) ?_;rcases q with q|q
   .rw[XR]at q;exact .inl q.2
   .refine .inr λz=>?_
    rcases grow5 b z with z|z
    .exact q z
    .rw[e]at z;cases z
  .by_cases q:b=D
   .subst q;rw[Z8]at e;cases e
   .rw[Zz q]at e
    exact al5 b (r6.stp.al b e)
  .exact(r6.rel.drop eqx).poke (.inl hx) D6 hD
  .rcases r6.stp.grow a z with z|z
   .exact grow5 a z
   .exact .inr (al5 a z)
  .exact ownA.poke D6 (λz=>(z rfl).2.1 (.inl hx)) (λm=>by
    rcases X3.mp m with m|m
    .exact(B.fresh D m).2 rfl
    .exact hDnr m)
  .refine List.nodup_append.mpr ⟨B.nd,r6.nd,λa m b m' z=>?_⟩
   subst z;obtain⟨xs,e⟩:=own5.some a m;rw[r6.fresh a m']at e;cases e
  .rcases X3.mp m with m|m
   .exact B.fresh a m
   .exact⟨al5 a (r6.fresh a m),λz=>hDnr (z▸m)⟩
end
variable {G:Xc}
section
variable {pt:Bool}{g:MGt}{mt:MTt}{me:MEt}
def Ye4(m:MEt):MEt:=λδ K=>m δ λr δ'=>Zbh r.data=YD/\K (.fz r.data) δ'
def Yej(h:ME X io p c e m):ME X io p YD e (Ye4 m):=by
 obtain⟨_,A,s⟩:=h;exact⟨_,A,λC H O δ fp ex K Q R h k=>s C H O δ fp ex _ _ R h λH' v r δ' fp' new r1 h1=>k H' v _ δ' fp' [] (r1.fzs R h1.1) h1.2⟩
def Ydi(n:Nat)(caps:List Nat)(ds:List Xa)(g:MGt)(mt:MTt)(me:MEt)(δ1:Zg)(K:OT->Zg->Prop):Prop:=ds.length<=Xp/\∃I:Nat->List OT->Zg->Prop,I 0 [] (blk n caps δ1)/\
 (∀ (i:Nat) (d:Xa) (rs:List OT) (δ':Zg),ds[i]? =YB d->I i rs δ'->g d δ' λδ2=>mt δ2 λb δ3=>if b=YD then me δ3 λr δ4=>I (i+1) (rs++[r]) δ4 else I (i+1) rs δ3)/\
 ∀rs δ',I ds.length rs δ'->K (.nd rs) δ1
def Zjb(n:Nat)(caps:List Nat)(mi:MIt)(g:MGt)(mt:MTt)(me:MEt):MEt:=λδ K=>mi δ λds δ1=>Ydi n caps ds g mt me δ1 K
def Z7m{wi:TI}(si:SI G io p ci wi mi)(nd:caps.Nodup)(hp:(pt&&pe)=YD) :
  SE G io p YD (Z44 own caps wi (gM G (Zcn own.length caps) ci g) (ttM G (Zcn own.length caps) pt mt) (tM G (Zcn own.length caps) pe YD me)) (Zjb own.length caps mi g mt me):=by
 intro C H O δ fp ex K Q R h k;refine si C H O δ fp ex _ _ R h λJ H1 ds δ1 fp1 R1 S1 it h1 D hD=>?_;obtain⟨hz,I,h0,turn,fin⟩:=h1;refine Zuu I R1 (λH' kp=>it H' λb o e _=>kp b o e (.inl hp)) nd hD hz h0 turn λH' O' δ' fp' ys rs new B i'=>?_;have s:Same H1 H':=λb o e=>B.keep b o e (.inl hp);refine k H' (.ref D) (.nd rs) δ1 fp1 (D::new) (RE.tree R R1 S1 s (λa m=>?_) (JF.mpr ⟨λm=>(B.fresh D m).2 rfl,B.nd⟩) (.nd B.dat (B.own.wide λa l _=>?_))) (fin rs δ' i')
 .rcases Xl.mp m with rfl|m
  .exact hD
  .exact(B.fresh a m).1
 .refine⟨?_,λm=>?_⟩
  .rcases Z9c (λa z=>.inl (.inl z)) (l rfl)with z|z
   .exact .inl λ_=>z
   .exact .inr z
  .rcases Xl.mp m with z|z
   .exact(l rfl).2.1 (.inl (.inr (.inl z)))
   .exact(l rfl).2.1 (.inr z)
def Z9p(S:CompScope X own caps N' sc)(hc:X.calm=YD)(nd:caps.Nodup)(hi:MI X io p ci tg iter mi)
  (hg:∀C cells s₂ H₂ fp,MG (Wx X N' sc C cells s₂ H₂ fp) (Zcn own.length caps) ci tg g) (ht:∀C cells s₂ H₂ fp,MIfs (Wx X N' sc C cells s₂ H₂ fp) (Zcn own.length caps) pt ifs mt) (he:∀C cells s₂ H₂ fp,ME (Wx X N' sc C cells s₂ H₂ fp) (Zcn own.length caps) pe YD elt me)
  (hp:(pt&&pe)=YD:=by rfl) (hs:∀x,Vl iter X.env x=pure x:=by intro _;rfl):ME X io p YD (.ListComp elt [⟨tg,iter,ifs,0⟩] sc pos) (Zjb own.length caps mi g mt me):=by
 obtain⟨_,A,si⟩:=hi;exact⟨_,Z60 S hc A (λC cells s₂ H₂ fp=>(hg C cells s₂ H₂ fp).canon) (λC cells s₂ H₂ fp=>(ht C cells s₂ H₂ fp).canon) (λC cells s₂ H₂ fp=>(he C cells s₂ H₂ fp).canon) hs,Z7m si nd hp⟩
section
variable {y:Str}{spos:Pos}
def Zcf(own':Bool)(hN:X.N.Nodup)(hy:X.N[i]? =YB y)(hx:Loc X.env.scope y)(S:CompScope X own caps N' sc)(hc:X.calm=YD)(nd:caps.Nodup)(hi:MI X io p ci tg iter mi)
  (hg:∀C cells s₂ H₂ fp,MG (Wx X N' sc C cells s₂ H₂ fp) (Zcn own.length caps) ci tg g) (ht:∀C cells s₂ H₂ fp,MIfs (Wx X N' sc C cells s₂ H₂ fp) (Zcn own.length caps) pt ifs mt) (he:∀C cells s₂ H₂ fp,ME (Wx X N' sc C cells s₂ H₂ fp) (Zcn own.length caps) pe YD elt me)
  (hp:(pt&&pe)=YD:=by rfl) (hio:i∉io:=by decide)
  (hsw:Vv (.ListComp elt [⟨tg,iter,ifs,0⟩] sc pos) (YB (.Name y py)) spos.line X.env=pure YD:=by rfl)
  (hs:∀x,Vl iter X.env x=pure x:=by intro _;rfl) (hf:X.fn y=YD\/X.env.scope.names.lookup y=YB .local:=by first|exact .inl rfl|exact .inr rfl|assumption) :
  MS X io (.Assign [.Name y py] (.ListComp elt [⟨tg,iter,ifs,0⟩] sc pos) spos) (if own'=YD then Zsm i (Zjb own.length caps mi g mt me)else Z82 i (Zjb own.length caps mi g mt me)):=by
 obtain⟨_,A,si⟩:=hi;refine⟨_,Zsz (g:=gM X.K (Zcn own.length caps) ci g) (tt:=ttM X.K (Zcn own.length caps) pt mt) (te:=tM X.K (Zcn own.length caps) pe YD me) hN hy hx S hc A (λC cells s₂ H₂ fp=>(hg C cells s₂ H₂ fp).canon) (λC cells s₂ H₂ fp=>(ht C cells s₂ H₂ fp).canon) (λC cells s₂ H₂ fp=>(he C cells s₂ H₂ fp).canon) hsw hs hf,?_⟩;cases own'
 .exact Yla (Z7m si nd hp) hio
 .exact Ybk (Z7m si nd hp) hio
end
end
variable {G:Xc}
section
variable {O:St}{l:YG}
def Yck(K:Xc):R2:=λx y H Q=>∃l b xs zs,x= .ref l/\y= .ref b/\SqL K H l xs/\SqL K H b zs/\xs.length+zs.length<=Xp/\∀p,H p=YC->Q (.ref p) (upd H p (.lst (xs++zs)))
def Inv.lstQ(hK:X.K=K)(I:Inv X pins O H s)(hH:SqL K H l xs):∃(its:List Xd) (n:Nat),Vals xs its/\xs.length=its.length/\∃o,s.heap.get? l=YB o/\o.cls= .type "list"/\o.dict=YC/\o.data= .seq its.toArray n:=by
 subst hK;obtain⟨its,r,⟨o,n,e,h1,h2,h3⟩,_⟩:=I.list hH;exact⟨its,n,r,r.length,o,e,h1,h2,h3⟩
def Ze0(hK:X.K=K):OpR X (Ut .Add) (Yck K):=by
 intro pins s O H x y v u Q I rx ry h;obtain⟨l,b,xs,zs,rfl,rfl,hH,hB,hz,q⟩:=h;cases rx;cases ry;obtain⟨its,n,r,hl,⟨cls,dd,data,sl⟩,ho,hc,_,hd⟩:=I.lstQ hK hH;obtain⟨its2,n2,r2,hl2,⟨cls2,dd2,data2,sl2⟩,ho2,hc2,_,hd2⟩:=I.lstQ hK hB;simp only at hc hd hc2 hd2;subst hc hd hc2 hd2;have ea:its.toArray++its2.toArray=(its++its2).toArray:=by simp
 refine concat_meets ⟨_,ho,rfl⟩ ⟨_,ho2,rfl⟩ noFill_list_add seq_list_add PySem.F.slot_list_add PySem.F.entry_list_add (PySem.F.args_list_add_2 _ _) (list_addW l b its.toArray its2.toArray n n2 dd dd2 sl sl2 (by simp only[XF];omega)) ⟨ho,ho2,?_⟩;rw[ea];exact⟨.ref _,_,I.lnew (t':=s.toks) (r.append r2) (by rw[Xw];omega),rfl,q _ I.fresh⟩
end
def asI(d:Xa)(k:Int->Prop):Prop:=match d with| .int i=>k i|_=>False
def asL(d:Xa)(k:List Xa->Prop):Prop:=match d with| .list ds=>k ds|_=>False
section
variable {d:Xa}
def Da.intInv{k:Int->Prop}(q:Da G H L v d)(h:asI d k):∃i,v= .int i/\k i:=by
 cases q with
 | int b=>exact⟨b,rfl,h⟩
 | _=>exact h.elim
def Da.lstInv{k:List Xa->Prop}(q:Da G H L v d)(h:asL d k):∃a xs ds,v= .ref a/\SqL G H a xs/\Das G H L xs ds/\k ds:=by
 cases q with
 | lst l e r=>exact⟨_,_,_,rfl,.inl e,r,h⟩
 | scr s=>exact⟨_,_,_,rfl,s.sq,.ints _,h⟩
 | _=>exact h.elim
end
def d2I(C:Int->Int->Prop)(g:Int->Int->Xa):Xa->Xa->(Xa->Prop)->Prop:=λd e k=>asI d λi=>asI e λj=>C i j/\k (g i j)
def Z0m(g:Int->Int->Xa):Xa->Xa->(Xa->Prop)->Prop:=λd e k=>asI d λi=>asI e λj=>k (g i j)
def Yd3{C:Int->Int->Prop}{f:Int->Int->Int}:P2s G (rI C λi j=>.int (f i j)) (d2I C λi j=>.int (f i j)):=λH L x y d e k Q hx hy h kk=>by
 obtain⟨i,rfl,h⟩:=hx.intInv h;obtain⟨j,rfl,h⟩:=hy.intInv h;exact⟨i,j,rfl,rfl,h.1,kk _ _ (.int _) h.2⟩
structure MulOk(i j:Int):Prop where
 ok:IntMulOk i j
structure Yn0(i j:Int):Prop where
 ok:DivOk i j
structure Yof(i j:Int):Prop where
 ok:Ygb i j
def Ya4{f:Int->Int->Int}:P2s G (rI IntMulOk λi j=>.int (f i j)) (d2I MulOk λi j=>.int (f i j)):=λH L x y d e k Q hx hy h kk=>by
 obtain⟨i,rfl,h⟩:=hx.intInv h;obtain⟨j,rfl,h⟩:=hy.intInv h;exact⟨i,j,rfl,rfl,h.1.ok,kk _ _ (.int _) h.2⟩
def Yb0{f:Int->Int->Int}:P2s G (rI DivOk λi j=>.int (f i j)) (d2I Yn0 λi j=>.int (f i j)):=λH L x y d e k Q hx hy h kk=>by
 obtain⟨i,rfl,h⟩:=hx.intInv h;obtain⟨j,rfl,h⟩:=hy.intInv h;exact⟨i,j,rfl,rfl,h.1.ok,kk _ _ (.int _) h.2⟩
def Yed{f:Int->Int->Int}:P2s G (rI Ygb λi j=>.int (f i j)) (d2I Yof λi j=>.int (f i j)):=λH L x y d e k Q hx hy h kk=>by
 obtain⟨i,rfl,h⟩:=hx.intInv h;obtain⟨j,rfl,h⟩:=hy.intInv h;exact⟨i,j,rfl,rfl,h.1.ok,kk _ _ (.int _) h.2⟩
def Zut{f:Int->Int->Int}:P2s G (rI0 λi j=>.int (f i j)) (Z0m λi j=>.int (f i j)):=λH L x y d e k Q hx hy h kk=>by
 obtain⟨i,rfl,h⟩:=hx.intInv h;obtain⟨j,rfl,h⟩:=hy.intInv h;exact⟨i,j,rfl,rfl,kk _ _ (.int _) h⟩
def Zg0{f:Int->Int->Bool}:P2s G (rI0 λi j=>.bl (f i j)) (Z0m λi j=>.bool (f i j)):=λH L x y d e k Q hx hy h kk=>by
 obtain⟨i,rfl,h⟩:=hx.intInv h;obtain⟨j,rfl,h⟩:=hy.intInv h;exact⟨i,j,rfl,rfl,kk _ _ (.bl _) h⟩
def Ynd(K:Xc):R2:=λx y H Q=>∃(L L':YG->Prop) (d e:Xa),Da K H L x d/\Da K H L' y e/\Shp d/\Shp e/\Q (.bl (JT d e)) H
def Ykx(K:Xc):R2:=λx y H Q=>∃(L L':YG->Prop) (d e:Xa),Da K H L x d/\Da K H L' y e/\Shp d/\Shp e/\Q (.bl (!JT d e)) H
def Ziv(hu:X.A.units+64<cLine):OpR X (JR .Eq) (Ynd X.K):=by
 intro pins s O H x y v u Q I rx ry h;obtain⟨L,L',d,e,h1,h2,s1,s2,q⟩:=h;obtain⟨as,k1⟩:=h1.reads rfl I rx (VL s1);obtain⟨bs,k2⟩:=h2.reads rfl I ry (VL s2);exact eq_dataH k1 k2 s1 s2 hu ⟨.bl _,H,I,rfl,q⟩
def Zof(hu:X.A.units+64<cLine):OpR X (JR .NotEq) (Ykx X.K):=by
 intro pins s O H x y v u Q I rx ry h;obtain⟨L,L',d,e,h1,h2,s1,s2,q⟩:=h;obtain⟨as,k1⟩:=h1.reads rfl I rx (VL s1);obtain⟨bs,k2⟩:=h2.reads rfl I ry (VL s2);exact ne_dataH k1 k2 s1 s2 hu ⟨.bl _,H,I,rfl,q⟩
structure Ycx(d:Xa):Prop where
 ok:Shp d
def dEq:Xa->Xa->(Xa->Prop)->Prop:=λd e k=>Ycx d/\Ycx e/\k (.bool (JT d e))
def dNe:Xa->Xa->(Xa->Prop)->Prop:=λd e k=>Ycx d/\Ycx e/\k (.bool (!JT d e))
def Zp7:P2s G (Ynd G) dEq:=λH L x y d e k Q hx hy h kk=>⟨L,L,d,e,hx,hy,h.1.ok,h.2.1.ok,kk _ _ (.bl _) h.2.2⟩
def Zvi:P2s G (Ykx G) dNe:=λH L x y d e k Q hx hy h kk=>⟨L,L,d,e,hx,hy,h.1.ok,h.2.1.ok,kk _ _ (.bl _) h.2.2⟩
def Zc2:Xa->Bool
 | .none=>YD
 | _=>YF
def Da.isNone{d:Xa}(h:Da G H L v d):decide (v= .non)=Zc2 d:=by
 cases h<;>rfl
def Yku:Xa->Xa->(Xa->Prop)->Prop:=λd e k=>e= .none/\k (.bool (Zc2 d))
def Zkg:P2s G (λx y H Q=>y= .non/\Q (.bl (decide (x= .non))) H) Yku:=λH L x y d e k Q hx hy h kk=>by
 obtain⟨rfl,h⟩:=h;cases hy;exact⟨rfl,by rw[hx.isNone];exact kk _ _ (.bl _) h⟩
def ixD(d e:Xa):Option Xa:=match d,e with
 | .list ds,.int i=>atI ds i
 | .tuple ds,.int i=>atI ds i
 | _,_=>YC
def dIx:Xa->Xa->(OT->Prop)->Prop:=λd e k=>match ixD d e with|some x=>k (.fz x)|none=>False
def Das.atI{i:Int}{d:Xa}(h:Das G H L xs ds)(e:L2.atI ds i=YB d):∃x,L2.atI xs i=YB x/\Da G H L x d:=by
 unfold L2.atI at*
 rw[h.length];cases q:ixN ds.length i with
 | none=>rw[q]at e;cases e
 | some j=>
  rw[q]at e;exact h.get e
def Yi1:P2 G (rIx G) dIx:=λH L x y d e k Q hx hy h kk=>by
 unfold dIx at h;split at h
 case h_2=>exact h.elim
 rename_i z ez;have fin:∀v,Da G H L v z->Q v H:=λv q=>kk H v (.fz z) [] (Same.refl _) (.fz (q.wide λa l _=>⟨.inl l,λm=>nomatch m⟩)) .nil (λa m=>nomatch m) h;cases hx with
 | lst l e1 r=>
  cases hy with
  | int i=>
   obtain⟨v,e2,q⟩:=r.atI (show L2.atI _ i=YB z from ez);exact .inl ⟨_,_,i,v,rfl,rfl,.inl e1,e2,fin v q⟩
  | _=>cases ez
 | tup e1 r=>
  cases hy with
  | int i=>
   obtain⟨v,e2,q⟩:=r.atI (show L2.atI _ i=YB z from ez);exact .inr (.inl ⟨_,_,i,v,rfl,rfl,.inl (.inl e1),e2,fin v q⟩)
  | _=>cases ez
 | scr ks=>
  cases hy with
  | int i=>
   obtain⟨v,e2,q⟩:=(Das.ints (G:=G) (H:=H) (L:=L) _).atI (show L2.atI _ i=YB z from ez);exact .inl ⟨_,_,i,v,rfl,rfl,ks.sq,e2,fin v q⟩
  | _=>cases ez
 | _=>cases ez
theorem Own.list{p:YG}(hp:H p=YC)(h:Das G H L xs ds):Own G (upd H p (.lst xs)) (λa=>(L a\/H a=YC)/\a∉[p]) (.ref p) (.nd (ds.map OT.fz)) [p] :=
 .nd Z8 (((h.wide λa l q=>⟨.inl l,λm=>q (by rw[Xm.mp m];exact hp)⟩).same (Z9 hp _)).owns)
def Za4{p:YG}(hp:H p=YC):∀a∈[p],H a=YC:=λa m=>by rw[Xm.mp m];exact hp
def Zcp(p:YG):[p].Nodup:=JF.mpr ⟨λm=>(nomatch m),.nil⟩
def dCat:Xa->Xa->(OT->Prop)->Prop:=λd e k=>asL d λds=>asL e λes=>ds.length+es.length<=Xp/\k (.nd ((ds++es).map OT.fz))
def Zjh:P2 G (Yck G) dCat:=λH L x y d e k Q hx hy h kk=>by
 obtain⟨a,xs,ds,rfl,e1,r1,h⟩:=hx.lstInv h;obtain⟨b,ys,es,rfl,e2,r2,h⟩:=hy.lstInv h;exact⟨a,b,xs,ys,rfl,rfl,e1,e2,by rw[r1.length,r2.length];exact h.1,λp hp=>kk _ _ _ [p] (Z9 hp _) (Own.list hp (r1.append r2)) (Zcp p) (Za4 hp) h.2⟩
def n1(k:Xa->Prop)(ds:List Xa):Prop:=match ds with|[d]=>k d|_=>False
def n2(k:Xa->Xa->Prop)(ds:List Xa):Prop:=match ds with|[d,e]=>k d e|_=>False
theorem Das.one{vs:List V}{k:Xa->Prop}(q:Das G H L vs ds)(h:n1 k ds):∃v d,vs=[v]/\ds=[d]/\Da G H L v d/\k d:=by
 cases q with
 | nil=>exact h.elim
 | cons q r=>
  cases r with
  | nil=>exact⟨_,_,rfl,rfl,q,h⟩
  | cons _ _=>exact h.elim
def Zz0:Xa->Option Nat
 | .list ds=>YB ds.length
 | .tuple ds=>YB ds.length
 | _=>YC
def Yk5:List Xa->(Xa->Prop)->Prop:=λds k=>n1 (λd=>match Zz0 d with|some n=>k (.int n)|none=>False) ds
def Zwu:PNs G (Ylc G) Yk5:=λH L xs ds k Q hx h kk=>by
 obtain⟨v,d,rfl,rfl,q,h⟩:=hx.one h;cases q with
 | lst l e r=>exact⟨_,_,rfl,.inl (.inl e),by rw[r.length];exact kk _ _ (.int _) h⟩
 | tup e r=>exact⟨_,_,rfl,.inr (.inl (.inl e)),by rw[r.length];exact kk _ _ (.int _) h⟩
 | scr ks=>exact⟨_,_,rfl,.inl ks.sq,by rw[(Das.ints (G:=G) (H:=H) (L:=L) _).length];exact kk _ _ (.int _) h⟩
 | _=>exact h.elim
def Ylq:List Xa->(Xa->Prop)->Prop:=λds k=>n1 (λd=>asI d λi=>k (.int (if i<0 then -i else i))) ds
def Zv5:PNs G (λxs H Q=>∃i,xs=[.int i]/\Q (.int (if i<0 then -i else i)) H) Ylq:=λH L xs ds k Q hx h kk=>by
 obtain⟨v,d,rfl,rfl,q,h⟩:=hx.one h;obtain⟨i,rfl,h⟩:=q.intInv h;exact⟨i,rfl,kk _ _ (.int _) h⟩
def Zh0:Xa->Option (List Xa)
 | .list ds=>YB ds
 | .tuple ds=>YB ds
 | _=>YC
def Yfb:List Xa->(OT->Prop)->Prop:=λds k=>n1 (λd=>match Zh0 d with|some es=>k (.nd (es.map OT.fz))|none=>False) ds
def Z58:PN G (Zve G) Yfb:=λH L xs ds k Q hx h kk=>by
 obtain⟨v,d,rfl,rfl,q,h⟩:=hx.one h;cases q with
 | lst l e r=>exact⟨_,_,rfl,.inl (.inl e),λp hp=>kk _ _ _ [p] (Z9 hp _) (Own.list hp r) (Zcp p) (Za4 hp) h⟩
 | tup e r=>exact⟨_,_,rfl,.inr (.inl (.inl e)),λp hp=>kk _ _ _ [p] (Z9 hp _) (Own.list hp r) (Zcp p) (Za4 hp) h⟩
 | scr ks=>exact⟨_,_,rfl,.inl ks.sq,λp hp=>kk _ _ _ [p] (Z9 hp _) (Own.list hp (Das.ints _)) (Zcp p) (Za4 hp) h⟩
 | _=>exact h.elim
section
variable {a:YJ}
def Yk7(m:MEt):MEt:=λδ K=>m δ λr δ'=>asI r.data λi=>K (.fz (.int (-i))) δ'
def Zuj(ha:ME X io p c a ma):ME X io p YD (.UnaryOp .USub a pos) (Yk7 ma):=by
 obtain⟨_,A,s⟩:=ha;exact⟨_,Yim Yd5 A,λC H O δ fp ex K Q R h k=>s C H O δ fp ex _ _ R h λH' v r δ' fp' new r1 h1=>by
  obtain⟨i,rfl,h1⟩:=(r1.da R).intInv h1;exact⟨i,rfl,k H' _ _ δ' fp' [] (.fz r1.base r1.stp (.int _)) h1⟩⟩
def Zhf(T:String):Xa->Bool
 | .none=>YF
 | .bool _=>T=="bool"||T=="int"
 | .int _=>T=="int"
 | .str _=>T=="str"
 | .list _=>T=="list"
 | .tuple _=>T=="tuple"
 | .dict _=>YF
def Yn2(T:String)(m:MEt):MEt:=λδ K=>m δ λr δ'=>Zhm r.data=YF/\K (.fz (.bool (Zhf T r.data))) δ'
end
section
variable {g:Array GenState}{d:Drawn}{t:Nat}{os:OsState}
def Z5s(M:Model)(hx:h.get? a=YB o)(hc:o.cls= .ref C):JQ M h (typeOf (.ref a)) (.ref C):=hc▸(JQ.ld hx).andThen .now
def Zzc(X:K.In h)(Z:Zdr K C)(hx:h.get? a=YB o)(hc:o.cls= .ref C)(hq:R (.ok (.ret (.ref C))) ⟨h,g,d,t,os⟩) :
  codeAny (X4 prog w) A (.call (.builtin "getset_descriptor.__get__") ⟨[.builtin "object.__class__",.ref a,.ref C],[]⟩) R ⟨h,g,d,t,os⟩:=by
 have L1:JQ (X4 prog w) h (isSubtype (.ref C) (.type (".".intercalate ("object.__class__".cutAt '.').dropLast))) YD:=by
  rw[F.owner_object_class];exact PySem.W.looks_subIn X Z.isO
 have T5:(⟨h,g,d,t,os⟩:Xg).TypeIs (.builtin "object.__class__") "getset_descriptor" :=F.typeOf_object_class;refine codeAny_call_builtin F.slot_gs_get.plain F.entry_gs_get (F.slot_gs_get.check _ _ _ _ _ _ _ _ T5 (F.args_gs_get _ _ _) ?_)
 repeat (any_goals (first|assumption|(with_reducible refine VD hx ?_;rw[hc])|(with_reducible refine Xb (JQ.at L1 ?_))|(with_reducible refine JQ.at L1 ?_)|wp_step))
 refine⟨Code.quiet_builtin _ (!9),Bs F.entry_object_class ?_⟩
 repeat (any_goals (first|assumption|(with_reducible refine VD hx ?_;rw[hc])|wp_step))
def Zr7{tk:Tok}{Q:Fin->Xg->Prop}(X:K.In h)(Z:Zdr K C)(hx:h.get? a=YB o)(hc:o.cls= .ref C)(hq:Q (.done (.ret (.ref C))) ⟨h,g,d,t,os⟩) :
  Xy (X4 prog w) A (BR.«object.__getattribute__» ⟨[.ref a,.str "__class__" tk],[]⟩) Q E ⟨h,g,d,t,os⟩:=by
 have T5:(⟨h,g,d,t,os⟩:Xg).TypeIs (.builtin "object.__class__") "getset_descriptor" :=F.typeOf_object_class;have g5:=F.typeOf_object_class;have g6:=F.slot_gs_get.lookup;have g7:=F.slot_gs_set.lookup;have L4:=PySem.W.looks_findIn (M:=X4 prog w) X Z.cl
 repeat (any_goals (first|assumption|(with_reducible refine VD hx ?_;rw[hc])|(with_reducible refine Xb (JQ.at L4 ?_))|(with_reducible refine JQ.at L4 ?_)|wp_step))
 refine Zzc X Z hx hc ?_
 repeat (any_goals (first|assumption|wp_step))
def Zsn{nameV:Xd}{Q:Unit->Xg->Prop}(X:K.In h)(Z:Zdr K C)(hx:h.get? a=YB o)(hc:o.cls= .ref C)(hq:Q () ⟨h,g,d,t,os⟩) :
  Xy M A (checkBuiltinCall "BaseException.__getattribute__" ⟨[.ref a,nameV],[]⟩) Q E ⟨h,g,d,t,os⟩:=by
 have e1:builtinKind "BaseException.__getattribute__"=YB .slot:=by decide +kernel
 have e2:splitId "BaseException.__getattribute__"=YB ("BaseException","__getattribute__"):=by decide +kernel
 have L1:=PySem.W.looks_subIn (M:=M) X Z.isB;have e3:=F.args_bexc_ga (.ref a) nameV;simp only[checkBuiltinCall,e1,e2];refine Xb ?_;unfold isInstance
 repeat (first|(with_reducible refine VD hx ?_;rw[hc])|(with_reducible refine Xb (JQ.at L1 ?_))|(with_reducible refine JQ.at L1 ?_)|wp_step)
 exact hq
def Zuw{tk:Tok}(X:K.In h)(Z:Zdr K C)(hx:h.get? a=YB o)(hc:o.cls= .ref C)(hq:R (.ok (.ret (.ref C))) ⟨h,g,d,t,os⟩) :
  codeAny (X4 prog w) A (.call (.builtin "BaseException.__getattribute__") ⟨[.ref a,.str "__class__" tk],[]⟩) R ⟨h,g,d,t,os⟩ :=
 codeAny_call_builtin F.excAttr_ValueError.ga.plain F.entry_bexc_ga (Zsn X Z hx hc (Zr7 X Z hx hc hq))
def Z8c{tk:Tok}{fill expr:Bool}(X:K.In h)(Z:Zdr K C)(hx:h.get? a=YB o)(hc:o.cls= .ref C)(hq:Q (.ref C) ⟨h,g,d,t,os⟩) :
  Xy (X4 prog w) A (getAttrBy (.ref a) (.str "__class__" tk) fill expr) Q E ⟨h,g,d,t,os⟩:=by
 have f3:=F.excAttr_ValueError.ga.bind (.ref a);have y0:(expr&&onTheHeap (Value.builtin "BaseException.__getattribute__"))=YF:=by cases expr<;>rfl
 have y2:(Value.builtin "BaseException.__getattribute__"==Value.builtin "object.__getattribute__")=YF:=by decide +kernel
 have y1:(onTheHeap (X7 C)&&Value.builtin "BaseException.__getattribute__"==Value.builtin "object.__getattribute__")=YF:=by rw[y2];rfl
 have L2:=PySem.W.looks_findIn (M:=X4 prog w) X Z.ga;have L3:=PySem.W.looks_findIn (M:=X4 prog w) X Z.gt
 repeat (any_goals (first|assumption|(with_reducible refine VD hx ?_;rw[hc])|(with_reducible refine JQ.at L2 ?_)|(with_reducible refine JQ.at L3 ?_)|(with_reducible refine Xb (JQ.at L2 ?_))|(with_reducible refine Xb (JQ.at L3 ?_))|wp_step))
 refine Zuw X Z hx hc ?_
 repeat (any_goals (first|assumption|wp_step))
def Zyi{Q:Option Xd->Xg->Prop}(X:K.In h)(Z:Zdr K C)(hx:h.get? a=YB o)(hc:o.cls= .ref C)(hq:Q (YB (.ref C)) ⟨h,g,d,t+1,os⟩) :
  Xy (X4 prog w) A (getAttr? (.ref a) "__class__") Q E ⟨h,g,d,t,os⟩:=by
 unfold getAttr? getAttrBy?
 repeat (any_goals (first|assumption|with_reducible apply Z8c X Z hx hc|wp_step))
end
def Zlh(Z:Zdr K C):PySem.W.KitX K (.ref a) (.ref C) (λh=>∃o,h.get? a=YB o/\o.cls= .ref C) where
 ty:=λM h _ p=>let⟨_,hx,hc⟩:=p;Z5s M hx hc
 it:=λM h X _=>by
  have z:=Z.isC;unfold PySem.W.clsIn at z;split at z
  .rename_i ho
   intro A' Q' E' s' k q;unfold isType loadHead;exact Xb (wpAny_loadPart (k _ _ (X _ _ ho)) (Xj q))
  .cases z
 ne:=λh tp dd its n sl X htp=>by
  have z:=Z.isC;refine Bool.eq_false_iff.mpr λq=>?_;have e:C=tp:=X7.inj (ZC.mp q);subst e;unfold PySem.W.clsIn at z;split at z
  .rename_i ho
   have z:=(X _ _ ho).symm.trans htp;cases z
  .cases z
 ca:=fun{_ _ _ _ _ s} X p k=>by
  obtain⟨h,g,d,t,os⟩:=s;obtain⟨_,hx,hc⟩:=p;exact Zyi X Z hx hc k
variable {G:Xc}
def tyD:Xa->String
 | .none=>"NoneType"
 | .bool _=>"bool"
 | .int _=>"int"
 | .str _=>"str"
 | .list _=>"list"
 | .tuple _=>"tuple"
 | .dict _=>"dict"
def Z3z{T:String}{d:Xa}(h:T="int"\/T="bool"\/T="str"\/T="list"\/T="tuple")(hd:∀kvs,d≠ .dict kvs):QB K (.type (tyD d)) (.type T)=YB (Zhf T d):=by
 rcases h with rfl|rfl|rfl|rfl|rfl<;>cases d<;>first|rfl|(exact YZ rfl (hd _))|(unfold QB PySem.W.kitCls;rfl)|(simp only[tyD,Zhf];decide +kernel)
def Yjq(G:Xc):List V->Hp->VK->Prop:=λxs H Q=>∃(x:V) (T:String) (L:YG->Prop) (d:Xa),xs=[x,.ty T]/\Da G H L x d/\Zhm d=YF/\(T="int"\/T="bool"\/T="str"\/T="list"\/T="tuple")/\Q (.bl (Zhf T d)) H
def Zmz(hK:X.K=G):Zbe X (.builtin "isinstance") (Yjq G):=by
 subst hK;intro pins s O H xs us Q I r h;obtain⟨x,T,L,d,rfl,q,hf,hT,h⟩:=h;obtain⟨u,w',rfl,r1,r2⟩:=vals2 r;cases(show w'=Value.type T from r2);have fin:∀tk:Nat,EP X pins O Q (.bool (Zhf T d)) { s with toks:=tk }:=λtk=>⟨.bl _,H,I.tok tk,rfl,h⟩;cases q with
 | non=>exact Zbv I r1 .non (Z3z (d:=.none) hT λ_ z=>by cases z) fin
 | bl b=>exact Zbv I r1 (.bl b) (Z3z (d:=.bool b) hT λ_ z=>by cases z) fin
 | int b=>exact Zbv I r1 (.int b) (Z3z (d:=.int b) hT λ_ z=>by cases z) fin
 | str b=>exact Zbv I r1 (.str b) (Z3z (d:=.str b) hT λ_ z=>by cases z) fin
 | lst l e qs=>
  rename_i ds;rcases e with e|⟨o,e⟩
  .exact Zbv I r1 (.lst e) (Z3z (d:=.list ds) hT λ_ z=>by cases z) fin
  .exact Zbv I r1 (.frz e) (Z3z (d:=.list ds) hT λ_ z=>by cases z) fin
 | tup e qs=>
  rename_i ds;exact Zbv I r1 (.tup e) (Z3z (d:=.tuple ds) hT λ_ z=>by cases z) fin
 | scr ks=>
  rename_i a ns;cases(show u=X7 a from r1);obtain⟨its,vs,⟨o,n,ho,hc,hd,hs⟩,_⟩:=I.list (ks.sq (H:=H));exact QZ PySem.W.kitx_list I.kIn ⟨o,ho,hc⟩ (Z3z (d:=.list (ns.map Xo)) hT λ_ z=>by cases z) (!12) fin
 | exc Z hn e=>
  rename_i a C x;cases(show u=X7 a from r1);obtain⟨⟨o,vs,ho,hc,_⟩,_,_⟩:=(show ObjOk X.prog X.w H s.heap a (.ext (ExO C a))from I.hok a _ e);refine QZ (Zlh Z) I.kIn ⟨o,ho,hc⟩ (b:=Zhf T (exD x)) ?_ (!12) fin;rcases hT with rfl|rfl|rfl|rfl|rfl
  .exact Z.k1
  .exact Z.k2
  .exact Z.k3
  .exact Z.k4
  .exact Z.k5
 | fn _=>cases hf
 | dic _ _ _ _=>unfold dcD Zhm at hf;cases hf
section
variable {a:YJ}
def Zdk{T:Str}{T':String}(hT:T'="int"\/T'="bool"\/T'="str"\/T'="list"\/T'="tuple")(hg:Gl X "isinstance")(hm:X.mg "isinstance"=YC)(hv:Qd "isinstance"=YB (.builtin "isinstance"))
  (hg2:Gl X T) (hm2:X.mg T=YC) (hv2:Qd T=YB (.type T')) (ha:ME X io p c a ma) (hn:T≠"__name__" :=by decide) (hd:(T==(!10))=YF:=by decide)
  (he:Xr [a,.Name T p2] X.env=(YF,eval a X.env)::Xr [.Name T p2] X.env:=by rfl) (he2:Xr [.Name T p2] X.env=(YF,eval (.Name T p2) X.env)::Xr [] X.env:=by rfl) (hpl:(Ba pos (Xr [.Name T p2] X.env)).any (·.1)=YF:=by rfl) :
  ME X io p YD (.Call (.Name "isinstance" pp) [a,.Name T p2] [] pos) (Yn2 T' ma):=by
 obtain⟨_,A,s⟩:=ha;refine⟨_,Zd6 (Zmz rfl) hg hm hv (Wr A (Wr (Zov (v:=.ty T') hg2 hm2 hv2 rfl hn hd) Zi9 he2) he) (!1) (!1) he hpl,?_⟩;intro C H O δ fp ex K' Q R h k;refine s C H O δ fp ex _ _ R h λH' v r δ' fp' new r1 h1=>?_;exact⟨v,T',_,_,rfl,r1.da R,h1.1,hT,k H' _ _ δ' fp' [] (.fz r1.base r1.stp (.bl _)) h1.2⟩
abbrev MOt:=Zg->(Option Int->Zg->Prop)->Prop
def MO(X:Cx)(io:List Nat)(p:Bool)(e:Option YJ)(m:MOt):Prop:=∃t,PO X e t/\∀(C:MC X.K) (H:Hp) (O:St) (δ:Zg) (fp:Fp) (ex:YG->Prop) (K:Option Int->Zg->Prop) (Q:Option Int->Hp->Prop),Rel C io H O δ fp ex->m δ K ->
 (∀ H' b δ' fp',Rel C io H' O δ' fp' ex->Stp p H δ fp H' δ' fp'->K b δ'->Q b H')->t O H Q
def Zw5:MOt:=λδ K=>K YC δ
def Yad(m:MEt):MOt:=λδ K=>m δ λr δ'=>asI r.data λi=>K (YB i) δ'
def Jv:MO X io YD YC Zw5:=⟨_,Z4g,λC H O δ fp ex K Q R h k=>k H YC δ fp R (.refl _ _ _ _) h⟩
def Jl(h:ME X io p c e m):MO X io p (YB e) (Yad m):=by
 obtain⟨_,A,s⟩:=h;exact⟨_,Z7n A,λC H O δ fp ex K Q R h k=>s C H O δ fp ex _ _ R h λH' v r δ' fp' new r1 h1=>by
  obtain⟨i,rfl,h1⟩:=(r1.da R).intInv h1;exact⟨i,rfl,k H' _ δ' fp' r1.base r1.stp h1⟩⟩
def cutD(ds:List Xa)(lo hi:Option Int):List Xa:=(ds.drop (HT.sIx ds.length 0 lo)).take (HT.sIx ds.length ds.length hi-HT.sIx ds.length 0 lo)
def Das.cut(h:Das G H L xs ds)(lo hi:Option Int):Das G H L (Z8y xs lo hi) (cutD ds lo hi):=by
 unfold Z8y cutD;rw[h.length];exact(h.drop _).take _
def mSl(m:MEt)(ml mh:MOt):MEt:=λδ K=>m δ λr δ1=>ml δ1 λlo δ2=>mh δ2 λhi δ3=>asL r.data λds=>K (.nd ((cutD ds lo hi).map OT.fz)) δ3
def Zn0{ml mh:MOt}(ha:ME X io YD c a ma)(hl:MO X io YD lo ml)(hh:MO X io YD hi mh):ME X io YD c (.Subscript a (.Slice lo hi YC p2) pos) (mSl ma ml mh):=by
 obtain⟨_,A,s⟩:=ha;obtain⟨_,B,sl⟩:=hl;obtain⟨_,D,sh⟩:=hh;refine⟨_,Zq6 (Zzs rfl) A B D,?_⟩;intro C H O δ fp ex K' Q R h k;refine s C H O δ fp ex _ _ R h λH1 v r δ1 fp1 new r1 h1=>?_;refine sl C H1 O δ1 fp1 ex _ _ r1.base h1 λH2 l δ2 fp2 R2 S2 h2=>?_;refine sh C H2 O δ2 fp2 ex _ _ R2 h2 λH3 u δ3 fp3 R3 S3 h3=>?_;have s2:Same H1 H2:=λb o e=>S2.keep b o e (.inl rfl);have s3:Same H2 H3:=λb o e=>S3.keep b o e (.inl rfl);obtain⟨e1,e2⟩:=r1.stp.env rfl;obtain⟨e3,e4⟩:=S2.env rfl;obtain⟨e5,e6⟩:=S3.env rfl;have q:=((r1.da R).same s2).same s3;obtain⟨a',xs,ds,rfl,e,qs,h3⟩:=q.lstInv h3;refine⟨a',xs,rfl,e,λp hp=>?_⟩;have S:=(r1.stp.trans S2).trans S3;refine k _ _ _ δ3 fp3 [p] (RE.tree R R3 S (Z9 hp _) (Za4 hp) (Zcp p) (Own.list hp ((qs.cut l u).wide λa l _=>?_))) h3;rw[e6,e4];exact l
theorem Owns.set{H:Hp}{L:YG->Prop}{x:V}{r:OT}(hr:Own G H L x r []):∀{xs:List V} {ts:List OT} {as:List YG} (j:Nat),Owns G H L xs ts as->∃bs,Owns G H L (xs.set j x) (ts.set j r) bs/\bs.Sublist as
 | _,_,_,_,.nil=>⟨[],.nil,.refl _⟩
 | _,_,_,0,.cons k t=>⟨_,.cons hr t,by simp⟩
 | _,_,_,j+1,.cons (as:=as) k t=>by
  obtain⟨bs,o,s⟩:=Owns.set hr j t;exact⟨as++bs,.cons k o,List.Sublist.append_left s as⟩
def Rel.top{C:MC G}{O:St}{ts':List OT}{a':YG}{bs bs':List YG}(R:Rel C io H O δ fp ex)(hi:δ[i]? =YB (YB (.nd ts)))(hv:O[i]? =YB (YB (.ref a')))
  (hf:fp i=a'::bs) (hx:H a'=YB (.lst xs)) (o:Owns G H (Lf C fp ex) ys ts' bs') (hs:bs'.Sublist bs) :
  Rel C io (upd H a' (.lst ys)) O (δ.set i (YB (.nd ts'))) (fpu fp i (a'::bs')) ex/\Stp YF H δ fp (upd H a' (.lst ys)) (δ.set i (YB (.nd ts'))) (fpu fp i (a'::bs')):=by
 have nd:=R.nd i;rw[hf]at nd;have hn:=JF.mp nd;have hm:a'∈fp i:=by rw[hf];exact .head _
 have ne':∀a,¬Foot fp a->a≠a':=λa h z=>h ⟨i,by rw[z];exact hm⟩;have kp:∀b o,H b=YB o->b≠a'->upd H a' (.lst ys) b=YB o:=λb o e n=>by rw[Zz n];exact e
 have sub:∀a,a∈a'::bs'->a∈fp i:=λa m=>by
  rw[hf];rcases Xl.mp m with rfl|m
  .exact .head _
  .exact .tail _ (hs.subset m)
 have o':Owns G (upd H a' (.lst ys)) (Lf C (fpu fp i (a'::bs')) (exu ex [])) ys ts' bs':=by
  have f0:∀a,¬Foot fp a->¬Foot (fpu fp i (a'::bs')) a:=λa h z=>by
   rcases z.of_u with z|⟨j,_,z⟩
   .exact h ⟨i,sub a z⟩
   .exact h ⟨j,z⟩
  have f1:∀a (zs:MuO),Lf C fp ex a->Rd H a zs.ho->Lf C (fpu fp i (a'::bs')) (exu ex []) a/\Rd (upd H a' (.lst ys)) a zs.ho:=λa zs l q=>by
   refine⟨⟨f0 a l.1,λz=>l.2.1 (Zdq.mp z),l.2.2⟩,?_⟩;rcases q with q|⟨u,q⟩
   .exact .inl (kp a _ q (ne' a l.1))
   .exact .inr ⟨u,kp a _ q (ne' a l.1)⟩
  have f2:∀a (zs:ImO),H a=YB zs.ho->upd H a' (.lst ys) a=YB zs.ho:=λa zs q=>kp a _ q λz=>ImO.nl q (z▸hx);exact o.frame f1 f2 λa m zs q=>kp a _ q λz=>hn.1 (hs.subset (z▸m))
 have key:=R.change (new:=[]) (as':=a'::bs') (t':=.nd ts') (H':=upd H a' (.lst ys)) hi hv (λb o e nb=>kp b o e λz=>nb (by rw[z];exact hm)) (λb e=>by
   by_cases q:b=a'
   .subst q;rw[Z8]at e;cases e
   .rwa[Zz q]at e) (.nd Z8 o') (JF.mpr ⟨λm=>hn.1 (hs.subset m),hn.2.sublist hs⟩) (λa m=>.inl (sub a m)) (λa m=>nomatch m)
 exact⟨key.1.drop λa z=>.inl z,key.2⟩
end
variable {G:Xc}
section
variable {a:YJ}{mi mj:MEt}
def Rel.ownNd{C:MC G}{O:St}(R:Rel C io H O δ fp ex)(hi:δ[i]? =YB (YB (.nd ts))) :
  ∃a' xs bs,O[i]? =YB (YB (.ref a'))/\H a'=YB (.lst xs)/\Owns G H (Lf C fp ex) xs ts bs/\fp i=a'::bs:=by
 obtain⟨v,e,o⟩:=R.own i _ hi;generalize hf:fp i=as at o;cases o with
 | nd h r=>exact⟨_,_,_,e,h,r,rfl⟩
def Zk1(i:Nat)(m:MEt):MSt:=λD δ=>match δ[i]? with
 | some (YB (.nd _))=>m δ λr δ1=>match δ1[i]? with
  | some (YB (.nd ts))=>ts.length<Xp/\D.nx (δ1.set i (YB (.nd (ts++[.fz r.data]))))
  | _=>False
 | _=>False
def Zig(i:Nat)(he:ME X io p YD e m)(hN:X.N[i]? =YB x:=by rfl)(hv:Vis X.env.scope x:=by first|exact QT rfl|exact QM (QT rfl)|exact QM (QM rfl))(hd:(x==(!10))=YF:=by decide)
  (hcd:(x==(!17))=YF:=by decide)
  (hbase:attributeBase (.Name x px) "append" X.env (eval (.Name x px) X.env)=eval (.Name x px) X.env:=by rfl)
  (hfew:((Ba cpos (Xr [e] X.env)).all (λx=>!x.1)&&(backToKw cpos (keywordEach [] X.env)).all (λx=>x.1.isSome)
   &&decide ([e].length+([]:List Keyword).length+(if([]:List Keyword).isEmpty then 0 else 1)<30))=YD:=by rfl)
  (hline:(apos.endLine==cpos.line)=YD:=by rfl) (hs:Xr [e] X.env=(YF,eval e X.env)::Xr [] X.env:=by rfl) (hplain:(Ba cpos (Xr [] X.env)).any (·.1)=YF:=by rfl)
  (hsw:Vv (.Call (.Attribute (.Name x px) "append" apos) [e] [] cpos) YC pos.line X.env=pure YF:=by rfl) :
  MS X io (.Expr (.Call (.Attribute (.Name x px) "append" apos) [e] [] cpos) pos) (Zk1 i m):=by
 obtain⟨_,A,s⟩:=he;refine⟨_,Ztz (Z5w PySem.F.plainAttrs_list PySem.F.slot_list_append PySem.F.type_list_append Zmv (pv i hN hv hd hcd) (Wr A Zi9 hs) hbase hfew hline hs hplain) hsw,λC H O δ fp ex D D' R h E=>?_⟩;unfold Zk1 at h;split at h
 case h_2=>exact h.elim
 rename_i ts0 hi0;obtain⟨a',xs0,bs0,hv0,hx0,_,_⟩:=R.ownNd hi0;refine⟨_,hv0,.inl ⟨rfl,xs0,.inl (.inl hx0)⟩,?_⟩;refine s C H O δ fp ex _ _ R h λH1 v r δ1 fp1 new r1 h1=>?_;split at h1
 case h_2=>exact h1.elim
 rename_i ts1 hi1;have R1:=r1.base;obtain⟨a1,xs1,bs1,hv1,hx1,o1,hf1⟩:=R1.ownNd hi1;rw[hv0]at hv1;cases hv1;have q:=(r1.da R).wide (L':=Lf C fp1 ex) λa l _=>l rfl;refine⟨a',xs1,v,rfl,rfl,hx1,by rw[o1.length];exact h1.1,?_⟩;have o2:=o1.snoc (.fz q);obtain⟨R2,S2⟩:=R1.top hi1 hv0 hf1 hx1 o2 (!5);exact E.nx _ O _ _ R2 (r1.stp.kp.trans S2.kp) h1.2
def Yld(i:Nat)(m mi:MEt):MSt:=λD δ=>m δ λr δ1=>match δ1[i]? with
 | some (YB (.nd ts))=>mi δ1 λn _=>asI n.data λk=>match ixN ts.length k with
  | some j=>D.nx (δ1.set i (YB (.nd (ts.set j (.fz r.data)))))
  | none=>False
 | _=>False
def SE.pureAfter{t:TE}{C:MC G}{O:St}{K':OT->Zg->Prop}{Q:VK}(s:SE G io YD c t m)(R:Rel C io H O δ fp ex)(h:m δ K')(k:∀H' v r,Rel C io H' O δ fp ex->Same H H'->Da G H' (λa=>c=YD->Lf C fp ex a) v r.data->K' r δ->Q v H'):t O H Q :=
 s C H O δ fp ex _ _ R h λH1 v r δ1 fp1 new r1 h1=>by
  obtain⟨e1,e2⟩:=r1.stp.env rfl;have q:=r1.da R;have R1:=r1.base;rw[e1]at R1 h1;rw[e2]at R1 q;exact k H1 v r R1 (λb o e=>r1.stp.keep b o e (.inl rfl)) q h1
def Zry(i:Nat)(he:ME X io p YD e m)(hj:ME X io YD c a mi)(hN:X.N[i]? =YB x:=by rfl)(hv:Vis X.env.scope x:=by first|exact QT rfl|exact QM (QT rfl)|exact QM (QM rfl))(hd:(x==(!10))=YF:=by decide)
  (hcd:(x==(!17))=YF:=by decide)
  (hpg:∀{to ti:TE},PE X (.Name x px) to->PE X a ti->PG X (.Subscript (.Name x px) a pp) (Ynz to ti Ye6):=by intro _ _ A B;exact Yb4 A B set_list)
  (hs:swapsWithSole [.Subscript (.Name x px) a pp] e pos.line X.env=pure YF:=by rfl) (hw:swappedStores [.Subscript (.Name x px) a pp] e X.env=pure YC:=by rfl)
  (h1:(Bm [.Subscript (.Name x px) a pp] X.env).map (·.2)=[assign (.Subscript (.Name x px) a pp) X.env]:=by rfl):MS X io (.Assign [.Subscript (.Name x px) a pp] e pos) (Yld i m mi):=by
 obtain⟨_,A,s⟩:=he;obtain⟨_,B,sj⟩:=hj;refine⟨_,Z36 A (hpg (pv i hN hv hd hcd) B) hs hw h1,λC H O δ fp ex D D' R h E=>?_⟩;refine s C H O δ fp ex _ _ R h λH1 v r δ1 fp1 new r1 h1=>?_;have R1:=r1.base;have q:=(r1.da R).wide (L':=Lf C fp1 ex) λa l _=>l rfl;split at h1
 case h_2=>exact h1.elim
 rename_i ts hi;obtain⟨a',_,_,hv0,_⟩:=R1.ownNd hi;refine⟨_,hv0,?_⟩;refine sj.pureAfter R1 h1 λH2 w n R2 s2 q2 h2=>?_;obtain⟨k,rfl,h2⟩:=q2.intInv h2;split at h2
 case h_2=>exact h2.elim
 rename_i j hj;obtain⟨a2,xs,bs,hv2,hx,o,hf⟩:=R2.ownNd hi;rw[hv0]at hv2;cases hv2;obtain⟨bs',o',hs'⟩:=Owns.set (.fz (q.same s2)) j o;refine⟨a',xs,k,j,rfl,rfl,hx,by rw[o.length];exact hj,?_⟩;obtain⟨R3,S3⟩:=R2.top hi hv0 hf hx o' hs';exact E.nx _ O _ _ R3 (r1.stp.kp.trans (Kp.trans ⟨λb o e _=>s2 _ _ e,λz=>(nomatch z),λa z=>.inl z,s2.al⟩ S3.kp)) h2
end
variable {G:Xc}
mutual
def Zga:OT->Bool
 | .fz d=>Zbh d
 | .nd ts=>Zh5 ts
 | .tp ts=>Zh5 ts
 | .dc _ _ _=>YF
def Zh5:List OT->Bool
 | []=>YD
 | t::ts=>Zga t&&Zh5 ts
end
def Own.flat2:(∀{v:V} {t:OT} {as:List YG},Own G H L v t as->Zga t=YD->Own G H L' v t as)/\∀{v:List V} {t:List OT} {as:List YG},Owns G H L v t as->Zh5 t=YD->Owns G H L' v t as :=
 Own.both (λq h=>.fz (q.flat (by rw[Zga]at h;exact h))) (λe r h=>.nd e (r (by rw[Zga]at h;exact h))) (λe r h=>.tp e (r (by rw[Zga]at h;exact h))) (λ_ _ _ h=>by rw[Zga]at h;cases h) (λ_=>.nil) (λk r h=>by rw[Zh5,XR]at h;exact .cons (k h.1) (r h.2))
def Own.flat{t:OT}(h:Own G H L v t as)(f:Zga t=YD):Own G H L' v t as:=Own.flat2.1 h f
def Z3l(m:MEt):MEt:=λδ K=>m δ λr δ'=>Zga r=YD/\K r δ'
def Zmc(h:ME X io p c e m):ME X io p YD e (Z3l m):=by
 obtain⟨_,A,s⟩:=h;exact⟨_,A,λC H O δ fp ex K Q R h k=>s C H O δ fp ex _ _ R h λH' v r δ' fp' new r1 h1=>k H' v r δ' fp' new ⟨r1.rel,r1.stp,r1.own.flat h1.1,r1.nd,r1.fresh⟩ h1.2⟩
def Rel.freeze{C:MC G}{O:St}{t:OT}(R:Rel C io H O δ fp ex)(hio:i∉io)(hi:δ[i]? =YB (YB t)):Rel C io H O (δ.set i (YB (.fz t.data))) (fpu fp i []) ex:=by
 have hil:i<δ.length:=(Xk.mp hi).1;have sub:∀j a,a∈fpu fp i [] j->j≠i/\a∈fp j:=λj a m=>by
  by_cases ej:j=i
  .subst ej;rw[Ym]at m;exact nomatch m
  .rw[Y7 ej]at m;exact⟨ej,m⟩
 have lw:∀a,Lf C fp ex a->Lf C (fpu fp i []) ex a:=λa l=>⟨λ⟨j,z⟩=>l.1 ⟨j,(sub j a z).2⟩,l.2.1,l.2.2⟩;have ln:∀a∈fp i,Lf C (fpu fp i []) ex a:=λa m=>⟨λ⟨j,z⟩=>(sub j a z).1 (R.dj j i a (sub j a z).2 m),R.dx i a m,.inr (by
  rcases R.new i a m with z|z
  .exact YZ z.1 hio
  .exact z)⟩
 refine⟨by rw[Bb];exact R.len,λj t' e=>?_,λj h=>?_,λj=>?_,λj k a h1 h2=>R.dj j k a (sub j a h1).2 (sub k a h2).2,λj a h z=>R.dx j a (sub j a h).2 z,R.xa,R.fr,R.al,λj a h=>R.new j a (sub j a h).2,R.io⟩
 .by_cases ej:j=i
  .subst ej
   rw[QK hil]at e;cases e;obtain⟨v,e1,o⟩:=R.own j t hi;exact⟨v,e1,by rw[Ym];exact .fz (o.da (λa l _=>lw a l) ln)⟩
  .rw[Qn (BL ej)]at e
   obtain⟨w,e1,o⟩:=R.own j t' e;exact⟨w,e1,by rw[Y7 ej];exact o.wide λa l _=>lw a l⟩
 .by_cases ej:j=i
  .subst ej;rw[Ym]
  .rw[Y7 ej]
   exact R.emp j λt' z=>h t' (by rw[Qn (BL ej)];exact z)
 .by_cases ej:j=i
  .subst ej;rw[Ym];exact .nil
  .rw[Y7 ej];exact R.nd j
def Zl1(i:Nat)(u:MSt):MSt:=λD δ=>match δ[i]? with|some (YB t)=>u D (δ.set i (YB (.fz t.data)))|_=>False
def Zt3{u:MSt}(i:Nat)(h:MS X io st u)(hio:i∉io:=by decide):MS X io st (Zl1 i u):=by
 obtain⟨_,A,s⟩:=h;exact⟨_,A,λC H O δ fp ex D D' R h E=>by
  unfold Zl1 at h;split at h
  case h_2=>exact h.elim
  rename_i t hi;refine s C H O _ _ ex D D' (R.freeze hio hi) h (E.shift ⟨λb o e _=>e,λz=>(nomatch z),λa z=>?_,λb e=>e⟩);rcases z.of_u with z|⟨j,_,z⟩
  .exact nomatch z
  .exact .inl ⟨j,z⟩⟩
variable {G:Xc}
def Yea(ds:List Xa)(k:OT->Prop):Prop:=∃ns:List Int,ds=[.list (ns.map Xo)]/\ns.length<=63/\k (.fz (.bool YD))
def Yfw{E:XK}(hl:ns.length<=63)(h:SqL G H a (ns.map V.int)):spD G Yea [.ref a] H (λv _=>v= .bl YD) E:=by
 refine⟨λ_=>True,[.list (ns.map Xo)],λr=>r= .fz (.bool YD),.cons ?_ .nil,⟨ns,rfl,hl,rfl⟩,λr v H' new kr s o _ _=>?_⟩
 .rcases h with h|h
  .exact .lst trivial h (.ints ns)
  .exact .scr h
 .subst kr
  cases o with
  | fz q=>cases q;rfl
section
variable {base:YH}{n:Nat}{f:YG}{fd:X5}{ps:List Str}
def plT(a b c:Int):OT:=.nd [.fz (.int a),.fz (.int b),.fz (.int c)]
def PlT(t:OT)(n:Nat):Prop:=∃a b c:Int,t=plT a b c/\0<=c/\c<=n
def PlT.mono{t:OT}{m n:Nat}(h:PlT t m)(k:m<=n):PlT t n:=by
 obtain⟨a,b,c,e,h1,h2⟩:=h;exact⟨a,b,c,e,h1,by omega⟩
def Da.ints_sq(h:Da G H L v (.list (ns.map Xo))):∃a,v= .ref a/\SqL G H a (ns.map V.int):=by
 generalize e:V9 (ns.map Xo)=d at h;cases h with
 | lst l e1 r=>
  cases e;rw[r.int_inv]at e1;exact⟨_,rfl,.inl e1⟩
 | scr k=>
  rename_i a ms;have e':=PyData.list.inj e;have:ns=ms:=(List.map_inj_right (λ_ _ h=>by cases h;rfl)).mp e';subst this;exact⟨_,rfl,k.sq⟩
 | _=>cases e
end
@[simp] theorem Zi0:OT.datas []=[]:=rfl
@[simp] theorem Zgk(t:OT)(ts:List OT):OT.datas (t::ts)=t.data::OT.datas ts:=rfl
theorem Zm9{xs:List Y}{i:Int}(h0:0<=i):atI xs i=xs[i.toNat]?:=by
 unfold atI ixN;rw[YM h0];split
 .rfl
 .rename_i h
  symm;exact Q4.mpr (!0)
def Zrv{xs:List Y}:atI xs (i:Int)=xs[i]?:=by
 rw[Zm9 (!0),QR]
@[simp] theorem Ypz{Y:Type}(x:Y)(xs:List Y):atI (x::xs) 0=YB x:=by
 rw[Zm9 (!1)];rfl
@[simp] theorem Ype{Y:Type}(x y:Y)(xs:List Y):atI (x::y::xs) 1=YB y:=by
 rw[Zm9 (!1)];rfl
@[simp] theorem Yo2{Y:Type}(x y z:Y)(xs:List Y):atI (x::y::z::xs) 2=YB z:=by
 rw[Zm9 (!1)];rfl
@[simp] theorem Yg6(ds:List Xa)(i:Int):ixD (.list ds) (.int i)=atI ds i:=rfl
@[simp] theorem Yi4(ds:List Xa)(i:Int):ixD (.tuple ds) (.int i)=atI ds i:=rfl
@[simp] theorem Ycs(ds:List Xa):Zz0 (.list ds)=YB ds.length:=rfl
@[simp] theorem Yg2(ds:List Xa):Zz0 (.tuple ds)=YB ds.length:=rfl
def Yfi(r:List Rat):Xa:=.list (r.map frD)
def tbD(T:List (List Rat)):Xa:=.list (T.map Yfi)
def Yh7(r:List Rat):OT:=.nd (r.map λq=>.fz (frD q))
def tbT(T:List (List Rat)):OT:=.nd (T.map Yh7)
@[simp] theorem Zwt(r:List Rat):(Yh7 r).data=Yfi r:=by
 unfold Yh7 Yfi;rw[OT.data_nd,X6];rfl
@[simp] theorem Ygs(T:List (List Rat)):(tbT T).data=tbD T:=by
 unfold tbT tbD;rw[OT.data_nd,X6];exact YW V9 (Qy λr _=>Zwt r)
def dd(T:List (List Rat))(i j:Nat):Rat:=(T.getD i []).getD j 0
@[simp] theorem Yhs(T:List (List Rat)):Zz0 (tbD T)=YB T.length:=by unfold tbD Zz0;simp
@[simp] theorem Yf7(r:List Rat):Zz0 (Yfi r)=YB r.length:=by unfold Yfi Zz0;simp
@[simp] theorem Yhw(q:Rat):Zbh (frD q)=YD:=by unfold frD fr;simp[Zbh,Zhc]
theorem Yfq{n a:Nat}(h:a<n):ixN n (a:Int)=YB a:=by
 unfold ixN;rw[YM (!0),YM (!0)];simp
theorem Zzq{d:Xa}(h:J9 d=YD):JT d d=YD:=Ybh h h rfl
structure Sh(n:Nat)(d:Xa):Prop where
 lay:Vc d=YD
 dep:PyData.depth d<=n
theorem Sh.shp{n:Nat}{d:Xa}(h:Sh n d)(hn:n<=64:=by decide):Ycx d:=⟨by
 show(Vc d&&decide (PyData.depth d<=64))=YD;rw[h.lay,YS (XD h.dep hn)];rfl⟩
def Sh.mono{m n:Nat}{d:Xa}(h:Sh m d)(k:m<=n):Sh n d:=⟨h.lay,XD h.dep k⟩
theorem Zmw{n:Nat}:∀{ds:List Xa},(∀d∈ds,Sh n d)->Bu ds=YD/\PyData.depthAll ds<=n
 | [],_=>⟨by rw[Bu],by rw[PyData.depthAll];exact Qp _⟩
 | d::ds,h=>by
  obtain⟨h1,h2⟩:=Zmw λe m=>h e (.tail _ m);have h3:=h d (!8);refine⟨by rw[Bu,h3.lay,h1];rfl,?_⟩;rw[PyData.depthAll];exact Nat.max_le.mpr ⟨h3.dep,h2⟩
def Zle{n:Nat}(h:∀d∈ds,Sh n d):Sh (n+1) (.list ds) :=
 ⟨by rw[Vc];exact(Zmw h).1,by rw[PyData.depth];exact Uq (Zmw h).2⟩
def Z3n{n:Nat}(h:∀d∈ds,Sh n d):Sh (n+1) (.tuple ds) :=
 ⟨by rw[Vc];exact(Zmw h).1,by rw[PyData.depth];exact Uq (Zmw h).2⟩
def Zuo(i:Int):Sh 0 (.int i):=⟨rfl,Nat.le_of_eq rfl⟩
section
variable {O:St}
def Inv.turnTup{T:YG}{its:List Xd}(I:Inv X pins O H s)(f:∀b∈ch,Zkw X pins H b)(k:∀b o,b∉ch->s.heap.get? b=YB o->h'.get? b=YB o)
  (th:∀b∈ch,∃o,h'.get? b=YB o) (hT:s.heap.objs.size<=T) (hz:xs.length<=Xp) (r:Vals xs its) (ht:IsTup h' T its.toArray):Inv X pins O (upd H T (.tup xs)) { s with heap:=h' }:=by
 have hn:H T=YC:=I.hok.fresh hT;have nch:∀b u,H b=YB u->b∉ch:=λb u e z=>by rw[(f b z).1]at e;cases e
 have new:ObjOk X.prog X.w (upd H T (.tup xs)) h' T (.tup xs):=⟨hz,its,r,ht⟩;refine I.call (ch:=ch) (g':=s.gens) (d':=s.drawn) (t':=s.toks) ⟨λb o e _ _ hc=>k b o hc e,λb o e _ _ hc=>⟨o.slots,k b o hc e⟩,λb o e n _=>?_,λb o e hc=>?_,λb ys e=>?_,λb o u e=>?_,λb ps e=>?_⟩ (λb u e=>?_) I.bare (λb hb=>?_)
 .rw[Zz (λz=>by rw[z]at e;exact YZ (Xz e) (Nat.not_lt.mpr hT))];exact n
 .exact⟨o,k b o hc e⟩
 .rw[Zz (Y6 e hn)];exact e
 .rw[Zz (Y6 e hn)];exact e
 .exact⟨#[],by rw[Zz (Y6 e hn),e];simp⟩
 .by_cases hb:b=T
  .subst hb;rw[Z8]at e;cases e;exact new
  .rw[Zz hb]at e
   refine(I.hok b u e).stay (λc v hc q=>k c v ?_ q) (λc q=>by rw[Zz (Y6 q hn)];exact q) λc ys q=>by rw[Zz (Y6 q hn)];exact q
   rcases hc with rfl|hc
   .exact nch _ _ e
   .exact nch _ _ hc
 .obtain⟨f0,f1,f2,f3,f4,f5⟩:=f b hb
  exact⟨f3,f1,f4,f5⟩
def Inv.turnAll(I:Inv X pins O H s)(f:∀b∈ch,Zkw X pins H b)(k:∀b o,b∉ch->s.heap.get? b=YB o->h'.get? b=YB o):Inv X pins O H { s with heap:=h' }:=by
 have nch:∀b u,H b=YB u->b∉ch:=λb u e z=>by rw[(f b z).1]at e;cases e
 refine I.call (ch:=ch) (g':=s.gens) (d':=s.drawn) (t':=s.toks) ⟨λb o e _ _ hc=>k b o hc e,λb o e _ _ hc=>⟨o.slots,k b o hc e⟩,λb o e n _=>n,λb o e hc=>⟨o,k b o hc e⟩,λb ys e=>e,λb o u e=>e,λb ps e=>⟨#[],by rw[e];simp⟩⟩ (λb u e=>?_) I.bare (λb hb=>?_)
 .refine(I.hok b u e).stay (λc v hc q=>k c v ?_ q) (λc q=>q) λc ys q=>q
  rcases hc with rfl|hc
  .exact nch _ _ e
  .exact nch _ _ hc
 .obtain⟨f0,f1,f2,f3,f4,f5⟩:=f b hb
  exact⟨f3,f1,f4,f5⟩
end
variable {G:Xc}
section
variable {a:YJ}
def Rel.keptList{C:MC G}{H:Hp}{O:St}{δ:Zg}{fp:Fp}{ex:YG->Prop}{v:V}{ds:List Xa}(R:Rel C io H O δ fp ex)(q:Da G H (λa=>c=YD->Lf C fp ex a) v (.list ds)) :
  ∃a xs,v= .ref a/\∀H':Hp,(∀b o,H b=YB o->(c=YF\/¬Foot fp b)->H' b=YB o)->SqL G H' a xs/\Das G H' (λa=>c=YD->(Lf C fp ex a/\H a≠YC)) xs ds:=by
 generalize hd:V9 ds=d at q;cases q with
 | lst l e r=>
  cases hd;rename_i a0 xs0;refine⟨a0,xs0,rfl,λH' kp=>?_⟩;obtain⟨f1,f2⟩:=R.kept kp;exact⟨.inl (f1 _ (.lst _) l e).2,r.frame f1 f2⟩
 | scr k=>
  rename_i a ns;have:=PyData.list.inj hd;subst this;exact⟨a,_,rfl,λH' _=>⟨k.sq,.ints ns⟩⟩
 | _=>cases hd
def Zpw(as bs:List Xa):List Xa:=(as.zip bs).map λx=>.tuple [x.1,x.2]
def Zre{as bs:List Xa}{d:Xa}(h:(Zpw as bs)[i]? =YB d):∃x y,as[i]? =YB x/\bs[i]? =YB y/\d= .tuple [x,y]:=by
 unfold Zpw at h;rw[Xq]at h;cases e:(as.zip bs)[i]? with
 | none=>rw[e]at h;cases h
 | some z=>
  rw[e]at h;cases h;obtain⟨h1,h2⟩:=List.getElem?_zip_eq_some.mp e;exact⟨z.1,z.2,h1,h2,rfl⟩
def Zvb{as bs:List Xa}(h:(Zpw as bs)[i]? =YC):as.length<=i\/bs.length<=i:=by
 unfold Zpw at h;have:=Q4.mp h;simp at this;omega
@[simp] theorem Z7e(as bs:List Xa):(Zpw as bs).length=min as.length bs.length:=by simp[Zpw]
end
variable {G:Xc}
section
variable {c1 c2 c3:Bool}{a:YJ}{mc:MEt}{f:Int->Int->Bool}
def Zky(f g:Int->Int->Bool)(ma mb mc:MEt):MEt:=λδ K=>ma δ λx δ1=>mb δ1 λy δ2=>asI x.data λi=>asI y.data λj=>if f i j=YD then mc δ2 λz δ3=>asI z.data λk=>K (.fz (.bool (g j k))) δ3 else K (.fz (.bool YF)) δ2
def Z3t(ha:SE G io YD c1 ta ma)(hb:SE G io YD c2 tb mb)(hc:SE G io YD c3 tc mc):SE G io YD YD (Zuf (rI0 λi j=>.bl (f i j)) (rI0 λi j=>.bl (g i j)) ta tb tc) (Zky f g ma mb mc):=by
 intro C H O δ fp ex K Q R h k;refine ha.pureAfter R h λH1 x u R1 s1 q1 h1=>?_;refine hb.pureAfter R1 h1 λH2 y v R2 s2 q2 h2=>?_;obtain⟨i,rfl,h2⟩:=q1.intInv h2;obtain⟨j,rfl,h2⟩:=q2.intInv h2;refine⟨i,j,rfl,rfl,f i j,rfl,?_⟩
 by_cases hf:f i j=YD
 .rw[YM hf]at h2|-
  refine hc.pureAfter R2 h2 λH3 z w R3 s3 q3 h3=>?_;obtain⟨l,rfl,h3⟩:=q3.intInv h3;have s13:Same H H3:=(s1.trans s2).trans s3;exact⟨j,l,rfl,rfl,k H3 _ _ δ fp [] (.fz R3 (.same s13 s13.al) (.bl _)) h3⟩
 .rw[YQ hf]at h2|-
  have s12:Same H H2:=s1.trans s2;exact k H2 _ _ δ fp [] (.fz R2 (.same s12 s12.al) (.bl _)) h2
def Z6n(ho:OpR X (JR op) (rI0 λi j=>.bl (f i j)))(ho':OpR X (JR op') (rI0 λi j=>.bl (g i j)))(ha:ME X io YD c1 a ma)(hb:ME X io YD c2 b mb)(hc:ME X io YD c3 e mc)
  (hm:lastMarks [op,op'] [b,e]=YF:=by with_unfolding_all rfl):ME X io YD YD (.Compare a [op,op'] [b,e] pos) (Zky f g ma mb mc):=by
 obtain⟨_,A,sa⟩:=ha;obtain⟨_,B,sb⟩:=hb;obtain⟨_,D,sc⟩:=hc;exact⟨_,Z1q ho ho' A B D hm,Z3t sa sb sc⟩
def Zzz(ho:OpR X (JR op) (rI0 λi j=>.bl (f i j)))(ho':OpR X (JR op') (rI0 λi j=>.bl (g i j)))(ha:ME X io YD c1 a ma)(hb:ME X io YD c2 b mb)(hc:ME X io YD c3 e mc)
  (hm:lastMarks [op,op'] [b,e]=YF:=by with_unfolding_all rfl):MT X io YD (.Compare a [op,op'] [b,e] pos) (λδ K=>Zky f g ma mb mc δ (kB K)):=by
 obtain⟨_,A,sa⟩:=ha;obtain⟨_,B,sb⟩:=hb;obtain⟨_,D,sc⟩:=hc;exact⟨_,Z0v ho ho' A B D hm,Ya5 (Z3t sa sb sc)⟩
end
theorem Zcq:∀{ns:List Int} {its:List Xd},Vals (ns.map V.int) its->∃xs:List (Int×Tok),its=xs.map (λp=>Uj p.1 p.2)/\xs.map (·.1)=ns
 | [],_,.nil=>⟨[],rfl,rfl⟩
 | n::ns,_,.cons r rs=>by
  obtain⟨t,e⟩:=(show∃t,_=Uj n t from r);obtain⟨xs,h1,h2⟩:=Zcq rs;exact⟨(n,t)::xs,by rw[e,h1];rfl,by rw[XC,h2]⟩
section
variable {a:YJ}{pl:Pos}
end
def ObjOk.is{o:HO}(x:ObjOk P w H h a o):∃u,h.get? a=YB u:=by
 cases o with
 | lst xs=>obtain⟨_,_,_,_,e⟩:=x;exact⟨_,e⟩
 | tup xs=>obtain⟨_,_,_,ob,e,_⟩:=x;exact⟨_,e⟩
 | dK kvs=>obtain⟨_,_,_,_,o,_,_,e,_⟩:=x;exact⟨_,e⟩
 | dT kvs=>obtain⟨_,_,_,_,o,_,_,e,_⟩:=x;exact⟨_,e⟩
 | set S n=>obtain⟨o,_,_,_,e,_⟩:=x;exact⟨_,e⟩
 | ins C dx fs=>obtain⟨_,_,_,e,_⟩:=x;exact⟨_,e⟩
 | own y=>obtain⟨_,e⟩:=x;exact⟨_,e⟩
 | xd fs=>obtain⟨_,⟨_,_,_,e,_⟩,_⟩:=x;exact⟨_,e⟩
 | rng lo hi=>obtain⟨_,_,_,e⟩:=x;exact⟨_,e⟩
 | frz ob u=>obtain⟨e,_⟩:=x;exact⟨_,e⟩
 | tbl ps=>exact⟨_,(show h.get? a=YB _ from x)⟩
 | met f y=>exact⟨_,(show h.get? a=YB _ from x)⟩
 | ext φ=>obtain⟨_,⟨_,e⟩,_⟩:=x;exact⟨_,e⟩
structure Apart(X:Cx)(pins:List (YG×Obj))(H:Hp)(b:YG):Prop where
 fr:H b=YC
 new:X.s₀.heap.get? b=YC
 loc:b≠X.env.locals
 cel:∀x c,X.env.cells.lookup x=YB c->c≠b
 pin:∀p∈X.pn++pins,p.1≠b
variable {ml mh:MOt}{tk:Tok}{fl:Xd}
section
variable {O:St}{b:YG}
theorem Inv.apart(I:Inv X pins O H s)(hex:X.ex=[])(hb:s.heap.get? b=YC)(hH:H' b=YC):Apart X pins H' b:=by
 have ne:∀c o,s.heap.get? c=YB o->c≠b:=λc o e z=>by rw[z,hb]at e;cases e
 refine⟨hH,?_,?_,λx c e=>?_,λp hp=>?_⟩
 .cases q:X.s₀.heap.get? b with
  | none=>rfl
  | some o=>
   obtain⟨o',e⟩:=I.base.there b o q (by rw[hex];simp);rw[hb]at e;cases e
 .obtain⟨m,⟨o,_,_,ho,_⟩,_⟩:=I.loc
  exact(ne _ _ ho).symm
 .obtain⟨v,o,ho,_⟩:=I.cell x c e
  exact ne _ _ ho
 .exact ne _ _ (I.pin p hp).1
def Inv.unheld(I:Inv X pins O H s)(hb:s.heap.get? b=YC):H b=YC:=by
 cases q:H b with
 | none=>rfl
 | some u=>
  obtain⟨o,e⟩:=(I.hok b u q).is;rw[hb]at e;cases e
def Inv.nofrs(I:Inv X pins O H s)(hb:b≠X.env.locals)(hf:b∉X.fs):b∉frs X.stack:=λz=>(Xl.mp (I.stkSub b z)).elim hb hf
def Inv.flown(I:Inv X pins O H s)(hch:∀b∈ch,Apart X pins H b)(keep:∀b o,b∉frs X.stack->b∉ch->s.heap.get? b=YB o->h'.get? b=YB o)
  (slot:∀b o,b∈frs X.stack->s.heap.get? b=YB o->∃sl,h'.get? b=YB { o with slots:=sl }):Inv X pins O H { s with heap:=h',toks:=t' }:=by
 have any:∀b o,b∉ch->s.heap.get? b=YB o->∃sl,h'.get? b=YB { o with slots:=sl }:=λb o n e=>by
  by_cases hb:b∈frs X.stack
  .exact slot b o hb e
  .exact⟨o.slots,keep b o hb n e⟩
 have neL:∀b o,X.s₀.heap.get? b=YB o->b≠X.env.locals:=λb o e=>Xn (X8 (Xz e) I.ok.above);have neC:∀b o,X.s₀.heap.get? b=YB o->b∉ch:=λb o e hb=>by
  have:=(hch b hb).new;rw[this]at e;cases e
 have cellK:∀x c,X.env.cells.lookup x=YB c->∀v,s.heap.IsCell c v->h'.IsCell c v:=λx c e v q91=>by
  obtain⟨o,ho,hd⟩:=q91;obtain⟨sl,q⟩:=any c o (λz=>(hch c z).cel x c e rfl) ho;exact⟨_,q,hd⟩
 have nL:X.env.locals∉ch:=λz=>(hch _ z).loc rfl;refine⟨I.ok,I.os,I.bare,⟨λb o e n hb hx=>?_,λb o e n hb hx=>?_,I.base.free,λb o e hx=>?_,I.base.tups,I.base.frzs,I.base.tbls⟩,?_,λx c e=>?_,I.free,I.freeC,λp hp=>?_,λb u e=>?_,I.len⟩
 .exact keep b o (I.nofrs (neL b o e) hb) (neC b o e) (I.base.keep b o e n hb hx)
 .obtain⟨sl,e1⟩:=I.base.slot b o e n hb hx
  obtain⟨sl',e2⟩:=any b _ (neC b o e) e1;exact⟨sl',e2⟩
 .obtain⟨o',e1⟩:=I.base.there b o e hx
  obtain⟨sl,e2⟩:=any b o' (neC b o e) e1;exact⟨_,e2⟩
 .obtain⟨m,⟨o,es,ep,ho,r⟩,hl⟩:=I.loc
  obtain⟨sl,q⟩:=any _ o nL ho;refine⟨m,⟨_,es,ep,q,r⟩,λi x v e1 e2 e3=>?_⟩;obtain⟨u,rv,l⟩:=hl i x v e1 e2 e3;refine⟨u,rv,?_⟩;rcases l with l|⟨k,c,e,z⟩
  .exact .inl l
  .exact .inr ⟨k,c,e,cellK x c e _ z⟩
 .obtain⟨v,z⟩:=I.cell x c e
  exact⟨v,cellK x c e v z⟩
 .obtain⟨e,n,ne,nf,d⟩:=I.pin p hp
  exact⟨keep p.1 p.2 (I.nofrs ne nf) (λz=>(hch _ z).pin p hp rfl) e,n,ne,nf,d⟩
 .refine(I.hok b u e).stay (λc v hc q=>keep c v (λz=>?_) (λz=>?_) q) (λ_ q=>q) λ_ _ q=>q
  .have n:=I.stkFree c z
   rcases hc with rfl|hc
   .rw[n]at e;cases e
   .rw[n]at hc;cases hc
  .have n:=(hch c z).fr
   rcases hc with rfl|hc
   .rw[n]at e;cases e
   .rw[n]at hc;cases hc
def Fl(ap:YG->Prop)(C a:YG)(fl:Xd)(h:YH):Prop:=∃a0 oe vs T oT ts,h.get? a=YB oe/\(oe.cls= .ref C/\vs[0]? =YB a0)/\oe.data= .fields vs/\vs[1]? =YB (.ref T)/\T≠a/\h.get? T=YB oT/\oT.data= .fields ts/\ts[3]? =YB fl/\ap a/\ap T
def Fl0(ap:YG->Prop)(C a:YG)(h:YH):Prop:=∃a0 oe vs,h.get? a=YB oe/\(oe.cls= .ref C/\vs[0]? =YB a0)/\oe.data= .fields vs/\vs[1]? =YB .none/\ap a
def FlA(ap:YG->Prop)(fl:Xd)(C a:YG)(h:YH):Prop:=Fl ap C a .none h\/Fl0 ap C a h\/Fl ap C a fl h
theorem Fl.imp{ap ap':YG->Prop}(f:∀b,ap b->ap' b)(x:Fl ap C a fl h):Fl ap' C a fl h:=by
 obtain⟨a0,oe,vs,T,oT,ts,h1,h2,h3,h4,h5,h6,h7,h8,h9,h10⟩:=x;exact⟨a0,oe,vs,T,oT,ts,h1,h2,h3,h4,h5,h6,h7,h8,f _ h9,f _ h10⟩
def Fl.exO{ap:YG->Prop}(x:Fl ap C a fl h):ExO C a h:=by
 obtain⟨a0,oe,vs,T,oT,ts,h1,h2,h3,_⟩:=x;exact⟨oe,vs,h1,h2.1,h3⟩
section
variable {Q:Unit->Xg->Prop}
def Inv.hidFrames(I:Inv X pins O H s):s.heap.FunFrames (Bj s.heap (frs X.stack++ch)) X.stack :=
 PySem.W.funFrames_hide I.stack λenv he b hb=>Bp _ (List.mem_filterMap.mpr ⟨env,he,hb⟩)
def Inv.flyTo(I:Inv X pins O H s)(hch:∀b∈ch,Apart X pins H b)(k1:(Bj s.heap (frs X.stack++ch)).StaysIn h')(k4:∀b o,s.heap.get? b=YB o->(∀vs,o.data≠ .fields vs)->∃sl,h'.get? b=YB { o with slots:=sl }) :
  Inv X pins O H { s with heap:=h' } :=
 I.flown (t':=s.toks) hch (λb o hf hc e=>k1 b o (PySem.W.hideAll_get _ e λz=>(X3.mp z).elim hf hc)) λb o hb e=>by
  obtain⟨_,o',ho',hd⟩:=I.stack.mem hb;rw[e]at ho';cases ho';exact k4 b o e hd
def Inv.flyT(I:Inv X pins O H s)(hex:X.ex=[])(hch:∀b∈ch,Apart X pins H b){T:YG}{oT:Obj}{ts:Array Xd}(k4:∀b o,s.heap.get? b=YB o->(∀vs,o.data≠ .fields vs)->∃sl,h'.get? b=YB { o with slots:=sl })
  (hT:(Bj s.heap (frs X.stack++ch)).get? T=YC) (h1:h'.get? T=YB oT) (h2:oT.data= .fields ts):Apart X pins H T:=by
 by_cases hc:T∈ch
 .exact hch T hc
 by_cases hf:T∈frs X.stack
 .obtain⟨_,o',ho',hd⟩:=I.stack.mem hf
  obtain⟨sl,e⟩:=k4 T o' ho' hd;rw[h1]at e;cases e;exact YZ h2 (hd ts)
 have hn:s.heap.get? T=YC:=by
  cases q:s.heap.get? T with
  | none=>rfl
  | some o=>
   have:=PySem.W.hideAll_get (frs X.stack++ch) q λz=>(X3.mp z).elim hf hc;rw[hT]at this;cases this
 exact I.apart hex hn (I.unheld hn)
def Zrr(I:Inv X pins O H s)(hex:X.ex=[])(hst:X.stack=X.env::X.outer)(hf:X.env.frame=YB X.env.locals)(hA:A.frames=YB X.stack)(F:FlA (Apart X pins H) (JS X.env.locals) C a s.heap)
  (h:∀s',Inv X pins O H s'->Fl (Apart X pins H) C a (JS X.env.locals) s'.heap->Q () s'):Xy M A (noteFrame (.ref a) X.env) Q E s:=by
 rcases F with F|F|F
 .obtain⟨a0,oe,vs,T,oT,ts,eA,cA,dA,v1,nT,eT,dT,t3,pA,pT⟩:=F
  have hch:∀b∈[a,T],Apart X pins H b:=λb hb=>by
   rcases Xl.mp hb with rfl|hb
   .exact pA
   .rw[Xm.mp hb];exact pT
  have hen:(Bj s.heap (frs X.stack++[a,T])).get? a=YC:=V6 _ (Qi _ (!8));have hTn:(Bj s.heap (frs X.stack++[a,T])).get? T=YC:=V6 _ (Qi _ (!15));have fr:=I.hidFrames (ch:=[a,T]);refine wpAny_noteFrame_onW (base:=Bj s.heap (frs X.stack++[a,T])) (outer:=X.outer) (hA.trans (by rw[hst])) (hst▸fr) hf ⟨oe,vs,T,oT,ts,eA,cA,dA,v1,hTn,nT,eT,dT,t3⟩ (λb o e=>PySem.W.of_hideAll _ e) hen λh' hN=>?_;obtain⟨k1,_,⟨oe',vs',T',oT',ts',e1,e2,e3,e4,e5,e6,e7,e8,e9⟩,k4⟩:=hN;exact h _ (I.flyTo hch k1 k4) ⟨a0,oe',vs',T',oT',ts',e1,e2,e3,e4,e6,e7,e8,e9,pA,I.flyT hex hch k4 e5 e7 e8⟩
 .obtain⟨a0,oe,vs,eA,cA,dA,v1,pA⟩:=F
  have hch:∀b∈[a],Apart X pins H b:=λb hb=>by rw[Xm.mp hb];exact pA
  have hen:(Bj s.heap (frs X.stack++[a])).get? a=YC:=V6 _ (Qi _ (!8));have fr:=I.hidFrames (ch:=[a]);unfold noteFrame;simp only[hf];refine Xb (Bw eA dA v1 ?_);rw[YQ (!1)];refine wpAny_entryW (base:=Bj s.heap (frs X.stack++[a])) (outer:=X.outer) (hA.trans (by rw[hst])) (hst▸fr) hf eA (λb o e=>PySem.W.of_hideAll _ e) hen dA (Uc.mp v1).1 cA.2 λh' hN=>?_;obtain⟨k1,_,⟨oe',vs',T',oT',ts',e1,e2,e3,e4,e5,e6,e7,e8,e9⟩,k4⟩:=hN;exact h _ (I.flyTo hch k1 k4) ⟨a0,oe',vs',T',oT',ts',e1,⟨e2.1.trans cA.1,e2.2⟩,e3,e4,e6,e7,e8,e9,pA,I.flyT hex hch k4 e5 e7 e8⟩
 .have F':=F
  obtain⟨a0,oe,vs,T,oT,ts,eA,cA,dA,v1,nT,eT,dT,t3,pA,pT⟩:=F;unfold noteFrame;simp only[hf];refine Xb (Bw eA dA v1 ?_);rw[YM (!2)];refine Xb (Bw eT dT t3 ?_);rw[YM (!5)];exact Xj (h s I F')
def Zk9(I:Inv X pins O H s)(hex:X.ex=[])(F:Fl (Apart X pins H) C a fl s.heap)
  (h:∀s',Inv X pins O H s'->Fl (Apart X pins H) C a .none s'.heap->Q () s'):Xy M A (setFlight (.ref a) YC) Q E s:=by
 obtain⟨a0,oe,vs,T,oT,ts,eA,cA,dA,v1,nT,eT,dT,t3,pA,pT⟩:=F;have hch:∀b∈[a,T],Apart X pins H b:=λb hb=>by
  rcases Xl.mp hb with rfl|hb
  .exact pA
  .rw[Xm.mp hb];exact pT
 have hTn:(Bj s.heap (frs X.stack++[a,T])).get? T=YC:=V6 _ (Qi _ (!15));refine wpAny_setFlight_noneW (base:=Bj s.heap (frs X.stack++[a,T])) (l:=X.stack) (λb o e=>PySem.W.of_hideAll _ e) I.hidFrames ⟨oe,vs,T,oT,ts,eA,cA,dA,v1,hTn,nT,eT,dT,t3⟩ λh' k1 _ k3 k4'=>?_;have k4:∀b o,s.heap.get? b=YB o->(∀vs,o.data≠ .fields vs)->∃sl,h'.get? b=YB { o with slots:=sl }:=λb o e n=>⟨o.slots,k4' b o e n⟩;obtain⟨oe',vs',T',oT',ts',e1,e2,e3,e4,e5,e6,e7,e8,e9⟩:=k3;exact h _ (I.flyTo hch k1 k4) ⟨a0,oe',vs',T',oT',ts',e1,e2,e3,e4,e6,e7,e8,e9,pA,I.flyT hex hch k4 e5 e7 e8⟩
theorem Zu8(I:Inv X pins O H s)(hex:X.ex=[])(hst:X.stack=X.env::X.outer)(hf:X.env.frame=YB X.env.locals)(hA:A.frames=YB X.stack)(F:FlA (Apart X pins H) (JS X.env.locals) C a s.heap)
  (h:∀s',Inv X pins O H s'->Fl (Apart X pins H) C a .none s'.heap->Q () s'):Xy M A (leaving X.env (.ref a)) Q E s:=by
 unfold leaving;exact Xb (Zrr I hex hst hf hA F λs1 I1 F1=>Zk9 I1 hex F1 h)
end
end
def Ztr(K:Xc)(C:YG):Prop:=PySem.W.excIn K C [.type "ValueError",.type "Exception",.type "BaseException",.type "object"] "ValueError.__new__"=YD
def Zvt{bmB:List Xd}{newId:String}(X:K.In h)(q:PySem.W.excIn K C bmB newId=YD) :
  ∃bm N nm qn bs hdct sn sub ab col dd k0 k1 k2 k3 k5 mN,h.get? C=YB (excClassObj nm qn C N bs bm hdct sn sub ab col dd k0 k1 k2 k3 k5 newId)/\h.Ns N mN/\mN "__init__"=YC/\OwnTail h bmB bm:=by
 unfold PySem.W.excIn at q;split at q
 case h_2=>cases q
 rename_i dd cd sl ho;split at q
 case h_2=>cases q
 rename_i C' bm k0 k1 k2 k3 n k5 hm hs;simp only[XR,ZC,Bool.not_eq_true']at q;obtain⟨⟨⟨⟨⟨rfl,rfl⟩,e1⟩,e2⟩,e3⟩,e4⟩:=q;obtain⟨nm,bs,mro,ns,qn,hd,sn,sub,ab,col,del⟩:=cd;dsimp only at hm e1 e3 e4;subst hm e1;obtain⟨l⟩:=sl;have e5:l=[k0,k1,k2,k3,YB (.builtin n),k5]:=hs;subst e5;exact⟨bm,ns,nm,qn,bs,hd,sn,sub,ab,col,dd,k0,k1,k2,k3,k5,_,X _ _ ho,.of_isNs (PySem.W.isNs_of_in X e3),PySem.W.nsMap_none_of_in X e3 e4,PySem.W.tail_of_in X e2⟩
abbrev MXt:=Zg->(YG->Zg->Prop)->Prop
def XW(X:Cx)(C:MC X.K)(io:List Nat)(pins:List (YG×Obj))(ex:YG->Prop)(H:Hp)(fp:Fp)(k:YG->Zg->Prop)(e:Xd)(s':Xg):Prop :=
 ∃a cl O' H' δ' fp',e= .ref a/\Inv X pins O' H' s'/\FlA (Apart X pins H') (JS X.env.locals) cl a s'.heap/\Rel C io H' O' δ' fp' ex/\Kp H fp H' fp'/\k cl δ'
def XE(X:Cx)(io:List Nat)(e:YJ)(m:MXt):Prop:=∀(C:MC X.K) (pins:List (YG×Obj)) (s:Xg) (O:St) (H:Hp) (δ:Zg) (fp:Fp) (ex:YG->Prop) (k:YG->Zg->Prop),Inv X pins O H s->Rel C io H O δ fp ex->m δ k ->
 Xy (X4 X.prog X.w) X.A (eval e X.env) (λ_ _=>False) (XW X C io pins ex H fp k) s
def XS(X:Cx)(io:List Nat)(st:YK)(m:MXt):Prop:=∀(C:MC X.K) (pins:List (YG×Obj)) (s:Xg) (O:St) (H:Hp) (δ:Zg) (fp:Fp) (ex:YG->Prop) (k:YG->Zg->Prop),Inv X pins O H s->Rel C io H O δ fp ex->m δ k ->
 Xy (X4 X.prog X.w) X.A (exec st X.env) (λ_ _=>False) (XW X C io pins ex H fp k) s
def XSs(X:Cx)(io:List Nat)(sts:List YK)(m:MXt):Prop:=∀(C:MC X.K) (pins:List (YG×Obj)) (s:Xg) (O:St) (H:Hp) (δ:Zg) (fp:Fp) (ex:YG->Prop) (k:YG->Zg->Prop),Inv X pins O H s->Rel C io H O δ fp ex->m δ k ->
 Xy (X4 X.prog X.w) X.A (execs sts X.env) (λ_ _=>False) (XW X C io pins ex H fp k) s
def XW.shift{C:MC X.K}{k:YG->Zg->Prop}{e:Xd}(q:Kp H fp H1 fp1)(h:XW X C io pins ex H1 fp1 k e s):XW X C io pins ex H fp k e s:=by
 obtain⟨a,cl,O',H',δ',fp',e,I,F,R,K,hk⟩:=h;exact⟨a,cl,O',H',δ',fp',e,I,F,R,q.trans K,hk⟩
def Zu0:MXt:=λ_ _=>False
def Ykb(u:MSt)(w:MXt):MXt:=λδ k=>u { nx:=λδ'=>w δ' k,rt:=λ_ _=>False } δ
def Ym1(t:MTt)(u w:MXt):MXt:=λδ k=>t δ λb δ'=>if b=YD then u δ' k else w δ' k
def Zxh(cl:YG):MXt:=λδ k=>k cl δ
section
variable {m:MXt}{a b:List YK}{u:MSt}{w v:MXt}{mt:MTt}
def Zt6:XSs X io sts Zu0:=λ_ _ _ _ _ _ _ _ _ _ _ h=>h.elim
def Zzx:XS X io st Zu0:=λ_ _ _ _ _ _ _ _ _ _ _ h=>h.elim
def Zrz(h:XS X io st w):XSs X io (st::sts) w:=λC pins s O H δ fp ex k I R hm=>wpAny_execs_cons (thn (h C pins s O H δ fp ex k I R hm) λ_ _ z=>z.elim)
def Zzy(h:MS X io st u)(g:XSs X io sts w)(hx:X.xe= λ_ _=>False:=by rfl):XSs X io (st::sts) (Ykb u w):=by
 obtain⟨t,A,sS⟩:=h;intro C pins s O H δ fp ex k I R hm;refine wpAny_execs_cons (QQ (A pins s O H { nx:=λO1 H1=>∃δ1 fp1,Rel C io H1 O1 δ1 fp1 ex/\Kp H fp H1 fp1/\w δ1 k,rt:=λ_ _=>False } I
  (sS C H O δ fp ex _ _ R hm ⟨λH' O' δ' fp' R' k' h'=>⟨δ',fp',R',k',h'⟩,λ_ _ _ _ _ _ z=>z.elim,λ_ _ _ _ _ _ z=>z.elim,λ_ _ _ _ _ _ _ _ _ _ _ z=>z.elim⟩)) (λf s1 q=>?_) λe s1 q=>by rw[hx]at q;exact q.elim)
 cases f with
 | next=>
  obtain⟨O1,H1,I1,δ1,fp1,R1,k1,h1⟩:=q;exact QQ (g C pins s1 O1 H1 δ1 fp1 ex k I1 R1 h1) (λ_ _ z=>z) λe s2 z=>z.shift k1
 | ret v=>obtain⟨_,_,_,_,_,z⟩:=q;exact z.elim
 | brk=>obtain⟨_,_,_,z⟩:=q;exact z.elim
 | cont=>obtain⟨_,_,_,z⟩:=q;exact z.elim
def Yjv(ht:MT X io p e mt)(ha:XSs X io a w)(hb:XSs X io b v)(hx:X.xe= λ_ _=>False:=by rfl):XS X io (.If e a b pos) (Ym1 mt w v):=by
 obtain⟨t,A,sT⟩:=ht;intro C pins s O H δ fp ex k I R hm;refine wpAny_If (QQ (A pins s O H (λr H1=>∃δ1 fp1,Rel C io H1 O δ1 fp1 ex/\Kp H fp H1 fp1/\if r=YD then w δ1 k else v δ1 k) I
  (sT C H O δ fp ex _ _ R hm λH' r δ' fp' R' S' h'=>⟨δ',fp',R',S'.kp,h'⟩)) (λr s1 q=>?_) λe s1 q=>by rw[hx]at q;exact q.elim)
 obtain⟨H1,I1,δ1,fp1,R1,k1,h1⟩:=q;cases r with
 | true=>exact QQ (ha C pins s1 O H1 δ1 fp1 ex k I1 R1 h1) (λ_ _ z=>z) λe s2 z=>z.shift k1
 | false=>exact QQ (hb C pins s1 O H1 δ1 fp1 ex k I1 R1 h1) (λ_ _ z=>z) λe s2 z=>z.shift k1
def Z4v(he:XE X io e m)(hs:Vv e YC pos.line X.env=pure YF:=by rfl):XS X io (.Expr e pos) m:=λC pins s O H δ fp ex k I R hm=>
 wpAny_Expr_any (thn (he C pins s O H δ fp ex k I R hm) λ_ _ z=>z.elim) I.quiet hs
def Ybe(he:XE X io e m)(hs:Vv e (YB (.Name x pos')) pos.line X.env=pure YF:=by rfl):XS X io (.Assign [.Name x pos'] e pos) m:=λC pins s O H δ fp ex k I R hm=>
 wpAny_Assign_Name (thn (he C pins s O H δ fp ex k I R hm) λ_ _ z=>z.elim) hs
def Zq4{j:Str}{jk:Nat}{np kp:Pos}(hex:X.ex=[])(hh:X.A.handled=YC)(hg:Gl X x)(hm:X.mg x=YB (.ref C))(q:Ztr X.K C)(hd:(x==(!10))=YF:=by decide) :
  XS X io (.Raise (YB (.Call (.Name x np) [.Constant (.str j) jk kp] [] cpos)) YC pos) (Zxh C):=by
 intro M pins s O H δ fp ex k I R hk;obtain⟨tl,N,nm,qn,bs,hdct,sn,sub,ab,col,dd,k0,k1,k2,k3,k5,mN,hC,hN,hni,TL⟩:=Zvt I.ok.mod.kin q;refine wpAny_Raise_call_subT (C:=C) (nm:=nm) (q:=qn) (N:=N) (bs:=bs) (bm:=tl) (hdct:=hdct) (sn:=sn) (sub:=sub) (ab:=ab) (col:=col) (dd:=dd) (k0:=k0) (k1:=k1) (k2:=k2) (k3:=k3) (k5:=k5)
  PySem.F.excBase_ValueError (mN:=mN) (TL.hasType PySem.F.excBase_ValueError.hasBase) hh rfl hni (Zir I hg hm ⟨rfl,?_⟩ hd)
 refine Calls.evalArgs_plain ?_;refine Calls.spliced_cons ?_;show Xy _ _ (eval (.Constant (.str j) jk kp) X.env) _ _ _;refine Calls.Constant_str ?_;refine Calls.spliced_nil ?_;have I1:=I.tok (s.toks+1);refine⟨rfl,by show 1<=Xp;decide,I1.bk _ _ hC,hN.keeps I1.bk,TL.keeps I1.bk,λh' e hx=>?_⟩;obtain⟨t,e1,_,_⟩:=hx.there;have I2:=I1.kept (t':=s.toks+1) hx.keeps;exact⟨e,C,O,H,δ,fp,rfl,I2,.inr (.inl ⟨_,_,_,e1,⟨rfl,rfl⟩,rfl,rfl,I1.apart hex hx.new (I1.unheld hx.new)⟩),R,.refl _ _,hk⟩
end
def CX1(P:XH)(w:Ql):CXT:=λouter H s E e s'=>∃a C H',e= .ref a/\s'.os=s.os/\AllBare s'.gens/\Un (frs outer) [] H H' s.heap s'.heap/\HOk P w H' s'.heap/\Fl (λb=>H' b=YC/\s.heap.get? b=YC) C a .none s'.heap/\E (.ref C) YC H'
def spX(G:Xc)(S:List Xa->YG->Prop):Sp:=λvs H Q E=>∃L ds cl,Das G H L vs ds/\S ds cl/\∀H',Same H H'->E (.ref cl) YC H'
section
variable {base:YH}
theorem Fun.okX{f:YG}{fd:X5}{N ps:List Str}{n:Nat}{S:List Xa->YG->Prop}(F:Fun K x qual st f fd)(Sc:Z1 N ps (Zm st))(len:∀ds cl,S ds cl->ds.length=ps.length)
  (hbody:∀(cdv:Xd) (A:Qj) (outer:List Env) (s:Xg) (H:Hp) (E:XK),Room n (A.deeper (envOfC qual (Zm st) s.heap.objs.size f cdv)) ->
   ∃m,XSs (Zty (CX1 P w) P w K mg base N qual (Zm st) f cdv A outer s H E).nox [] (Za3 st) m/\∀ds cl,S ds cl->m (Zkz N ds) (λc _=>c=cl)):FnOk P w K mg base (CX1 P w) (n+1) f fd ps (spX K S):=by
 obtain⟨oc,od,kV,doc,pm,an,cdv,ct,osl,rfl,lk,hcd⟩:=F.ex;refine Ya1 lk hcd Sc (λvs H Q E h=>?_) λA outer s H vs Q E hr hsp=>?_
 .obtain⟨L,ds,cl,h1,h2,_⟩:=h
  rw[h1.length];exact len ds cl h2
 obtain⟨L,ds,cl,h1,h2,h3⟩:=hsp;obtain⟨m,hX,q⟩:=hbody cdv A outer s H E hr;refine⟨λ_ O' H'=>O'=start N vs/\H'=H,λpins s1 O1 H1 D I e=>?_,rfl,rfl⟩;obtain⟨rfl,rfl⟩:=e;refine QQ (hX ⟨H1,λ_=>False,L,start N vs⟩ pins s1 _ _ _ _ _ (λc _=>c=cl) (I.wish _) (Rel.entry h1) (q ds cl h2)) (λ_ _ z=>z.elim) λe s' z=>?_;obtain⟨a,cl',O',H',δ',fp',rfl,I',F',R',K',rfl⟩:=z;exact Zu8 I' rfl rfl rfl I'.ok.frames F' λs'' J FF=>⟨a,cl',H',rfl,J.os,J.bare,J.base,J.hok,FF.imp λb ap=>⟨ap.fr,ap.new⟩,h3 H' λb o e=>R'.fr b o e id⟩
end
def Rel.grown{G:Xc}{C:MC G}{io:List Nat}{O:St}(R:Rel C io H O δ fp ex)(s:Same H H'):Rel C io H' O δ fp ex :=
 (R.made (new:=[]) s (λa m=>nomatch m)).drop λa z=>.inl z
def Zvy(S:List Xa->YG->Prop)(mr:MAt):MXt:=λδ k=>mr δ λrs δ1=>∃cl,S (OT.datas rs) cl/\k cl δ1
section
variable {k:Nat}{f:YG}{fd:X5}{ps:List Str}
def Z5y{S}(F:FnOk X.prog X.w X.K X.mg X.base (CX1 X.prog X.w) k f fd ps (spX X.K S))(hr:Room k X.A)(hg:Gl X x)(hm:X.mg x=YB (.ref f))(hk:Vz X.K (.ref f)=YD)(hb:Binds X.K fd ps [])
  (ha:MA X io p c (e::es) mr) (hex:X.ex=[]:=by rfl) (hx:X.xe= λ_ _=>False:=by rfl) (hdb:(x==(!10))=YF:=by decide) (he:Xr (e::es) X.env=(YF,eval e X.env)::Xr es X.env:=by rfl) (hpl:(Ba pos (Xr es X.env)).any (·.1)=YF:=by rfl) :
  XE X io (.Call (.Name x pp) (e::es) [] pos) (Zvy S mr):=by
 obtain⟨t,A,sA⟩:=ha;intro C pins s O H δ fp ex kk I R hm';refine Vx (Zir I hg hm ?_ hdb);refine PySem.W.callWith_K (h₀:=X.base) I.ok.mod.kin hk (QQ (A pos pins s O H (λvs H1=>∃δ1 fp1 L ds cl,Rel C io H1 O δ1 fp1 ex/\Kp H fp H1 fp1/\Das X.K H1 L vs ds/\S ds cl/\kk cl δ1) I
  (sA C H O δ fp ex _ _ R hm' λH1 vs rs δ1 fp1 new r1 h1=>let⟨cl,h2,h3⟩:=h1;⟨δ1,fp1,_,_,cl,r1.base,r1.stp.kp,r1.das R,h2,h3⟩)) (λus s1 ⟨vs,H1,I1,r,q⟩=>⟨I1.kIn,?_⟩) λe s1 z=>by rw[hx]at z;exact z.elim) he hpl
 obtain⟨δ1,fp1,L,ds,cl,R1,k1,hd,hS,hkk⟩:=q;have hsp:spX X.K S vs H1 (λ_ _=>False) (λc _ H'=>c= .ref cl/\Same H1 H'):=⟨L,ds,cl,hd,hS,λH' s=>⟨rfl,s⟩⟩;have hl:(us++[]).length=ps.length:=by rw[JG,<-r.length];exact F.len _ _ _ _ hsp
 have hB:=hb s1 us I1.kIn hl;rw[JG]at hB;refine wpAny_call (codeAny_mono (F.run X.A X.stack s1 H1 ⟨us,[]⟩ us vs _ _ hr I1.env0 hB r hsp) λres s' hq=>?_);cases res with
 | error e=>
  obtain⟨a,C',H',rfl,ho,bare,un,hok,FF,eC,same⟩:=hq;cases eC;have J:=I1.call' (ch:=[]) ho un hok bare λb z=>nomatch z;exact⟨a,cl,O,H',δ1,fp1,rfl,J,.inl (FF.imp λb z=>I1.apart hex z.2 z.1),R1.grown same,k1.trans (Stp.same same same.al),hkk⟩
 | ok fl=>
  cases fl with
  | ret u=>obtain⟨_,_,_,_,_,_,_,z⟩:=hq;exact z.elim
  | next=>exact Vq hq
  | brk=>exact Vq hq
  | cont=>exact Vq hq
end
section
variable {O:St}
def Inv.track(I:Inv X pins O H s)(A:Apart X pins H a){φ:YH->Prop}(h1:φ s.heap)(h2:∃o,s.heap.get? a=YB o)(h3:∀g1 g2:YH,φ g1->(∀o,g1.get? a=YB o->g2.get? a=YB o)->φ g2):Inv X pins O (upd H a (.ext φ)) s:=by
 have ne:∀b u,H b=YB u->b≠a:=λb u e=>Y6 e A.fr;refine⟨I.ok,I.os,I.bare,⟨I.base.keep,I.base.slot,λb o e n hx=>?_,I.base.there,λb xs e=>?_,λb o u e=>?_,λb ps e=>?_⟩,I.loc,I.cell,?_,λx c e=>?_,λp hp=>?_,λb u e=>?_,I.len⟩
 .rw[Zz (λz=>by rw[z,A.new]at e;cases e)];exact I.base.free b o e n hx
 .have:=I.base.tups b xs e;rw[Zz (ne _ _ this)];exact this
 .have:=I.base.frzs b o u e;rw[Zz (ne _ _ this)];exact this
 .obtain⟨m,q⟩:=I.base.tbls b ps e;exact⟨m,by rw[Zz (ne _ _ q)];exact q⟩
 .rw[Zz (BL A.loc)];exact I.free
 .rw[Zz (A.cel x c e)];exact I.freeC x c e
 .obtain⟨e,n,r⟩:=I.pin p hp
  exact⟨e,by rw[Zz (A.pin p hp)];exact n,r⟩
 .by_cases hb:b=a
  .subst hb;rw[Z8]at e;cases e;exact⟨h1,h2,h3⟩
  .rw[Zz hb]at e
   exact(I.hok b u e).stay (λc v _ q=>q) (λc q=>by rw[Zz (ne _ _ q)];exact q) λc xs q=>by rw[Zz (ne _ _ q)];exact q
abbrev Cx.suite(X:Cx)(a:YG):Cx:={ X with A:=X.A.mark (YB (.ref a)),calm:=YF }
def Inv.suite(I:Inv X pins O H s)(a:YG):Inv (X.suite a) pins O H s :=
 ⟨⟨I.ok.mod,I.ok.kind,I.ok.glob,I.ok.blt,I.ok.above,I.ok.inj,I.ok.has,I.ok.cab,λz=>(nomatch z),I.ok.frames,I.ok.stk,I.ok.exf,I.ok.bs,I.ok.bsz,I.ok.noex,I.ok.exfs,I.ok.funs,I.ok.frf⟩,I.os,I.bare,I.base,I.loc,I.cell,I.free,I.freeC,I.pin,I.hok,I.len⟩
def Inv.unsuite(ok:X.Ok)(I:Inv (X.suite a) pins O H s):Inv X pins O H s:=⟨ok,I.os,I.bare,I.base,I.loc,I.cell,I.free,I.freeC,I.pin,I.hok,I.len⟩
theorem name_goes{Q:Unit->Xg->Prop}(I:Inv X pins O H s)(hN:X.N.Nodup)(hi:X.N[i]? =YB x)(hk:X.env.scope.names.lookup x=YB .local)
  (h:∀s',Inv X pins (O.set i YC) H s'->Q () s'):Xy M A (do bindName X.env x .none;unbindBehindTheSuite X.env x pos) Q E s:=by
 obtain⟨m,hn,hl⟩:=id I.loc;have hcls:(X.env.scope.kind== .class||(X.env.scope.kind== .module&&X.env.locals !=X.env.globals))=YF:=by rw[I.ok.kind];rfl
 refine wpAny_nameGoes_keeps hk hn hcls λh' u hn' hs=>?_;obtain⟨oL,_,_,hoL,_⟩:=id hn;have neL:∀b o,X.s₀.heap.get? b=YB o->b≠X.env.locals:=λb o e=>Xn (X8 (Xz e) I.ok.above);refine h _ ⟨I.ok,I.os,I.bare,⟨λb o e n hb hx=>?_,λb o e n hb hx=>?_,I.base.free,λb o e hx=>?_,I.base.tups,I.base.frzs,I.base.tbls⟩,⟨_,hn',λj y v' e1 e2 e3=>?_⟩,λy c e=>?_,I.free,I.freeC,λp hp=>?_,λb ob e=>?_,by simpa using I.len⟩
 .exact(hs.2 b (neL b o e)).trans (I.base.keep b o e n hb hx)
 .obtain⟨sl,e1⟩:=I.base.slot b o e n hb hx
  exact⟨sl,(hs.2 b (neL b o e)).trans e1⟩
 .obtain⟨o',e1⟩:=I.base.there b o e hx
  exact⟨o',(hs.2 b (neL b o e)).trans e1⟩
 .by_cases hj:j=i
  .subst hj
   have:j<O.length:=by
    have z:=(Xk.mp e2).1;simpa using z
   rw[QK this]at e2;cases e2
  .rw[Qn (BL hj)]at e2
   obtain⟨u',r',q⟩:=hl j y v' e1 e2 e3;refine⟨u',r',?_⟩;rcases q with⟨k,e⟩|⟨k,c,e,z⟩
   .refine .inl ⟨k,?_⟩
    have:y≠x:=λe=>hj (Zlx hN e1 (e▸hi));simp[this,e]
   .exact .inr ⟨k,c,e,z.sameBut hs (I.cne y c e)⟩
 .obtain⟨w',z⟩:=I.cell y c e
  exact⟨w',z.sameBut hs (I.cne y c e)⟩
 .obtain⟨e,n,ne,nf,d⟩:=I.pin p hp
  exact⟨(hs.2 p.1 ne).trans e,n,ne,nf,d⟩
 .refine(I.hok b ob e).stay (λc w' hc q=>(hs.2 c ?_).trans q) (λ_ q=>q) λ_ _ q=>q
  rintro rfl;rcases hc with rfl|hc
  .rw[I.free]at e;cases e
  .rw[I.free]at hc;cases hc
end
def Rel.forget{G:Xc}{C:MC G}{io:List Nat}{O:St}(R:Rel C io H O δ fp ex)(hio:i∉io):∃fp',Rel C io H (O.set i YC) (δ.set i YC) fp' ex/\Kp H fp H fp':=by
 have get:∀j (t':OT),(δ.set i YC)[j]? =YB (YB t')->j≠i/\δ[j]? =YB (YB t'):=λj t' e=>by
  by_cases ej:j=i
  .subst ej
   have hl:j<δ.length:=by simpa using(Xk.mp e).1
   rw[QK hl]at e;cases e
  .rw[Qn (BL ej)]at e;exact⟨ej,e⟩
 have sub:∀j a,a∈fpu fp i [] j->j≠i/\a∈fp j:=λj a m=>by
  by_cases ej:j=i
  .subst ej;rw[Ym]at m;exact nomatch m
  .rw[Y7 ej]at m;exact⟨ej,m⟩
 have lw:∀a,Lf C fp ex a->Lf C (fpu fp i []) ex a:=λa l=>⟨λ⟨j,z⟩=>l.1 ⟨j,(sub j a z).2⟩,l.2⟩;refine⟨fpu fp i [],⟨by rw[Bb,Bb];exact R.len,λj t' e=>?_,λj h=>?_,λj=>?_,λj k a h1 h2=>R.dj j k a (sub j a h1).2 (sub k a h2).2,λj a h z=>R.dx j a (sub j a h).2 z,R.xa,R.fr,R.al,λj a h=>R.new j a (sub j a h).2,λj h=>?_⟩,λb o e _=>e,λz=>(nomatch z),λa ⟨j,z⟩=>.inl ⟨j,(sub j a z).2⟩,λb e=>e⟩
 .obtain⟨ej,e⟩:=get j t' e
  obtain⟨w,e1,o⟩:=R.own j t' e;exact⟨w,by rw[Qn (BL ej)];exact e1,by rw[Y7 ej];exact o.wide λa l _=>lw a l⟩
 .by_cases ej:j=i
  .subst ej;rw[Ym]
  .rw[Y7 ej]
   exact R.emp j λt' z=>h t' (by rw[Qn (BL ej)];exact z)
 .by_cases ej:j=i
  .subst ej;rw[Ym];exact .nil
  .rw[Y7 ej];exact R.nd j
 .rw[Qn (λz=>hio (by rw[z];exact h))];exact R.io j h
def Z04{g:Array GenState}{d:Drawn}{t:Nat}{os:OsState}{e D:YG}{oe:Obj}{Q:Bool->Xg->Prop}(X:K.In h)(q:Ztr K D)
  (hs:VN K (.ref C) (.ref D)=YB YD) (he:h.get? e=YB oe) (hc:oe.cls= .ref C) (hQ:Q YD ⟨h,g,d,t,os⟩):Xy M A (excMatches (.ref e) (.ref D)) Q E ⟨h,g,d,t,os⟩:=by
 obtain⟨bm,N,nm,qn,bs,hdct,sn,sub,ab,col,dd,k0,k1,k2,k3,k5,mN,hC,hN,hni,TL⟩:=Zvt X q;have L:=PySem.W.looks_subIn (M:=M) X hs;have f:=tc_notTuple;have hB:(X7 D::bm).contains (.type "BaseException")=YD:=by rw[List.contains_cons,TL.hasType PySem.F.excBase_ValueError.hasBase,Bool.or_true]
 unfold excMatches
 repeat (first|(with_reducible refine VD he ?_;rw[hc])|with_reducible refine VD hC ?_|(with_reducible refine Xb (JQ.at L ?_))|(with_reducible refine JQ.at L ?_)|(with_reducible refine wpAny_isSubtype_exc hC ?_;rw[hB])|wp_step)
 exact hQ
def Yih(G:Xc)(Dc:YG)(i:Nat)(u:MSt)(x:MXt)(h:MSt):MSt:=λD δ=>u D δ\/x δ λcl δ'=>∃xn,ClsAt G xn cl/\(Zdr G cl/\VN G (.ref cl) (.ref Dc)=YB YD)/\
 h { nx:=λδ2=>D.nx (δ2.set i YC),rt:=λ_ _=>False } (δ'.set i (YB (.fz (exD xn))))
section
variable {n y:Str}{Dc:YG}{b₀:YK}{suite:List YK}{hpos np:Pos}{u h:MSt}{x:MXt}
def Yc6(hN:X.N.Nodup)(hi:X.N[i]? =YB n)(hk:X.env.scope.names.lookup n=YB .local)(hg:Gl X y)(hm:X.mg y=YB (.ref Dc))(q:Ztr X.K Dc)(hb:MSs X io body u)(hbx:XSs X io body x)(hs:∀a,MSs (X.suite a) io (b₀::suite) h)
  (hio:i∉io:=by decide) (hex:X.ex=[]:=by rfl) (hst:X.stack=X.env::X.outer:=by rfl) (hf:X.env.frame=YB X.env.locals:=by rfl) (hx:X.xe= λ_ _=>False:=by rfl) (hdb:(y==(!10))=YF:=by decide) :
  MS X io (.Try body [.ExceptHandler (YB (.Name y np)) (YB n) (b₀::suite) hpos] [] [] pos) (Yih X.K Dc i u x h):=by
 refine⟨λD' O H=>∃(C:MC X.K) (δ:Zg) (fp:Fp) (ex:YG->Prop) (D:Zin),Rel C io H O δ fp ex/\Yih X.K Dc i u x h D δ/\RelEnds C io ex H fp D D',?_,λC H O δ fp ex D D' R hm E=>⟨C,δ,fp,ex,D,R,hm,E⟩⟩;intro pins s O H D' I hq;obtain⟨C,δ,fp,ex,D,R,hm',EE⟩:=hq;rcases hm' with hu|hr
 .obtain⟨tb,Ab,sb⟩:=hb
  refine wpAny_Try_except (QQ (Ab pins s O H D' I (sb C H O δ fp ex D D' R hu EE)) (λf s1 z=>?_) λe s1 z=>by rw[hx]at z;exact z.elim);cases f with
  | next=>exact wpAny_execs_nil z
  | ret v=>exact z
  | brk=>exact z
  | cont=>exact z
 refine wpAny_Try_except (QQ (hbx C pins s O H δ fp ex _ I R hr) (λ_ _ z=>z.elim) λe s1 z=>?_);obtain⟨a,cl,O1,H1,δ1,fp1,rfl,I1,F1,R1,K1,xn,hxn,⟨Z,hsub⟩,hh⟩:=z;refine Zrr I1 hex hst hf I1.ok.frames F1 λs2 I2 F2=>Zk9 I2 hex F2 λs3 I3 F3=>?_;refine wpAny_handleBy_cons (codeAny_handlers_test (Zir (X:=X.suite a) (I3.suite a) hg hm ?_ hdb)) (by intro z;cases z);obtain⟨oe,vs,e1,e2,e3⟩:=F3.exO;have KI:=I3.kIn;obtain⟨g3,gg3,d3,t3,os3⟩:=s3;refine Z04 KI q hsub e1 e2 (codeAny_handlers_suite_as ?_);refine Zk9 I3 hex F3 λs4 I4 F4=>?_;have ap:Apart X pins H1 a:=by obtain⟨_,_,_,_,_,_,_,_,_,_,_,_,_,_,z,_⟩:=F4;exact z
 have x4:=F4.exO;have I5:Inv X pins O1 (upd H1 a (.ext (ExO cl a))) s4:=I4.track ap x4 (let⟨o,_,e,_⟩:=x4;⟨o,e⟩) λg1 g2 ⟨o,vs,z1,z2⟩ k=>⟨o,vs,k o z1,z2⟩;have sm:Same H1 (upd H1 a (.ext (ExO cl a))):=Z9 ap.fr _;have R5:=R1.grown sm;obtain⟨fp2,R6,K6⟩:=RE.put (p:=YD) (RE.fz (c:=YD) R5 (Stp.refl YD _ _ _) (.exc Z hxn Z8)) R5 hio;refine Zfg (X:=X.suite a) (v:=.ref a) (I5.suite a) hN hi (.inl hk) rfl (λs5 I6=>?_) (.inr hk);obtain⟨ts,As,ss⟩:=hs a;refine QQ (As pins s5 _ _ { nx:=λO' H'=>∃δ' fp',Rel C io H' O' δ' fp' ex/\Kp (upd H1 a (.ext (ExO cl a))) fp2 H' fp'/\D.nx (δ'.set i YC),rt:=λ_ _=>False } I6
  (ss C _ _ _ fp2 ex _ _ R6 hh ⟨λH' O' δ' fp' R' k' h'=>⟨δ',fp',R',k',h'⟩,λ_ _ _ _ _ _ z=>z.elim,λ_ _ _ _ _ _ z=>z.elim,λ_ _ _ _ _ _ _ _ _ _ _ z=>z.elim⟩)) (λf s6 z=>?_) λe s6 z=>by
   have z':X.xe e s6:=z;rw[hx]at z';exact z'.elim
 cases f with
 | next=>
  obtain⟨O7,H7,I7,δ7,fp7,R7,K7,h7⟩:=z;obtain⟨fp8,R8,K8⟩:=R7.forget hio;exact name_goes (I7.unsuite I4.ok) hN hi hk λs8 I8=>⟨_,_,I8,EE.nx H7 _ _ fp8 R8 (K1.trans ((Stp.same sm sm.al:Kp H1 fp1 _ fp1).trans (K6.trans (K7.trans K8)))) h7⟩
 | ret v=>obtain⟨_,_,_,_,_,w⟩:=z;exact w.elim
 | brk=>obtain⟨_,_,_,w⟩:=z;exact w.elim
 | cont=>obtain⟨_,_,_,w⟩:=z;exact w.elim
end
def Zqi(b:Bool)(k:Bool->Prop):asB (.bool b) k=k b:=rfl
def Da.exInv{G:Xc}(q:Da G H L v (exD x)):∃a C,v= .ref a/\Zdr G C/\ClsAt G x C/\H a=YB (.ext (ExO C a)):=by
 generalize e:exD x=d at q;cases q with
 | exc Z n h=>
  have e':=e;unfold exD at e';injection e' with e';injection e' with e' _;injection e' with e' _;injection e' with e';subst e';exact⟨_,_,rfl,Z,n,h⟩
 | _=>unfold exD at e;cases e
inductive ClsV:V->Xd->Prop where
 | own (D:YG):ClsV (.ref D) (.ref D)
 | ty (T:String):ClsV (.ty T) (.type T)
def ClsV.val{c:Xd}(h:ClsV v c)(r:RelV v u):u=c:=by
 cases h with
 | own D=>exact r
 | ty T=>exact r
inductive ClsVs:List V->List Xd->Prop where
 | nil:ClsVs [] []
 | cons {v:V} {c:Xd} {vs:List V} {cs:List Xd}:ClsV v c->ClsVs vs cs->ClsVs (v::vs) (c::cs)
def ClsVs.vals{vs:List V}{cs:List Xd}(h:ClsVs vs cs)(k:Vals vs us):us=cs:=by
 induction h generalizing us with
 | nil=>cases k;rfl
 | cons h t ih=>
  cases k with
  | cons r q=>rw[h.val r,ih q]
theorem ClsVs.length:∀{vs:List V} {cs:List Xd},ClsVs vs cs->vs.length=cs.length
 | _,_,.nil=>rfl
 | _,_,.cons _ t=>by simp[t.length]
def Yi0(G:Xc):List V->Hp->VK->Prop:=λxs H Q=>∃a C v c b,xs=[.ref a,v]/\Zdr G C/\H a=YB (.ext (ExO C a))/\ClsV v c/\QB G (.ref C) c=YB b/\Q (.bl b) H
def Yd8(G:Xc):List V->Hp->VK->Prop:=λxs H Q=>∃a C p vs cs b,xs=[.ref a,.ref p]/\Zdr G C/\H a=YB (.ext (ExO C a))/\H p=YB (.tup vs)/\ClsVs vs cs/\UW G (.ref C) cs=YB b/\Q (.bl b) H
def Zxs:Zbe X (.builtin "isinstance") (Yi0 X.K):=by
 intro pins s O H xs us Q I r h;obtain⟨a,C,v,c,b,rfl,Z,e,hc,hb,h⟩:=h;obtain⟨u,w',rfl,r1,r2⟩:=vals2 r;cases(show u=X7 a from r1);rw[hc.val r2];obtain⟨⟨o,vs,ho,hcl,_⟩,_,_⟩:=(show ObjOk X.prog X.w H s.heap a (.ext (ExO C a))from I.hok a _ e);exact QZ (Zlh Z) I.kIn ⟨o,ho,hcl⟩ hb (!12) λtk=>⟨.bl _,H,I.tok tk,rfl,h⟩
def Zs7:Zbe X (.builtin "isinstance") (Yd8 X.K):=by
 intro pins s O H xs us Q I r h;obtain⟨a,C,p,vs,cs,b,rfl,Z,e,ep,hc,hb,h⟩:=h;obtain⟨u,w',rfl,r1,r2⟩:=vals2 r;cases(show u=X7 a from r1);cases(show w'=X7 p from r2);obtain⟨⟨o,vs',ho,hcl,_⟩,_,_⟩:=(show ObjOk X.prog X.w H s.heap a (.ext (ExO C a))from I.hok a _ e);obtain⟨_,its,q,⟨⟨oc,od,oda,osl⟩,hp,hpc,n,hpd⟩⟩:=(show ObjOk X.prog X.w H s.heap p (.tup vs)from I.hok p _ ep);dsimp only at hpc hpd;subst hpc hpd;rw[hc.vals q]at hp;exact PySem.W.kia_tup (Zlh Z) I.kIn ⟨o,ho,hcl⟩ hp hb (!12) λtk=>⟨.bl _,H,I.tok tk,rfl,h⟩
def Ydj(G:Xc)(c:Xd)(m:MEt):MEt:=λδ K=>m δ λr δ'=>∃x C b,r.data=exD x/\ClsAt G x C/\QB G (.ref C) c=YB b/\K (.fz (.bool b)) δ'
def Z3h(G:Xc)(cs:List Xd)(m:MEt):MEt:=λδ K=>m δ λr δ'=>∃x C b,r.data=exD x/\ClsAt G x C/\UW G (.ref C) cs=YB b/\K (.fz (.bool b)) δ'
section
variable {a:YJ}
def Z27{cv:Xd}(hb:PE X b (tC v))(hv:ClsV v cv)(hg:Gl X "isinstance")(hm:X.mg "isinstance"=YC)(hbv:Qd "isinstance"=YB (.builtin "isinstance"))(ha:ME X io p c a ma)
  (he:Xr [a,b] X.env=(YF,eval a X.env)::Xr [b] X.env:=by rfl) (he2:Xr [b] X.env=(YF,eval b X.env)::Xr [] X.env:=by rfl) (hpl:(Ba pos (Xr [b] X.env)).any (·.1)=YF:=by rfl) :
  ME X io p YD (.Call (.Name "isinstance" pp) [a,b] [] pos) (Ydj X.K cv ma):=by
 obtain⟨_,A,s⟩:=ha;refine⟨_,Zd6 Zxs hg hm hbv (Wr A (Wr hb Zi9 he2) he) (!1) (!1) he hpl,?_⟩;intro C H O δ fp ex K' Q R h k;refine s C H O δ fp ex _ _ R h λH' v r δ' fp' new r1 h1=>?_;obtain⟨xn,Cx,bb,e,hn,hk,h2⟩:=h1;have q:=r1.da R;rw[e]at q;obtain⟨a,C0,rfl,Z,hn0,eh⟩:=q.exInv;have eC:C0=Cx:=by
  have:=hn0.symm.trans hn;injection this with this;injection this with this;injection this
 subst eC;exact⟨a,C0,_,cv,bb,rfl,Z,eh,hv,hk,k H' _ _ δ' fp' [] (.fz r1.base r1.stp (.bl _)) h2⟩
def Z6v{bs:List YJ}{x1}{t:TA}{vs:List V}{cs:List Xd}(hb:PA X bs t)(ht:∀O H Q,Q vs H->t O H Q)(hv:ClsVs vs cs)(hl:vs.length<=Xp)(hg:Gl X "isinstance")(hm:X.mg "isinstance"=YC)(hbv:Qd "isinstance"=YB (.builtin "isinstance"))(ha:ME X io p c a ma)
  (he:Xr [a,.Tuple bs x1 p2] X.env=(YF,eval a X.env)::Xr [.Tuple bs x1 p2] X.env:=by rfl) (he2:Xr [.Tuple bs x1 p2] X.env=(YF,eval (.Tuple bs x1 p2) X.env)::Xr [] X.env:=by rfl) (hpl:(Ba pos (Xr [.Tuple bs x1 p2] X.env)).any (·.1)=YF:=by rfl) :
  ME X io p YD (.Call (.Name "isinstance" pp) [a,.Tuple bs x1 p2] [] pos) (Z3h X.K cs ma):=by
 obtain⟨_,A,s⟩:=ha;refine⟨_,Zd6 Zs7 hg hm hbv (Wr A (Wr (Zxc hb) Zi9 he2) he) (!1) (!1) he hpl,?_⟩;intro C H O δ fp ex K' Q R h k;refine s C H O δ fp ex _ _ R h λH' v r δ' fp' new r1 h1=>?_;obtain⟨xn,Cx,bb,e,hn,hk,h2⟩:=h1;have q:=r1.da R;rw[e]at q;obtain⟨a,C0,rfl,Z,hn0,eh⟩:=q.exInv;have eC:C0=Cx:=by
  have:=hn0.symm.trans hn;injection this with this;injection this with this;injection this
 subst eC;refine ht _ _ _ ⟨hl,λtp hp=>?_⟩;have sm:Same H' (upd H' tp (.tup vs)):=Z9 hp _;refine⟨a,C0,tp,vs,cs,bb,rfl,Z,sm _ _ eh,Z8,hv,hk,k _ _ _ δ' fp' [] (.fz (r1.base.grown sm) ?_ (.bl _)) h2⟩;have z:=r1.stp.trans (p':=YD) (Stp.same (p:=YD) (δ:=δ') (fp:=fp') sm sm.al)
 rwa[Bool.and_true]at z
end
end L2
namespace L2
open PySem PySem.Spec PyProof.Rows PySem.P
section
variable {e t0:YG}{vs:Array Xd}{m:Str}
structure Yp1(s:Xg)(e C t0:YG)(m:Str)(tk:Tok):Prop where
 ob:∃o vs,s.heap.get? e=YB o/\o.cls= .ref C/\o.data= .fields vs/\vs[0]? =YB (.ref t0)
 tx:s.heap.TupAt t0 [.str m tk]
end
section
variable {j:Str}{jk:Nat}{np kp p1:Pos}
end
end L2
namespace L2
open PySem PySem.Spec PyProof.Rows
abbrev FE:=Zg->Option (OT×Zg)
abbrev FA:=Zg->Option (List OT×Zg)
abbrev FT:=Zg->Option (Bool×Zg)
abbrev FI:=Zg->Option (List Xa×Zg)
abbrev FO:=Zg->Option (Option Int×Zg)
abbrev FG:=Xa->Zg->Option Zg
abbrev FGs:=List Xa->Zg->Option Zg
def o2(f:Zg->Option (Y×Zg)):Zg->(Y->Zg->Prop)->Prop:=λδ K=>∃r δ',f δ=YB (r,δ')/\K r δ'
def oG(g:FG):MGt:=λd δ k=>∃δ',g d δ=YB δ'/\k δ'
def oGs(g:FGs):Zy4:=λd δ k=>∃δ',g d δ=YB δ'/\k δ'
section
variable {X:Cx}{io:List Nat}{p c:Bool}{e tg:YJ}{es:List YJ}{m m':MEt}{mr mr':MAt}{mt mt':MTt}{mi mi':MIt}{g g':MGt}{gs gs':Zy4}{mo mo':MOt}{st:YK}{sts:List YK}{u u':MSt}{eo:Option YJ}
def ME.weak(h:ME X io p c e m)(w:∀δ K,m' δ K->m δ K):ME X io p c e m':=let⟨t,A,s⟩:=h;⟨t,A,λC H O δ fp ex K Q R h k=>s C H O δ fp ex K Q R (w δ K h) k⟩
def MA.weak(h:MA X io p c es mr)(w:∀δ K,mr' δ K->mr δ K):MA X io p c es mr':=let⟨t,A,s⟩:=h;⟨t,A,λC H O δ fp ex K Q R h k=>s C H O δ fp ex K Q R (w δ K h) k⟩
def MT.weak(h:MT X io p e mt)(w:∀δ K,mt' δ K->mt δ K):MT X io p e mt':=let⟨t,A,s⟩:=h;⟨t,A,λC H O δ fp ex K Q R h k=>s C H O δ fp ex K Q R (w δ K h) k⟩
def MW.weak(h:MW X io p e mt)(w:∀δ K,mt' δ K->mt δ K):MW X io p e mt':=let⟨t,A,s⟩:=h;⟨t,A,λC H O δ fp ex K Q R h k=>s C H O δ fp ex K Q R (w δ K h) k⟩
def MIfs.weak(h:MIfs X io p es mt)(w:∀δ K,mt' δ K->mt δ K):MIfs X io p es mt':=let⟨t,A,s⟩:=h;⟨t,A,λC H O δ fp ex K Q R h k=>s C H O δ fp ex K Q R (w δ K h) k⟩
def MI.weak(h:MI X io p c tg e mi)(w:∀δ K,mi' δ K->mi δ K):MI X io p c tg e mi':=let⟨t,A,s⟩:=h;⟨t,A,λC H O δ fp ex K Q R h k=>s C H O δ fp ex K Q R (w δ K h) k⟩
def MO.weak(h:MO X io p eo mo)(w:∀δ K,mo' δ K->mo δ K):MO X io p eo mo':=let⟨t,A,s⟩:=h;⟨t,A,λC H O δ fp ex K Q R h k=>s C H O δ fp ex K Q R (w δ K h) k⟩
def MG.weak(h:MG X io c tg g)(w:∀d δ K,g' d δ K->g d δ K):MG X io c tg g':=let⟨t,A,s⟩:=h;⟨t,A,λC H O δ fp ex v d k Q R q h kk=>s C H O δ fp ex v d k Q R q (w d δ k h) kk⟩
def MGs.weak(h:MGs X io c es gs)(w:∀d δ K,gs' d δ K->gs d δ K):MGs X io c es gs':=let⟨t,A,s⟩:=h;⟨t,A,λC H O δ fp ex v d k Q R q h kk=>s C H O δ fp ex v d k Q R q (w d δ k h) kk⟩
def MS.weak(h:MS X io st u)(w:∀D δ,u' D δ->u D δ):MS X io st u':=let⟨t,A,s⟩:=h;⟨t,A,λC H O δ fp ex D D' R h E=>s C H O δ fp ex D D' R (w D δ h) E⟩
def MSs.weak(h:MSs X io sts u)(w:∀D δ,u' D δ->u D δ):MSs X io sts u':=let⟨t,A,s⟩:=h;⟨t,A,λC H O δ fp ex D D' R h E=>s C H O δ fp ex D D' R (w D δ h) E⟩
end
def Yk(i:Nat):FE:=λδ=>match δ[i]? with|some (YB (.fz d))=>YB (.fz d,δ)|_=>YC
def Zjv(i:Nat):FE:=λδ=>match δ[i]? with|some (YB t)=>YB (.fz t.data,δ)|_=>YC
def fC(d:Xa):FE:=λδ=>YB (.fz d,δ)
def Zd(g:Xa->Xa->Option Xa)(a b:FE):FE:=λδ=>(a δ).bind λp=>(b p.2).bind λq=>(g p.1.data q.1.data).bind λd=>YB (.fz d,q.2)
def W2(g:Xa->Xa->Option OT)(a b:FE):FE:=λδ=>(a δ).bind λp=>(b p.2).bind λq=>(g p.1.data q.1.data).bind λd=>YB (d,q.2)
def fUn(g:Xa->Option Xa)(a:FE):FE:=λδ=>(a δ).bind λp=>(g p.1.data).bind λd=>YB (.fz d,p.2)
def Znr(a b:FE):FE:=λδ=>(a δ).bind λp=>match p.1.data with| .bool YD=>b p.2| .bool YF=>YB (.fz (.bool YF),p.2)|_=>YC
def fOr(a b:FE):FE:=λδ=>(a δ).bind λp=>match p.1.data with| .bool YD=>YB (.fz (.bool YD),p.2)| .bool YF=>b p.2|_=>YC
def fIf(t:FT)(a b:FE):FE:=λδ=>(t δ).bind λp=>if p.1=YD then a p.2 else b p.2
def tV(e:FE):FT:=λδ=>(e δ).bind λp=>match p.1 with| .fz (.bool b)=>YB (b,p.2)|_=>YC
def tNo(t:FT):FT:=λδ=>(t δ).bind λp=>YB (!p.1,p.2)
def tAn(t u:FT):FT:=λδ=>(t δ).bind λp=>if p.1=YD then u p.2 else YB (YF,p.2)
def tO(t u:FT):FT:=λδ=>(t δ).bind λp=>if p.1=YD then YB (YD,p.2)else u p.2
def tD(e:FE):FT:=λδ=>(e δ).bind λp=>(Z1t p.1.data).bind λb=>YB (b,p.2)
def Yj:FA:=λδ=>YB ([],δ)
def Ze(e:FE)(a:FA):FA:=λδ=>(e δ).bind λp=>(a p.2).bind λq=>YB (p.1::q.1,q.2)
def Zjp(a:FA):FE:=λδ=>(a δ).bind λp=>if p.1.length<=Xp then YB (.fz (.tuple (OT.datas p.1)),p.2)else YC
def Zgv(a:FA):FE:=λδ=>(a δ).bind λp=>if p.1.length<=Xp then YB (.nd p.1,p.2)else YC
def Zxg(e:FE):FE:=λδ=>(e δ).bind λp=>if Zbh p.1.data=YD then YB (.fz p.1.data,p.2)else YC
def Zgz(e:FE):FE:=λδ=>(e δ).bind λp=>if Zga p.1=YD then YB (p.1,p.2)else YC
inductive RF where
 | ok (r:OT)
 | exn (c:Str)
 | bad
abbrev FD:=List Xa->RF
abbrev FIO:=OT->List Xa->Option (OT×OT)
def Z7(F:FD)(a:FA):FE:=λδ=>(a δ).bind λp=>match F (OT.datas p.1)with| .ok r=>YB (r,p.2)|_=>YC
def Z2w(i:Nat)(F:FIO)(a:FA):FE:=λδ=>match δ[i]? with
 | some (YB _)=>(a δ).bind λp=>match p.2[i]? with
  | some (YB t)=>(F t (OT.datas p.1)).bind λq=>YB (q.1,p.2.set i (YB q.2))
  | _=>YC
 | _=>YC
def Zdm(g:List Xa->Option Xa)(a:FA):FE:=λδ=>(a δ).bind λp=>(g (OT.datas p.1)).bind λd=>YB (.fz d,p.2)
def fBl(g:List Xa->Option OT)(a:FA):FE:=λδ=>(a δ).bind λp=>(g (OT.datas p.1)).bind λd=>YB (d,p.2)
def Zjy(T:String)(e:FE):FE:=λδ=>(e δ).bind λp=>if Zhm p.1.data=YD then YC else YB (.fz (.bool (Zhf T p.1.data)),p.2)
def oN:FO:=λδ=>YB (YC,δ)
def oI(e:FE):FO:=λδ=>(e δ).bind λp=>match p.1.data with| .int i=>YB (YB i,p.2)|_=>YC
def fSl(e:FE)(lo hi:FO):FE:=λδ=>(e δ).bind λp=>(lo p.2).bind λq=>(hi q.2).bind λr=>match p.1.data with| .list ds=>YB (.nd ((cutD ds q.1 r.1).map OT.fz),r.2)|_=>YC
def Zft(f g:Int->Int->Bool)(a b c:FE):FE:=λδ=>(a δ).bind λp=>(b p.2).bind λq=>match p.1.data,q.1.data with
 | .int i,.int j=>if f i j=YD then(c q.2).bind λr=>match r.1.data with| .int k=>YB (.fz (.bool (g j k)),r.2)|_=>YC else YB (.fz (.bool YF),q.2)
 | _,_=>YC
def Zg8(e:FE):FI:=λδ=>(e δ).bind λp=>match p.1.data with| .list ds=>YB (ds,p.2)|_=>YC
def iTp(e:FE):FI:=λδ=>(e δ).bind λp=>match p.1.data with| .tuple ds=>YB (ds,p.2)|_=>YC
def rOk(j:Int):Bool:=decide (-(2^62)<=j)&&decide (j<2^62)
def Z7d{j:Int}(h:rOk j=YD):-(2^62)<=j/\j<2^62:=by
 unfold rOk at h;rw[XR]at h;exact⟨YX h.1,YX h.2⟩
def Yfz{j:Int}(h0:-1000000<=j)(h1:j<=1000000):rOk j=YD:=by
 unfold rOk;rw[YS (show -(2^62)<=j by omega),YS (show j<2^62 by omega)];rfl
def iRa(a:FA):FI:=λδ=>(a δ).bind λp=>match OT.datas p.1 with|[.int j]=>if rOk j=YD then YB (Zro 0 j.toNat,p.2)else YC|_=>YC
def iRb(a:FA):FI:=λδ=>(a δ).bind λp=>match OT.datas p.1 with|[.int i,.int j]=>if(rOk i&&rOk j)=YD then YB (Zro i (j-i).toNat,p.2)else YC|_=>YC
def Yaa(a:FA):FI:=λδ=>(a δ).bind λp=>match OT.datas p.1 with|[.list as,.list bs]=>YB (Zpw as bs,p.2)|_=>YC
def gNm(i:Nat):FG:=λd δ=>YB (δ.set i (YB (.fz d)))
def Ypa(i:Nat):FG:=λd δ=>if Zbh d=YD then YB (δ.set i (YB (.fz d)))else YC
def gNl:FGs:=λds δ=>match ds with|[]=>YB δ|_=>YC
def gCn(g:FG)(gs:FGs):FGs:=λds δ=>match ds with|d::r=>(g d δ).bind (gs r)|[]=>YC
def gTp(n:Nat)(gs:FGs):FG:=λd δ=>match d with| .tuple ds=>if ds.length=n then gs ds δ else YC|_=>YC
def gLs(n:Nat)(gs:FGs):FG:=λd δ=>match d with| .list ds=>if ds.length=n then gs ds δ else YC|_=>YC
def compLoop(g:FG)(t:FT)(e:FE):List Xa->Zg->Option (List OT×Zg)
 | [],δ=>YB ([],δ)
 | d::ds,δ=>(g d δ).bind λδ1=>(t δ1).bind λp=>if p.1=YD then(e p.2).bind λq=>(compLoop g t e ds q.2).bind λz=>YB (q.1::z.1,z.2)else compLoop g t e ds p.2
def Jq(n:Nat)(caps:List Nat)(it:FI)(g:FG)(t:FT)(e:FE):FE:=λδ=>(it δ).bind λp=>if p.1.length<=Xp then(compLoop g t e p.1 (blk n caps p.2)).bind λz=>YB (.nd z.1,p.2)else YC
def Zj6:FT:=λδ=>YB (YD,δ)
inductive RS where
 | nx (δ:Zg)
 | rt (r:OT) (δ:Zg)
 | bk (δ:Zg)
 | ct (δ:Zg)
 | ex (c:Str) (δ:Zg)
 | bad
abbrev FS:=Zg->RS
def RS.fits(D:Zin):RS->Prop
 | .nx δ=>D.nx δ
 | .rt r δ=>D.rt r δ
 | .bk δ=>D.bk δ
 | .ct δ=>D.ct δ
 | _=>False
def oS(f:FS):MSt:=λD δ=>(f δ).fits D
def xS(K:Xc)(f:FS):MXt:=λδ k=>∃c C δ',f δ= .ex c δ'/\ClsAt K c C/\k C δ'
def Z3(f g:FS):FS:=λδ=>match f δ with| .nx δ'=>g δ'|r=>r
def fNx:FS:=λδ=>.nx δ
def Ypn:FS:=λδ=>.bk δ
def Yol:FS:=λδ=>.ct δ
def wE(e:FE)(k:OT->Zg->RS):FS:=λδ=>match e δ with|some (r,δ')=>k r δ'|none=>.bad
def wX(F:FD)(a:FA)(k:OT->Zg->RS):FS:=λδ=>match a δ with
 | some (rs,δ1)=>match F (OT.datas rs)with
  | .ok r=>k r δ1
  | .exn c=>.ex c δ1
  | .bad=>.bad
 | none=>.bad
def Zwe:OT->Zg->RS:=λ_ δ=>.nx δ
def W7:OT->Zg->RS:=λr δ=>.rt r δ
def Yjl:OT->Zg->RS:=λr δ=>if Zbh r.data=YD then .rt (.fz r.data) δ else .bad
def Ju(i:Nat):OT->Zg->RS:=λr δ=>.nx (δ.set i (YB (.fz r.data)))
def Zux(i:Nat):OT->Zg->RS:=λr δ=>if Zbh r.data=YD then .nx (δ.set i (YB (.fz r.data)))else .bad
def Zbf(i:Nat):OT->Zg->RS:=λr δ=>.nx (δ.set i (YB r))
def Yfo(g:FG):OT->Zg->RS:=λr δ=>match g r.data δ with|some δ'=>.nx δ'|none=>.bad
def Yj5:FS:=λδ=>.rt (.fz .none) δ
def Zhe(i:Nat):FS:=λδ=>match δ[i]? with|some (YB t)=>.rt t (δ.set i YC)|_=>.bad
def Y4(t:FT)(u w:FS):FS:=λδ=>match t δ with|some (b,δ')=>if b=YD then u δ' else w δ'|none=>.bad
def Zks(c:Str):FS:=λδ=>.ex c δ
def Jp(i:Nat)(e:FE):FS:=λδ=>match δ[i]? with
 | some (YB (.nd _))=>wE e (λr δ1=>match δ1[i]? with
  | some (YB (.nd ts))=>if ts.length<Xp then .nx (δ1.set i (YB (.nd (ts++[.fz r.data]))))else .bad
  | _=>.bad) δ
 | _=>.bad
def Zrn(i:Nat)(e:FE):FS:=λδ=>match δ[i]? with
 | some (YB (.nd _))=>wE e (λr δ1=>match δ1[i]? with
  | some (YB (.nd ts))=>if ts.length<Xp then .nx (δ1.set i (YB (.nd (ts++[r]))))else .bad
  | _=>.bad) δ
 | _=>.bad
def Zy3(i:Nat)(e j:FE):FS:=wE e λr δ1=>match δ1[i]? with
 | some (YB (.nd ts))=>wE j (λn _=>match n.data with
  | .int k=>match ixN ts.length k with
   | some j=>.nx (δ1.set i (YB (.nd (ts.set j (.fz r.data)))))
   | none=>.bad
  | _=>.bad) δ1
 | _=>.bad
def Zgt(i:Nat)(u:FS):FS:=λδ=>match δ[i]? with|some (YB t)=>u (δ.set i (YB (.fz t.data)))|_=>.bad
def forLoop(g:FG)(u:FS):List Xa->Zg->RS
 | [],δ=>.nx δ
 | d::ds,δ=>match g d δ with
  | none=>.bad
  | some δ1=>match u δ1 with
   | .nx δ2=>forLoop g u ds δ2
   | .ct δ2=>forLoop g u ds δ2
   | .bk δ2=>.nx δ2
   | r=>r
def Zf7(it:FI)(g:FG)(u:FS):FS:=λδ=>match it δ with|some (ds,δ1)=>forLoop g u ds δ1|none=>.bad
def whileLoop(t:FT)(u:FS):Nat->Zg->RS
 | 0,_=>.bad
 | n+1,δ=>match t δ with
  | none=>.bad
  | some (b,δ1)=>if b=YD then match u δ1 with
   | .nx δ2=>whileLoop t u n δ2
   | .ct δ2=>whileLoop t u n δ2
   | .bk δ2=>.nx δ2
   | .rt r δ2=>.rt r δ2
   | _=>.bad
   else .nx δ1
open Classical in
def Zkl(t:FT)(u:FS):FS:=λδ=>if h:∃n,whileLoop t u n δ≠ .bad then whileLoop t u (Classical.choose h) δ else .bad
def Zsd(c d:Str):Bool:=c==d||d==("CutError" : Str)||d==("ValueError" : Str)
def Z5f(xs:List Str)(u:FS)(D:Str)(i:Nat)(h:FS):FS:=λδ=>match u δ with
 | .ex c δ'=>if(xs.contains c&&Zsd c D)=YD then match h (δ'.set i (YB (.fz (exD c))))with
   | .nx δ2=>.nx (δ2.set i YC)
   | _=>.bad
  else .bad
 | r=>r
def Yo(n:Nat)(ds:List Xa):Zg:=ds.map (λd=>YB (.fz d))++By (n-ds.length) YC
def Yhj(n:Nat)(t:OT)(ds:List Xa):Zg:=YB t::(ds.map (λd=>YB (.fz d))++By (n-(ds.length+1)) YC)
def RS.told:RS->RF
 | .nx _=>.ok (.fz .none)
 | .rt r _=>.ok r
 | .ex c _=>.exn c
 | _=>.bad
def J2(np n:Nat)(S:FS):FD:=λds=>if ds.length=np then(S (Yo n ds)).told else .bad
def sD(F:FD):List Xa->(OT->Prop)->Prop:=λds k=>∃r,F ds= .ok r/\k r
def sX(K:Xc)(F:FD):List Xa->YG->Prop:=λds cl=>∃c,F ds= .exn c/\ClsAt K c cl
theorem bs{x:Option Y}{f:Y->Option β}{b:β}(h:x.bind f=YB b):∃a,x=YB a/\f a=YB b:=Option.bind_eq_some_iff.mp h
section
variable {X:Cx}{io:List Nat}{p c:Bool}{e tg:YJ}{es:List YJ}{st:YK}{sts:List YK}{eo:Option YJ}{fa fb fc:FE}{ra:FA}{ta tb:FT}{i:Nat}
def Y0(h:ME X io p c e (Ygq i)):ME X io p c e (o2 (Yk i)):=h.weak λδ K q91=>by
 obtain⟨r,δ',h,k⟩:=q91;unfold Yk at h;unfold Ygq;split at h
 .rename_i d hd;(try rw[hd]);cases h;exact k
 .cases h
def Z35(h:ME X io p c e (Ygj i)):ME X io p c e (o2 (Zjv i)):=h.weak λδ K q92=>by
 obtain⟨r,δ',h,k⟩:=q92;unfold Zjv at h;unfold Ygj;split at h
 .rename_i d hd;(try rw[hd]);cases h;exact k
 .cases h
def Z6{d:Xa}(h:ME X io p c e (mC d)):ME X io p c e (o2 (fC d)):=h.weak λδ K ⟨r,δ',h,k⟩=>by cases h;exact k
def ByS(g:Xa->Xa->Option Xa)(rp:Xa->Xa->(Xa->Prop)->Prop):Prop:=∀d e r k,g d e=YB r->k r->rp d e k
def ByO(g:Xa->Xa->Option OT)(rp:Xa->Xa->(OT->Prop)->Prop):Prop:=∀d e r k,g d e=YB r->k r->rp d e k
def Z25{g rp}(G:ByS g rp){K:OT->Zg->Prop}(h:o2 (Zd g fa fb) δ K):Zo5 rp (o2 fa) (o2 fb) δ K:=by
 obtain⟨r,δ',h,k⟩:=h;obtain⟨⟨x,δ1⟩,h1,h⟩:=bs h;obtain⟨⟨y,δ2⟩,h2,h⟩:=bs h;obtain⟨d,h3,h⟩:=bs h;cases h;exact⟨x,δ1,h1,y,δ2,h2,G _ _ _ _ h3 k⟩
def Zv{g rp}(G:ByS g rp)(h:ME X io p c e (Zo5 rp (o2 fa) (o2 fb))):ME X io p c e (o2 (Zd g fa fb)):=h.weak λδ K z=>Z25 G z
def Ymk{f:FE}{K:Bool->Zg->Prop}(h:o2 (tV f) δ K):o2 f δ (kB K):=by
 obtain⟨b,δ',h,k⟩:=h;obtain⟨⟨x,δ1⟩,h1,h⟩:=bs h;refine⟨x,δ1,h1,?_⟩;unfold kB
 try dsimp only at h|-
 split at h
 .cases h;exact k
 .cases h
def Zbw{g rp}(G:ByS g rp)(h:MT X io p e (λδ K=>Zo5 rp (o2 fa) (o2 fb) δ (kB K))):MT X io p e (o2 (tV (Zd g fa fb))):=h.weak λδ K z=>Z25 G (Ymk z)
def Zc4{g rp}(G:ByO g rp)(h:ME X io p c e (Ye9 rp (o2 fa) (o2 fb))):ME X io p c e (o2 (W2 g fa fb)):=h.weak λδ K h=>by
 obtain⟨r,δ',h,k⟩:=h;obtain⟨⟨x,δ1⟩,h1,h⟩:=bs h;obtain⟨⟨y,δ2⟩,h2,h⟩:=bs h;obtain⟨d,h3,h⟩:=bs h;cases h;exact⟨x,δ1,h1,y,δ2,h2,G _ _ _ _ h3 k⟩
def Yab:Xa->Option Xa| .int i=>YB (.int (-i))|_=>YC
def Ygv:Xa->Option Xa| .bool b=>YB (.bool (!b))|_=>YC
def Zoc(h:ME X io p c e (Yk7 (o2 fa))):ME X io p c e (o2 (fUn Yab fa)):=h.weak λδ K h=>by
 obtain⟨r,δ',h,k⟩:=h;obtain⟨⟨x,δ1⟩,h1,h⟩:=bs h;obtain⟨d,h3,h⟩:=bs h;cases h;refine⟨x,δ1,h1,?_⟩;dsimp only at h3|-
 cases q:x.data<;>rw[q]at h3<;>cases h3
 exact k
def Zum(h:ME X io p c e (Z9i (o2 fa))):ME X io p c e (o2 (fUn Ygv fa)):=h.weak λδ K h=>by
 obtain⟨r,δ',h,k⟩:=h;obtain⟨⟨x,δ1⟩,h1,h⟩:=bs h;obtain⟨d,h3,h⟩:=bs h;cases h;refine⟨x,δ1,h1,?_⟩;dsimp only at h3|-
 cases q:x.data<;>rw[q]at h3<;>cases h3
 exact k
def Zaw(h:ME X io p c e (Yfl (o2 fa) (o2 fb))):ME X io p c e (o2 (Znr fa fb)):=h.weak λδ K h=>by
 obtain⟨r,δ',h,k⟩:=h;obtain⟨⟨x,δ1⟩,h1,h⟩:=bs h;refine⟨x,δ1,h1,?_⟩
 try dsimp only at h|-
 split at h
 .rename_i q;(try rw[q]);rw[Zqi,YM rfl];exact⟨r,δ',h,k⟩
 .rename_i q;(try rw[q]);cases h;rw[Zqi,YQ XJ];exact k
 .cases h
def Yfd(h:ME X io p c e (Ynh (o2 fa) (o2 fb))):ME X io p c e (o2 (fOr fa fb)):=h.weak λδ K h=>by
 obtain⟨r,δ',h,k⟩:=h;obtain⟨⟨x,δ1⟩,h1,h⟩:=bs h;refine⟨x,δ1,h1,?_⟩
 try dsimp only at h|-
 split at h
 .rename_i q;(try rw[q]);cases h;rw[Zqi,YM rfl];exact k
 .rename_i q;(try rw[q]);rw[Zqi,YQ XJ];exact⟨r,δ',h,k⟩
 .cases h
def Ycy(h:ME X io p c e (mIf (o2 ta) (o2 fa) (o2 fb))):ME X io p c e (o2 (fIf ta fa fb)):=h.weak λδ K h=>by
 obtain⟨r,δ',h,k⟩:=h;obtain⟨⟨x,δ1⟩,h1,h⟩:=bs h;refine⟨x,δ1,h1,?_⟩
 try dsimp only at h|-
 split at h
 .rename_i q;rw[YM q];exact⟨r,δ',h,k⟩
 .rename_i q;rw[YQ q];exact⟨r,δ',h,k⟩
def Zmt(h:MT X io p e (Ylm (o2 ta))):MT X io p e (o2 (tNo ta)):=h.weak λδ K h=>by
 obtain⟨r,δ',h,k⟩:=h;obtain⟨⟨x,δ1⟩,h1,h⟩:=bs h;cases h;exact⟨x,δ1,h1,k⟩
def Zmq(h:MW X io p e (Ym3 (o2 ta) (o2 tb))):MW X io p e (o2 (tAn ta tb)):=h.weak λδ K h=>by
 obtain⟨r,δ',h,k⟩:=h;obtain⟨⟨x,δ1⟩,h1,h⟩:=bs h;refine⟨x,δ1,h1,?_⟩
 try dsimp only at h|-
 split at h
 .rename_i q;rw[YM q];exact⟨r,δ',h,k⟩
 .rename_i q;rw[YQ q];cases h;exact k
def Zfh(h:MW X io p e (mOr (o2 ta) (o2 tb))):MW X io p e (o2 (tO ta tb)):=h.weak λδ K h=>by
 obtain⟨r,δ',h,k⟩:=h;obtain⟨⟨x,δ1⟩,h1,h⟩:=bs h;refine⟨x,δ1,h1,?_⟩
 try dsimp only at h|-
 split at h
 .rename_i q;rw[YM q];cases h;exact k
 .rename_i q;rw[YQ q];exact⟨r,δ',h,k⟩
def Zat(h:MT X io p e (Ym9 (o2 fa))):MT X io p e (o2 (tD fa)):=h.weak λδ K h=>by
 obtain⟨r,δ',h,k⟩:=h;obtain⟨⟨x,δ1⟩,h1,h⟩:=bs h;obtain⟨d,h3,h⟩:=bs h;cases h;refine⟨x,δ1,h1,?_⟩;dsimp only at h3|-
 rw[h3];exact k
def Zeo(h:MA X io p c es Yny):MA X io p c es (o2 Yj):=h.weak λδ K ⟨r,δ',h,k⟩=>by cases h;exact k
def Z4p(h:MA X io p c es (Yaj (o2 fa) (o2 ra))):MA X io p c es (o2 (Ze fa ra)):=h.weak λδ K h=>by
 obtain⟨r,δ',h,k⟩:=h;obtain⟨⟨x,δ1⟩,h1,h⟩:=bs h;obtain⟨⟨y,δ2⟩,h2,h⟩:=bs h;cases h;exact⟨x,δ1,h1,y,δ2,h2,k⟩
def Yc0(h:ME X io p c e (Ynk (o2 ra))):ME X io p c e (o2 (Zjp ra)):=h.weak λδ K h=>by
 obtain⟨r,δ',h,k⟩:=h;obtain⟨⟨x,δ1⟩,h1,h⟩:=bs h;refine⟨x,δ1,h1,?_⟩;dsimp only at h;split at h
 .rename_i q;cases h;exact⟨q,k⟩
 .cases h
def Yeg(h:ME X io p c e (Ynp (o2 ra))):ME X io p c e (o2 (Zgv ra)):=h.weak λδ K h=>by
 obtain⟨r,δ',h,k⟩:=h;obtain⟨⟨x,δ1⟩,h1,h⟩:=bs h;refine⟨x,δ1,h1,?_⟩;dsimp only at h;split at h
 .rename_i q;cases h;exact⟨q,k⟩
 .cases h
def Z4y(h:ME X io p c e (Ye4 (o2 fa))):ME X io p c e (o2 (Zxg fa)):=h.weak λδ K h=>by
 obtain⟨r,δ',h,k⟩:=h;obtain⟨⟨x,δ1⟩,h1,h⟩:=bs h;refine⟨x,δ1,h1,?_⟩;dsimp only at h;split at h
 .rename_i q;cases h;exact⟨q,k⟩
 .cases h
def Zhw(h:ME X io p c e (Z3l (o2 fa))):ME X io p c e (o2 (Zgz fa)):=h.weak λδ K h=>by
 obtain⟨r,δ',h,k⟩:=h;obtain⟨⟨x,δ1⟩,h1,h⟩:=bs h;refine⟨x,δ1,h1,?_⟩;dsimp only at h;split at h
 .rename_i q;cases h;exact⟨q,k⟩
 .cases h
def Ze6{F:FD}(h:ME X io p c e (Z6i (sD F) (o2 ra))):ME X io p c e (o2 (Z7 F ra)):=h.weak λδ K h=>by
 obtain⟨r,δ',h,k⟩:=h;obtain⟨⟨x,δ1⟩,h1,h⟩:=bs h;refine⟨x,δ1,h1,?_⟩;dsimp only at h;split at h
 .rename_i q;cases h;exact⟨_,q,k⟩
 .cases h
def Jh{g rp}(G:∀ds r k,g ds=YB r->k r->rp ds k)(h:ME X io p c e (Yg1 rp (o2 ra))):ME X io p c e (o2 (Zdm g ra)):=h.weak λδ K h=>by
 obtain⟨r,δ',h,k⟩:=h;obtain⟨⟨x,δ1⟩,h1,h⟩:=bs h;obtain⟨d,h3,h⟩:=bs h;cases h;exact⟨x,δ1,h1,G _ _ _ h3 k⟩
def Zt2{g rp}(G:∀ds r k,g ds=YB r->k r->rp ds k)(h:ME X io p c e (mBl rp (o2 ra))):ME X io p c e (o2 (fBl g ra)):=h.weak λδ K h=>by
 obtain⟨r,δ',h,k⟩:=h;obtain⟨⟨x,δ1⟩,h1,h⟩:=bs h;obtain⟨d,h3,h⟩:=bs h;cases h;exact⟨x,δ1,h1,G _ _ _ h3 k⟩
def Zas{T:String}(h:ME X io p c e (Yn2 T (o2 fa))):ME X io p c e (o2 (Zjy T fa)):=h.weak λδ K h=>by
 obtain⟨r,δ',h,k⟩:=h;obtain⟨⟨x,δ1⟩,h1,h⟩:=bs h
 by_cases hf:Zhm x.data=YD
 .have h':(if Zhm x.data=YD then YC else YB (OT.fz (.bool (Zhf T x.data)),δ1))=YB (r,δ'):=h
  rw[YM hf]at h';cases h'
 .have h':(if Zhm x.data=YD then YC else YB (OT.fz (.bool (Zhf T x.data)),δ1))=YB (r,δ'):=h
  rw[YQ hf]at h';injection h' with h';injection h' with e1 e2;subst e1 e2;exact⟨x,_,h1,Bool.eq_false_iff.mpr hf,k⟩
def Jz(h:MO X io p eo Zw5):MO X io p eo (o2 oN):=h.weak λδ K ⟨r,δ',h,k⟩=>by cases h;exact k
def Ji(h:MO X io p eo (Yad (o2 fa))):MO X io p eo (o2 (oI fa)):=h.weak λδ K h=>by
 obtain⟨r,δ',h,k⟩:=h;obtain⟨⟨x,δ1⟩,h1,h⟩:=bs h;refine⟨x,δ1,h1,?_⟩
 try dsimp only at h|-
 split at h
 .rename_i q;(try rw[q]);cases h;exact k
 .cases h
def Zn9{lo hi:FO}(h:ME X io p c e (mSl (o2 fa) (o2 lo) (o2 hi))):ME X io p c e (o2 (fSl fa lo hi)):=h.weak λδ K h=>by
 obtain⟨r,δ',h,k⟩:=h;obtain⟨⟨x,δ1⟩,h1,h⟩:=bs h;obtain⟨⟨y,δ2⟩,h2,h⟩:=bs h;obtain⟨⟨z,δ3⟩,h3,h⟩:=bs h;refine⟨x,δ1,h1,y,δ2,h2,z,δ3,h3,?_⟩
 try dsimp only at h|-
 split at h
 .rename_i q;(try rw[q]);cases h;exact k
 .cases h
def Ztp{f:Int->Int->Bool}{K:OT->Zg->Prop}(h:o2 (Zft f g fa fb fc) δ K):Zky f g (o2 fa) (o2 fb) (o2 fc) δ K:=by
 obtain⟨r,δ',h,k⟩:=h;obtain⟨⟨x,δ1⟩,h1,h⟩:=bs h;obtain⟨⟨y,δ2⟩,h2,h⟩:=bs h;refine⟨x,δ1,h1,y,δ2,h2,?_⟩
 try dsimp only at h|-
 split at h
 case h_2=>cases h
 rename_i i j q1 q2
 (try rw[q1,q2])
 show(if f i j=YD then _ else _);split at h
 .rename_i hf
  rw[YM hf];obtain⟨⟨z,δ3⟩,h3,h⟩:=bs h;refine⟨z,δ3,h3,?_⟩
  try dsimp only at h|-
  split at h
  .rename_i q;(try rw[q]);cases h;exact k
  .cases h
 .rename_i hf
  rw[YQ hf];cases h;exact k
def Zz4{f:Int->Int->Bool}(h:ME X io p c e (Zky f g (o2 fa) (o2 fb) (o2 fc))):ME X io p c e (o2 (Zft f g fa fb fc)):=h.weak λδ K z=>Ztp z
def Z11{f:Int->Int->Bool}(h:MT X io p e (λδ K=>Zky f g (o2 fa) (o2 fb) (o2 fc) δ (kB K))):MT X io p e (o2 (tV (Zft f g fa fb fc))):=h.weak λδ K z=>Ztp (Ymk z)
def Z5h(h:MI X io p c tg e (iL (o2 fa))):MI X io p c tg e (o2 (Zg8 fa)):=h.weak λδ K h=>by
 obtain⟨r,δ',h,k⟩:=h;obtain⟨⟨x,δ1⟩,h1,h⟩:=bs h;refine⟨x,δ1,h1,?_⟩
 try dsimp only at h|-
 split at h
 .rename_i q;(try rw[q]);cases h;exact k
 .cases h
def Ye2(h:MI X io p c tg e (iR1 (o2 ra))):MI X io p c tg e (o2 (iRa ra)):=h.weak λδ K h=>by
 obtain⟨r,δ',h,k⟩:=h;obtain⟨⟨x,δ1⟩,h1,h⟩:=bs h;refine⟨x,δ1,h1,?_⟩
 try dsimp only at h|-
 split at h
 case h_2=>cases h
 rename_i q
 (try rw[q])
 try dsimp only
 split at h
 .rename_i b;cases h;exact⟨Z7d b,k⟩
 .cases h
def Zo0(h:MG X io c tg (dName i)):MG X io c tg (oG (gNm i)):=h.weak λd δ K ⟨δ',h,k⟩=>by cases h;exact k
def Zw4(h:MGs X io c es Ymz):MGs X io c es (oGs gNl):=h.weak λd δ K q94=>by
 obtain⟨δ',h,k⟩:=q94;unfold gNl at h;split at h
 .cases h;exact⟨rfl,k⟩
 .cases h
def Zhu{g:FG}{gs:FGs}(h:MGs X io c es (Yci (oG g) (oGs gs))):MGs X io c es (oGs (gCn g gs)):=h.weak λd δ K q95=>by
 obtain⟨δ',h,k⟩:=q95;unfold gCn at h;split at h
 .obtain⟨δ1,h1,h⟩:=bs h
  exact⟨δ1,h1,δ',h,k⟩
 .cases h
def Z2l{n:Nat}{gs:FGs}(h:MG X io c tg (dTup n (oGs gs))):MG X io c tg (oG (gTp n gs)):=h.weak λd δ K q96=>by
 obtain⟨δ',h,k⟩:=q96;unfold gTp at h;split at h
 case h_2=>cases h
 split at h
 .rename_i q;exact⟨q,δ',h,k⟩
 .cases h
def Zbx(h:MIfs X io p es Ycb):MIfs X io p es (o2 Zj6):=h.weak λδ K ⟨r,δ',h,k⟩=>by cases h;exact k
def Z7q{g:FG}{t:FT}{me:FE}{δ0:Zg}{zs:List OT}{δe:Zg}(h:compLoop g t me ds δ0=YB (zs,δe)) :
  ∃I:Nat->List OT->Zg->Prop,I 0 [] δ0/\
 (∀ (i:Nat) (d:Xa) (rs:List OT) (δ':Zg),ds[i]? =YB d->I i rs δ'->oG g d δ' λδ2=>o2 t δ2 λb δ3=>if b=YD then o2 me δ3 λr δ4=>I (i+1) (rs++[r]) δ4 else I (i+1) rs δ3)/\
 ∀rs δ',I ds.length rs δ'->rs=zs/\δ'=δe:=by
 refine⟨λi rs δ'=>∃ys,rs++ys=zs/\compLoop g t me (ds.drop i) δ'=YB (ys,δe),⟨zs,rfl,by rw[List.drop_zero];exact h⟩,?_,?_⟩
 .rintro i d rs δ' hd ⟨ys,e,hl⟩
  obtain⟨hi,hdi⟩:=Xk.mp hd;rw[List.drop_eq_getElem_cons hi,hdi]at hl;unfold compLoop at hl;obtain⟨δ1,h1,hl⟩:=bs hl;obtain⟨⟨b,δ2⟩,h2,hl⟩:=bs hl;refine⟨δ1,h1,b,δ2,h2,?_⟩;dsimp only at hl;split at hl
  .rename_i hb
   rw[YM hb];obtain⟨⟨r,δ3⟩,h3,hl⟩:=bs hl;obtain⟨⟨ws,δ4⟩,h4,hl⟩:=bs hl;cases hl;exact⟨r,δ3,h3,ws,by rw[Vg];exact e,h4⟩
  .rename_i hb
   rw[YQ hb];exact⟨ys,e,hl⟩
 .rintro rs δ' ⟨ys,e,hl⟩
  rw[List.drop_length]at hl;unfold compLoop at hl;cases hl;exact⟨by rw[<-e,JG],rfl⟩
def Zvs{n:Nat}{it:FI}{g:FG}{t:FT}{me:FE}{K:OT->Zg->Prop}(h:o2 (Jq n caps it g t me) δ K):Zjb n caps (o2 it) (oG g) (o2 t) (o2 me) δ K:=by
 obtain⟨r,δ',h,k⟩:=h;obtain⟨⟨ds,δ1⟩,h1,h⟩:=bs h;refine⟨ds,δ1,h1,?_⟩;dsimp only at h;split at h
 case isFalse=>cases h
 rename_i hz;obtain⟨⟨zs,δe⟩,h2,h⟩:=bs h;cases h;obtain⟨I,i0,st,en⟩:=Z7q h2;refine⟨hz,I,i0,st,λrs δ'' q=>?_⟩;obtain⟨rfl,rfl⟩:=en rs δ'' q;exact k
def Zfa{n:Nat}{it:FI}{g:FG}{t:FT}{me:FE}(h:ME X io p c e (Zjb n caps (o2 it) (oG g) (o2 t) (o2 me))):ME X io p c e (o2 (Jq n caps it g t me)):=h.weak λδ K z=>Zvs z
end
section
variable {X:Cx}{io:List Nat}{p c:Bool}{e tg iter:YJ}{es:List YJ}{st:YK}{sts:List YK}{fa fb fc:FE}{ra:FA}{ta tb:FT}{i:Nat}{f g u w:FS}
def Zg9(h:MSs X io sts (Yhh (oS f) (oS g))):MSs X io sts (oS (Z3 f g)):=h.weak λD δ h=>by
 unfold oS Z3 at h;unfold Yhh oS;cases q:f δ<;>rw[q]at h<;>exact h
def Zcb(h:MSs X io sts Ydn):MSs X io sts (oS fNx):=h.weak λD δ h=>h
def Zsp{k:OT->Zg->RS}{D:Zin}(h:oS (wE fa k) D δ):o2 fa δ λr δ'=>(k r δ').fits D:=by
 unfold oS wE at h;split at h
 .rename_i q;exact⟨_,_,q,h⟩
 .exact h.elim
theorem o2.imp{f:Zg->Option (Y×Zg)}{K K':Y->Zg->Prop}(h:o2 f δ K)(k:∀r δ',K r δ'->K' r δ'):o2 f δ K':=let⟨r,δ',e,q⟩:=h;⟨r,δ',e,k r δ' q⟩
def Zhy{P:Prop}[Decidable P]{a:RS}{D:Zin}(h:(if P then a else .bad:RS).fits D):P/\a.fits D:=by
 split at h
 .exact⟨‹_›,h⟩
 .exact h.elim
def Z7g(h:MS X io st (Ybg (o2 fa))):MS X io st (oS (wE fa Zwe)):=h.weak λD δ h=>Zsp h
def Zfw(h:MS X io st (Ynf (o2 fa))):MS X io st (oS (wE fa W7)):=h.weak λD δ h=>Zsp h
def Zp4(h:MS X io st (Z1p i)):MS X io st (oS (Zhe i)):=h.weak λD δ h=>by
 unfold oS Zhe at h;unfold Z1p;split at h
 .rename_i q;(try rw[q]);exact h
 .exact h.elim
def Zml(h:MS X io st (Yn7 (o2 ta) (oS u) (oS w))):MS X io st (oS (Y4 ta u w)):=h.weak λD δ h=>by
 unfold oS Y4 at h;split at h
 .rename_i b δ' q
  refine⟨b,δ',q,?_⟩;split at h
  .rename_i hb;rw[YM hb];exact h
  .rename_i hb;rw[YQ hb];exact h
 .exact h.elim
def Ydz(h:MS X io st (Z82 i (o2 fa))):MS X io st (oS (wE fa (Ju i))):=h.weak λD δ h=>Zsp h
def Zwa(h:MS X io st (Z6k i (o2 fa))):MS X io st (oS (wE fa (Zux i))):=h.weak λD δ h=>(Zsp h).imp λr δ' q=>Zhy q
def Zpc(h:MS X io st (Zsm i (o2 fa))):MS X io st (oS (wE fa (Zbf i))):=h.weak λD δ h=>Zsp h
section
variable {n:Nat}{o q:Nat}{it:FI}{gg:FG}{t:FT}{me:FE}
def Zma(h:MS X io st (if YD=YD then Zsm i (Zjb n caps (o2 it) (oG gg) (o2 t) (o2 me))else Z82 i (Zjb n caps (o2 it) (oG gg) (o2 t) (o2 me)))):MS X io st (oS (wE (Jq n caps it gg t me) (Zbf i))) :=
 h.weak λD δ h=>by rw[YM rfl];exact Zvs (Zsp h)
def Zud(h:MS X io st (if YF=YD then Zsm i (Zjb n caps (o2 it) (oG gg) (o2 t) (o2 me))else Z82 i (Zjb n caps (o2 it) (oG gg) (o2 t) (o2 me)))):MS X io st (oS (wE (Jq n caps it gg t me) (Ju i))) :=
 h.weak λD δ h=>by rw[YQ XJ];exact Zvs (Zsp h)
end
def Yev{gg:FG}(h:MS X io st (Yni (o2 fa) (oG gg))):MS X io st (oS (wE fa (Yfo gg))):=h.weak λD δ h=>(Zsp h).imp λr δ' q=>by
 unfold Yfo at q;split at q
 .rename_i z;exact⟨_,z,q⟩
 .exact q.elim
def Zij(h:MS X io st (Zk1 i (o2 fa))):MS X io st (oS (Jp i fa)):=h.weak λD δ h=>by
 unfold oS Jp at h;unfold Zk1;split at h
 case h_2=>exact h.elim
 rename_i q;(try rw[q]);refine(Zsp h).imp λr δ' z=>?_;split at z
 .rename_i q2;(try rw[q2]);exact Zhy z
 .exact z.elim
def Zrg(h:MS X io st (Yld i (o2 fa) (o2 fb))):MS X io st (oS (Zy3 i fa fb)):=h.weak λD δ h=>by
 refine(Zsp h).imp λr δ' z=>?_;split at z
 case h_2=>exact z.elim
 rename_i q;(try rw[q]);refine(Zsp z).imp λn δ2 z=>?_;split at z
 case h_2=>exact z.elim
 rename_i k q2;(try rw[q2]);show match ixN _ k with|some j=>_|none=>_
 split at z
 .rename_i q3;(try rw[q3]);exact z
 .exact z.elim
def Zu5(h:MS X io st (Zl1 i (oS u))):MS X io st (oS (Zgt i u)):=h.weak λD δ h=>by
 unfold oS Zgt at h;unfold Zl1;split at h
 .rename_i q;(try rw[q]);exact h
 .exact h.elim
def Zav{gg:FG}{d:Xa}:forLoop gg u (d::ds) δ=match gg d δ with
  | none=>.bad
  | some δ1=>match u δ1 with
   | .nx δ2=>forLoop gg u ds δ2
   | .ct δ2=>forLoop gg u ds δ2
   | .bk δ2=>.nx δ2
   | r=>r:=rfl
def Z2f{it:FI}{gg:FG}(h:MS X io st (Ynx (o2 it) (oG gg) (oS u))):MS X io st (oS (Zf7 it gg u)):=h.weak λD δ h=>by
 unfold oS Zf7 at h;split at h
 case h_2=>exact h.elim
 rename_i ds δ1 q;refine⟨ds,δ1,q,λi δ'=>(forLoop gg u (ds.drop i) δ').fits D,by show RS.fits D (forLoop gg u (ds.drop 0) δ1);rw[List.drop_zero];exact h,λi d δ' hd z=>?_,λδ' z=>?_⟩
 .obtain⟨hi,hdi⟩:=Xk.mp hd
  replace z:RS.fits D (forLoop gg u (ds.drop i) δ'):=z;rw[List.drop_eq_getElem_cons hi,hdi,Zav]at z;split at z
  case h_1=>exact z.elim
  rename_i δ2 q2;refine⟨δ2,q2,?_⟩;unfold oS;cases q3:u δ2<;>rw[q3]at z<;>(try rw[q3])<;>exact z
 .replace z:RS.fits D (forLoop gg u (ds.drop ds.length) δ'):=z
  rw[List.drop_length]at z;exact z
def Zrh(h:MS X io st (Z3x (o2 ta) (oS u))):MS X io st (oS (Zkl ta u)):=h.weak λD δ h=>by
 unfold oS Zkl at h;split at h
 case isFalse=>exact h.elim
 rename_i hn;refine⟨λn δ'=>(whileLoop ta u n δ').fits D,⟨_,h⟩,λn δ' z=>?_⟩;cases n with
 | zero=>exact z.elim
 | succ n=>
  unfold whileLoop at z;split at z
  case h_1=>exact z.elim
  rename_i b δ1 q;refine⟨b,δ1,q,?_⟩;split at z
  .rename_i hb
   rw[YM hb];refine⟨λδ''=>(whileLoop ta u n δ'').fits D,λδ'' y=>⟨n,Qx n,y⟩,?_⟩;unfold oS;cases q3:u δ1<;>rw[q3]at z<;>exact z
  .rename_i hb
   rw[YQ hb];exact z
def Zem{n m:Nat}:∀{δ:Zg},whileLoop ta u n δ≠ .bad->whileLoop ta u (n+m) δ=whileLoop ta u n δ:=by
 induction n with
 | zero=>intro δ h;exact YZ rfl h
 | succ n ih=>
  intro δ h;rw[Nat.succ_add];unfold whileLoop at h|-
  cases q:ta δ with
  | none=>rfl
  | some x=>
   obtain⟨b,δ1⟩:=x;rw[q]at h
   try dsimp only at h|-
   split
   .rename_i hb
    rw[YM hb]at h;cases q3:u δ1<;>rw[q3]at h<;>first|exact ih h|rfl
   .rfl
def Zm5{r:RS}(n:Nat)(h:whileLoop ta u n δ=r)(hr:r≠ .bad):Zkl ta u δ=r:=by
 have hn:∃n,whileLoop ta u n δ≠ .bad:=⟨n,by rw[h];exact hr⟩;unfold Zkl;rw[dif_pos hn];have h1:=Classical.choose_spec hn;have e1:=Zem (m:=n) h1;have e2:=Zem (m:=Classical.choose hn) (show whileLoop ta u n δ≠ .bad by rw[h];exact hr);rw[Nat.add_comm]at e2;rw[<-e1,e2,h]
def Zqy{cn:Str}:MS X io st (oS (Zks cn)):=Z0k.weak λD δ h=>h
def Yi8{F:FD}{k:OT->Zg->RS}(h:MS X io st (oS (wE (Z7 F ra) k))):MS X io st (oS (wX F ra k)):=h.weak λD δ h=>by
 unfold oS wX at h;unfold oS wE Z7;split at h
 case h_2=>exact h.elim
 rename_i rs δ1 q
 (try rw[q])
 dsimp only[Option.bind];split at h
 .rename_i q2;(try rw[q2]);exact h
 .exact h.elim
 .exact h.elim
def Yby{xs:List Str}{D:Str}{Dc:YG}{h0:FS}(hk:∀cn∈xs,Zsd cn D=YD->∃C,ClsAt X.K cn C/\Zdr X.K C/\VN X.K (.ref C) (.ref Dc)=YB YD)(h:MS X io st (Yih X.K Dc i (oS u) (xS X.K u) (oS h0))):MS X io st (oS (Z5f xs u D i h0)):=h.weak λDD δ h=>by
 unfold oS Z5f at h;split at h
 .rename_i cn δ' q
  refine .inr ?_;obtain⟨hc,h⟩:=Zhy h;rw[XR]at hc;obtain⟨C,k1,k2,k3⟩:=hk cn (by simpa using hc.1) hc.2;refine⟨cn,C,δ',q,k1,cn,k1,⟨k2,k3⟩,?_⟩;unfold oS;split at h
  .rename_i q2;(try rw[q2]);exact h
  .exact h.elim
 .exact .inl h
def XS.weak{m m':MXt}(h:XS X io st m)(w:∀δ k,m' δ k->m δ k):XS X io st m':=λC pins s O H δ fp ex k I R hm=>h C pins s O H δ fp ex k I R (w δ k hm)
def XSs.weak{m m':MXt}(h:XSs X io sts m)(w:∀δ k,m' δ k->m δ k):XSs X io sts m':=λC pins s O H δ fp ex k I R hm=>h C pins s O H δ fp ex k I R (w δ k hm)
def XE.weak{m m':MXt}(h:XE X io e m)(w:∀δ k,m' δ k->m δ k):XE X io e m':=λC pins s O H δ fp ex k I R hm=>h C pins s O H δ fp ex k I R (w δ k hm)
class NoEx (f:FS):Prop where
 no:∀δ cn δ',f δ≠ .ex cn δ'
class NoExK (k:OT->Zg->RS):Prop where
 no:∀r δ cn δ',k r δ≠ .ex cn δ'
def Yh8(f:FS)[NoEx f]:XS X io st (xS X.K f):=Zzx.weak λδ k ⟨cn,_,δ',h,_⟩=>(NoEx.no δ cn δ' h).elim
def Ycu(f:FS)[NoEx f]:XSs X io sts (xS X.K f):=Zt6.weak λδ k ⟨cn,_,δ',h,_⟩=>(NoEx.no δ cn δ' h).elim
instance nx_kDrop_k:NoExK Zwe:=⟨λ_ _ _ _ h=>by cases h⟩
instance nx_kSet_k:NoExK (Ju i):=⟨λ_ _ _ _ h=>by cases h⟩
instance nx_kSetO_k:NoExK (Zbf i):=⟨λ_ _ _ _ h=>by cases h⟩
instance nx_wE{k:OT->Zg->RS}[NoExK k]:NoEx (wE fa k):=⟨λδ cn δ' h=>by
 unfold wE at h;split at h
 .exact NoExK.no _ _ _ _ h
 .cases h⟩
instance nx_fNx:NoEx fNx:=⟨λ_ _ _ h=>by cases h⟩
instance nx_fRetO:NoEx (Zhe i):=⟨λ_ _ _ h=>by unfold Zhe at h;split at h<;>cases h⟩
def Zqo{cn:Str}(hc:ClsAt X.K cn C)(h:XS X io st (Zxh C)):XS X io st (xS X.K (Zks cn)):=h.weak λδ k z=>by
 obtain⟨c',C',δ',h,k1,k2⟩:=z;cases h;have:=k1.symm.trans hc;injection this with this;injection this with this;injection this with this;subst this;exact k2
def Zu1{F:FD}{k:OT->Zg->RS}[NoExK k](h:XE X io e (Zvy (sX X.K F) (o2 ra))):XE X io e (xS X.K (wX F ra k)):=h.weak λδ kk z=>by
 obtain⟨c',C',δ',h,k1,k2⟩:=z;unfold wX at h;split at h
 case h_2=>cases h
 rename_i rs δ1 q;refine⟨rs,δ1,q,?_⟩;split at h
 .exact(NoExK.no _ _ _ _ h).elim
 .rename_i q2
  cases h;exact⟨C',⟨_,q2,k1⟩,k2⟩
 .cases h
def Ydl(h1:XS X io st (xS X.K f))(m1:MS X io st (oS f))(h2:XSs X io sts (xS X.K g))(hx:X.xe= λ_ _=>False:=by rfl):XSs X io (st::sts) (xS X.K (Z3 f g)):=by
 intro C pins s O H δ fp ex k I R hm;obtain⟨cn,C',δ',h,k1,k2⟩:=hm;unfold Z3 at h;split at h
 .rename_i δ1 q
  exact Zzy m1 h2 hx C pins s O H δ fp ex k I R (by
   show(f δ).fits _
   (try rw[q])
   exact⟨cn,C',δ',h,k1,k2⟩)
 .exact Zrz h1 C pins s O H δ fp ex k I R ⟨cn,C',δ',h,k1,k2⟩
def Z55(h1:XS X io st (xS X.K f)):XSs X io [st] (xS X.K f):=Zrz h1
def Ykk{a b:List YK}(h:XS X io (.If e a b pos) (Ym1 (o2 ta) (xS X.K u) (xS X.K w))):XS X io (.If e a b pos) (xS X.K (Y4 ta u w)):=h.weak λδ k z=>by
 obtain⟨cn,C',δ',h,k1,k2⟩:=z;unfold Y4 at h;split at h
 case h_2=>cases h
 rename_i b δ1 q;refine⟨b,δ1,q,?_⟩;split at h
 .rename_i hb;rw[YM hb];exact⟨cn,C',δ',h,k1,k2⟩
 .rename_i hb;rw[YQ hb];exact⟨cn,C',δ',h,k1,k2⟩
end
section
variable {P:XH}{w:Ql}{K:Xc}{mg:Str->Option Xd}{base:YH}{x qual:Str}{st:YK}{f:YG}{fd:X5}{N ps:List Str}{n np nn:Nat}{S:FS}
def RS.told_fits{r:RS}{o:OT}{k:OT->Prop}(h:r.told= .ok o)(hk:k o):r.fits (Z7r k):=by
 cases r<;>unfold RS.told at h<;>first|(cases h;exact hk)|cases h
def Yx(F:Fun K x qual st f fd)(Sc:Z1 N ps (Zm st))(hN:N.length=nn)(hp:np=ps.length)
  (hb:∀(cdv:Xd) (A:Qj) (outer:List Env) (s:Xg) (H:Hp) (E:XK),Room n (A.deeper (envOfC qual (Zm st) s.heap.objs.size f cdv))->MSs (Zty CX0 P w K mg base N qual (Zm st) f cdv A outer s H E).nox [] (Za3 st) (oS S)) :
  FnOk P w K mg base CX0 (n+1) f fd ps (spD K (sD (J2 np nn S))):=by
 subst hN hp;refine F.okD Sc (λds k h=>?_) λcdv A outer s H E hr=>⟨_,hb cdv A outer s H E hr,λds k h=>?_⟩
 .obtain⟨r,h,_⟩:=h
  unfold J2 at h;split at h
  .assumption
  .cases h
 .obtain⟨r,h,hk⟩:=h
  unfold J2 at h;split at h
  .exact RS.told_fits h hk
  .cases h
def Ycw(F:Fun K x qual st f fd)(Sc:Z1 N ps (Zm st))(hN:N.length=nn)(hp:np=ps.length)
  (hb:∀(cdv:Xd) (A:Qj) (outer:List Env) (s:Xg) (H:Hp) (E:XK),Room n (A.deeper (envOfC qual (Zm st) s.heap.objs.size f cdv))->XSs (Zty (CX1 P w) P w K mg base N qual (Zm st) f cdv A outer s H E).nox [] (Za3 st) (xS K S)) :
  FnOk P w K mg base (CX1 P w) (n+1) f fd ps (spX K (sX K (J2 np nn S))):=by
 subst hN hp;refine F.okX Sc (λds cl h=>?_) λcdv A outer s H E hr=>⟨_,hb cdv A outer s H E hr,λds cl h=>?_⟩
 .obtain⟨r,h,_⟩:=h
  unfold J2 at h;split at h
  .assumption
  .cases h
 .obtain⟨c,h,hc⟩:=h
  unfold J2 at h;split at h
  case isFalse=>cases h
  have e:Yo N.length ds=Zkz N ds:=rfl;rw[e]at h;cases q:S (Zkz N ds)<;>rw[q]at h<;>unfold RS.told at h<;>cases h
  exact⟨_,cl,_,q,hc,rfl⟩
end
def i2(g:Int->Int->Xa):Xa->Xa->Option Xa:=λd e=>match d,e with| .int i,.int j=>YB (g i j)|_,_=>YC
def i2c(c:Int->Int->Bool)(g:Int->Int->Xa):Xa->Xa->Option Xa:=λd e=>match d,e with| .int i,.int j=>if c i j=YD then YB (g i j)else YC|_,_=>YC
def Zyp{g:Int->Int->Xa}:ByS (i2 g) (Z0m g):=λd e r k h hk=>by
 unfold i2 at h;split at h
 .cases h;exact hk
 .cases h
def Zrp{c:Int->Int->Bool}{C:Int->Int->Prop}{g:Int->Int->Xa}(hc:∀i j,c i j=YD->C i j):ByS (i2c c g) (d2I C g):=λd e r k h hk=>by
 unfold i2c at h;split at h
 .split at h
  .cases h;exact⟨hc _ _ ‹_›,hk⟩
  .cases h
 .cases h
def Z8u(a b:Int):Bool:=!(decide (U8 a>shortFactorBits)&&decide (U8 b>shortFactorBits)&&BR.Int.intTooBig (U8 a+U8 b))
def Yfn(_ j:Int):Bool:=decide (j≠0)&&decide (j.natAbs.log2<9000)
def Ym4(_ j:Int):Bool:=decide (j≠0)
def Yjt(i j:Int):Bool:=decide (0<=j/\j<=1000000/\i.natAbs<2^64)
def Zlc{a b:Int}:Z8u a b=YD↔IntMulOk a b:=by
 unfold Z8u IntMulOk;rw[Bool.not_eq_true',Bool.not_eq_true]
def Zgy:=i2 λi j=>.int (i+j)
def gSb:=i2 λi j=>.int (i-j)
def Zmh:=i2c Z8u λi j=>.int (i*j)
def J4:=i2c Yfn λi j=>.int (i.fdiv j)
def Zbd:=i2c Ym4 λi j=>.int (i.fmod j)
def Zmf:=i2c Yjt λi j=>.int (i^j.toNat)
def gLt:=i2 λi j=>.bool (decide (i<j))
def gLe:=i2 λi j=>.bool (decide (i<=j))
def gGt:=i2 λi j=>.bool (decide (j<i))
def gGe:=i2 λi j=>.bool (decide (j<=i))
def Yh0:ByS Zgy (Z0m λi j=>.int (i+j)):=Zyp
def Ykp:ByS gSb (Z0m λi j=>.int (i-j)):=Zyp
def Yhf:ByS Zmh (d2I MulOk λi j=>.int (i*j)):=Zrp λi j h=>⟨Zlc.mp h⟩
def Ydm:ByS J4 (d2I Yn0 λi j=>.int (i.fdiv j)):=Zrp λi j h=>⟨by
 unfold Yfn at h;rw[XR]at h;exact⟨YX h.1,YX h.2⟩⟩
def Yis:ByS Zbd (d2I (λ_ j=>j≠0) λi j=>.int (i.fmod j)):=Zrp λi j h=>YX h
def Yhk:ByS Zmf (d2I Yof λi j=>.int (i^j.toNat)):=Zrp λi j h=>⟨(YX h:0<=j/\j<=1000000/\i.natAbs<2^64)⟩
def Yi5:ByS gLt (Z0m λi j=>.bool (decide (i<j))):=Zyp
def Ynq:ByS gGt (Z0m λi j=>.bool (decide (j<i))):=Zyp
def Yia:ByS gGe (Z0m λi j=>.bool (decide (j<=i))):=Zyp
def gEq:Xa->Xa->Option Xa:=λd e=>if(Va d&&Va e)=YD then YB (.bool (JT d e))else YC
def gNe:Xa->Xa->Option Xa:=λd e=>if(Va d&&Va e)=YD then YB (.bool (!JT d e))else YC
def Z6s:ByS gEq dEq:=λd e r k h hk=>by
 unfold gEq at h;split at h
 .rename_i q
  rw[XR]at q;cases h;exact⟨⟨q.1⟩,⟨q.2⟩,hk⟩
 .cases h
def Z9v:ByS gNe dNe:=λd e r k h hk=>by
 unfold gNe at h;split at h
 .rename_i q
  rw[XR]at q;cases h;exact⟨⟨q.1⟩,⟨q.2⟩,hk⟩
 .cases h
def gIs:Xa->Xa->Option Xa:=λd e=>match e with| .none=>YB (.bool (Zc2 d))|_=>YC
def Ycq:Xa->Xa->Option Xa:=λd e=>match e with| .none=>YB (.bool (!Zc2 d))|_=>YC
def Z8x:ByS gIs Yku:=λd e r k h hk=>by
 unfold gIs at h;split at h
 .cases h;exact⟨rfl,hk⟩
 .cases h
def gIx:Xa->Xa->Option OT:=λd e=>(ixD d e).bind λx=>YB (.fz x)
def Ypi:ByO gIx dIx:=λd e r k h hk=>by
 obtain⟨x,h1,h2⟩:=bs h;cases h2;unfold dIx;rw[h1];exact hk
def Zp1:Xa->Xa->Option OT:=λd e=>match d,e with| .list ds,.list es=>if ds.length+es.length<=Xp then YB (.nd ((ds++es).map OT.fz))else YC|_,_=>YC
def Zpj:ByO Zp1 dCat:=λd e r k h hk=>by
 unfold Zp1 at h;split at h
 .split at h
  .cases h;exact⟨‹_›,hk⟩
  .cases h
 .cases h
def Zl7:List Xa->Option Xa:=λds=>match ds with|[d]=>(Zz0 d).bind λn=>YB (.int n)|_=>YC
def Z6j:∀ds r k,Zl7 ds=YB r->k r->Yk5 ds k:=λds r k h hk=>by
 unfold Zl7 at h;split at h
 .obtain⟨n,h1,h2⟩:=bs h
  cases h2;show match Zz0 _ with|some n=>_|none=>_
  rw[h1];exact hk
 .cases h
def Z8t:List Xa->Option Xa:=λds=>match ds with|[.int i]=>YB (.int (if i<0 then -i else i))|_=>YC
def Z79:∀ds r k,Z8t ds=YB r->k r->Ylq ds k:=λds r k h hk=>by
 unfold Z8t at h;split at h
 .cases h;exact hk
 .cases h
def Yox:List Xa->Option Xa:=λds=>match ds with|[.int i,.int j]=>YB (.int (if j>i then j else i))|_=>YC
def Ypk:List Xa->Option Xa:=λds=>match ds with|[.int i,.int j]=>YB (.int (if j<i then j else i))|_=>YC
def Ymy:List Xa->Option Xa:=λds=>match ds with|[.int i]=>YB (.int i)|[.bool b]=>YB (.int (if b then 1 else 0))|_=>YC
def Zxy:List Xa->Option OT:=λds=>match ds with|[d]=>(Zh0 d).bind λes=>YB (.nd (es.map OT.fz))|_=>YC
def Yet:∀ds r k,Zxy ds=YB r->k r->Yfb ds k:=λds r k h hk=>by
 unfold Zxy at h;split at h
 .obtain⟨n,h1,h2⟩:=bs h
  cases h2;show match Zh0 _ with|some n=>_|none=>_
  rw[h1];exact hk
 .cases h
def Zdd:List Xa->Option (!14)
 | []=>YB []
 | .int i::r=>(Zdd r).bind λl=>YB (i::l)
 | _::_=>YC
theorem Zaq:∀{ds:List Xa} {ns:List Int},Zdd ds=YB ns->ds=ns.map Xo
 | [],_,h=>by cases h;rfl
 | .int i::r,_,h=>by
  obtain⟨l,h1,h2⟩:=bs h;cases h2;rw[Zaq h1];rfl
 | .none::_,_,h=>by cases h
 | .bool _::_,_,h=>by cases h
 | .str _::_,_,h=>by cases h
 | .list _::_,_,h=>by cases h
 | .tuple _::_,_,h=>by cases h
 | .dict _::_,_,h=>by cases h
@[simp] theorem Zaf:∀ns:List Int,Zdd (ns.map Xo)=YB ns
 | []=>rfl
 | n::ns=>by rw[XC,Zdd,Zaf ns];rfl
section
variable {X:Cx}{io:List Nat}{p c:Bool}{e tg:YJ}{es:List YJ}{st:YK}{fa fb fc:FE}{ra:FA}{i:Nat}
def Ymj(a:FA):FE:=λδ=>(a δ).bind λp=>match OT.datas p.1 with|[.int j]=>if rOk j=YD/\j.toNat<=Xp then YB (.nd ((Zro 0 j.toNat).map OT.fz),p.2)else YC|_=>YC
def Ymm(a b:FE):FE:=λδ=>(a δ).bind λp=>(b p.2).bind λq=>match q.1.data with| .int k=>if rOk k=YD/\k.toNat<=Xp then YB (.nd (By k.toNat (.fz p.1.data)),p.2)else YC|_=>YC
def Zko:Xa->Option Str| .dict [(.str x,.none)]=>YB x|_=>YC
def Znt{d:Xa}(h:Zko d=YB x):d=exD x:=by
 unfold Zko at h;split at h
 .cases h;rfl
 .cases h
def Zxw(xs:List Str)(D:Str)(a:FE):FE:=λδ=>(a δ).bind λp=>(Zko p.1.data).bind λx=>if xs.contains x=YD then YB (.fz (.bool (Zsd x D)),p.2)else YC
def Zq0(xs Ds:List Str)(a:FE):FE:=λδ=>(a δ).bind λp=>(Zko p.1.data).bind λx=>if xs.contains x=YD then YB (.fz (.bool (Ds.any (Zsd x))),p.2)else YC
def Zvh{xs:List Str}{D:Str}{cv:Xd}(hk:∀x∈xs,∃C,ClsAt X.K x C/\QB X.K (.ref C) cv=YB (Zsd x D))(h:ME X io p c e (Ydj X.K cv (o2 fa))):ME X io p c e (o2 (Zxw xs D fa)):=h.weak λδ K h=>by
 obtain⟨r,δ',h,k⟩:=h;obtain⟨⟨x,δ1⟩,h1,h⟩:=bs h;obtain⟨n,h2,h⟩:=bs h;split at h
 case isFalse=>cases h
 rename_i q;cases h;obtain⟨C,k1,k2⟩:=hk n (by simpa using q);exact⟨x,δ1,h1,n,C,_,Znt h2,k1,k2,k⟩
def Z1x{xs Ds:List Str}{cs:List Xd}(hk:∀x∈xs,∃C,ClsAt X.K x C/\UW X.K (.ref C) cs=YB (Ds.any (Zsd x)))(h:ME X io p c e (Z3h X.K cs (o2 fa))):ME X io p c e (o2 (Zq0 xs Ds fa)):=h.weak λδ K h=>by
 obtain⟨r,δ',h,k⟩:=h;obtain⟨⟨x,δ1⟩,h1,h⟩:=bs h;obtain⟨n,h2,h⟩:=bs h;split at h
 case isFalse=>cases h
 rename_i q;cases h;obtain⟨C,k1,k2⟩:=hk n (by simpa using q);exact⟨x,δ1,h1,n,C,_,Znt h2,k1,k2,k⟩
end
variable {G:Xc}
section
variable {X:Cx}{io:List Nat}{p c:Bool}{e a b:YJ}{es:List YJ}{m ma mb:MEt}{mr:MAt}{pos apos cpos px py pt sp kp:Pos}{i j:Nat}{x y:Str}{fa fb:FE}{ra:FA}{st:YK}
def Yeq(m:MAt):MEt:=λδ K=>m δ λrs δ'=>rs.length<=Xp/\K (.tp rs) δ'
def Zx2{x1}(h:MA X io p c es mr):ME X io p c (.Tuple es x1 pos) (Yeq mr):=by
 obtain⟨tA,A,sa⟩:=h;refine⟨_,Zxc A,λC H O δ fp ex K Q R h k=>?_⟩;refine sa C H O δ fp ex _ _ R h λH1 vs rs δ1 fp1 new1 r1 h1=>⟨by rw[r1.own.length];exact h1.1,λq hq=>?_⟩;have s:=Z9 hq (.tup vs);have S:=r1.stp.trans (p':=YD) (Stp.same (p:=YD) (δ:=δ1) (fp:=fp1) s s.al);rw[Bool.and_true]at S;exact k _ _ _ δ1 fp1 new1 ⟨(r1.rel.made (new:=[]) s λa m=>nomatch m).drop λa z=>.inl z,S,.tp Z8 (r1.own.same s),r1.nd,r1.fresh⟩ h1.2
def Zr0(a:FA):FE:=λδ=>(a δ).bind λp=>if p.1.length<=Xp then YB (.tp p.1,p.2)else YC
def Zps(h:ME X io p c e (Yeq (o2 ra))):ME X io p c e (o2 (Zr0 ra)):=h.weak λδ K h=>by
 obtain⟨r,δ',h,k⟩:=h;obtain⟨⟨x,δ1⟩,h1,h⟩:=bs h;refine⟨x,δ1,h1,?_⟩;dsimp only at h;split at h
 .rename_i q;cases h;exact⟨q,k⟩
 .cases h
def Z2i(i c:Nat)(e:FE):FS:=λδ=>match δ[i]? with
 | some (YB (.tp ts))=>match ts[c]? with
  | some (.nd us)=>wE e (λr _=>if us.length<Xp then .nx (δ.set i (YB (.tp (ts.set c (.nd (us++[.fz r.data]))))))else .bad) δ
  | _=>.bad
 | _=>.bad
def Yma(i j:Nat)(mr:MAt):MSt:=λD δ=>mr δ λrs δ1=>∃d e,OT.datas rs=[d,e]/\D.nx ((δ1.set i (YB (.fz d))).set j (YB (.fz e)))
def Yak{kt k2:Nat}{pt2:Pos}(hc:X.calm=YD)(hN:X.N.Nodup)(hi:X.N[i]? =YB x)(hj:X.N[j]? =YB y)(hij:i≠j)(hx:X.env.scope.names.lookup x=YB .local)(hy:X.env.scope.names.lookup y=YB .local)(ha:MA X io p YD [a,b] mr)
  (hi':i∉io:=by decide) (hj':j∉io:=by decide)
  (hw:swappedStores [.Tuple [.Name x px,.Name y py] kt pt] (.Tuple [a,b] k2 pt2) X.env=pure (YB [x,y]):=by rfl)
  (hs:swapsWithSole [.Tuple [.Name x px,.Name y py] kt pt] (.Tuple [a,b] k2 pt2) pos.line X.env=pure YF:=by rfl) :
  MS X io (.Assign [.Tuple [.Name x px,.Name y py] kt pt] (.Tuple [a,b] k2 pt2) pos) (Yma i j mr):=by
 obtain⟨_,A,s⟩:=ha;refine⟨_,Z9o hc hN hi hj hij hx hy A hw hs,λC H O δ fp ex D D' R h E=>?_⟩;refine s C H O δ fp ex _ _ R h λH1 vs rs δ1 fp1 new r1 h1=>?_;obtain⟨d,e,hd,h1⟩:=h1;have q:=(r1.das R).wide (L':=Lf C fp1 ex) λa l _=>l rfl;rw[hd]at q;cases q with
 | cons q1 q=>
  cases q with
  | cons q2 q=>
   cases q;obtain⟨fp2,R2,k2⟩:=r1.base.putD hi' q1;have z:=r1.base.kp_das k2 (.cons q2 .nil);cases z with
   | cons q2' _=>
    obtain⟨fp3,R3,k3⟩:=R2.putD hj' q2';exact⟨_,_,rfl,E.nx _ _ _ fp3 R3 (r1.stp.kp.trans (k2.trans k3)) h1⟩
def Zy0(i j:Nat)(a:FA):FS:=λδ=>match a δ with
 | some (rs,δ1)=>match OT.datas rs with
  | [d,e]=>.nx ((δ1.set i (YB (.fz d))).set j (YB (.fz e)))
  | _=>.bad
 | none=>.bad
def Z9l(h:MS X io st (Yma i j (o2 ra))):MS X io st (oS (Zy0 i j ra)):=h.weak λD δ h=>by
 unfold oS Zy0 at h;split at h
 case h_2=>exact h.elim
 rename_i rs δ1 q;refine⟨rs,δ1,q,?_⟩;split at h
 .rename_i q2;exact⟨_,_,q2,h⟩
 .exact h.elim
end
class NoStar (e:YJ):Prop where
 h:∀es env,Xr (e::es) env=(YF,eval e env)::Xr es env
instance nx_Name{p:Pos}:NoStar (.Name x p):=⟨λ_ _=>rfl⟩
instance nx_Constant{x k}{p:Pos}:NoStar (.Constant x k p):=⟨λ_ _=>rfl⟩
instance nx_BinOp{a o b}{p:Pos}:NoStar (.BinOp a o b p):=⟨λ_ _=>rfl⟩
instance nx_Call{f a k}{p:Pos}:NoStar (.Call f a k p):=⟨λ_ _=>rfl⟩
instance nx_List{a}{p:Pos}:NoStar (.List a p):=⟨λ_ _=>rfl⟩
instance nx_Tuple{a k}{p:Pos}:NoStar (.Tuple a k p):=⟨λ_ _=>rfl⟩
instance nx_Subscript{a b}{p:Pos}:NoStar (.Subscript a b p):=⟨λ_ _=>rfl⟩
instance nx_ListComp{a b s}{p:Pos}:NoStar (.ListComp a b s p):=⟨λ_ _=>rfl⟩
def Zc{p2 c2:Bool}{fa:FE}{ra:FA}[NoStar e](ha:ME X io p c e (o2 fa))(hr:MA X io p' c' es (o2 ra))(hc:p'=YD\/c=YD:=by first|exact QT rfl|exact QM rfl)(h2:(p&&p')=p2:=by rfl)(h3:(c&&c')=c2:=by rfl):MA X io p2 c2 (e::es) (o2 (Ze fa ra)) :=
 h2▸h3▸Z4p (Z45 ha hr hc (NoStar.h es X.env))
def Zgd(h:ME X io p c e m)(h2:p=p':=by rfl)(h3:c=c':=by rfl):ME X io p' c' e m:=h2▸h3▸h
def Z4x{base:YH}{k:Nat}{f:YG}{fd:X5}{ps:List Str}{S:List Xa->(OT->Prop)->Prop}(h:∀ds k,¬S ds k):FnOk P w K mg base CX k f fd ps (spD K S):=by
 have h':∀{vs H Q E},spD K S vs H Q E->False:=λq=>by
  obtain⟨_,ds,k,_,z,_⟩:=q;exact h ds k z
 exact⟨λvs H Q E q=>(h' q).elim,λA outer s H args us vs Q E _ _ _ _ q=>(h' q).elim⟩
variable {G:Xc}
section
variable {X:Cx}{io:List Nat}{p c:Bool}{e a b:YJ}{es:List YJ}{m ma mb:MEt}{mr:MAt}{pos apos cpos px py pt sp kp:Pos}{i j:Nat}{x y:Str}{fa fb:FE}{ra:FA}{st:YK}{u:FS}
def insI(x:Int):List Int->List Int
 | []=>[x]
 | y::ys=>if x<=y then x::y::ys else y::insI x ys
def Zch:List Int->List Int
 | []=>[]
 | x::xs=>insI x (Zch xs)
theorem insI_perm(x:Int):∀l,(insI x l).Perm (x::l)
 | []=>.refl _
 | y::ys=>by
  unfold insI;split
  .exact .refl _
  .exact((insI_perm x ys).cons y).trans (.swap x y ys)
theorem J3:∀l,(Zch l).Perm l
 | []=>.refl _
 | x::xs=>(insI_perm x _).trans ((J3 xs).cons x)
theorem Zii(x:Int):∀{l},l.Pairwise (·<=·)->(insI x l).Pairwise (·<=·)
 | [],_=>.cons (λ_ m=>nomatch m) .nil
 | y::ys,h=>by
  unfold insI;cases h with
  | cons h1 h2=>
   split
   .rename_i c
    refine .cons (λz m=>?_) (.cons h1 h2);rcases Xl.mp m with rfl|m
    .exact c
    .exact Int.le_trans c (h1 z m)
   .rename_i c
    refine .cons (λz m=>?_) (Zii x h2);rcases Xl.mp ((insI_perm x ys).mem_iff.mp m)with rfl|m
    .omega
    .exact h1 z m
theorem W9:∀l,(Zch l).Pairwise (·<=·)
 | []=>.nil
 | x::xs=>Zii x (W9 xs)
theorem Zbg:∀{l₁ l₂:List Int},l₁.Perm l₂->l₁.Pairwise (·<=·)->l₂.Pairwise (·<=·)->l₁=l₂
 | [],l₂,h,_,_=>h.nil_eq
 | a::l₁,[],h,_,_=>h.eq_nil
 | a::l₁,b::l₂,h,h1,h2=>by
  cases h1 with
  | cons p1 q1=>
   cases h2 with
   | cons p2 q2=>
    have e:a=b:=by
     have m1:a∈b::l₂:=h.mem_iff.mp (!8);have m2:b∈a::l₁:=h.mem_iff.mpr (!8);rcases Xl.mp m1 with e|m1
     .exact e
     .rcases Xl.mp m2 with e|m2
      .exact e.symm
      .have:=p2 a m1
       have:=p1 b m2;omega
    subst e;rw[Zbg h.cons_inv q1 q2]
theorem Ycm:∀{its:List Xd} {ns:List Int},Vd its ns->Vals (ns.map V.int) its
 | [],_,h=>by cases h;exact .nil
 | v::its,_,h=>by
  cases h with
  | cons n t h=>exact .cons ⟨_,rfl⟩ (Ycm h)
end
structure Gives(P:XH)(w:Ql)(it:YG)(f:List YG)(St:YH->Prop)(x:Xd)(St':YH->Prop):Prop where
 mem:it∈f
 run:∀{A:Qj} {E:Xd->Xg->Prop} {s:Xg} {Q:Xd->Xg->Prop},St s.heap->(∀h',St' h'->JP it s.heap h'->Q x { s with heap:=h' })->Xy (X4 P w) A (Q9 (.ref it)) Q E s
 keep:∀h h',(∀c∈f,∀o,h.get? c=YB o->h'.get? c=YB o)->St h->St h'
 keep':∀h h',(∀c∈f,∀o,h.get? c=YB o->h'.get? c=YB o)->St' h->St' h'
structure Zkx(P:XH)(w:Ql)(it:YG)(f:List YG)(St:YH->Prop):Prop where
 mem:it∈f
 run:∀{A:Qj} {E:Xd->Xg->Prop} {s:Xg} {Q:Xd->Xg->Prop},A.handled=YC->St s.heap->(∀h' e,Heap.ExtBut it s.heap h'->(∃o,h'.get? e=YB o/\o.cls= .type "StopIteration")->E (.ref e) { s with heap:=h' })->Xy (X4 P w) A (Q9 (.ref it)) Q E s
 keep:∀h h',(∀c∈f,∀o,h.get? c=YB o->h'.get? c=YB o)->St h->St h'
structure ZA(z TI TO i1 i2:YG)(f1 f2:List YG):Prop where
 TIz:TI≠z
 TOz:TO≠z
 a1:∀c∈f1,c≠z/\c≠TO/\c≠i2
 a2:∀c∈f2,c≠z/\c≠TO/\c≠i1
end L2
variable {i1:YG}{items:Array Xd}{ra:FA}{F:FD}{me fa fb fc:FE}{gg:FG}{it:FI}{S1 T1:YH->Prop}{m':MXt}{np:Nat}
namespace L2
open PySem PySem.Spec PyProof.Rows
section
variable {P:XH}{w:Ql}{A:Qj}{E:Xd->Xg->Prop}{s:Xg}
def Zl8{T:YG}{a b x:Xd}{k:Nat}{Q:Unit->Xg->Prop}(hT:Vt s.heap T a b)(h:∀h',h'.get? T=YB { cls:=.type "tuple",data:=.seq ((#[a,b]:Array Xd).setIfInBounds k x) }->JP T s.heap h'->Q () { s with heap:=h' }) :
  Xy (X4 P w) A (updateSeq T (·.setIfInBounds k x)) Q E s:=wpAny_updateSeq_pair hT h
theorem Zxv{z TI TO i2:YG}{f1 f2:List YG}{S2 T2:YH->Prop}{x y a b:Xd}(D:ZA z TI TO i1 i2 f1 f2)(G1:Gives P w i1 f1 S1 x T1)(G2:Gives P w i2 f2 S2 y T2)
  (hz:IsZip s.heap z TI TO .none) (hTI:Vt s.heap TI (.ref i1) (.ref i2)) (hTO:Vt s.heap TO a b) (h1:S1 s.heap) (h2:S2 s.heap)
  (hQ:∀h',IsZip h' z TI TO (JS s.heap.objs.size)->Vt h' TO x y->T1 h'->T2 h'->Vt h' s.heap.objs.size x y ->
   (∀ c o,c∉[z,TO,i1,i2]->s.heap.get? c=YB o->h'.get? c=YB o)->Q (.ref s.heap.objs.size) { s with heap:=h' }) :
  Xy (X4 P w) A (BR.«zip.__next__» ⟨[.ref z],[]⟩) (λfin s'=>∃v,fin= .done (.ret v)/\Q v s') E s:=by
 obtain⟨i1z,i1O,i12⟩:=D.a1 i1 G1.mem;obtain⟨i2z,i2O,i21⟩:=D.a2 i2 G2.mem;have r1:z∉f1/\TO∉f1/\i2∉f1:=⟨λm=>(D.a1 z m).1 rfl,λm=>(D.a1 TO m).2.1 rfl,λm=>(D.a1 i2 m).2.2 rfl⟩;have r2:z∉f2/\TO∉f2/\i1∉f2:=⟨λm=>(D.a2 z m).1 rfl,λm=>(D.a2 TO m).2.1 rfl,λm=>(D.a2 i1 m).2.2 rfl⟩;have st:∀{b:YG} {h h':YH} {f:List YG},JP b h h'->b∉f->∀c∈f,∀o,h.get? c=YB o->h'.get? c=YB o:=λsb hb c hc o e=>sb.extBut _ _ (λq=>hb (q▸hc)) e;show Xy _ _ (field (.ref z) 2>>=_) _ _ _;refine Xb (Bw hz rfl (x:=.bool YF) rfl ?_);show Xy _ _ (field (.ref z) 3>>=_) _ _ _;refine Xb (Bw hz rfl (x:=.ref TI) rfl (Xb (Vi hTI rfl ?_)));show Xy _ _ (BX (.ref z)>>=_) _ _ _;refine Xb ?_;unfold BX;refine Xb (Bw hz rfl (x:=.none) rfl (Xj ?_));simp only[if_true];refine Xb (Us (Xb (Bw hz rfl (x:=.ref TO) rfl (Xb (JC hz (!5) λh3 z3 b3=>?_)))));replace z3:IsZip h3 z TI TO .ellipsis:=z3;refine Xb ?_;simp only[List.zipIdx_cons,List.zipIdx_nil,List.forIn_cons,List.forIn_nil];refine Xb (Xb (wpAny_onRaise ?_));show Xy _ _ (Q9 (.ref i1)>>=_) _ _ _;refine Xb (G1.run (s:={ s with heap:=h3 }) (G1.keep _ _ (st b3 r1.1) h1) λh4 k4 b4=>Xj ?_);have o4:Vt h4 TO a b:=b4.extBut _ _ i1O.symm (b3.extBut _ _ D.TOz hTO);refine Xb (Vi o4 rfl (Xb (Zl8 (s:={ s with heap:=h4 }) o4 λh5 o5 b5=>Xb (wpAny_letGo (Xj ?_)))));replace o5:Vt h5 TO x b:=o5;refine Xb (Xb (wpAny_onRaise ?_));show Xy _ _ (Q9 (.ref i2)>>=_) _ _ _;refine Xb (G2.run (s:={ s with heap:=h5 }) (G2.keep _ _ (st b5 r2.2.1) (G2.keep _ _ (st b4 r2.2.2) (G2.keep _ _ (st b3 r2.1) h2))) λh6 k6 b6=>Xj ?_);have o6:Vt h6 TO x b:=b6.extBut _ _ i2O.symm o5;refine Xb (Vi o6 rfl (Xb (Zl8 (s:={ s with heap:=h6 }) o6 λh7 o7 b7=>Xb (wpAny_letGo (Xj (Xj ?_))))));replace o7:Vt h7 TO x y:=o7;refine Xb (Vi o7 rfl (Xb (wpAny_newTuple ?_)));have sz:h7.objs.size=s.heap.objs.size:=by rw[b7.1,b6.1,b5.1,b4.1,b3.1]
 have z7:IsZip h7 z TI TO .ellipsis:=b7.extBut _ _ D.TOz.symm (b6.extBut _ _ i2z.symm (b5.extBut _ _ D.TOz.symm (b4.extBut _ _ i1z.symm z3)));have t1:T1 h7:=G1.keep' _ _ (st b7 r1.2.1) (G1.keep' _ _ (st b6 r1.2.2) (G1.keep' _ _ (st b5 r1.2.1) k4));have t2:T2 h7:=G2.keep' _ _ (st b7 r2.2.1) k6;have old:∀c o,c∉[z,TO,i1,i2]->s.heap.get? c=YB o->h7.get? c=YB o:=λc o n e=>by
  simp only[Xl,JV,or_false,not_or]at n;exact b7.extBut _ _ n.2.1 (b6.extBut _ _ n.2.2.2 (b5.extBut _ _ n.2.1 (b4.extBut _ _ n.2.2.1 (b3.extBut _ _ n.1 e))))
 show Xy _ _ (Builtin.SmallTypes.ownedTupleHandOut (.ref z) (.ref h7.objs.size)>>=_) _ _ _;refine Xb ?_;unfold Builtin.SmallTypes.ownedTupleHandOut;have zp:IsZip (h7.push { cls:=.type "tuple",data:=.seq #[x,y] }) z TI TO .ellipsis:=Xe _ z7;refine Xb (JC zp (!5) λh8 z8 b8=>?_);replace z8:IsZip h8 z TI TO (JS h7.objs.size):=z8;refine JC z8 (!5) λh9 z9 b9=>?_;replace z9:IsZip h9 z TI TO (JS h7.objs.size):=z9;have up:∀c o,c≠z->h7.get? c=YB o->h9.get? c=YB o:=λc o n e=>b9.extBut _ _ n (b8.extBut _ _ n (Xe _ e));have nz:h7.objs.size≠z:=XX (Xz z7);have p9:Vt h9 h7.objs.size x y:=b9.extBut _ _ nz (b8.extBut _ _ nz (Xv _ rfl));refine Xj ⟨_,rfl,?_⟩;show Q (.ref h7.objs.size) _;rw[sz]at z9 p9|-
 exact hQ h9 z9 (up _ _ D.TOz o7) (G1.keep' _ _ (λc hc o e=>up c o (λq=>r1.1 (q▸hc)) e) t1) (G2.keep' _ _ (λc hc o e=>up c o (λq=>r2.1 (q▸hc)) e) t2) p9 λc o n e=>up c o (λq=>n (by simp[q])) (old c o n e)
theorem Zzw{z TI TO i2:YG}{f1 f2:List YG}{S2:YH->Prop}{a b:Xd}{Q:Fin->Xg->Prop}(hh:A.handled=YC)(D:ZA z TI TO i1 i2 f1 f2)(g1:Zkx P w i1 f1 S1\/(∃x,Gives P w i1 f1 S1 x T1)/\Zkx P w i2 f2 S2)
  (hz:IsZip s.heap z TI TO .none) (hTI:Vt s.heap TI (.ref i1) (.ref i2)) (hTO:Vt s.heap TO a b) (h1:S1 s.heap) (h2:S2 s.heap)
  (hE:∀h' e,(∀c o,c∉[z,TO,i1,i2]->s.heap.get? c=YB o->h'.get? c=YB o)->(∃o,h'.get? e=YB o/\o.cls= .type "StopIteration")->E (.ref e) { s with heap:=h' }) :
  Xy (X4 P w) A (BR.«zip.__next__» ⟨[.ref z],[]⟩) Q E s:=by
 have r1:z∉f1/\TO∉f1/\i2∉f1:=⟨λm=>(D.a1 z m).1 rfl,λm=>(D.a1 TO m).2.1 rfl,λm=>(D.a1 i2 m).2.2 rfl⟩;have r2:z∉f2/\TO∉f2/\i1∉f2:=⟨λm=>(D.a2 z m).1 rfl,λm=>(D.a2 TO m).2.1 rfl,λm=>(D.a2 i1 m).2.2 rfl⟩;have st:∀{b:YG} {h h':YH} {f:List YG},JP b h h'->b∉f->∀c∈f,∀o,h.get? c=YB o->h'.get? c=YB o:=λsb hb c hc o e=>sb.extBut _ _ (λq=>hb (q▸hc)) e;show Xy _ _ (field (.ref z) 2>>=_) _ _ _;refine Xb (Bw hz rfl (x:=.bool YF) rfl ?_);show Xy _ _ (field (.ref z) 3>>=_) _ _ _;refine Xb (Bw hz rfl (x:=.ref TI) rfl (Xb (Vi hTI rfl ?_)));show Xy _ _ (BX (.ref z)>>=_) _ _ _;refine Xb ?_;unfold BX;refine Xb (Bw hz rfl (x:=.none) rfl (Xj ?_));simp only[if_true];refine Xb (Us (Xb (Bw hz rfl (x:=.ref TO) rfl (Xb (JC hz (!5) λh3 z3 b3=>?_)))));replace z3:IsZip h3 z TI TO .ellipsis:=z3;refine Xb ?_;simp only[List.zipIdx_cons,List.zipIdx_nil,List.forIn_cons,List.forIn_nil];refine Xb (Xb (wpAny_onRaise ?_));show Xy _ _ (Q9 (.ref i1)>>=_) _ _ _;rcases g1 with G1|⟨⟨x,G1⟩,G2⟩
 .obtain⟨i1z,i1O,i12⟩:=D.a1 i1 G1.mem
  refine Xb (G1.run (s:={ s with heap:=h3 }) hh (G1.keep _ _ (st b3 r1.1) h1) λh4 e b4 he=>?_);obtain⟨oe,hoe,hce⟩:=he;have z4:IsZip h4 z TI TO .ellipsis:=b4 _ _ i1z.symm z3;have ez:e≠z:=λq=>by subst q;rw[z4]at hoe;cases hoe;simp at hce
  refine JC z4 (!5) λh5 _ b5=>hE h5 e (λc o n q=>?_) ⟨oe,b5.extBut _ _ ez hoe,hce⟩;simp only[Xl,JV,or_false,not_or]at n;exact b5.extBut _ _ n.1 (b4 _ _ n.2.2.1 (b3.extBut _ _ n.1 q))
 .obtain⟨i1z,i1O,i12⟩:=D.a1 i1 G1.mem
  obtain⟨i2z,i2O,i21⟩:=D.a2 i2 G2.mem;refine Xb (G1.run (s:={ s with heap:=h3 }) (G1.keep _ _ (st b3 r1.1) h1) λh4 k4 b4=>Xj ?_);have o4:Vt h4 TO a b:=b4.extBut _ _ i1O.symm (b3.extBut _ _ D.TOz hTO);refine Xb (Vi o4 rfl (Xb (Zl8 (s:={ s with heap:=h4 }) o4 λh5 o5 b5=>Xb (wpAny_letGo (Xj ?_)))));refine Xb (Xb (wpAny_onRaise ?_));show Xy _ _ (Q9 (.ref i2)>>=_) _ _ _;refine Xb (G2.run (s:={ s with heap:=h5 }) hh (G2.keep _ _ (st b5 r2.2.1) (G2.keep _ _ (st b4 r2.2.2) (G2.keep _ _ (st b3 r2.1) h2))) λh6 e b6 he=>?_);obtain⟨oe,hoe,hce⟩:=he;have z6:IsZip h6 z TI TO .ellipsis:=b6 _ _ i2z.symm (b5.extBut _ _ D.TOz.symm (b4.extBut _ _ i1z.symm z3));have ez:e≠z:=λq=>by subst q;rw[z6]at hoe;cases hoe;simp at hce
  refine JC z6 (!5) λh7 _ b7=>hE h7 e (λc o n q=>?_) ⟨oe,b7.extBut _ _ ez hoe,hce⟩;simp only[Xl,JV,or_false,not_or]at n;exact b7.extBut _ _ n.1 (b6 _ _ n.2.2.2 (b5.extBut _ _ n.2.1 (b4.extBut _ _ n.2.2.1 (b3.extBut _ _ n.1 q))))
theorem Zr6{z TI TO i2:YG}{f1 f2:List YG}{S2 T2:YH->Prop}{x y a b:Xd}{Q:Option Xd->Xg->Prop}(D:ZA z TI TO i1 i2 f1 f2)(G1:Gives P w i1 f1 S1 x T1)(G2:Gives P w i2 f2 S2 y T2)
  (hz:IsZip s.heap z TI TO .none) (hTI:Vt s.heap TI (.ref i1) (.ref i2)) (hTO:Vt s.heap TO a b) (h1:S1 s.heap) (h2:S2 s.heap)
  (hQ:∀h',IsZip h' z TI TO (JS s.heap.objs.size)->Vt h' TO x y->T1 h'->T2 h'->Vt h' s.heap.objs.size x y ->
   (∀ c o,c∉[z,TO,i1,i2]->s.heap.get? c=YB o->h'.get? c=YB o)->Q (YB (.ref s.heap.objs.size)) { s with heap:=h' }):Xy (X4 P w) A (VP (.ref z)) Q E s:=by
 have hT:s.TypeIs (.ref z) "zip" :=⟨_,hz,rfl⟩;unfold VP;exact Xb (Ud (Q0 (name:=QL "__next__") hT F.slot_zip_next (QS F.slot_zip_next hT F.entry_zip_next (Zxv D G1 G2 hz hTI hTO h1 h2 λh' a1 a2 a3 a4 a5 a6=>Xj (hQ h' a1 a2 a3 a4 a5 a6)) (F.args_zip_next_1 _))))
theorem Zw6{z TI TO i2:YG}{f1 f2:List YG}{S2:YH->Prop}{a b:Xd}{Q:Option Xd->Xg->Prop}(hh:A.handled=YC)(D:ZA z TI TO i1 i2 f1 f2)(g1:Zkx P w i1 f1 S1\/(∃x,Gives P w i1 f1 S1 x T1)/\Zkx P w i2 f2 S2)
  (hz:IsZip s.heap z TI TO .none) (hTI:Vt s.heap TI (.ref i1) (.ref i2)) (hTO:Vt s.heap TO a b) (h1:S1 s.heap) (h2:S2 s.heap)
  (hQ:∀h',(∀c o,c∉[z,TO,i1,i2]->s.heap.get? c=YB o->h'.get? c=YB o)->Q YC { s with heap:=h' }):Xy (X4 P w) A (VP (.ref z)) Q E s:=by
 have hT:s.TypeIs (.ref z) "zip" :=⟨_,hz,rfl⟩;unfold VP;refine Xb (Ud (Q0 (name:=QL "__next__") hT F.slot_zip_next (QS F.slot_zip_next hT F.entry_zip_next (Zzw hh D g1 hz hTI hTO h1 h2 λh' e hk he=>?_) (F.args_zip_next_1 _))));obtain⟨o,ho,hc⟩:=he;exact Xb (wpAny_isInstance (T :="StopIteration") (b:=YD) ⟨o,ho,hc⟩ isSubtype_stop (Xj (hQ _ hk)))
theorem Zvo{it t:YG}{x:Xd}(hx:items[i]? =YB x):Gives P w it [it,t] (λh=>IsTupIter h it t i/\IsTup h t items) x (λh=>IsTupIter h it t (i+1)) where
 mem:=by simp
 run:=fun{A E s Q} ⟨hit,ht⟩ hQ=>by
  obtain⟨o,ho,hc,hd⟩:=id hit;obtain⟨ol,hol,_,nl,hdl⟩:=ht;unfold Q9;refine Xb (Q0 (name:=QL "__next__") hit.typeIs slot_tupleiter_next (QS slot_tupleiter_next hit.typeIs entry_tupleiter_next ?_ (args_tupleiter_next _)));show Xy _ _ (field (.ref it) 0>>=_) _ _ s;refine Xb (Bw ho hd (x:=.ref t) rfl ?_);show Xy _ _ (if(X7 t==QF)=YD then _ else _) _ _ s;rw[YQ (show¬((X7 t==QF)=YD)from XJ)];show Xy _ _ (field (.ref it) 1>>=_) _ _ s;refine Xb (Bw ho hd (x:=.int i 0) rfl ?_);show Xy _ _ (seqItems? (.ref t)>>=_) _ _ s;refine Xb (Vi hol hdl ?_);simp only[QR,hx];refine Xb (wpAny_setField ho hd (!5) (Xj ⟨x,rfl,Xj (hQ _ ?_ (Q7 ..))⟩));exact⟨_,Heap.get?_update_self _ ho (Obj.isFreed_of_fields (Obj.data_mapFields hd _)),(Obj.cls_mapFields ..).trans hc,by rw[Obj.data_mapFields hd];simp[JS]⟩
 keep:=λh h' k ⟨⟨o,a1,a2⟩,⟨o',b1,b2⟩⟩=>⟨⟨o,k it (!5) o a1,a2⟩,⟨o',k t (!5) o' b1,b2⟩⟩
 keep':=λh h' k ⟨o,a1,a2⟩=>⟨o,k it (!5) o a1,a2⟩
theorem Z0g{it t:YG}(hx:items[i]? =YC):Zkx P w it [it,t] (λh=>IsTupIter h it t i/\IsTup h t items) where
 mem:=by simp
 run:=fun{A E s Q} hh ⟨hit,ht⟩ hE=>by
  obtain⟨o,ho,hc,hd⟩:=id hit;obtain⟨ol,hol,_,nl,hdl⟩:=ht;unfold Q9;refine Xb (Q0 (name:=QL "__next__") hit.typeIs slot_tupleiter_next (QS slot_tupleiter_next hit.typeIs entry_tupleiter_next ?_ (args_tupleiter_next _)));show Xy _ _ (field (.ref it) 0>>=_) _ _ s;refine Xb (Bw ho hd (x:=.ref t) rfl ?_);show Xy _ _ (if(X7 t==QF)=YD then _ else _) _ _ s;rw[YQ (show¬((X7 t==QF)=YD)from XJ)];show Xy _ _ (field (.ref it) 1>>=_) _ _ s;refine Xb (Bw ho hd (x:=.int i 0) rfl ?_);show Xy _ _ (seqItems? (.ref t)>>=_) _ _ s;refine Xb (Vi hol hdl ?_);simp only[QR,hx];refine Xb (Us (Xb (wpAny_setField ho hd (!5) ?_)));show Xy _ _ (newExc (.type "StopIteration") []>>=_) _ _ _;refine Xb ?_;simp only[newExc,newTuple];refine Xb (QG ?_ (by size_fits));refine Xb (m:=VR _ _) (wpAny_of_eq (a:=QF) (by first|rfl|(simp only[VR];rfl)) ?_);refine QG ?_ (by size_fits);simp only[raiseNew];refine Xb (wpAny_handled ?_)
  first|rw[show A.in1.handled=YC from hh]|rw[hh]
  exact Xb (Xj (wpAny_throw (hE _ _ (((Q7 ..).extBut.push _).push _) ⟨_,Xv _ rfl,rfl⟩)))
 keep:=λh h' k ⟨⟨o,a1,a2⟩,⟨o',b1,b2⟩⟩=>⟨⟨o,k it (!5) o a1,a2⟩,⟨o',k t (!5) o' b1,b2⟩⟩
end
abbrev zT1(h:YH)(a:YG):YH:=h.push { cls:=.type "tuple_iterator",data:=.fields #[.ref a,.int 0 0] }
abbrev zT2(h:YH)(a b:YG):YH:=(zT1 h a).push { cls:=.type "tuple_iterator",data:=.fields #[.ref b,.int 0 0] }
abbrev zT3(h:YH)(a b:YG):YH:=(zT2 h a b).push { cls:=.type "tuple",data:=.seq #[.ref h.objs.size,.ref (zT1 h a).objs.size] }
abbrev zT4(h:YH)(a b:YG):YH:=(zT3 h a b).push { cls:=.type "tuple",data:=.seq #[.none,.none] }
abbrev zT5(h:YH)(a b:YG):YH:=(zT4 h a b).push { cls:=.type "zip",data:=.fields #[.none,.bool YF,.bool YF,.ref (zT2 h a b).objs.size,.ref (zT3 h a b).objs.size] }
theorem Z0s(a b:YG)(xs ys:Array Xd) :
  Meets (BR.«zip.__new__» ⟨[.type "zip",.ref a,.ref b],[]⟩) (λ_ R s=>IsTup s.heap a xs/\IsTup s.heap b ys/\R (.ok (.ret (.ref (zT4 s.heap a b).objs.size))) { s with heap:=zT5 s.heap a b }) :=
 .of_wp λprog w A R s h=>by
  obtain⟨hp,g,d,tk,os⟩:=s;obtain⟨h1,h2,h⟩:=h;have hsub:=sub_zip;have hL1:IsTup (Xg.heap ⟨hp,g,d,tk,os⟩) a xs:=h1;have hL2:IsTup (Xg.heap ⟨hp.push { cls:=.type "tuple_iterator",data:=.fields #[.ref a,.int 0 0] },g,d,tk,os⟩) b ys:=h2.push _
  wp_walk using iter_tuple hL1,iter_tuple hL2
  exact⟨_,rfl,h⟩
section
variable {P:XH}{w:Ql}{A:Qj}{E:Xd->Xg->Prop}{s:Xg}
theorem Zyr{b:YG}{xs ys:Array Xd}(h1:IsTup s.heap a xs)(h2:IsTup s.heap b ys)
  (h:∀h' n,n=s.heap.objs.size->IsZip h' (n+4) (n+2) (n+3) .none->Vt h' (n+2) (.ref n) (.ref (n+1))->Vt h' (n+3) .none .none->IsTupIter h' n a 0->IsTupIter h' (n+1) b 0 ->
   (∀ c o,s.heap.get? c=YB o->h'.get? c=YB o)->Q (.ref (n+4)) { s with heap:=h' }):Xy (X4 P w) A (call (.type "zip") [.ref a,.ref b]) Q E s:=by
 refine callType_new F.called_zip (!1) (F.typeCall_zip_2 _ _) (F.newCall_zip_2 _ _) (λobj=>F.args_object_init_3 obj _ _) F.entry_zip_new (Z0s a b xs ys) ⟨h1,h2,?_⟩;have e1:(zT1 s.heap a).objs.size=s.heap.objs.size+1:=QC ..;have e2:(zT2 s.heap a b).objs.size=s.heap.objs.size+2:=by rw[QC,e1]
 have e3:(zT3 s.heap a b).objs.size=s.heap.objs.size+3:=by rw[QC,e2]
 have e4:(zT4 s.heap a b).objs.size=s.heap.objs.size+4:=by rw[QC,e3]
 have up:∀{c o},(zT1 s.heap a).get? c=YB o->(zT5 s.heap a b).get? c=YB o:=λx=>Xe _ (Xe _ (Xe _ (Xe _ x)));have p5:(zT5 s.heap a b).get? (zT4 s.heap a b).objs.size=YB _:=Xv _ rfl;have p4:(zT5 s.heap a b).get? (zT3 s.heap a b).objs.size=YB _:=Xe _ (Xv _ rfl);have p3:(zT5 s.heap a b).get? (zT2 s.heap a b).objs.size=YB _:=Xe _ (Xe _ (Xv _ rfl));have p2:(zT5 s.heap a b).get? (zT1 s.heap a).objs.size=YB _:=Xe _ (Xe _ (Xe _ (Xv _ rfl)));have p1:(zT5 s.heap a b).get? s.heap.objs.size=YB _:=up (Xv _ rfl);show _/\_;rw[e2,e3,e4]at p5;rw[e1,e2]at p3;rw[e3]at p4;rw[e1]at p2;rw[e4];exact⟨⟨_,p5,rfl⟩,h _ _ rfl p5 p3 p4 ⟨_,p1,rfl,rfl⟩ ⟨_,p2,rfl,rfl⟩ λc o x=>up (Xe _ x)⟩
end
theorem nn{n a b:Nat}(h:a≠b):n+a≠n+b:=λe=>h (Nat.add_left_cancel e)
def n0{n b:Nat}(h:0≠b):n≠n+b:=λe=>h (Nat.add_left_cancel (n:=n) e)
def nlt{n a c:Nat}(h:a<n):a≠n+c:=Xn (X8 h (Vb ..))
theorem ZA.new{n a b:Nat}(h1:a<n)(h2:b<n):ZA (n+4) (n+2) (n+3) n (n+1) [n,a] [n+1,b] where
 TIz:=(by first|exact nn (!1)|exact n0 (!1)|exact(n0 (!1)).symm|exact nlt h1|exact nlt h2|exact(nlt h1).symm|exact(nlt h2).symm|exact Xn h1|exact Xn h2|exact XX h1|exact XX h2|omega)
 TOz:=(by first|exact nn (!1)|exact n0 (!1)|exact(n0 (!1)).symm|exact nlt h1|exact nlt h2|exact(nlt h1).symm|exact(nlt h2).symm|exact Xn h1|exact Xn h2|exact XX h1|exact XX h2|omega)
 a1:=λc hc=>by
  simp only[Xl,JV,or_false]at hc;rcases hc with rfl|rfl
  .exact⟨(by first|exact nn (!1)|exact n0 (!1)|exact(n0 (!1)).symm|exact nlt h1|exact nlt h2|exact(nlt h1).symm|exact(nlt h2).symm|exact Xn h1|exact Xn h2|exact XX h1|exact XX h2|omega),(by first|exact nn (!1)|exact n0 (!1)|exact(n0 (!1)).symm|exact nlt h1|exact nlt h2|exact(nlt h1).symm|exact(nlt h2).symm|exact Xn h1|exact Xn h2|exact XX h1|exact XX h2|omega),(by first|exact nn (!1)|exact n0 (!1)|exact(n0 (!1)).symm|exact nlt h1|exact nlt h2|exact(nlt h1).symm|exact(nlt h2).symm|exact Xn h1|exact Xn h2|exact XX h1|exact XX h2|omega)⟩
  .exact⟨(by first|exact nn (!1)|exact n0 (!1)|exact(n0 (!1)).symm|exact nlt h1|exact nlt h2|exact(nlt h1).symm|exact(nlt h2).symm|exact Xn h1|exact Xn h2|exact XX h1|exact XX h2|omega),(by first|exact nn (!1)|exact n0 (!1)|exact(n0 (!1)).symm|exact nlt h1|exact nlt h2|exact(nlt h1).symm|exact(nlt h2).symm|exact Xn h1|exact Xn h2|exact XX h1|exact XX h2|omega),(by first|exact nn (!1)|exact n0 (!1)|exact(n0 (!1)).symm|exact nlt h1|exact nlt h2|exact(nlt h1).symm|exact(nlt h2).symm|exact Xn h1|exact Xn h2|exact XX h1|exact XX h2|omega)⟩
 a2:=λc hc=>by
  simp only[Xl,JV,or_false]at hc;rcases hc with rfl|rfl
  .exact⟨(by first|exact nn (!1)|exact n0 (!1)|exact(n0 (!1)).symm|exact nlt h1|exact nlt h2|exact(nlt h1).symm|exact(nlt h2).symm|exact Xn h1|exact Xn h2|exact XX h1|exact XX h2|omega),(by first|exact nn (!1)|exact n0 (!1)|exact(n0 (!1)).symm|exact nlt h1|exact nlt h2|exact(nlt h1).symm|exact(nlt h2).symm|exact Xn h1|exact Xn h2|exact XX h1|exact XX h2|omega),(by first|exact nn (!1)|exact n0 (!1)|exact(n0 (!1)).symm|exact nlt h1|exact nlt h2|exact(nlt h1).symm|exact(nlt h2).symm|exact Xn h1|exact Xn h2|exact XX h1|exact XX h2|omega)⟩
  .exact⟨(by first|exact nn (!1)|exact n0 (!1)|exact(n0 (!1)).symm|exact nlt h1|exact nlt h2|exact(nlt h1).symm|exact(nlt h2).symm|exact Xn h1|exact Xn h2|exact XX h1|exact XX h2|omega),(by first|exact nn (!1)|exact n0 (!1)|exact(n0 (!1)).symm|exact nlt h1|exact nlt h2|exact(nlt h1).symm|exact(nlt h2).symm|exact Xn h1|exact Xn h2|exact XX h1|exact XX h2|omega),(by first|exact nn (!1)|exact n0 (!1)|exact(n0 (!1)).symm|exact nlt h1|exact nlt h2|exact(nlt h1).symm|exact(nlt h2).symm|exact Xn h1|exact Xn h2|exact XX h1|exact XX h2|omega)⟩
theorem ZA.new2(n:Nat):(n+2:Nat)≠n+3/\(n+2:Nat)≠n/\(n+2:Nat)≠n+1:=⟨nn (!1),(n0 (!1)).symm,nn (!1)⟩
section
variable {X:Cx}{io:List Nat}{p c:Bool}{a b:YJ}{mr:MAt}
def Z8w(ds:List Xa):Option (List Xa):=match ds with|[.list as,.list bs]=>YB (Zpw as bs)|[.tuple as,.tuple bs]=>YB (Zpw as bs)|_=>YC
def Zmu(a:FA):FI:=λδ=>(a δ).bind λp=>(Z8w (OT.datas p.1)).bind λds=>YB (ds,p.2)
end
def Zie(xs:List Y)(lo hi st:Option Int):List Y :=
 (sliceRange (BZ lo hi st xs.length).1 (BZ lo hi st xs.length).2.1 (BZ lo hi st xs.length).2.2).filterMap (xs[·]?)
def Vals.places:∀{xs:List V} {its:List Xd},Vals xs its->∀js:List Nat,Vals (js.filterMap (xs[·]?)) (js.filterMap (its[·]?))
 | _,_,_,[]=>.nil
 | xs,its,h,j::js=>by
  have ih:=Vals.places h js;cases hn:xs[j]? with
  | some x=>
   obtain⟨u,hu,ru⟩:=h.get hn;simp only[QX,hn,hu];exact .cons ru ih
  | none=>
   have hv:its[j]? =YC:=by
    rw[Q4]at hn|-
    rw[<-h.length];exact hn
   simp only[QX,hn,hv];exact ih
def Das.places(h:Das G H L xs ds):∀js:List Nat,Das G H L (js.filterMap (xs[·]?)) (js.filterMap (ds[·]?))
 | []=>.nil
 | j::js=>by
  have ih:=Das.places h js;cases hn:ds[j]? with
  | some x=>
   obtain⟨u,hu,ru⟩:=h.get hn;simp only[QX,hn,hu];exact .cons ru ih
  | none=>
   have hv:xs[j]? =YC:=by
    rw[Q4]at hn|-
    rw[h.length];exact hn
   simp only[QX,hn,hv];exact ih
def Das.pick(h:Das G H L xs ds)(lo hi st:Option Int):Das G H L (Zie xs lo hi st) (Zie ds lo hi st):=by
 unfold Zie;rw[h.length];exact h.places _
def Vals.pick{its:List Xd}(h:Vals xs its)(lo hi st:Option Int):Vals (Zie xs lo hi st) (slicePick its.toArray lo hi st).toList:=by
 have e:(slicePick its.toArray lo hi st).toList=(sliceRange (BZ lo hi st xs.length).1 (BZ lo hi st xs.length).2.1 (BZ lo hi st xs.length).2.2).filterMap (its[·]?):=by
  simp[slicePick,h.length]
 rw[e];exact h.places _
def Zh3{its:List Xd}(h:Vals xs its)(lo hi st:Option Int):(Zie xs lo hi st).length<=xs.length:=by
 have e:=(h.pick lo hi st).length;have s:=slicePick_size_le its.toArray lo hi st;have l:=h.length;simp only[XM,XF]at e s;omega
section
variable {X:Cx}{e:YJ}{te:TE}{lo hi:Option YJ}{se:YJ}{tl th ts:TO}{pos p2:Pos}
def tSt(K:Xc)(te:TE)(tl th ts:TO):TE:=λO H Q=>te O H λx H1=>tl O H1 λl H2=>th O H2 λu H3=>ts O H3 λk H4=>∃a xs,x= .ref a/\SqL K H4 a xs/\k≠YB 0/\∀p,H4 p=YC->Q (.ref p) (upd H4 p (.lst (Zie xs l u k)))
def Z73(he:PE X e te)(hl:PO X lo tl)(hu:PO X hi th)(hst:PO X (YB se) ts):PE X (.Subscript e (.Slice lo hi (YB se) p2) pos) (tSt X.K te tl th ts):=by
 intro pins s O H Q I h;refine Subscript_ (thn (he pins s O H _ I h) λv s1 qz9=>?_);obtain⟨x,H1,I1,r1,q1⟩:=qz9;refine wpAny_Slice (thn (hl pins s1 O H1 _ I1 q1) λvl s2 qz9=>?_);obtain⟨l,H2,I2,pl,q2⟩:=qz9;refine thn (hu pins s2 O H2 _ I2 q2) λvu s3 qz9=>?_;obtain⟨u,H3,I3,pu,q3⟩:=qz9;refine thn (hst pins s3 O H3 _ I3 q3) λvs s4 qz9=>?_;obtain⟨k,H4,I4,ps,q4⟩:=qz9;obtain⟨a,xs,rfl,hx,hk,q⟩:=q4;cases r1;have I5:Inv X pins O H4 { s4 with heap:=s4.heap.push { cls:=.type "slice",data:=.fields #[vl,vu,vs] } }:=I4.kept (t':=s4.toks) λb ob q=>Xe _ q;obtain⟨its,r,ht,hz⟩:=I5.list hx;have hlen:=r.length;show Xy (X4 X.prog X.w) X.A (subscriptTail e (.Slice lo hi (YB se) p2) (.ref a) (.ref s4.heap.objs.size)) (EP X pins O Q) X.xe { s4 with heap:=s4.heap.push { cls:=.type "slice",data:=.fields #[vl,vu,vs] } };refine tail_any (ops:=[.ref a,.ref s4.heap.objs.size]) ht.isList.typeIs slot_list_getitem.lookup ?_ (by with_unfolding_all rfl);refine wpAny_getItem_list_slice ht.isList (Heap.IsSliceOf.new ..) pl pu ps hk ?_ (by rw[XF]<;>omega);refine⟨.ref _,_,I5.laid (t':=s4.toks) (o:=.lst (Zie xs l u k)) (λb ob q=>Xe _ q) (Xx _) ?_,rfl,q _ (I5.hok.fresh (Xx _))⟩;exact⟨XD (Zh3 r l u k) hz,_,0,r.pick l u k,Xv _ rfl⟩
end
section
variable {X:Cx}{io:List Nat}{p c:Bool}{a e:YJ}{ma:MEt}{lo hi:Option YJ}{se:YJ}{ml mh ms:MOt}{pos p2:Pos}{fa:FE}
def Ye8(m:MEt)(ml mh ms:MOt):MEt:=λδ K=>m δ λr δ1=>ml δ1 λlo δ2=>mh δ2 λhi δ3=>ms δ3 λst δ4=>st≠YB 0/\asL r.data λds=>K (.nd ((Zie ds lo hi st).map OT.fz)) δ4
def Yfy(ha:ME X io YD c a ma)(hl:MO X io YD lo ml)(hh:MO X io YD hi mh)(hs:MO X io YD (YB se) ms):ME X io YD c (.Subscript a (.Slice lo hi (YB se) p2) pos) (Ye8 ma ml mh ms):=by
 obtain⟨_,A,s⟩:=ha;obtain⟨_,B,sl⟩:=hl;obtain⟨_,D,sh⟩:=hh;obtain⟨_,F,ss⟩:=hs;refine⟨_,Z73 A B D F,?_⟩;intro C H O δ fp ex K' Q R h k;refine s C H O δ fp ex _ _ R h λH1 v r δ1 fp1 new r1 h1=>?_;refine sl C H1 O δ1 fp1 ex _ _ r1.base h1 λH2 l δ2 fp2 R2 S2 h2=>?_;refine sh C H2 O δ2 fp2 ex _ _ R2 h2 λH3 u δ3 fp3 R3 S3 h3=>?_;refine ss C H3 O δ3 fp3 ex _ _ R3 h3 λH4 w δ4 fp4 R4 S4 h4=>?_;obtain⟨hw,h4⟩:=h4;have s2:Same H1 H2:=λb o e=>S2.keep b o e (.inl rfl);have s3:Same H2 H3:=λb o e=>S3.keep b o e (.inl rfl);have s4:Same H3 H4:=λb o e=>S4.keep b o e (.inl rfl);obtain⟨e3,e4⟩:=S2.env rfl;obtain⟨e5,e6⟩:=S3.env rfl;obtain⟨e7,e8⟩:=S4.env rfl;have q:=(((r1.da R).same s2).same s3).same s4;obtain⟨a',xs,ds,rfl,e,qs,h4⟩:=q.lstInv h4;refine⟨a',xs,rfl,e,hw,λp hp=>?_⟩;have S:=((r1.stp.trans S2).trans S3).trans S4;refine k _ _ _ δ4 fp4 [p] (RE.tree R R4 S (Z9 hp _) (Za4 hp) (Zcp p) (Own.list hp ((qs.pick l u w).wide λa l _=>?_))) h4;rw[e8,e6,e4];exact l
def stepOf(d:Xa)(lo hi st:Option Int):Option OT:=match d with| .list ds=>if st=YB 0 then YC else YB (.nd ((Zie ds lo hi st).map OT.fz))|_=>YC
def Z1k(e:FE)(lo hi st:FO):FE:=λδ=>(e δ).bind λp=>(lo p.2).bind λq=>(hi q.2).bind λr=>(st r.2).bind λt=>(stepOf p.1.data q.1 r.1 t.1).bind λo=>YB (o,t.2)
def Z7x{lo hi st:FO}(h:ME X io p c e (Ye8 (o2 fa) (o2 lo) (o2 hi) (o2 st))):ME X io p c e (o2 (Z1k fa lo hi st)):=h.weak λδ K h=>by
 obtain⟨r,δ',h,k⟩:=h;obtain⟨⟨x,δ1⟩,h1,h⟩:=bs h;obtain⟨⟨y,δ2⟩,h2,h⟩:=bs h;obtain⟨⟨z,δ3⟩,h3,h⟩:=bs h;obtain⟨⟨t,δ4⟩,h4,h⟩:=bs h;obtain⟨o,h5,h⟩:=bs h;cases h;refine⟨x,δ1,h1,y,δ2,h2,z,δ3,h3,t,δ4,h4,?_⟩;unfold stepOf at h5;dsimp only at h5|-
 split at h5
 .rename_i q
  split at h5
  .cases h5
  .rename_i n
   cases h5;refine⟨n,?_⟩;rw[show x.data=_ from q];exact k
 .cases h5
end
theorem Zql{f g:Y->Option β}:∀{l:List Y},(∀k∈l,f k=g k)->l.filterMap f=l.filterMap g
 | [],_=>rfl
 | a::l,h=>by
  rw[QX,QX,h a (!5),Zql λk hk=>h k (by simp[hk])]
def Zyk(xs:List Y):Zie xs YC YC (YB (-1))=xs.reverse:=by
 unfold Zie sliceRange BZ;simp only[Option.getD_some];have d0:¬((-1:Int)>0):=by decide
 simp only[YQ d0];have hc:(if(xs.length:Int)-1> -1 then((xs.length:Int)-1- -1- -1-1)/(- -1)else 0)=(xs.length:Int):=by
  split
  .simp
  .omega
 rw[hc,List.filterMap_map,QR];apply List.ext_getElem?;intro i;have hf:List.filterMap ((λx=>xs[x]?)∘ λk:Nat=>((xs.length:Int)-1+ -1*(k:Int)).toNat) (QJ xs.length)=xs.reverse:=by
  have:∀k∈QJ xs.length,((λx=>xs[x]?)∘ λk:Nat=>((xs.length:Int)-1+ -1*(k:Int)).toNat) k=xs.reverse[k]?:=λk hk=>by
   have hk:=VG.mp hk;show xs[((xs.length:Int)-1+ -1*(k:Int)).toNat]? =_;rw[List.getElem?_reverse hk];congr 1;omega
  rw[Zql this];have gen:∀(ys:List Y) (m:Nat),m=ys.length->List.filterMap (λk=>ys[k]?) (QJ m)=ys:=by
   intro ys
   induction ys with
   | nil=>intro m hm;subst hm;rfl
   | cons y ys ih=>
    intro m hm;subst hm;rw[XQ,List.range_succ_eq_map,QX];simp only[List.getElem?_cons_zero,List.filterMap_map];exact YW _ (ih _ rfl)
  exact gen _ _ (!5)
 rw[hf]
def Zsq(ds:List Xa):stepOf (.list ds) YC YC (YB (-1))=YB (.nd ((ds.reverse).map OT.fz)):=by
 show(if YB (-1:Int)=YB 0 then YC else _)=_;rw[Zyk];exact YQ (!1)
variable {G:Xc}
section
variable {X:Cx}{io:List Nat}{p c:Bool}{a b e:YJ}{mr:MAt}{ra:FA}{i:Nat}
def isFn(y:Str)(d:Xa):Bool:=match d with| .dict [(.str x,.bool YD)]=>decide (x=y)|_=>YF
end
def Zy5:List Int->Int
 | []=>0
 | x::xs=>xs.foldl min x
def Zvw(xs:List Int)(x:Int):xs.foldl min x∈x::xs/\∀a∈x::xs,xs.foldl min x<=a:=by
 induction xs generalizing x with
 | nil=>exact⟨.head _,λa h=>by rw[Xm.mp h];exact Int.le_refl _⟩
 | cons y ys ih=>
  obtain⟨h1,h2⟩:=ih (min x y);rw[List.foldl_cons];refine⟨?_,λa h=>?_⟩
  .rcases Xl.mp h1 with h|h
   .rw[h]
    rcases Int.le_total x y with z|z
    .rw[Int.min_eq_left z];exact .head _
    .rw[Int.min_eq_right z];exact .tail _ (!8)
   .exact .tail _ (.tail _ h)
  .have h0:=h2 _ (!8)
   rcases Xl.mp h with rfl|h
   .exact Int.le_trans h0 (Int.min_le_left ..)
   .rcases Xl.mp h with rfl|h
    .exact Int.le_trans h0 (Int.min_le_right ..)
    .exact h2 a (.tail _ h)
def Zob(h:0<ns.length):Zy5 ns∈ns/\∀a∈ns,Zy5 ns<=a:=by
 cases ns with
 | nil=>cases h
 | cons x xs=>exact Zvw xs x
def Ybz(K:Xc):List V->Hp->VK->Prop:=λxs H Q=>∃(a:YG) (ns:List Int),xs=[.ref a]/\SqL K H a (ns.map V.int)/\0<ns.length/\Q (.int (Zy5 ns)) H
def Zu2(hK:X.K=K)(hc:X.calm=YD):Zbe X (.builtin "min") (Ybz K):=by
 subst hK;intro pins s O H xs us Q I r h;obtain⟨a,ns,rfl,hs,hp,q⟩:=h;obtain⟨u,rfl,ru⟩:=vals1 r;cases(show u=X7 a from ru);obtain⟨its,rv,pl,hz⟩:=I.list hs;obtain⟨ps,rfl,e2⟩:=Zcq rv;have hl:ps.length=ns.length:=by rw[<-e2,Xf]
 refine min_intList (xs:=ps.toArray) (I.ok.hd hc) (by simpa [intItems]using pl.isList) (by simpa using hl▸hp) λv h' tk hv hk=>?_;obtain⟨t,rfl⟩:=intItems_at hv;obtain⟨h1,h2⟩:=argBest_lt (numAt ps.toArray) (ps.toArray.size-1);have hn:∀j,j<ps.length->numAt ps.toArray j=ns.getD j 0:=λj hj=>by
  rw[numAt_eq,<-e2]
 refine⟨.int (Zy5 ns),H,I.kept (t':=tk) hk,⟨t,?_⟩,q⟩;have sz:ps.toArray.size=ns.length:=by rw[XF,hl]
 rw[sz]at h1 h2|-
 obtain⟨m1,m2⟩:=Zob hp;congr 1;generalize ej:argBest (λi j=>decide (numAt ps.toArray i<numAt ps.toArray j)) (ns.length-1)=j at h1 h2|-
 rw[hn j (!0)];refine Int.le_antisymm ?_ (m2 _ ?_)
 .obtain⟨j',hj',e⟩:=List.getElem_of_mem m1
  have:=h2 j' (!0);rw[hn j (!0),hn j' (!0),Xu (i:=j'),Xi hj',e]at this;exact this
 .rw[Xu,Xi (!0)]
  exact Q6 _
def Z92:List Xa->(Xa->Prop)->Prop:=λds k=>n1 (λd=>∃ns:List Int,d= .list (ns.map Xo)/\0<ns.length/\k (.int (Zy5 ns))) ds
def Z7f:PNs G (Ybz G) Z92:=λH L xs ds k Q hx h kk=>by
 obtain⟨v,d,rfl,rfl,q,ns,e,hp,h'⟩:=hx.one h;subst e;obtain⟨a,rfl,hs⟩:=q.ints_sq;exact⟨a,ns,rfl,hs,hp,kk _ _ (.int _) h'⟩
def Zys:List Xa->Option Xa:=λds=>match ds with|[.list es]=>(Zdd es).bind λns=>if 0<ns.length then YB (.int (Zy5 ns))else YC|_=>YC
def Yff:∀ds r k,Zys ds=YB r->k r->Z92 ds k:=λds r k h hk=>by
 unfold Zys at h;split at h
 case h_2=>cases h
 obtain⟨ns,h1,h⟩:=bs h
 by_cases hp:0<ns.length
 .rw[YM hp]at h
  cases h;exact⟨ns,by rw[Zaq h1],hp,hk⟩
 .rw[YQ hp]at h;cases h
section
variable {X:Cx}{io:List Nat}{p c:Bool}{a:YJ}{mr:MAt}{ra:FA}
end
variable {G:Xc}
def Z99{p:Y->Prop}{a b c d:Y}(h1:p a)(h2:p b)(h3:p c)(h4:p d):∀x∈[a,b,c,d],p x:=by
 intro x hx;rcases Xl.mp hx with rfl|hx
 .exact h1
 rcases Xl.mp hx with rfl|hx
 .exact h2
 rcases Xl.mp hx with rfl|hx
 .exact h3
 rcases Xm.mp hx with rfl;exact h4
def Yiz{p:Y->Prop}{a b c d e:Y}(h1:p a)(h2:p b)(h3:p c)(h4:p d)(h5:p e):∀x∈[a,b,c,d,e],p x:=λx hx=>(Xl.mp hx).elim (λq=>q▸h1) (Z99 h2 h3 h4 h5 x)
def no4{a b c d x:Y}(h1:x≠a)(h2:x≠b)(h3:x≠c)(h4:x≠d):x∉[a,b,c,d]:=λhx=>Z99 (p:=λy=>x≠y) h1 h2 h3 h4 x hx rfl
def SqB(K:Xc)(t:Bool)(H:Hp)(a:YG)(xs:List V):Prop:=match t with|true=>H a=YB (.tup xs)|false=>SqL K H a xs
def IsB(t:Bool)(h:YH)(a:YG)(its:Array Xd):Prop:=match t with|true=>IsTup h a its|false=>h.IsList a its
def ItB(t:Bool)(h:YH)(it a:YG)(i:Nat):Prop:=match t with|true=>IsTupIter h it a i|false=>h.IsListIter it a i
theorem ItB.at{t:Bool}{h h':YH}{it a:YG}{i:Nat}(x:ItB t h it a i)(k:∀o,h.get? it=YB o->h'.get? it=YB o):ItB t h' it a i:=by
 cases t with
 | false=>exact Heap.IsListIter.at x k
 | true=>
  obtain⟨o,ho,r⟩:=x;exact⟨o,k o ho,r⟩
theorem ItB.obj{t:Bool}{it:YG}(x:ItB t h it a i):∃o,h.get? it=YB o/\∀v,o.data≠ .cell v:=by
 cases t with
 | false=>
  obtain⟨o,ho,_,d⟩:=x;exact⟨o,ho,λv q=>by rw[d]at q;cases q⟩
 | true=>
  obtain⟨o,ho,_,d⟩:=x;exact⟨o,ho,λv q=>by rw[d]at q;cases q⟩
theorem IsB.lt{t:Bool}{its:Array Xd}(x:IsB t h a its):a<h.objs.size:=by
 cases t with
 | false=>
  obtain⟨o,ho,_⟩:=x;exact Xz ho
 | true=>
  obtain⟨o,ho,_⟩:=x;exact Xz ho
theorem SqB.its{O:St}{t:Bool}(I:Inv X pins O H s)(h:SqB X.K t H a xs):∃its:List Xd,Vals xs its/\IsB t s.heap a its.toArray:=by
 cases t with
 | false=>
  obtain⟨its,r,p,_⟩:=I.list h;exact⟨its,r,p.isList⟩
 | true=>
  obtain⟨_,its,r,p⟩:=(show ObjOk X.prog X.w H s.heap a (.tup xs)from I.hok a _ h);exact⟨its,r,p⟩
theorem SqB.inj{O:St}{t:Bool}(I:Inv X pins O H s)(h:SqB X.K t H a xs)(k:SqB X.K t H a ys):xs=ys:=by
 cases t with
 | false=>exact I.list_inj h k
 | true=>
  have:=(show H a=YB (.tup xs)from h).symm.trans k;cases this;rfl
section
variable {P:XH}{w:Ql}
def Zwp{t:Bool}{it:YG}{x:Xd}(hx:items[i]? =YB x):Gives P w it [it,a] (λh=>ItB t h it a i/\IsB t h a items) x (λh=>ItB t h it a (i+1)):=by
 cases t with
 | true=>exact Zvo hx
 | false=>
  exact⟨.head _,λst hQ=>wpAny_nextOf_list_item st.1 st.2 hx hQ,λh h' k st=>⟨Heap.IsListIter.at st.1 λo e=>k it (!8) o e,by
   obtain⟨o,ho,r⟩:=st.2;exact⟨o,k a (!15) o ho,r⟩⟩,λh h' k st=>Heap.IsListIter.at st λo e=>k it (!8) o e⟩
def Yez{t:Bool}{it:YG}(hx:items[i]? =YC):Zkx P w it [it,a] (λh=>ItB t h it a i/\IsB t h a items):=by
 cases t with
 | true=>exact Z0g hx
 | false=>
  exact⟨.head _,λhh st hE=>wpAny_nextOf_list_end hh st.1 st.2 hx hE,λh h' k st=>⟨Heap.IsListIter.at st.1 λo e=>k it (!8) o e,by
   obtain⟨o,ho,r⟩:=st.2;exact⟨o,k a (!15) o ho,r⟩⟩⟩
end
def Ylr(K:Xc)(t:Bool)(a b:YG):It :=
 ⟨λi H=>∃xs ys x y,SqB K t H a xs/\SqB K t H b ys/\xs[i]? =YB x/\ys[i]? =YB y,
   λi H v H'=>∃p x y,H p=YC/\v= .ref p/\H'=upd H p (.tup [x,y])/\(∀xs,SqB K t H a xs->xs[i]? =YB x)/\∀ys,SqB K t H b ys->ys[i]? =YB y,
   λi H=>∃xs ys,SqB K t H a xs/\SqB K t H b ys/\(xs.length<=i\/ys.length<=i)⟩
def Ymc(t:Bool)(z TI TO i1 i2 a b:YG)(i:Nat)(h:YH):Prop:=IsZip h z TI TO .none/\Vt h TI (.ref i1) (.ref i2)/\(∃x y,Vt h TO x y)/\ItB t h i1 a i/\ItB t h i2 b i
def Zxq{kk:Nat}{t:Bool}{z TI TO i2 b:YG}(D:ZA z TI TO i1 i2 [i1,a] [i2,b])(D2:TI≠TO/\TI≠i1/\TI≠i2):Turn P w K (.Tuple es kk pos) (Ylr K t a b) [z,TI,TO,i1,i2] z (Ymc t z TI TO i1 i2 a b) where
 mem:=.head _
 obj:=λi h st=>by
  obtain⟨s1,s2,⟨x,y,s3⟩,s4,s5⟩:=st;exact Yiz ⟨_,s1,λv q=>by cases q⟩ ⟨_,s2,λv q=>by cases q⟩ ⟨_,s3,λv q=>by cases q⟩ s4.obj s5.obj
 keep:=λi h h' st k=>by
  obtain⟨s1,s2,⟨x,y,s3⟩,s4,s5⟩:=st;have m2:TI∈[z,TI,TO,i1,i2]:=.tail _ (!8);have m3:TO∈[z,TI,TO,i1,i2]:=.tail _ (!15);have m4:i1∈[z,TI,TO,i1,i2]:=.tail _ (.tail _ (!15));have m5:i2∈[z,TI,TO,i1,i2]:=.tail _ (.tail _ (.tail _ (!15)));exact⟨k z (!8) _ s1,k TI m2 _ s2,⟨x,y,k TO m3 _ s3⟩,s4.at (k i1 m4),s5.at (k i2 m5)⟩
 item:=by
  intro X hP hw hK hc i pins s O H E I hf st hg;subst hP hw hK;obtain⟨s1,s2,⟨x0,y0,s3⟩,s4,s5⟩:=st;obtain⟨xs,ys,x,y,hx,hy,ex,ey⟩:=hg;obtain⟨its,rx,px⟩:=hx.its I;obtain⟨its',ry,py⟩:=hy.its I;obtain⟨u,hu,ru⟩:=rx.get ex;obtain⟨u',hu',ru'⟩:=ry.get ey;rw[<-List.getElem?_toArray]at hu hu';refine Zr6 D (Zwp hu) (Zwp hu') s1 s2 s3 ⟨s4,px⟩ ⟨s5,py⟩ λh' g1 g2 g3 g4 g5 g6=>?_;refine⟨_,rfl,wpAny_letOwnedTupleGo_zip (s:={ s with heap:=h' }) g1 λh2 z2 sb=>?_⟩;have up:∀c o,c≠z->h'.get? c=YB o->h2.get? c=YB o:=λc o n e=>(sb.2 c n).trans e;have kp:∀c o,c∉[z,TO,i1,i2]->s.heap.get? c=YB o->h2.get? c=YB o:=λc o n e=>up c o (λq=>n (q▸ .head _)) (g6 c o n e);have t5:Vt h2 s.heap.objs.size u u':=up _ _ (XX (Xz s1)) g5;have i1z:=(D.a1 i1 (!8)).1;have i2z:=(D.a2 i2 (!8)).1;have n3:=g3.at (up i1 · i1z);have n4:=g4.at (up i2 · i2z);obtain⟨f1,f2,f3,f4,f5⟩:(Zkw X pins H z/\Zkw X pins H TI/\Zkw X pins H TO/\Zkw X pins H i1/\Zkw X pins H i2):=⟨hf _ (!8),hf _ (!15),hf _ (.tail _ (!15)),hf _ (.tail _ (.tail _ (!15))),hf _ (.tail _ (.tail _ (.tail _ (!15))))⟩;have I2:Inv X pins O (upd H s.heap.objs.size (.tup [x,y])) { s with heap:=h2 } :=
   I.turnTup (ch:=[z,TO,i1,i2]) (its:=[u,u']) (Z99 f1 f3 f4 f5) kp (Z99 ⟨_,z2⟩ ⟨_,up _ _ D.TOz g2⟩ (n3.obj.imp λ_ q=>q.1) (n4.obj.imp λ_ q=>q.1)) (Xx _) Ydq (.cons ru (.cons ru' .nil)) ⟨_,t5,rfl,0,rfl⟩
  have lt:∀{c:YG} {o:Obj},s.heap.get? c=YB o->Zkw X pins H c->upd H s.heap.objs.size (.tup [x,y]) c=YC:=λe f=>by rw[Zz (Xn (Xz e))];exact f.1
  refine⟨.ref s.heap.objs.size,_,I2,rfl,⟨_,x,y,I.fresh,rfl,rfl,λzs hz=>by rw[hz.inj I hx];exact ex,λzs hz=>by rw[hz.inj I hy];exact ey⟩,⟨z2,kp TI _ (no4 D.TIz D2.1 D2.2.1 D2.2.2) s2,⟨_,_,up _ _ D.TOz g2⟩,n3,n4⟩,?_⟩;obtain⟨o4,e4,_⟩:=s4.obj;obtain⟨o5,e5,_⟩:=s5.obj;exact Yiz (lt s1 f1) (lt s2 f2) (lt s3 f3) (lt e4 f4) (lt e5 f5)
 done:=by
  intro X hP hw hK hc i pins s O H E I hf st hg;subst hP hw hK;obtain⟨s1,s2,⟨x0,y0,s3⟩,s4,s5⟩:=st;obtain⟨xs,ys,hx,hy,he⟩:=hg;obtain⟨its,rx,px⟩:=hx.its I;obtain⟨its',ry,py⟩:=hy.its I;have l1:=rx.length;have l2:=ry.length;refine Zw6 (I.ok.hd hc) D (S1:=λh=>ItB t h i1 a i/\IsB t h a its.toArray) (T1:=λh=>ItB t h i1 a (i+1)) (S2:=λh=>ItB t h i2 b i/\IsB t h b its'.toArray) ?_ s1 s2 s3 ⟨s4,px⟩ ⟨s5,py⟩ λh' k=>⟨rfl,I.turnAll (ch:=[z,TO,i1,i2]) (Z99 (hf _ (!8)) (hf _ (.tail _ (!15))) (hf _ (.tail _ (.tail _ (!15)))) (hf _ (.tail _ (.tail _ (.tail _ (!15)))))) k⟩;cases q:its.toArray[i]? with
  | none=>exact .inl (Yez q)
  | some v=>
   refine .inr ⟨⟨v,Zwp q⟩,Yez ?_⟩;have:=(Uc.mp q).1;rw[XF]at this;rw[Array.getElem?_eq_none_iff,XF];omega
 self:=λ_ _ _ _ _ st h=>wpAny_pyIter_zip st.1 h
def Zug{t:Bool}{b:YG}{xs ys:Array Xd}(h1:IsB t s.heap a xs)(h2:IsB t s.heap b ys)
  (h:∀h' n,n=s.heap.objs.size->IsZip h' (n+4) (n+2) (n+3) .none->Vt h' (n+2) (.ref n) (.ref (n+1))->Vt h' (n+3) .none .none->ItB t h' n a 0->ItB t h' (n+1) b 0 ->
   (∀ c o,s.heap.get? c=YB o->h'.get? c=YB o)->Q (.ref (n+4)) { s with heap:=h' }):Xy (X4 P w) A (call (.type "zip") [.ref a,.ref b]) Q E s:=by
 cases t with
 | true=>exact Zyr h1 h2 h
 | false=>exact call_zip_2 h1 h2 λh' g1 g2 g3 g4 g5 _ g7=>h h' _ rfl g1 g2 g3 g4 g5 g7
def Yjb(K:Xc)(ta:TA):TI:=λO H R=>ta O H λvs H1=>∃t a b,vs=[.ref a,.ref b]/\(∃xs,SqB K t H1 a xs)/\(∃ys,SqB K t H1 b ys)/\R (Ylr K t a b) H1
def Z6q{a:YJ}{ta:TA}{p pt:Pos}{kk:Nat}(hK:X.K=K)(hg:Gl X "zip")(hm:X.mg "zip"=YC)(hv:Qd "zip"=YB (.type "zip"))(ha:PA X [a,b] ta)
  (he:Xr [a,b] X.env=(YF,eval a X.env)::Xr [b] X.env:=by rfl) (hpl:(Ba pos (Xr [b] X.env)).any (·.1)=YF:=by rfl) :
  PI X (.Tuple es kk pt) (.Call (.Name "zip" p) [a,b] [] pos) (Yjb K ta):=by
 subst hK;intro pins s O H R I h;refine Vx (Zjg I hg hm hv ?_ (!1) (!1));refine VJ (thn (ha pos pins s O H _ I h) λus s1 q=>?_) he hpl;obtain⟨vs,H1,I1,r1,t,l1,l2,e1,⟨xs,hx⟩,⟨ys,hy⟩,q⟩:=q;subst e1;obtain⟨u,u',rfl,ru,ru'⟩:=vals2 r1;cases(show u=X7 l1 from ru);cases(show u'=X7 l2 from ru');obtain⟨its,rx,px⟩:=hx.its I1;obtain⟨its',ry,py⟩:=hy.its I1;refine Zug px py λh' n en g1 g2 g3 g4 g5 g7=>?_;have I2:Inv X pins O H1 { s1 with heap:=h' }:=I1.kept (t':=s1.toks) g7;refine wpAny_pyIter_zip (s:={ s1 with heap:=h' }) g1 ?_;refine⟨_,[_,_,_,_,_],Ymc _ _ _ _ _ _ _ _,_,H1,rfl,I2,Zxq (ZA.new (en▸px.lt) (en▸py.lt)) (ZA.new2 n),⟨g1,g2,⟨_,_,g3⟩,g4,g5⟩,?_,q⟩;subst en;have ok:∀k:Nat,Zkw X pins H1 (s1.heap.objs.size+k):=λk=>I1.fpOk (Vb _ _) (I1.hok.fresh (Vb _ _));exact Yiz (ok 4) (ok 2) (ok 3) (ok 0) (ok 1)
section
variable {X:Cx}{io:List Nat}{p c:Bool}{a b:YJ}{mr:MAt}{ra:FA}
def Ygl(t:Bool)(as:List Xa):Xa:=match t with|true=>.tuple as|false=>.list as
def Rel.keptSq{C:MC G}{H:Hp}{O:St}{δ:Zg}{fp:Fp}{ex:YG->Prop}{v:V}{t:Bool}{ds:List Xa}(R:Rel C io H O δ fp ex)(q:Da G H (λa=>c=YD->Lf C fp ex a) v (Ygl t ds)) :
  ∃a xs,v= .ref a/\∀H':Hp,(∀b o,H b=YB o->(c=YF\/¬Foot fp b)->H' b=YB o)->SqB G t H' a xs/\Das G H' (λa=>c=YD->(Lf C fp ex a/\H a≠YC)) xs ds:=by
 cases t with
 | false=>exact R.keptList q
 | true=>
  generalize hd:Ygl YD ds=d at q;cases q with
  | tup e r=>
   cases hd;rename_i a0 xs0;refine⟨a0,xs0,rfl,λH' kp=>?_⟩;obtain⟨f1,f2⟩:=R.kept kp;exact⟨f2 _ (.tup _) e,r.frame f1 f2⟩
  | _=>cases hd
def Z00{es:List Xa}(h:Z8w ds=YB es):∃t as bs,ds=[Ygl t as,Ygl t bs]/\es=Zpw as bs:=by
 unfold Z8w at h;split at h
 .cases h;exact⟨YF,_,_,rfl,rfl⟩
 .cases h;exact⟨YD,_,_,rfl,rfl⟩
 .cases h
def iZB(mr:MAt):MIt:=λδ K=>mr δ λrs δ'=>∃es,Z8w (OT.datas rs)=YB es/\K es δ'
def Zw8{p' pt:Pos}{kk:Nat}(hg:Gl X "zip")(hm:X.mg "zip"=YC)(hv:Qd "zip"=YB (.type "zip"))(ha:MA X io p c [a,b] mr)
  (he:Xr [a,b] X.env=(YF,eval a X.env)::Xr [b] X.env:=by rfl) (hpl:(Ba pos (Xr [b] X.env)).any (·.1)=YF:=by rfl):MI X io p c (.Tuple es kk pt) (.Call (.Name "zip" p') [a,b] [] pos) (iZB mr):=by
 obtain⟨_,A,s⟩:=ha;refine⟨_,Z6q rfl hg hm hv A he hpl,λC H O δ fp ex K' Q R h kk=>s C H O δ fp ex _ _ R h λH1 vs rs δ1 fp1 new r1 h1=>?_⟩;have q:=r1.das R;obtain⟨es,hz,h1⟩:=h1;obtain⟨t,as,bs,e,rfl⟩:=Z00 hz;rw[e]at q;cases q with
 | cons q1 q2=>
  cases q2 with
  | cons q2 q3=>
   cases q3;have R1:=r1.base;obtain⟨l1,xs,rfl,k1⟩:=R1.keptSq q1;obtain⟨l2,ys,rfl,k2⟩:=R1.keptSq q2;refine⟨t,l1,l2,rfl,⟨_,(k1 H1 λ_ _ e _=>e).1⟩,⟨_,(k2 H1 λ_ _ e _=>e).1⟩,kk _ H1 _ δ1 fp1 R1 r1.stp (λH' kp i=>?_) h1⟩;obtain⟨s1,d1⟩:=k1 H' kp;obtain⟨s2,d2⟩:=k2 H' kp;refine⟨λd hd=>?_,λhd=>⟨_,_,s1,s2,by rw[d1.length,d2.length];exact Zvb hd⟩⟩;obtain⟨x,y,hx,hy,rfl⟩:=Zre hd;obtain⟨u,hu,qu⟩:=d1.get hx;obtain⟨w,hw,qw⟩:=d2.get hy;refine⟨⟨_,_,u,w,s1,s2,hu,hw⟩,λv H'' hyl=>?_⟩;obtain⟨t',u',w',ht,rfl,rfl,hu',hw'⟩:=hyl;cases hu.symm.trans (hu' _ s1);cases hw.symm.trans (hw' _ s2);exact⟨Z9 ht _,.tup Z8 (.cons (qu.same (Z9 ht _)) (.cons (qw.same (Z9 ht _)) .nil))⟩
def Zuk(g:MI X io p c tg e (iZB (o2 ra))):MI X io p c tg e (o2 (Zmu ra)):=g.weak λδ K h=>by
 obtain⟨r,δ',h,k⟩:=h;obtain⟨⟨x,δ1⟩,h1,h⟩:=bs h;obtain⟨ds,h2,h⟩:=bs h;cases h;exact⟨x,_,h1,_,h2,k⟩
end
end L2
namespace L2
open PySem PySem.Spec PyProof.Rows PySem.W
def kEv(lt:Nat->Nat->Bool):KasT Y->Y
 | .ret a=>a
 | .ask i j k=>kEv lt (k (lt i j))
def kGood(n:Nat)(P:Y->Prop):KasT Y->Prop
 | .ret a=>P a
 | .ask i j k=>i<n/\j<n/\∀b,kGood n P (k b)
theorem kGood.bind{n:Nat}{P:Y->Prop}{R:β->Prop}{f:Y->KasT β}(hf:∀a,P a->kGood n R (f a)){t:KasT Y}(h:kGood n P t):kGood n R (t.bind f):=by
 induction t with
 | ret a=>exact hf a h
 | ask i j k ih=>exact⟨h.1,h.2.1,λb=>ih b (h.2.2 b)⟩
def kGood.ev{n:Nat}{P:Y->Prop}{lt:Nat->Nat->Bool}{t:KasT Y}(h:kGood n P t):P (kEv lt t):=by
 induction t with
 | ret a=>exact h
 | ask i j k ih=>exact ih _ (h.2.2 _)
def kGood.wp{n:Nat}{P:Y->Prop}{lt:Nat->Nat->Bool}{cmp:Nat->Nat->(Bool->Xg->Prop)->Xg->Prop}{Q:Y->Xg->Prop}(hc:∀i j C,i<n->j<n->C (lt i j) s->cmp i j C s){t:KasT Y}(h:kGood n P t)(q:Q (kEv lt t) s):t.kasWp cmp Q s:=by
 induction t with
 | ret a=>exact q
 | ask i j k ih=>exact hc i j _ h.1 h.2.1 (ih _ (h.2.2 _) q)
def kP(n:Nat)(p:Array Nat):Prop:=p.toList.Perm (QJ n)
theorem kP.at{n:Nat}{p:Array Nat}(h:kP n p)(h0:0<n)(i:Nat):p.getD i 0<n:=by
 by_cases c:i<p.size
 .have e:p.getD i 0=p[i]:=by simp[Array.getD,c]
  rw[e];exact VG.mp (h.mem_iff.mp (Array.getElem_mem_toList c))
 .have e:p.getD i 0=0:=by simp[Array.getD,c]
  rw[e];exact h0
def kP.rev{n:Nat}{p:Array Nat}(h:kP n p)(i j:Nat):kP n (kas_rev p i j):=(Array.perm_iff_toList_perm.mp (mirror_perm p i j _)).trans h
def kP.bub{n:Nat}{p:Array Nat}(h:kP n p)(i j:Nat):kP n (bubble p i j):=(Array.perm_iff_toList_perm.mp (bubble_perm p i j)).trans h
def Zqx{n:Nat}{p:Array Nat}(h:kP n p)(h0:0<n)(f m:Nat):kGood n (λ_=>True) (kas_asc p f m):=by
 induction f generalizing m with
 | zero=>exact trivial
 | succ f ih=>
  refine⟨h.at h0 _,h.at h0 _,λb=>?_⟩;cases b
  .exact ih _
  .exact trivial
def Zyl{n:Nat}(h0:0<n)(f:Nat){p:Array Nat}(h:kP n p)(m q:Nat):kGood n (λr:Array Nat×Nat×Nat=>kP n r.1) (kas_desc f p m q):=by
 induction f generalizing p m q with
 | zero=>exact h
 | succ f ih=>
  refine⟨h.at h0 _,h.at h0 _,λb=>?_⟩;cases b
  .refine⟨h.at h0 _,h.at h0 _,λb=>?_⟩
   cases b
   .exact ih h _ _
   .exact h
  .show kGood n _ (if q>0 then _ else _)
   split
   .exact ih (h.rev _ _) _ _
   .exact ih h _ _
def Zn1{n:Nat}{p:Array Nat}(h:kP n p)(h0:0<n)(m r:Nat):kGood n (λr:Nat×Array Nat=>kP n r.2) (kas_tail3 m r p):=by
 refine kGood.bind (P:=λ_=>True) (λa _=>?_) (Zqx (h.rev _ _) h0 _ _);exact h.rev _ _
def Zfu{n:Nat}{p:Array Nat}(h:kP n p)(h0:0<n)(m r:Nat):kGood n (λr:Nat×Array Nat=>kP n r.2) (kas_descPart m r p) :=
 (Zyl h0 _ h _ _).bind λx hx=>by
  show kGood n _ (if x.2.2>0 then _ else _);split
  .exact Zn1 (hx.rev _ _) h0 _ _
  .exact Zn1 hx h0 _ _
def Zs4{n:Nat}{p:Array Nat}(h:kP n p)(h0:0<n)(r:Nat):kGood n (λr:Nat×Array Nat=>kP n r.2) (kas_count r p) :=
 (Zqx h h0 _ _).bind λm _=>by
  show kGood n _ (if(m==r)=YD then _ else if m>1 then _ else _);split
  .exact h
  .split
   .refine⟨h.at h0 _,h.at h0 _,λb=>?_⟩
    cases b
    .exact Zfu (h.rev _ _) h0 _ _
    .exact h
   .exact Zfu h h0 _ _
def Zsi{n:Nat}{p:Array Nat}(h:kP n p)(h0:0<n)(k f l r:Nat):kGood n (λ_=>True) (kas_place p k f l r):=by
 induction f generalizing l r with
 | zero=>exact trivial
 | succ f ih=>
  show kGood n _ (if l>=r then _ else _);split
  .exact trivial
  .refine⟨h.at h0 _,h.at h0 _,λb=>?_⟩
   cases b
   .exact ih _ _
   .exact ih _ _
def Z05{n:Nat}(h0:0<n)(f:Nat){p:Array Nat}(h:kP n p)(k:Nat):kGood n (kP n) (kas_bin f p k):=by
 induction f generalizing p k with
 | zero=>exact h
 | succ f ih=>exact(Zsi h h0 _ _ _ _).bind λl _=>ih (h.bub _ _) _
def Zi7{n:Nat}(h0:0<n):kGood n (kP n) (kas_sort n) :=
 (Zs4 (p:=Uk (QJ n)) (.refl _) h0 n).bind λr hr=>by
  show kGood n _ (if r.1<n then _ else _);split
  .exact Z05 h0 _ hr _
  .exact hr
def Ztl(lt:Nat->Nat->Bool)(n:Nat):List Nat:=(kEv lt (kas_sort n)).toList
def Zh2{lt:Nat->Nat->Bool}{n:Nat}(h0:0<n):(Ztl lt n).Perm (QJ n):=(Zi7 h0).ev (P:=kP n)
end L2
namespace L2
open PySem PySem.Spec PyProof.Rows PySem.W PySem.SeqAt
open PySem.AutoSeq1 (wpAny_loadPart')
open MeetsSeq MeetsSeq2 MeetsSeq3 SeqRoads2
def ltI:List Int->List Int->Bool
 | [],[]=>YF
 | [],_::_=>YD
 | _::_,[]=>YF
 | x::xs,y::ys=>if x=y then ltI xs ys else decide (x<y)
def Zrm(h:Vd vs ns)(i:Nat)(hi:i<vs.length):∃x t,vs[i]? =YB (.int x t)/\ns.drop i=x::ns.drop (i+1):=by
 induction h generalizing i with
 | nil=>exact YZ hi (UT i)
 | cons n t h ih=>
  cases i with
  | zero=>exact⟨n,t,rfl,rfl⟩
  | succ i=>exact ih i (Nat.lt_of_succ_lt_succ hi)
def Zd5(h:Vd vs ns):vs.length=ns.length:=by
 induction h with
 | nil=>rfl
 | cons n t h ih=>exact YW Nat.succ ih
def Zmp{xs ys:List Int}(h:xs=[]\/ys=[]):ltI xs ys=decide (xs.length<ys.length):=by
 cases xs<;>cases ys<;>first|rfl|(rcases h with h|h<;>cases h)|exact(YS (Nat.succ_pos _)).symm
def Zxz(l b:YG)(items items2:Array Xd)(n n2:Nat)(dd dd2:Option YG)(sl sl2:Array (Option Xd)){xs ys:List Int}(h1:Vd items.toList xs)(h2:Vd items2.toList ys)(k:Nat) :
  ∀i:Nat,items.size-i=k->i<=items.size->i<=items2.size->Meets (BR.«list.__eq__.loop» ⟨[.ref l,.ref b,JS i,JS 0],[]⟩)
   (λA R s=>s.heap.get? l=YB { cls:=.type "list",dict:=dd,data:=.seq items n,slots:=sl }/\s.heap.get? b=YB { cls:=.type "list",dict:=dd2,data:=.seq items2 n2,slots:=sl2 }/\
    R (.ok (.ret (.bool (ltI (xs.drop i) (ys.drop i))))) s):=by
 have e1:items.size=xs.length:=Zd5 h1;have e2:items2.size=ys.length:=Zd5 h2;have fin:∀i,i<=items.size->i<=items2.size->(i=items.size\/i=items2.size)->ltI (xs.drop i) (ys.drop i)=decide (items.size<items2.size):=λi u1 u2 c=>by
  rw[Zmp (c.imp (λc=>U5 (!0)) λc=>U5 (!0)),JK,JK];exact decide_eq_decide.mpr (!0)
 induction k with
 | zero=>
  intro i hk u1 u2 prog w A R s h;obtain⟨hp,g,d,tk,os⟩:=s;obtain⟨hl,hb,h⟩:=h
  wp_walk using Qm hl,Qm hb
  have hi1:items[((i:Nat):Int).toNat]? =YC:=by simp;omega
  rw[fin i u1 u2 (.inl (!0))]at h;rw[hi1]
  wp_walk using Qm hl,Qm hb
  exact h
 | succ k ih=>
  intro i hk u1 u2 prog w A R s h;obtain⟨hp,g,d,tk,os⟩:=s;obtain⟨hl,hb,h⟩:=h;have hlt:i<items.size:=by omega
  obtain⟨x,t,q1,q2⟩:=Zrm h1 i hlt;have hi1:items[((i:Nat):Int).toNat]? =YB (.int x t):=by rw[QR,<-q1,Qc]
  wp_walk using Qm hl,Qm hb
  by_cases c:i<items2.size
  .obtain⟨y,u,q3,q4⟩:=Zrm h2 i c
   have hi2:items2[((i:Nat):Int).toNat]? =YB (.int y u):=by rw[QR,<-q3,Qc]
   have hc:((i:Int)+1)=((i+1:Nat):Int):=by push_cast;rfl
   rw[q2,q4]at h;unfold ltI at h;rw[hi1,hi2];refine Xb (EqAt.int_int x t y u prog w _ _ ?_)
   by_cases cx:x=y
   .rw[YM cx]at h
    rw[ZC.mpr cx]
    wp_walk
    rw[hc];exact⟨VH Ue _,Bs entry_eq_loop (by
     rw[JX Ue _];exact ih (i+1) (!0) (!0) (!0) prog w A R _ ⟨hl,hb,h⟩)⟩
   .rw[YQ cx]at h
    rw[beq_eq_false_iff_ne.mpr cx]
    wp_walk using Qm hl,Qm hb
    rw[hi1,hi2];refine Xb (lt_int ?_)
    wp_walk
    exact h
  .have hi2:items2[((i:Nat):Int).toNat]? =YC:=by simp;omega
   rw[fin i u1 u2 (.inr (!0))]at h;rw[hi1,hi2]
   wp_walk using Qm hl,Qm hb
   exact h
theorem Zun(l b:YG)(items items2:Array Xd)(n n2:Nat)(dd dd2:Option YG)(sl sl2:Array (Option Xd)){xs ys:List Int}(h1:Vd items.toList xs)(h2:Vd items2.toList ys) :
  Meets (BR.«list.__lt__» ⟨[.ref l,.ref b],[]⟩)
   (λA R s=>s.heap.get? l=YB { cls:=.type "list",dict:=dd,data:=.seq items n,slots:=sl }/\s.heap.get? b=YB { cls:=.type "list",dict:=dd2,data:=.seq items2 n2,slots:=sl2 }/\
    R (.ok (.ret (.bool (ltI xs ys)))) s):=by
 intro prog w A R s h;obtain⟨hp,g,d,tk,os⟩:=s;obtain⟨hl,hb,h⟩:=h;have f3:=AutoSeq1.sub_list_list
 wp_walk using Qm hl,Qm hb
 exact⟨VH Ue _,Bs entry_eq_loop (by
  rw[JX Ue _];exact Zxz l b items items2 n n2 dd dd2 sl sl2 h1 h2 _ 0 rfl (Qp _) (Qp _) prog w A R _ ⟨hl,hb,h⟩)⟩
def Ydc{a b:Int}{t u:Tok}(h:Q (.bool (decide (a<b))) s):Xy (X4 prog w) A (richCompare .Lt (.int a t) (.int b u)) Q E s:=lt_int h
end L2
namespace L2
open PySem PySem.Spec PyProof.Rows PySem.W
def sLay(d:Y)(lt:Nat->Nat->Bool)(vs:List Y):List Y:=if vs.length<2 then vs else(Ztl lt vs.length).map λi=>vs.getD i d
def Zsf(d:Y)(vs:List Y):((QJ vs.length).map λi=>vs.getD i d)=vs:=by
 refine List.ext_getElem? λi=>?_;rw[Xq]
 by_cases c:i<vs.length
 .rw[List.getElem?_range c,Xi c]
  show YB (vs.getD i d)=_;rw[Xu,Xi c];rfl
 .rw[Bk (by rw[JW];omega),Bk (!0)];rfl
def Znp(d:Y)(lt:Nat->Nat->Bool)(vs:List Y):(sLay d lt vs).Perm vs:=by
 unfold sLay;split
 .exact .refl _
 .have:=(Zh2 (lt:=lt) (n:=vs.length) (!0)).map λi=>vs.getD i d
  rwa[Zsf]at this
def Zw9{lt:Nat->Nat->Bool}(h:Vals xs us):Vals (sLay .non lt xs) (sLay .none lt us):=by
 unfold sLay;rw[h.length];split
 .exact h
 .generalize Ztl lt _=l
  induction l with
  | nil=>exact .nil
  | cons i l ih=>
   refine .cons ?_ ih;show RelV (xs.getD i V.non) (us.getD i QF);rw[Xu,Xu];cases e:xs[i]? with
   | some x=>
    obtain⟨u,e',r⟩:=h.get e;rw[e'];exact r
   | none=>
    have:us[i]? =YC:=Bk (by rw[<-h.length];exact Q4.mp e);rw[this];exact rfl
def Zr4{κ:Uu}{lt:Nat->Nat->Bool}{h0:YH}{n:Nat}{P:PySem.Fin->Xg->Prop}(ho:s.heap.get? a=YB (Vn "list" vs.toArray n))
  (k0:∀b o,h0.get? b=YB o->s.heap.get? b=YB o) (ha0:h0.get? a=YC) (h64:vs.length<64)
  (hk:2<=vs.length->∀s':Xg,(∀b o,h0.get? b=YB o->s'.heap.get? b=YB o)->∀Q:Uu->Xg->Prop,Q κ s'->Xy (X4 prog w) A (keyKind' vs.toArray) Q E s')
  (hc:2<=vs.length->∀s':Xg,(∀b o,h0.get? b=YB o->s'.heap.get? b=YB o)->∀i j C,i<vs.length->j<vs.length->C (lt i j) s'->kas_ask prog w A κ vs i j C s')
  (h:P (.done (.ret .none)) { s with heap:=sortedHeap s.heap a vs (Uk (sLay QF lt vs)) }):Xy (X4 prog w) A (BR.«list.sort» ⟨[.ref a],[]⟩) P E s:=by
 have ha:a<s.heap.objs.size:=Xz ho;obtain⟨e1,ho1⟩:∃e1,(s.heap.update a (BJ λ_=>(#[]:Array Xd))).get? a=YB (Vn "list" #[] e1):=⟨_,get?_update_seq ho λ_=>#[]⟩;have ho6:(((s.heap.update a (BJ λ_=>(#[]:Array Xd))).push (Vn "tuple" vs.toArray 0)).push (Vn "list" #[] 0)).get? a=YB (Vn "list" #[] e1):=Xe _ (Xe _ ho1);have k6:∀b o,h0.get? b=YB o->(((s.heap.update a (BJ λ_=>(#[]:Array Xd))).push (Vn "tuple" vs.toArray 0)).push (Vn "list" #[] 0)).get? b=YB o:=λb o e=>by
  refine Xe _ (Xe _ ?_);rw[Heap.get?_update_ne _ _ _ _ (λq=>by rw[q,ha0]at e;cases e)];exact k0 b o e
 rw[list_sort_plain];refine Xb (listItems_at ho rfl ?_);refine Xb (listUpdate_at ho rfl ?_ (by rw[XF,Qe];omega) (Qp _));refine Xb (seqEpoch_at ho1 rfl ?_);refine Xb (wpAny_newTuple ?_ (by show vs.length<=_;rw[Qe];omega));refine Xb (wpAny_newList ?_ (Qp _));refine BP ?_;show Xy (X4 prog w) A _ P E { s with heap:=((s.heap.update a (BJ λ_=>(#[]:Array Xd))).push (Vn "tuple" vs.toArray 0)).push (Vn "list" #[] 0) };dsimp only;have hs:vs.toArray.size=vs.length:=XF ..
 by_cases h2:vs.toArray.size<2
 .have el:sLay QF lt vs=vs:=YM (hs▸h2)
  rw[el]at h;rw[YM h2,YM h2];refine Xb (Xj ?_);rw[StateT.run_pure];refine Xb (Xj ?_);dsimp only;refine Xb (seqEpoch_at ho6 rfl ?_);have ez:((vs.toArray.zip vs.toArray).map (·.2))=vs.toArray:=by
   apply Array.toList_inj.mp;rw[Array.toList_map,Array.toList_zip,List.map_snd_zip (Xx _)]
  show Xy _ _ (Builtin.List.listUpdate _ (λ_=>(vs.toArray.zip vs.toArray).map (·.2))>>=_) _ _ _;rw[ez];refine Xb (listUpdate_at ho6 rfl ?_ (Qp _) (by rw[hs,Qe];omega));simp only[bne_self_eq_false,Qg,if_false];exact Xj h
 .rw[YQ h2,YQ h2]
  have h2':2<=vs.length:=by omega
  have el:sLay QF lt vs=(Ztl lt vs.length).map λi=>vs.getD i QF:=YQ (!0);rw[el]at h;refine Xb (hk h2' _ k6 _ ?_);have est:SortSt.mk' κ (vs.toArray.zip vs.toArray) #[] 7 YC=kas_st κ (pairsOf vs) (Uk (QJ vs.length)):=by
   have e:=kas_range (pairsOf vs);rw[pairsOf_size]at e;show SortSt.mk' κ (pairsOf vs) #[] 7 YC=SortSt.mk' κ ((Uk (QJ vs.length)).map (kas_item (pairsOf vs))) #[] 7 YC;rw[e]
  have run:=kas_runs (prog:=prog) (w:=w) (A:=A) (κ:=κ) (it:=pairsOf vs) (E:=E) (s:={ s with heap:=((s.heap.update a (BJ λ_=>(#[]:Array Xd))).push (Vn "tuple" vs.toArray 0)).push (Vn "list" #[] 0) })
   (Q:=λ_ st' s'=>arrOf st'=(kEv lt (kas_sort vs.length)).map (kas_item (pairsOf vs))/\failedOf st'=YC/\s'={ s with heap:=((s.heap.update a (BJ λ_=>(#[]:Array Xd))).push (Vn "tuple" vs.toArray 0)).push (Vn "list" #[] 0) })
   (G:=λp s'=>p=kEv lt (kas_sort vs.length)/\s'={ s with heap:=((s.heap.update a (BJ λ_=>(#[]:Array Xd))).push (Vn "tuple" vs.toArray 0)).push (Vn "list" #[] 0) })
   h2' h64 (λp' st' s' _ a2 a3 a4=>⟨a4.1▸a2,a3,a4.2⟩) (by
    rw[<-kas_ask_eq];exact(Zi7 (n:=vs.length) (!0)).wp (hc h2' _ k6) ⟨rfl,rfl⟩)
  rw[<-est]at run;refine Xb (QQ run ?_ λ_ _ e=>e);intro r s' z;obtain⟨har,hf,rfl⟩:=z;have hout:(arrOf r.2).map (·.2)=Uk ((Ztl lt vs.length).map λi=>vs.getD i QF):=by
   apply Array.toList_inj.mp;rw[har,Array.map_map,Array.toList_map];exact Qy λi _=>by show(kas_item (pairsOf vs) i).2=_;rw[kas_item_eq]
  rw[hout];refine Xb (seqEpoch_at ho6 rfl ?_);refine Xb (listUpdate_at ho6 rfl ?_ (Qp _) (by rw[XF,Xf,(Zh2 (!0)).length_eq,JW,Qe];omega));rw[hf];simp only[bne_self_eq_false,Qg,if_false];exact Xj h
def Z7k{κ:Uu}{lt:Nat->Nat->Bool}{l:YG}(hl:s.heap.IsList l vs.toArray)(h64:vs.length<64)
  (hk:2<=vs.length->∀s':Xg,(∀b o,s.heap.get? b=YB o->s'.heap.get? b=YB o)->∀Q:Uu->Xg->Prop,Q κ s'->Xy (X4 prog w) A.in1.in1 (keyKind' vs.toArray) Q E s')
  (hc:2<=vs.length->∀s':Xg,(∀b o,s.heap.get? b=YB o->s'.heap.get? b=YB o)->∀i j C,i<vs.length->j<vs.length->C (lt i j) s'->kas_ask prog w A.in1.in1 κ vs i j C s')
  (h:Q (.ref (s.heap.objs.size+1)) { s with heap:=sortedAll s.heap vs (Uk (sLay QF lt vs)) }):Xy (X4 prog w) A (call (.builtin "sorted") [.ref l]) Q E s:=by
 refine Calls.call_function_entry kind_sorted plain_sorted entry_sorted (args_sorted1 _) ?_;unfold BR.«sorted»;refine Xb (m:=checkCount "sorted" 1 1 _) (Xj ?_);refine Xb (collect_list hl ?_ (by rw[Qe];omega));refine Xb (wpAny_newList ?_ (by rw[Qe];omega));have hsz:((s.heap.push (Vn "list" #[] 0)).update s.heap.objs.size (BJ (·++vs.toArray))).objs.size=s.heap.objs.size+1:=by
  rw[Heap.size_update,size_push']
 have hoL:(((s.heap.push (Vn "list" #[] 0)).update s.heap.objs.size (BJ (·++vs.toArray))).push (Vn "list" vs.toArray 0)).get? (s.heap.objs.size+1)=YB (Vn "list" vs.toArray 0):=by
  rw[<-hsz];exact Xv _ rfl
 have keep:∀b o,s.heap.get? b=YB o->(((s.heap.push (Vn "list" #[] 0)).update s.heap.objs.size (BJ (·++vs.toArray))).push (Vn "list" vs.toArray 0)).get? b=YB o:=λb o q=>by
  have hlt:b<s.heap.objs.size:=Xz q;rw[Heap.get?_push_ne _ _ _ (by rw[hsz];exact Xn (BK hlt)),Heap.get?_update_ne _ _ _ _ (Xn hlt),Heap.get?_push_ne _ _ _ (Xn hlt)];exact q
 show Xy _ _ _ _ _ { s with heap:=((s.heap.push (Vn "list" #[] 0)).update s.heap.objs.size (BJ (·++vs.toArray))).push (Vn "list" vs.toArray 0) };rw[hsz];refine Xb (BP (QS slot_list_sort ⟨_,hoL,rfl⟩ entry_list_sort (Zr4 (h0:=s.heap) hoL keep (Heap.get?_none_of_le (Nat.le_succ _)) h64 hk hc ⟨_,rfl,?_⟩) (args_list_sort _)));exact Xj ⟨_,rfl,h⟩
end L2
namespace L2
open PySem PySem.Spec PyProof.Rows PySem.W
structure Yn1{Y:Type}(kd:Xa->Option Y)(lt:Y->Y->Bool):Prop where
 lay:∀d k,kd d=YB k->d.canLay0=YD
 run:∃κ:Uu,(∀(prog:XH) (w:Ql) (A:Qj) (E:Xd->Xg->Prop) (s:Xg) (vs:List Xd) (ds:List Xa) (as:List YG) (Q:Uu->Xg->Prop),2<=vs.length->ReadsAll s.heap vs ds as->(∀d∈ds,∃k,kd d=YB k)->Q κ s->Xy (X4 prog w) A (keyKind' vs.toArray) Q E s)/\
  ∀(prog:XH) (w:Ql) (A:Qj) (E:Xd->Xg->Prop) (s:Xg) (u v:Xd) (d e:Xa) (as bs:List YG) (k m:Y) (C:Bool->Xg->Prop),A.units+32<cLine->Reads s.heap u d as->Reads s.heap v e bs->kd d=YB k->kd e=YB m->C (lt k m) s->Xy (X4 prog w) A (keyLt' κ u v) C E s
def readsAll_ints(ns:List Int)(r:ReadsAll h vs (ns.map Xo) as):Vd vs ns:=by
 induction ns generalizing vs as with
 | nil=>cases r;exact .nil
 | cons n ns ih=>
  cases r with
  | cons r q=>
   cases r;exact .cons _ _ (ih q)
theorem Zd7(r:Reads h u (.list (ns.map Xo)) as):∃a items,u= .ref a/\h.IsList a items/\Vd items.toList ns:=by
 cases r with
 | list e c d q=>exact⟨_,_,rfl,⟨_,e,c,_,d⟩,readsAll_ints ns q⟩
def Zgi(r:Reads h u (.tuple (ns.map Xo)) as):∃a items,u= .ref a/\h.IsTuple a items/\Vd items.toList ns:=by
 cases r with
 | tuple e c d q=>exact⟨_,_,rfl,⟨_,e,c,_,d⟩,readsAll_ints ns q⟩
def readsAll_get(r:ReadsAll h vs ds as):vs.length=ds.length/\∀(i:Nat) d,ds[i]? =YB d->∃v bs,vs[i]? =YB v/\Reads h v d bs:=by
 induction ds generalizing vs as with
 | nil=>cases r;exact⟨rfl,λi d e=>by rw[U4]at e;cases e⟩
 | cons d ds ih=>
  cases r with
  | cons r q=>
   obtain⟨z1,z2⟩:=ih q;refine⟨YW Nat.succ z1,λi e he=>?_⟩;cases i with
   | zero=>cases he;exact⟨_,_,rfl,r⟩
   | succ i=>exact z2 i e he
theorem lay_ints(ns:List Int):Sh 1 (.list (ns.map Xo)):=Zle λd m=>by
 obtain⟨x,_,rfl⟩:=Qk.mp m;exact Zuo x
def Zm1(ns:List Int):Sh 1 (.tuple (ns.map Xo)):=Z3n λd m=>by
 obtain⟨x,_,rfl⟩:=Qk.mp m;exact Zuo x
end L2
namespace L2
open PySem PySem.Spec PyProof.Rows PySem.W
def lk(kd:Xa->Option Y)(lt:Y->Y->Bool)(es:List Xa):Nat->Nat->Bool:=λi j=>((kd (es.getD i .none)).bind λa=>(kd (es.getD j .none)).map λb=>lt a b).getD YF
def keyed(kd:Xa->Option Y)(es:List Xa):Prop:=∀d∈es,∃k,kd d=YB k
def Zr2{es:List Xa}(h:∀d∈es,d.canLay0=YD):Bu es=YD:=by
 induction es with
 | nil=>rw[Bu]
 | cons d es ih=>rw[Bu,h d (!8),ih λd m=>h d (.tail _ m)];rfl
def Das.sLay{lt:Nat->Nat->Bool}(h:Das G H L xs ds):Das G H L (L2.sLay .non lt xs) (L2.sLay .none lt ds):=by
 unfold L2.sLay;rw[h.length];split
 .exact h
 .generalize Ztl lt _=l
  induction l with
  | nil=>exact .nil
  | cons i l ih=>
   refine .cons ?_ ih;show Da G H L (xs.getD i .non) (ds.getD i .none);rw[Xu,Xu];cases e:xs[i]? with
   | some x=>
    obtain⟨u,e',r⟩:=h.get' e;rw[e'];exact r
   | none=>
    have:ds[i]? =YC:=Bk (by rw[<-h.length];exact Q4.mp e);rw[this];exact .non
def Z3f(kd:Xa->Option Y)(lt:Y->Y->Bool)(K:Xc):List V->Hp->VK->Prop:=λxs H Q=>∃(a:YG) (vs:List V) (L:YG->Prop) (es:List Xa),xs=[.ref a]/\SqL K H a vs/\Das K H L vs es/\vs.length<64/\keyed kd es/\∀l,H l=YC->Q (.ref l) (upd H l (.lst (sLay .non (lk kd lt es) vs)))
section
variable {kd:Xa->Option Y}{lt:Y->Y->Bool}
def Zsj(S:Yn1 kd lt)(hK:X.K=K)(hu:X.A.units+64<cLine):Zbe X (.builtin "sorted") (Z3f kd lt K):=by
 subst hK;intro pins s O H xs us Q I r h;obtain⟨l,vs,L,es,rfl,hs,hd,h64,hk,q⟩:=h;obtain⟨u,rfl,ru⟩:=vals1 r;cases(show u=X7 l from ru);obtain⟨its,rv,pl,hz⟩:=I.list hs;have hl:=rv.length;obtain⟨as,ra⟩:=hd.reads rfl I rv (Zr2 λd m=>by obtain⟨k,e⟩:=hk d m;exact S.lay d k e);obtain⟨κ,S1,S2⟩:=S.run;obtain⟨z1,z2⟩:=readsAll_get ra;refine Z7k (κ:=κ) (lt:=lk kd lt es) pl.isList (!0) (λh2 s' k Q q=>S1 _ _ _ _ s' _ es as Q h2 (ReadsAll.keeps k ra) hk q) (λh2 s' k i j C hi hj hc=>?_) ?_
 .rw[z1]at hi hj
  obtain⟨v,b1,e1,r1⟩:=z2 i _ (Xi hi);obtain⟨w,b2,e2,r2⟩:=z2 j _ (Xi hj);obtain⟨k1,q1⟩:=hk _ (Q6 hi);obtain⟨k2,q2⟩:=hk _ (Q6 hj);have ek:lk kd lt es i j=lt k1 k2:=by
   unfold lk;rw[Xu,Xu,Xi hi,Xi hj];show((kd es[i]).bind λa=>(kd es[j]).map λb=>lt a b).getD YF=_;rw[q1,q2];rfl
  rw[ek]at hc;unfold kas_ask;rw[Xu,Xu,e1,e2];exact S2 _ _ _ _ s' v w _ _ _ _ k1 k2 C (show X.A.units+1+1+32<cLine by omega) (Reads.keeps k r1) (Reads.keeps k r2) q1 q2 hc
 .obtain⟨e,he⟩:=sortedAll_at s.heap its (Uk (sLay QF (lk kd lt es) its))
  refine⟨.ref (s.heap.objs.size+1),_,I.laid (t':=s.toks) (o:=.lst (sLay .non (lk kd lt es) vs)) (λb ob q=>sortedAll_old q) (!0) ⟨?_,sLay QF (lk kd lt es) its,e,Zw9 rv,he⟩,rfl,q _ (I.hok.fresh (!0))⟩;rw[(Znp _ _ _).length_eq,Qe];omega
def Z3s(kd:Xa->Option Y)(lt:Y->Y->Bool):List Xa->(OT->Prop)->Prop:=λds k=>n1 (λd=>∃es:List Xa,d= .list es/\es.length<64/\keyed kd es/\k (.nd ((sLay .none (lk kd lt es) es).map OT.fz))) ds
def Z0t:PN G (Z3f kd lt G) (Z3s kd lt):=λH L xs ds k Q hx h kk=>by
 obtain⟨v,d,rfl,rfl,q,es,e,h64,hk,h⟩:=hx.one h;have fin:∀(vs:List V) (p:YG),Das G H L vs es->H p=YC->Q (.ref p) (upd H p (.lst (sLay .non (lk kd lt es) vs))):=λvs p hv hp=>kk _ _ _ [p] (Z9 hp _) (Own.list hp hv.sLay) (Zcp p) (Za4 hp) h;subst e;generalize ed:V9 es=d at q;cases q with
 | lst l e r=>
  cases ed;exact⟨_,_,L,es,rfl,.inl e,r,by rw[r.length];exact h64,hk,λp hp=>fin _ p r hp⟩
 | scr ks=>
  cases ed;exact⟨_,_,L,_,rfl,ks.sq,Das.ints _,by rw[(Das.ints (G:=G) (H:=H) (L:=L) _).length];exact h64,hk,λp hp=>fin _ p (Das.ints _) hp⟩
 | _=>cases ed
def Zn6(kd:Xa->Option Y)(lt:Y->Y->Bool):List Xa->Option OT:=λds=>match ds with|[.list es]=>if(decide (es.length<64)&&es.all λd=>(kd d).isSome)=YD then YB (.nd ((sLay .none (lk kd lt es) es).map OT.fz))else YC|_=>YC
def Z6p:∀ds r k,Zn6 kd lt ds=YB r->k r->Z3s kd lt ds k:=λds r k h hk=>by
 unfold Zn6 at h;split at h
 case h_2=>cases h
 split at h
 case isFalse=>cases h
 rename_i h2;rw[XR]at h2;cases h;exact⟨_,rfl,YX h2.1,λd m=>Option.isSome_iff_exists.mp (Ul.mp h2.2 d m),hk⟩
end
end L2
namespace L2
open PySem PySem.Spec PyProof.Rows
variable {G:Xc}
def Ztq:List Int->Int
 | []=>0
 | x::xs=>xs.foldl max x
def Zwb(xs:List Int)(x:Int):xs.foldl max x∈x::xs/\∀a∈x::xs,a<=xs.foldl max x:=by
 induction xs generalizing x with
 | nil=>exact⟨.head _,λa h=>by rw[Xm.mp h];exact Int.le_refl _⟩
 | cons y ys ih=>
  obtain⟨h1,h2⟩:=ih (max x y);rw[List.foldl_cons];refine⟨?_,λa h=>?_⟩
  .rcases Xl.mp h1 with h|h
   .rw[h]
    rcases Int.le_total x y with z|z
    .rw[Int.max_eq_right z];exact .tail _ (!8)
    .rw[Int.max_eq_left z];exact .head _
   .exact .tail _ (.tail _ h)
  .have h0:=h2 _ (!8)
   rcases Xl.mp h with rfl|h
   .exact Int.le_trans (Int.le_max_left ..) h0
   .rcases Xl.mp h with rfl|h
    .exact Int.le_trans (Int.le_max_right ..) h0
    .exact h2 a (.tail _ h)
def Znu(h:0<ns.length):Ztq ns∈ns/\∀a∈ns,a<=Ztq ns:=by
 cases ns with
 | nil=>cases h
 | cons x xs=>exact Zwb xs x
def Zsh{l:YG}{xs:Array (Int×Tok)}(hh:A.handled=YC)(hl:s.heap.IsTuple l (intItems xs))(hne:0<xs.size)
  (h:∀v h' tk,(intItems xs)[argBest (λi j=>decide (numAt xs i>numAt xs j)) (xs.size-1)]? =YB v->(∀b o,s.heap.get? b=YB o->h'.get? b=YB o)->Q v { s with heap:=h',toks:=tk }) :
  Xy (X4 prog w) A (call (.builtin "max") [.ref l]) Q E s:=by
 have hlt:l<s.heap.objs.size:=by obtain⟨_,e,_⟩:=hl;exact Xz e
 have hl':=hl;obtain⟨o,eo,ec⟩:=hl';refine call_max_walk (wpAny_pyIter_tuple hl ?_);refine⟨_,_,_,_,_,_,_,rfl,Walks.tuple (A:=A.in1) hh _ l (Xn hlt) (intItems xs),⟨⟨_,Xv _ rfl,rfl,rfl⟩,⟨o,Xe _ eo,ec⟩⟩,λb hb=>?_,by simpa [intItems]using hne,CmpOf.ints_gt (numAt xs) (λ_ _=>intItems_at),λv h' tk hP hk=>?_⟩
 .show b<(s.heap.push _).objs.size
  rw[QC];rcases Xl.mp hb with rfl|hb
  .exact Qx _
  .rw[Xm.mp hb];exact BK hlt
 .refine h v h' tk (by simpa [intItems]using hP) λb o e=>hk b o (λhm=>?_) (Xe _ e)
  rw[Xm.mp hm]at e;exact YZ (Xz e) (Vf _)
def Yau(K:Xc):List V->Hp->VK->Prop:=λxs H Q=>∃(a:YG) (ns:List Int),xs=[.ref a]/\(SqL K H a (ns.map V.int)\/SqT K H a (ns.map V.int))/\0<ns.length/\Q (.int (Ztq ns)) H
def Zul(hK:X.K=K)(hc:X.calm=YD):Zbe X (.builtin "max") (Yau K):=by
 subst hK;intro pins s O H xs us Q I r h;obtain⟨a,ns,rfl,hs,hp,q⟩:=h;obtain⟨u,rfl,ru⟩:=vals1 r;cases(show u=X7 a from ru);have fin:∀{ps:List (Int×Tok)},ps.map (·.1)=ns->∀v h' tk,(intItems ps.toArray)[argBest (λi j=>decide (numAt ps.toArray i>numAt ps.toArray j)) (ps.toArray.size-1)]? =YB v->(∀b o,s.heap.get? b=YB o->h'.get? b=YB o)->EP X pins O Q v { s with heap:=h',toks:=tk }:=fun{ps} e2 v h' tk hv hk=>by
  have hl:ps.length=ns.length:=by rw[<-e2,Xf]
  obtain⟨t,rfl⟩:=intItems_at hv;obtain⟨h1,h2⟩:=argBest_gt (numAt ps.toArray) (ps.toArray.size-1);have hn:∀j,j<ps.length->numAt ps.toArray j=ns.getD j 0:=λj hj=>by
   rw[numAt_eq,<-e2]
  refine⟨.int (Ztq ns),H,I.kept (t':=tk) hk,⟨t,?_⟩,q⟩;have sz:ps.toArray.size=ns.length:=by rw[XF,hl]
  rw[sz]at h1 h2|-
  obtain⟨m1,m2⟩:=Znu hp;congr 1;generalize ej:argBest (λi j=>decide (numAt ps.toArray i>numAt ps.toArray j)) (ns.length-1)=j at h1 h2|-
  rw[hn j (!0)];refine Int.le_antisymm (m2 _ ?_) ?_
  .rw[Xu,Xi (!0)]
   exact Q6 _
  .obtain⟨j',hj',e⟩:=List.getElem_of_mem m1
   have:=h2 j' (!0);rw[hn j (!0),hn j' (!0),Xu (i:=j'),Xi hj',e]at this;exact this
 rcases hs with hs|hs
 .obtain⟨its,rv,pl,hz⟩:=I.list hs
  obtain⟨ps,rfl,e2⟩:=Zcq rv;have hl:ps.length=ns.length:=by rw[<-e2,Xf]
  exact max_intList (xs:=ps.toArray) (I.ok.hd hc) (by simpa [intItems]using pl.isList) (by simpa using hl▸hp) (fin e2)
 .obtain⟨its,rv,pl,hz⟩:=I.tuple hs
  obtain⟨ps,rfl,e2⟩:=Zcq rv;have hl:ps.length=ns.length:=by rw[<-e2,Xf]
  exact Zsh (xs:=ps.toArray) (I.ok.hd hc) (by simpa [intItems]using(show s.heap.IsTuple a _ from pl)) (by simpa using hl▸hp) (fin e2)
def Yb6:List Xa->(Xa->Prop)->Prop:=λds k=>n1 (λd=>∃ns:List Int,(d= .list (ns.map Xo)\/d= .tuple (ns.map Xo))/\0<ns.length/\k (.int (Ztq ns))) ds
def Z8f:PNs G (Yau G) Yb6:=λH L xs ds k Q hx h kk=>by
 obtain⟨v,d,rfl,rfl,q,ns,e,hp,h'⟩:=hx.one h;rcases e with e|e
 .subst e
  obtain⟨a,rfl,hs⟩:=q.ints_sq;exact⟨a,ns,rfl,.inl hs,hp,kk _ _ (.int _) h'⟩
 .generalize ed:d=d' at q
  rw[e]at ed;cases q with
  | tup e r=>
   cases ed;exact⟨_,ns,rfl,.inr (.inl (.inl (by rw[r.int_inv]at e;exact e))),hp,kk _ _ (.int _) h'⟩
  | _=>cases ed
def Zv4:List Xa->Option Xa:=λds=>match ds with|[.list es]=>(Zdd es).bind λns=>if 0<ns.length then YB (.int (Ztq ns))else YC|[.tuple es]=>(Zdd es).bind λns=>if 0<ns.length then YB (.int (Ztq ns))else YC|_=>YC
def Z9e:∀ds r k,Zv4 ds=YB r->k r->Yb6 ds k:=λds r k h hk=>by
 unfold Zv4 at h;split at h
 case h_3=>cases h
 all_goals
  obtain⟨ns,h1,h⟩:=bs h
  by_cases hp:0<ns.length
  .rw[YM hp]at h
   cases h
   first
   | exact⟨ns,.inl (YW V9 (Zaq h1)),hp,hk⟩
   | exact⟨ns,.inr (YW Q5 (Zaq h1)),hp,hk⟩
  .rw[YQ hp]at h;cases h
section
variable {X:Cx}{io:List Nat}{p p' c c' q r:Bool}{a b e:YJ}{fa fb:FE}{es:List YJ}{ra:FA}{st:YK}{sts ss ss':List YK}{f g:FS}{ta:FT}
def xv(i:Nat)(hN:X.N[i]? =YB x:=by rfl)(hv:Vis X.env.scope x:=by first|exact QT rfl|exact QM (QT rfl)|exact QM (QM rfl))(hd:(x==(!10))=YF:=by decide)(he:(x==(!17))=YF:=by decide):ME X io YD YD (.Name x pos) (o2 (Yk i)):=Y0 (mv i hN hv hd he)
def xo(i:Nat)(hN:X.N[i]? =YB x:=by rfl)(hv:Vis X.env.scope x:=by first|exact QT rfl|exact QM (QT rfl)|exact QM (QM rfl))(hd:(x==(!10))=YF:=by decide)(he:(x==(!17))=YF:=by decide):ME X io YD YF (.Name x pos) (o2 (Zjv i)):=Z35 (mo i hN hv hd he)
def xci{i:Int}:ME X io YD YD (.Constant (.int i) j pos) (o2 (fC (.int i))):=Z6 Yfu
def xix(ha:ME X io p c a (o2 fa))(hb:ME X io p' c' b (o2 fb))(hc:p'=YD\/c=YD:=by first|exact QT rfl|exact QM rfl)(hs:Zph b:=by exact λ_ _=>rfl)(h2:(p&&p')=q:=by rfl)(h3:(c&&c')=r:=by rfl):ME X io q r (.Subscript a b pos) (o2 (W2 gIx fa fb)):=h2▸h3▸Zc4 Ypi (Ygc (Zll rfl) Yi1 ha hb hc (hs:=hs))
def xa0:MA X io YD YD [] (o2 Yj):=Zeo Zen
def xa1[NoStar e](ha:ME X io p c e (o2 fa))(h2:(p&&YD)=q:=by rfl)(h3:(c&&YD)=r:=by rfl):MA X io q r [e] (o2 (Ze fa Yj)):=Zc ha xa0 (.inl rfl) h2 h3
def xsq(h:MS X io st (oS f))(k:MSs X io sts (oS g)):MSs X io (st::sts) (oS (Z3 f g)):=Zg9 (Zb3 h k)
def xst(i:Nat)(hN:X.N.Nodup)(he:ME X io p YD e (o2 fa))(hi:X.N[i]? =YB x:=by rfl)(hx:Loc X.env.scope x:=by first|exact QT rfl|exact QM rfl)(hio:i∉io:=by decide)(hs:Vv e (YB (.Name x px)) pos.line X.env=pure YF:=by rfl)(hf:X.fn x=YD\/X.env.scope.names.lookup x=YB .local:=by first|exact .inl rfl|exact .inr rfl|assumption):MS X io (.Assign [.Name x px] e pos) (oS (wE fa (Ju i))):=Ydz (Ya7 hN hi hx he hio hs hf)
def xrt(h:ME X io p YD e (o2 fa)):MS X io (.Return (YB e) pos) (oS (wE fa W7)):=Zfw (Zfq h)
def xg(i:Nat)(hN:X.N.Nodup)(hi:X.N[i]? =YB x:=by rfl)(hx:Loc X.env.scope x:=by first|exact QT rfl|exact QM rfl)(hio:i∉io:=by decide)(hf:X.fn x=YD\/X.env.scope.names.lookup x=YB .local:=by first|exact .inl rfl|exact .inr rfl|assumption):MG X io YD (.Name x pos) (oG (gNm i)):=Zo0 (Zpo hN hi hx hio hf)
def xif(h:MT X io p e (o2 ta))(k:MSs X io ss (oS f))(l:MSs X io ss' (oS g)):MS X io (.If e ss ss' pos) (oS (Y4 ta f g)):=Zml (Znc h k l)
def xnl:MSs X io [] (oS fNx):=Zcb Zb8
def xtp{n:Nat}(h:MA X io p c es (o2 ra)):ME X io p c (.Tuple es n pos) (o2 (Zjp ra)):=Yc0 (Yhe h)
def xls(h:MA X io p c es (o2 ra)):ME X io p c (.List es pos) (o2 (Zgv ra)):=Yeg (Yib h)
def xil(h:ME X io p c e (o2 fa)):MI X io p c tg e (o2 (Zg8 fa)):=Z5h (Z56 h)
def xno(h:MT X io p e (o2 ta)):MT X io p (.UnaryOp .Not e pos) (o2 (tNo ta)):=Zmt (Zm6 h)
def Zpb(ha:ME X io p c a (o2 fa))(hb:ME X io p' c' b (o2 fb))(hc:p'=YD\/c=YD:=by first|exact QT rfl|exact QM rfl)(h2:(p&&p')=q:=by rfl):ME X io q YD (.BinOp a .Add b pos) (o2 (Zd Zgy fa fb)):=h2▸Zv Yh0 (W0 Z9t Zut ha hb hc)
def Ym8(ha:ME X io p c a (o2 fa))(hb:ME X io p' c' b (o2 fb))(hc:p'=YD\/c=YD:=by first|exact QT rfl|exact QM rfl)(h2:(p&&p')=q:=by rfl):ME X io q YD (.BinOp a .Sub b pos) (o2 (Zd gSb fa fb)):=h2▸Zv Ykp (W0 Ycc Zut ha hb hc)
def Ybs(ha:ME X io p c a (o2 fa))(hb:ME X io p' c' b (o2 fb))(hc:p'=YD\/c=YD:=by first|exact QT rfl|exact QM rfl)(h2:(p&&p')=q:=by rfl):ME X io q YD (.BinOp a .Mult b pos) (o2 (Zd Zmh fa fb)):=h2▸Zv Yhf (W0 Z4u Ya4 ha hb hc)
def Zde(ha:ME X io p c a (o2 fa))(hb:ME X io p' c' b (o2 fb))(hc:p'=YD\/c=YD:=by first|exact QT rfl|exact QM rfl)(h2:(p&&p')=q:=by rfl):ME X io q YD (.BinOp a .Mod b pos) (o2 (Zd Zbd fa fb)):=h2▸Zv Yis (W0 Z75 Yd3 ha hb hc)
def Zox(ha:ME X io p c a (o2 fa))(hb:ME X io p' c' b (o2 fb))(hc:p'=YD\/c=YD:=by first|exact QT rfl|exact QM rfl)(h2:(p&&p')=q:=by rfl):ME X io q YD (.BinOp a .FloorDiv b pos) (o2 (Zd J4 fa fb)):=h2▸Zv Ydm (W0 Z1b Yb0 ha hb hc)
def Z0e(ha:ME X io p c a (o2 fa))(hb:ME X io p' c' b (o2 fb))(hc:p'=YD\/c=YD:=by first|exact QT rfl|exact QM rfl)(h2:(p&&p')=q:=by rfl):ME X io q YD (.BinOp a .Pow b pos) (o2 (Zd Zmf fa fb)):=h2▸Zv Yhk (W0 Z5t Yed ha hb hc)
def xeq(hu:X.A.units+64<cLine)(ha:ME X io p c a (o2 fa))(hb:ME X io p' c' b (o2 fb))(hc:p'=YD\/c=YD:=by first|exact QT rfl|exact QM rfl)(h2:(p&&p')=q:=by rfl):MT X io q (.Compare a [.Eq] [b] pos) (o2 (tV (Zd gEq fa fb))):=h2▸Zbw Z6s (Zbi (Ziv hu) Zp7 ha hb hc (hm:=Wh _))
def xne(hu:X.A.units+64<cLine)(ha:ME X io p c a (o2 fa))(hb:ME X io p' c' b (o2 fb))(hc:p'=YD\/c=YD:=by first|exact QT rfl|exact QM rfl)(h2:(p&&p')=q:=by rfl):MT X io q (.Compare a [.NotEq] [b] pos) (o2 (tV (Zd gNe fa fb))):=h2▸Zbw Z9v (Zbi (Zof hu) Zvi ha hb hc (hm:=Wh _))
def xlt(ha:ME X io p c a (o2 fa))(hb:ME X io p' c' b (o2 fb))(hc:p'=YD\/c=YD:=by first|exact QT rfl|exact QM rfl)(h2:(p&&p')=q:=by rfl):MT X io q (.Compare a [.Lt] [b] pos) (o2 (tV (Zd gLt fa fb))):=h2▸Zbw Yi5 (Zbi Z6d Zg0 ha hb hc (hm:=Wh _))
def xgt(ha:ME X io p c a (o2 fa))(hb:ME X io p' c' b (o2 fb))(hc:p'=YD\/c=YD:=by first|exact QT rfl|exact QM rfl)(h2:(p&&p')=q:=by rfl):MT X io q (.Compare a [.Gt] [b] pos) (o2 (tV (Zd gGt fa fb))):=h2▸Zbw Ynq (Zbi Ybq Zg0 ha hb hc (hm:=Wh _))
def xge(ha:ME X io p c a (o2 fa))(hb:ME X io p' c' b (o2 fb))(hc:p'=YD\/c=YD:=by first|exact QT rfl|exact QM rfl)(h2:(p&&p')=q:=by rfl):MT X io q (.Compare a [.GtE] [b] pos) (o2 (tV (Zd gGe fa fb))):=h2▸Zbw Yia (Zbi Z7w Zg0 ha hb hc (hm:=Wh _))
def xfr(hp:PassesOwn (X4 X.prog X.w) X.A X.env X.xe)(hc:X.calm=YD)(hi:MI X io p YD tg e (o2 it))(hg:MG X io YD tg (oG gg))(hb:MSs X io ss (oS f))(hs:∀x,Vl e X.env x=pure x:=by intro _;rfl):MS X io (.For tg e ss [] pos) (oS (Zf7 it gg f)):=Z2f (Z3c hp hc hi hg hb hs)
def xg2{n:Nat}{g1 g2:FG}(hc:X.calm=YD)(ha:MG X io YD a (oG g1))(hb:MG X io YD b (oG g2))(h1:List.map (λx=>x.snd) (Bm [a,b] X.env)=assign a X.env::List.map (λx=>x.snd) (Bm [b] X.env):=by rfl)(h2:List.map (λx=>x.snd) (Bm [b] X.env)=assign b X.env::List.map (λx=>x.snd) (Bm [] X.env):=by rfl)(h3:(Bm [a,b] X.env).length=2:=by rfl)(h4:List.findIdx? (λx=>x.fst) (Bm [a,b] X.env)=YC:=by rfl):MG X io YD (.Tuple [a,b] n pos) (oG (gTp 2 (gCn g1 (gCn g2 gNl)))):=Z2l (Z34 (n:=2) hc (Zhu (Zhz ha (Zhu (Zhz hb (Zw4 Zvn) h2)) h1)) h3 h4)
def xso(i:Nat)(hN:X.N.Nodup)(he:ME X io p YD e (o2 fa))(hi:X.N[i]? =YB x:=by rfl)(hx:Loc X.env.scope x:=by first|exact QT rfl|exact QM rfl)(hio:i∉io:=by decide)(hs:Vv e (YB (.Name x px)) pos.line X.env=pure YF:=by rfl)(hf:X.fn x=YD\/X.env.scope.names.lookup x=YB .local:=by first|exact .inl rfl|exact .inr rfl|assumption):MS X io (.Assign [.Name x px] e pos) (oS (wE fa (Zbf i))):=Zpc (Zoz hN hi hx he hio hs hf)
def xcl{k:Nat}{f:YG}{fd:X5}{ps:List Str}(G:FnOk X.prog X.w X.K X.mg X.base CX0 k f fd ps (spD X.K (sD F)))(hr:Room k X.A)(hm:X.mg x=YB (.ref f))(hk:Vz X.K (.ref f)=YD)(hb:Binds X.K fd ps [])(ha:MA X io p c (e::es) (o2 ra))(hg:Gl X x:=by rfl)(h1:(x==(!10))=YF:=by decide)(h2:Xr (e::es) X.env=(YF,eval e X.env)::Xr es X.env:=by rfl)(h3:((Ba pos (Xr es X.env)).any λx=>x.fst)=YF:=by rfl):ME X io p c (.Call (.Name x pp) (e::es) [] pos) (o2 (Z7 F ra)):=Ze6 (Zje G hr hg hm hk hb Zor ha h1 h2 h3)
def xln(hm:X.mg "len"=YC)(ha:MA X io p c [e] (o2 ra))(hg:Gl X "len" :=by rfl)(h2:Xr [e] X.env=(YF,eval e X.env)::Xr [] X.env:=by rfl):ME X io p YD (.Call (.Name "len" pp) [e] [] pos) (o2 (Zdm Zl7 ra)):=Jh Z6j (Zhi Zwu (Ziz rfl) hg hm L2.B.boot_len ha (!1) (!1) h2 (!2))
end
def tbl(P:List Nat)(led:Bool):JL:={ mask:=7,place:=P.toArray,dummies:=#[],finger:=0,led,moves:=0,plain:=YD }
def hT(k:List Int):Int:=reduceHash (Builtin.Tuple.tupleHashOf (k.map hashInt))
def hAt(ks:List (!14))(i:Nat):Int:=(ks[i]?.map hT).getD 0
def Yj7(P:List Nat)(j:Nat):List Nat:=((tbl P YF).put j).1.place.toList
def Ynt(P:List Nat)(j:Nat):Nat:=((tbl P YF).put j).2
def Ypf(ks:List (!14))(p:Nat)(k:List Int):List (!14):=ks.take p++k::ks.drop p
def Yp3(P:List Nat)(ks:List (!14))(k:List Int):Option (List Nat×List (!14)) :=
 match(tbl P YF).probe (hAt ks) (hT k) ((tbl P YF).probeStart (hT k))with
 | some (.empty j YC)=>if(tbl (Yj7 P j) YF).tooFull=YF/\(Yj7 P j).length=ks.length+1/\ks.length<=6/\Ynt P j<=ks.length then YB (Yj7 P j,Ypf ks (Ynt P j) k)else YC
 | some (.candidate _ i _)=>if ks[i]? =YB k then YB (P,ks)else YC
 | _=>YC
def grow(K:List (!14)):Nat->List (List Nat×List (!14))->List (List Nat×List (!14))
 | 0,S=>S
 | n+1,S=>grow K n (S++(S.flatMap λs=>K.filterMap λk=>Yp3 s.1 s.2 k).filter λs=>!S.contains s)
def K2:List (!14):=[[0,0],[0,1],[1,0],[1,1]]
def S2:List (List Nat×List (!14)):=(grow K2 4 [([],[])]).eraseDups
section
variable {prog:XH}{w:Ql}{A:Qj}{E:Xd->Xg->Prop}{s:Xg}
inductive KeysIn(U:YG->List Int->Prop):List (!14)->List (Int×Xd)->Prop
 | nil:KeysIn U [] []
 | cons {k:List Int} {a:YG} {ks:List (!14)} {l:List (Int×Xd)} (h:U a k) (t:KeysIn U ks l):KeysIn U (k::ks) ((hT k,.ref a)::l)
theorem KeysIn.len{U:YG->List Int->Prop}{ks:List (!14)}{l:List (Int×Xd)}(h:KeysIn U ks l):ks.length=l.length:=by
 induction h with
 | nil=>rfl
 | cons _ _ ih=>rw[XQ,XQ,ih]
def KeysIn.hash{U:YG->List Int->Prop}{ks:List (!14)}{l:List (Int×Xd)}(h:KeysIn U ks l):l.map (·.1)=ks.map hT:=by
 induction h with
 | nil=>rfl
 | cons _ _ ih=>rw[XC,XC,ih]
abbrev IK(prog:XH)(w:Ql)(h:YH)(k:List Int)(a:YG):Prop:=IsTupleKey (V5 prog w) h k a
def items_int{ks:List Int}(h:ItemsAre (V5 prog w) ks vs):∀v∈vs,∃i t,v= .int i t:=by
 induction h with
 | nil=>exact λ_ m=>nomatch m
 | cons h _ ih=>
  intro v hv;rcases Xl.mp hv with rfl|hv
  .obtain⟨t,e⟩:=Value.isInt_shape h
   exact⟨_,t,e⟩
  .exact ih v hv
theorem KeysIn.at{U:YG->List Int->Prop}{ks:List (!14)}{es:Array (Int×Xd)}(h:KeysIn U ks es.toList)(i:Nat):(es[i]?.map (·.1)).getD 0=hAt ks i:=by
 unfold hAt;rw[<-Xq,<-h.hash,Xq,Qc]
end
section
variable {prog:XH}{w:Ql}{A:Qj}{R:Result->Xg->Prop}{I:YG}{fp wr:List YG}{n:Nat}{Pv:Nat->Xd->Prop}{St:Nat->YH->Prop}
end
inductive Yj8(H:Hp):List V->List (!14)->Prop
 | nil:Yj8 H [] []
 | cons {a:YG} {k:List Int} {xs:List V} {ks:List (!14)} (h:H a=YB (.tup (k.map V.int))) (t:Yj8 H xs ks):Yj8 H (.ref a::xs) (k::ks)
section
variable {X:Cx}{p c:Bool}{io:List Nat}{a e:YJ}{pos pos' pl pr:Pos}{t:TA}{mr:MAt}{ra:FA}
end
abbrev Yp5(h:YH)(T:YG)(a b c:Xd):Prop:=h.get? T=YB { cls:=.type "tuple",data:=.seq #[a,b,c] }
structure Z3A(z TI TO i1 i2 i3:YG)(f1 f2 f3:List YG):Prop where
 TIz:TI≠z
 TOz:TO≠z
 a1:∀c∈f1,c≠z/\c≠TO/\c≠i2/\c≠i3
 a2:∀c∈f2,c≠z/\c≠TO/\c≠i1/\c≠i3
 a3:∀c∈f3,c≠z/\c≠TO/\c≠i1/\c≠i2
section
variable {P:XH}{w:Ql}{A:Qj}{E:Xd->Xg->Prop}{s:Xg}
end
abbrev z3A(h:YH)(a:YG):YH:=h.push { cls:=.type "list_iterator",data:=.fields #[.ref a,.int 0 0] }
abbrev z3B(h:YH)(a b:YG):YH:=z3A (z3A h a) b
abbrev z3C(h:YH)(a b c:YG):YH:=z3A (z3B h a b) c
abbrev z3D(h:YH)(a b c:YG):YH:=(z3C h a b c).push { cls:=.type "tuple",data:=.seq #[.ref h.objs.size,.ref (z3A h a).objs.size,.ref (z3B h a b).objs.size] }
abbrev z3E(h:YH)(a b c:YG):YH:=(z3D h a b c).push { cls:=.type "tuple",data:=.seq #[.none,.none,.none] }
abbrev z3F(h:YH)(a b c:YG):YH:=(z3E h a b c).push { cls:=.type "zip",data:=.fields #[.none,.bool YF,.bool YF,.ref (z3C h a b c).objs.size,.ref (z3D h a b c).objs.size] }
section
variable {P:XH}{w:Ql}{A:Qj}{E:Xd->Xg->Prop}{s:Xg}
end
section
variable {X:Cx}{io:List Nat}{p c:Bool}{a b e:YJ}{mr:MAt}{ra:FA}
end
def Up(xs:List Nat):Prop:=xs.Pairwise (·<·)
def Zj3{xs:List Nat}(h:Up xs){a b:Nat}(ha:xs[i]? =YB a)(hb:xs[j]? =YB b)(l:i<j):a<b:=by
 obtain⟨hi,rfl⟩:=Xk.mp ha;obtain⟨hj,rfl⟩:=Xk.mp hb;exact Q3.mp h i j hi hj l
def getD_at{xs:Array Nat}{d:Nat}(h:i<xs.size):xs.toList[i]? =YB (xs.getD i d):=by
 rw[Qc,JM h,Array.getD,dif_pos h];rfl
def Z0d{xs:Array Nat}(up:Up xs.toList):∀(fuel lo hi:Nat),hi-lo<=fuel->lo<=hi->hi<=xs.size->(∀i a,i<lo->xs.toList[i]? =YB a->a<j)->(∀i a,hi<=i->xs.toList[i]? =YB a->j<=a) ->
  ∃p,SetTable.below.go xs j fuel lo hi=p/\p<=xs.size/\(∀i a,i<p->xs.toList[i]? =YB a->a<j)/\∀i a,p<=i->xs.toList[i]? =YB a->j<=a:=by
 intro fuel
 induction fuel with
 | zero=>
  intro lo hi f l z h1 h2;have e:lo=hi:=by omega
  exact⟨lo,rfl,by omega,h1,λi a q=>h2 i a (!0)⟩
 | succ fuel ih=>
  intro lo hi f l z h1 h2;rw[SetTable.below.go]
  by_cases c:lo<hi
  .rw[YM c]
   have hm:(lo+hi)/2<xs.size:=by omega
   have em:=getD_at (xs:=xs) (d:=j) hm
   by_cases q:xs.getD ((lo+hi)/2) j<j
   .simp only[YM q]
    refine ih _ _ (!0) (!0) z (λi a li ea=>?_) h2
    by_cases e:i=(lo+hi)/2
    .subst e
     rw[em]at ea;cases ea;exact q
    .exact Vy (Zj3 up ea em (!0)) q
   .simp only[YQ q]
    refine ih _ _ (!0) (!0) (!0) h1 λi a li ea=>?_
    by_cases e:i=(lo+hi)/2
    .subst e
     rw[em]at ea;cases ea;omega
    .have:=Zj3 up em ea (!0)
     omega
  .rw[YQ c]
   have e:lo=hi:=by omega
   exact⟨lo,rfl,by omega,h1,λi a q=>h2 i a (!0)⟩
def Zl2{xs:Array Nat}(up:Up xs.toList)(j:Nat):JB xs j<=xs.size/\(∀i a,i<JB xs j->xs.toList[i]? =YB a->a<j)/\∀i a,JB xs j<=i->xs.toList[i]? =YB a->j<=a:=by
 obtain⟨p,e,h⟩:=Z0d (j:=j) up xs.size 0 xs.size (!0) (Qp _) (Xx _) (λi a q=>YZ q (UT _)) λi a q ea=>by
  have:=(Xk.mp ea).1;rw[XM]at this;omega
 unfold JB;rw[e];exact h
def Zsu{xs:Array Nat}(up:Up xs.toList){a:Nat}(h:xs.toList[i]? =YB a):JB xs (a+1)=i+1:=by
 obtain⟨b0,b1,b2⟩:=Zl2 up (a+1);have hi:=(Xk.mp h).1;rw[XM]at hi;rcases Nat.lt_trichotomy (JB xs (a+1)) (i+1)with c|c|c
 .have:=b2 i a (!0) h
  omega
 .exact c
 .have hs:i+1<xs.toList.length:=by rw[XM];omega
  have e1:=Xi hs;have:=b1 (i+1) _ c e1;have:=Zj3 up h e1 (Qx _);omega
theorem Zsr{xs:Array Nat}(up:Up xs.toList):JB xs 0=0:=by
 obtain⟨b0,b1,_⟩:=Zl2 up 0;cases e:JB xs 0 with
 | zero=>rfl
 | succ k=>
  rw[e]at b0 b1;have hs:0<xs.toList.length:=by rw[XM];omega
  exact YZ (b1 0 _ (Nat.zero_lt_succ _) (Xi hs)) (UT _)
def Ycr{xs:List Nat}(up:Up xs){p:Nat}(h1:∀i a,i<p->xs[i]? =YB a->a<j)(h2:∀i a,p<=i->xs[i]? =YB a->j<a):Up (xs.take p++j::xs.drop p):=by
 refine List.pairwise_append.mpr ⟨up.sublist (List.take_sublist ..),List.pairwise_cons.mpr ⟨λa ha=>?_,up.sublist (List.drop_sublist ..)⟩,λa ha b hb=>?_⟩
 .obtain⟨i,hi⟩:=List.getElem?_of_mem ha
  rw[List.getElem?_drop]at hi;exact h2 _ a (Vb _ _) hi
 .obtain⟨i,hi⟩:=List.getElem?_of_mem ha
  have ip:i<p:=by
   have:=(Xk.mp hi).1;rw[Bq]at this;omega
  rw[List.getElem?_take_of_lt ip]at hi;have aj:=h1 i a ip hi;rcases Xl.mp hb with rfl|hb
  .exact aj
  .obtain⟨k,hk⟩:=List.getElem?_of_mem hb
   rw[List.getElem?_drop]at hk;exact Vy aj (h2 _ b (Vb _ _) hk)
def Zgu(t:JL)(j:Nat):Prop:=t.place[JB t.place j]? ≠YB j
structure Tb(b:Bool)(t:JL):Prop where
 led:t.led=b
 up:t.plain=YD->Up t.place.toList
def Zrf{t:JL}(h:t.slot j= .empty\/t.slot j= .dummy):Zgu t j:=λz=>by
 have:t.slot j= .live (JB t.place j):=by
  unfold JL.slot;rw[YM (ZC.mpr z)]
 rcases h with h|h<;>rw[this]at h<;>cases h
def Ztv{t:JL}{f:Nat->Int}{h:Int}:∀(fuel:Nat) (p:SetTable.Probe),(∀d,p.dummy=YB d->Zgu t d)->∀j dm,SetTable.probe.go t f h fuel p=YB (.empty j dm)->Zgu t j/\∀d,dm=YB d->Zgu t d:=by
 intro fuel
 induction fuel with
 | zero=>intro p _ j dm e;cases e
 | succ fuel ih=>
  have adv:∀q:SetTable.Probe,(t.advance q).dummy=q.dummy:=λq=>by
   unfold JL.advance;split<;>rfl
  intro p hp j dm e;rw[SetTable.probe.go]at e;split at e
  .rename_i c
   cases e;exact⟨Zrf (.inl c),hp⟩
  .rename_i c
   refine ih _ (λd hd=>?_) j dm e;rw[adv]at hd;cases hd;exact Zrf (.inr c)
  .split at e
   .cases e
   .exact ih _ (λd hd=>hp d (by rw[adv]at hd;exact hd)) j dm e
def Z0i{t:JL}{h:Int}{d:Bool}(e:t.freeSlot h=YB (j,d)):Zgu t j:=by
 unfold JL.freeSlot at e;split at e
 .rename_i j' dm q
  cases e;obtain⟨h1,h2⟩:=Ztv _ _ (λd hd=>by cases hd) _ _ q;cases dm with
  | none=>exact h1
  | some d=>exact h2 d rfl
 .cases e
def Ya6{t:JL}(up:Up t.place.toList)(n:Zgu t j):Up (t.put j).1.place.toList:=by
 show Up (JL.insertAt t.place (JB t.place j) j).toList;obtain⟨b0,b1,b2⟩:=Zl2 up j;rw[SetTable.toList_insertAt];refine Ycr up b1 λi a l ea=>?_;have ja:=b2 i a l ea;rcases Vo j a with c|c
 .exact c
 .have e:a=j:=by omega
  subst e;exfalso;rcases Vo (JB t.place a) i with c2|c2
  .have hs:JB t.place a<t.place.toList.length:=Vy c2 (Xk.mp ea).1
   have e1:=Xi hs;have:=Zj3 up e1 ea c2;have:=b2 _ _ (Xx _) e1;omega
  .have e:i=JB t.place a:=by omega
   subst e;exact n (by rw[<-Qc];exact ea)
def Tb.stand{b:Bool}{t:JL}(h:Tb b t)(n:Nat):Tb b (t.standIn n):=⟨h.led,λz=>nomatch z⟩
def Tb.lay{b:Bool}{t:JL}(h:Tb b t)(es:Array (Int×Xd))(k:Int)(x:Xd):Tb b (layNew t es k x).2.1:=by
 unfold layNew;split
 .rename_i j d e
  dsimp only;unfold JL.orStandIn;split
  .exact⟨h.led,λz=>Ya6 (h.up z) (Z0i e)⟩
  .exact⟨h.led,λz=>nomatch z⟩
 .exact h.stand _
def Z6t(f:Nat->Option Nat)(n:Nat):Up (((QJ n).filterMap λj=>(f j).map (j,·)).map (·.1)):=by
 have e:∀l:List Nat,((l.filterMap λj=>(f j).map (j,·)).map (·.1)).Sublist l:=λl=>by
  induction l with
  | nil=>exact .slnil
  | cons a l ih=>
   rw[QX];cases f a with
   | none=>exact ih.cons a
   | some v=>exact ih.cons_cons a
 exact List.Pairwise.sublist (e _) List.pairwise_lt_range
def Tb.relay{b:Bool}{t:JL}(h:Tb b t)(es:Array (Int×Xd))(n:Nat):Tb b (relayAll t es n).2.1:=by
 unfold relayAll;split
 .rename_i t' order e
  dsimp only;split
  .unfold JL.relaid JL.laid at e
   obtain⟨ow,_,e⟩:=Option.bind_eq_some_iff.mp e;cases e;exact⟨h.led,λ_=>Z6t _ _⟩
  .exact h.stand _
 .exact h.stand _
def vI:Xd->Int
 | .int k _=>k
 | _=>0
def SetI(prog:XH)(w:Ql)(b:Bool)(h:YH)(S:YG)(ks:List Int):Prop :=
 ∃o es ep t,h.get? S=YB o/\o.ExactSet/\o.data= .set es ep t/\ElemsOf (V5 prog w) es.toList/\es.size<scanBound/\t.fits es.size=YD/\Tb b t/\es.toList.map (λe=>vI e.2)=ks
section
variable {prog:XH}{w:Ql}{A:Qj}{E:Xd->Xg->Prop}{s:Xg}{b:Bool}
def Zw3{k:Int}{v:Xd}(h:(V5 prog w).is k v=YD):∃t,v= .int k t:=by
 cases v<;>simp_all [V5,Value.isInt]
theorem SetI.len{S:YG}{ks:List Int}(hS:SetI prog w b h S ks):ks.length<scanBound:=by
 obtain⟨o,es,ep,t,_,_,_,_,l,_,_,rfl⟩:=hS;rw[Xf,XM];exact l
theorem SetI.stay{S:YG}{ks:List Int}(hS:SetI prog w b h S ks)(k:∀o,h.get? S=YB o->h'.get? S=YB o):SetI prog w b h' S ks:=by
 obtain⟨o,es,ep,t,ho,r⟩:=hS;exact⟨o,es,ep,t,k o ho,r⟩
theorem SetI.put{S:YG}{es es':Array (Int×Xd)}{ep:Nat}{t t':JL}(ho:h.get? S=YB o)(hex:o.ExactSet)(hd:o.data= .set es ep t)(he:ElemsOf (V5 prog w) es'.toList)(hb:es'.size<scanBound)(hf:t'.fits es'.size=YD)(ht:Tb b t') :
  (h.update S (Obj.putSet es' t')).get? S=YB { o with data:=.set es' (ep+1) t' }/\SetI prog w b (h.update S (Obj.putSet es' t')) S (es'.toList.map λe=>vI e.2):=by
 have g:=Heap.get?_update_self (Obj.putSet es' t') ho (by rw[putSet_of es' t' hd];rfl);rw[putSet_of es' t' hd]at g;exact⟨g,_,es',ep+1,t',g,hex,rfl,he,hb,hf,ht,rfl⟩
def Z15{g:Bool->Sem Unit}(hg:∀(c:Bool) (s₁:Xg) (Q':Unit->Xg->Prop),Q' () s₁->Xy (X4 prog w) A (g c) Q' E s₁){S:YG}{es es1:Array (Int×Xd)}{ep:Nat}{t t1:JL}{wasDummy:Bool}{R:Option Bool->Xg->Prop}
  (ho:s.heap.get? S=YB o) (hex:o.ExactSet) (hd:o.data= .set es ep t) (he:ElemsOf (V5 prog w) es1.toList) (hb:es1.size<scanBound) (hf:t1.fits es1.size=YD) (ht:Tb b t1)
  (q:∀h' ks',JP S s.heap h'->SetI prog w b h' S ks'->ks'.Perm (es1.toList.map λe=>vI e.2)->R (YB YD) { s with heap:=h' }) :
  Xy (X4 prog w) A (do
    storeSet S es1 t1
    if(!wasDummy&&t1.tooFull)=YD then do
      g (relayAll t1 es1 (V3 es1.size)).2.2
      storeSet S (relayAll t1 es1 (V3 es1.size)).1 (relayAll t1 es1 (V3 es1.size)).2.1
      pure (YB YD)
     else pure (YB YD)) R E s:=by
 refine Xb (wpAny_storeSet_of ho hd ?_ (fits_of_scanBound hb));obtain⟨g1,S1⟩:=SetI.put (b:=b) ho hex hd he hb hf ht;split
 .have pm:=relayAll_perm t1 es1 (V3 es1.size)
  have ff:=relayAll_fits t1 es1 (V3 es1.size);have tt:=ht.relay es1 (V3 es1.size);generalize relayAll t1 es1 (V3 es1.size)=Rl at pm ff tt|-
  obtain⟨es2,t3,gv⟩:=Rl;have sz:es2.size=es1.size:=by rw[<-XM,pm.length_eq,XM]
  have b2:es2.size<scanBound:=by rw[sz];exact hb
  refine Xb (hg _ _ _ (Xb (wpAny_storeSet_of g1 rfl ?_ (fits_of_scanBound b2))));obtain⟨_,S2⟩:=SetI.put (b:=b) g1 hex rfl (he.perm pm) b2 ff tt;exact Xj (q _ _ ((Q7 s.heap S _).trans (Q7 _ S _)) S2 (pm.map _))
 .exact Xj (q _ _ (Q7 s.heap S _) S1 (.refl _))
def Yg9{S:YG}{ks:List Int}{k:Int}{u:Tok}{Q:Bool->Xg->Prop}(hS:SetI prog w b s.heap S ks)(hr:ks.length+1<scanBound)
  (q:∀v h' tk ks',JP S s.heap h'->SetI prog w b h' S ks'->(k∈ks->ks'=ks)->(k∉ks->ks'.Perm (ks++[k]))->Q v { s with heap:=h',toks:=tk }):Xy (X4 prog w) A (setAdd S (.int k u)) Q E s:=by
 have hS0:=hS;obtain⟨o,es,ep,t,ho,hex,hd,he,hb,hf,ht,rfl⟩:=hS;unfold setAdd;refine BP (Xb ((V5 prog w).pyHash (k:=k) (intKind_is _ _ _ _) ?_));show Xy _ _ (setAddHashed S (.int k u) ((V5 prog w).hash k)) Q E { s with toks:=s.toks+1 };unfold setAddHashed setAddHashedIn;refine BP (Xb (wpAny_setState_of (s:={ s with toks:=s.toks+1 }) ho hd hf ?_));dsimp only;rw[byScan_of (x:=.int k u) rfl hb he,YM rfl];unfold setAddByScan;refine Xb (Xb (Us (Xb (wpAny_setScan_of (s:={ s with toks:=s.toks+1 }) (intKind_is prog w k u) ho hd hf he ?_))));cases hx:List.findIdx? (λe=>(V5 prog w).is k e.2) es.toList with
 | some j=>
  dsimp only;obtain⟨hj,pj,_⟩:=List.findIdx?_eq_some_iff_getElem.mp hx;obtain⟨tj,ej⟩:=Zw3 pj;have hk:k∈es.toList.map λe=>vI e.2:=Qk.mpr ⟨_,Q6 hj,by rw[ej];rfl⟩;exact Xj (Xj (q _ s.heap _ _ (JP.refl ..) hS0 (λ_=>rfl) λz=>YZ hk z))
 | none=>
  dsimp only;have hk:k∉es.toList.map λe=>vI e.2:=λz=>by
   obtain⟨e,m,ev⟩:=Qk.mp z;obtain⟨⟨k',i1,_⟩,_⟩:=he e m;obtain⟨t',e2⟩:=Zw3 i1;have:=List.findIdx?_eq_none_iff.mp hx e m;rw[e2]at this ev;cases ev;have z2:(V5 prog w).is k' (.int k' t')=YF:=this;rw[intKind_is]at z2;cases z2
  have gw:∀(c:Bool) {s₁:Xg} {Q':Unit->Xg->Prop},Q' () s₁->Xy (X4 prog w) A (match c with|true=>rule "set.scan.the-table-gave-way"|false=>pure ()) Q' E s₁:=λc s₁ Q' z=>by
   cases c<;>first|exact Xj z|exact Us z
  have pm:=layNew_perm t es ((V5 prog w).hash k) (.int k u);have ff:=layNew_fits t es ((V5 prog w).hash k) (.int k u);have tt:=ht.lay es ((V5 prog w).hash k) (.int k u);generalize layNew t es ((V5 prog w).hash k) (.int k u)=Ln at pm ff tt|-
  obtain⟨es1,t1,wd,gv⟩:=Ln;dsimp only at pm ff tt|-
  rw[Array.toList_push]at pm;have he1:ElemsOf (V5 prog w) es1.toList:=(he.push (intKind_is prog w k u) rfl).perm pm;have hb1:es1.size<scanBound:=by
   rw[<-XM,pm.length_eq,Xw];rw[Xf]at hr;exact hr
  refine Xb (gw _ ?_);have fin:∀h' ks',JP S s.heap h'->SetI prog w b h' S ks'->ks'.Perm (es1.toList.map λe=>vI e.2)->Xy (X4 prog w) A (pure YD) Q E { s with heap:=h',toks:=s.toks+1 }:=λh' ks' sb S' p'=>Xj (q _ h' _ ks' sb S' (λz=>YZ z hk) λ_=>p'.trans (by
   have:=pm.map (λe:Int×Xd=>vI e.2);rw[Qs]at this;exact this))
  have hv:hashByValue 8 (.int k u)=pure YD:=hashByValue_scannable 8 (x:=.int k u) rfl;split
  .refine Xb ?_
   rw[hv];refine Xj ?_;simp only[if_true];exact Z15 (s:={ s with toks:=s.toks+1 }) (by intro c s₁ Q' z;cases c<;>first|exact Xj z|exact Us z) ho hex hd he1 hb1 ff tt λh' ks' sb S' p'=>fin h' ks' sb S' p'
  .refine Xb (Xj ?_)
   simp only[if_true];exact Z15 (s:={ s with toks:=s.toks+1 }) (by intro c s₁ Q' z;cases c<;>first|exact Xj z|exact Us z) ho hex hd he1 hb1 ff tt λh' ks' sb S' p'=>fin h' ks' sb S' p'
end
def byT(w:Ql):Bool:=w.params.followText "set-order"
def OfL(ks ns:List Y):Prop:=ks.Nodup/\∀x,x∈ks↔x∈ns
theorem OfL.add[DecidableEq Y]{ks ks2 ns:List Y}{k:Y}(h:OfL ks ns)(c1:k∈ks->ks2=ks)(c2:k∉ks->ks2.Perm (ks++[k])):OfL ks2 (ns++[k])/\ks2.length<=ks.length+1:=by
 by_cases c:k∈ks
 .rw[c1 c]
  refine⟨⟨h.1,λx=>?_⟩,Nat.le_succ _⟩;rw[X3,<-h.2,Xm];exact⟨.inl,λm=>m.elim id λe=>e▸c⟩
 .have pm:=c2 c
  refine⟨⟨pm.nodup_iff.mpr (List.nodup_append.mpr ⟨h.1,JF.mpr ⟨(!12),.nil⟩,λa ha y hy e=>c (by rw[<-Xm.mp hy,<-e];exact ha)⟩),λx=>?_⟩,by rw[pm.length_eq,Xw];exact Xx _⟩;rw[pm.mem_iff,X3,X3,h.2]
abbrev Of(ks ns:List Int):Prop:=OfL ks ns
structure Yh3{τ:Type}(prog:XH)(w:Ql)(A:Qj)(S:YG)(T:YH->List τ->Prop)(h0:YH)(n:Nat)(Ok:Xd->τ->Prop):Prop where
 stay:∀h h' ks,T h ks->(∀o,h.get? S=YB o->h'.get? S=YB o)->T h' ks
 add:∀(s:Xg) (E:Xd->Xg->Prop) (v:Xd) (k:τ) (ks:List τ) (Q:Bool->Xg->Prop),Ok v k->(∀b o,b<S->h0.get? b=YB o->s.heap.get? b=YB o)->T s.heap ks->ks.length<n->(∀c h' tk ks',JP S s.heap h'->T h' ks'->(k∈ks->ks'=ks)->(k∉ks->ks'.Perm (ks++[k]))->Q c { s with heap:=h',toks:=tk })->Xy (X4 prog w) A (setAdd S v) Q E s
section
variable {prog:XH}{w:Ql}{A:Qj}{R:Result->Xg->Prop}{I S:YG}{fp wr:List YG}{n:Nat}{Pv:Nat->Xd->Prop}{St:Nat->YH->Prop}{τ:Type}{T:YH->List τ->Prop}{h0:YH}{Ok:Xd->τ->Prop}
theorem Ycn[DecidableEq τ](W:Walks prog w A.in1 I fp wr n Pv St)(D:Yh3 prog w A.in1 S T h0 n Ok)(sf:S∉fp)(zw:∀b∈wr,S<b)(ns:List τ)(ln:ns.length=n)(hv:∀i v,Pv i v->∃k,ns[i]? =YB k/\Ok v k) :
  ∀(m i:Nat) (s:Xg) (ks:List τ),n-i=m->i<=n->St i s.heap->T s.heap ks->(∀b o,b<S->h0.get? b=YB o->s.heap.get? b=YB o)->OfL ks (ns.take i)->ks.length<=i ->
  (∀ h' tk ks',T h' ks'->OfL ks' ns->(∀b o,b<S->h0.get? b=YB o->h'.get? b=YB o)->R (.ok (.ret .none)) { s with heap:=h',toks:=tk }) ->
  codeAny (X4 prog w) A (.builtin "set.update.loop" ⟨[.ref S,.ref I],[]⟩) R s:=by
 have sw:S∉wr:=λh=>sf (W.sub _ h);have lw:∀b,b<S->b∉wr:=λb l m=>Nat.lt_asymm l (zw b m);intro m
 induction m with
 | zero=>
  intro i s ks em ei st hS hG hO lk r;have en:i=n:=by omega
  refine Bs F.entry_set_update_loop ?_;rw[JX F.plain_set_update_loop _];show Xy _ A.in1 (VP (.ref I)>>=_) _ _ _;refine Xb (W.done s _ _ (en▸st) λh' tk kp=>?_);show Xy _ A.in1 (ret QF) _ _ { s with heap:=h',toks:=tk };rw[List.take_of_length_le (!0)]at hO;exact Xj (r h' tk ks (D.stay _ _ _ hS λo e=>kp S o sw e) hO λb o l e=>kp b o (lw b l) (hG b o l e))
 | succ m ih=>
  intro i s ks em ei st hS hG hO lk r;have lt:i<n:=by omega
  refine Bs F.entry_set_update_loop ?_;rw[JX F.plain_set_update_loop _];show Xy _ A.in1 (VP (.ref I)>>=_) _ _ _;refine Xb (W.item i s _ _ lt st λv h' tk pv st' kp=>?_);obtain⟨k,ek,ok⟩:=hv i v pv;show Xy _ A.in1 (holding [v] (setAdd S v)>>=_) _ _ { s with heap:=h',toks:=tk };have hG':∀b o,b<S->h0.get? b=YB o->h'.get? b=YB o:=λb o l e=>kp b o (lw b l) (hG b o l e);refine Xb (BP (D.add { s with heap:=h',toks:=tk } _ v k ks _ ok hG' (D.stay _ _ _ hS λo e=>kp S o sw e) (!0) λv h2 tk2 ks2 sb hS2 c1 c2=>?_));have k2:∀b o,b≠S->h'.get? b=YB o->h2.get? b=YB o:=λb o nS e=>by rw[sb.2 b nS];exact e
  have et:ns.take (i+1)=ns.take i++[k]:=by rw[Vr,ek];rfl
  obtain⟨O2,l2⟩:=hO.add c1 c2;rw[<-et]at O2;exact Xj ⟨VH F.plain_set_update_loop _,ih (i+1) _ ks2 (!0) lt (W.frame _ _ _ st' λb bf o e=>k2 b o (λh:b=S=>sf (by rw[<-h];exact bf)) e) hS2 (λb o l e=>k2 b o (Xn l) (hG' b o l e)) O2 (!0) r⟩
end
section
variable {prog:XH}{w:Ql}{A:Qj}{E:Xd->Xg->Prop}{s:Xg}
theorem Yke(a:Xd){Q₁:Xd->Xg->Prop}(h:Q₁ (.ref s.heap.objs.size) { s with heap:=s.heap.push { cls:=.type "set",dict:=YC,data:=.set #[] 0 (.fresh 0 0 (!byT w)) } }) :
  codeAny (X4 prog w) A (.call (.builtin "set.__new__") ⟨[.type "set",a],[]⟩) (wants Q₁ E) s:=by
 refine codeAny_of_tree ?_;show Xy _ A.in1 (do checkBuiltinCall "set.__new__" ⟨[.type "set",a],[]⟩;again (.builtin "set.__new__" ⟨[.type "set",a],[]⟩)) _ _ s;refine Xb (wpAny_of_eq (F.newCall_set_1 a) (Xj ⟨VH F.plain_set_new _,Bs F.entry_set_new ?_⟩));rw[JX F.plain_set_new _];unfold BR.«set.__new__» Builtin.Frozenset.newClass;have hsub:=sub_set_self;obtain⟨hp,g,d,tk,os⟩:=s;dsimp only
 wp_walk
 refine wpAny_askSetting (Xj ?_);dsimp only;simp only[newObj];exact Xb (wpAny_alloc (Xj (Xj h)))
theorem Yc7{τ:Type}[DecidableEq τ]{T:YH->List τ->Prop}{Ok:Xd->τ->Prop}{l:YG}{its:Array Xd}{ns:List τ}{b:Bool}(hh:A.handled=YC)(hl:s.heap.IsList l its)(ln:ns.length=its.size)(D:∀A':Qj,A'.units=A.units+1->Yh3 prog w A' s.heap.objs.size T s.heap its.size Ok)(emp:∀h',h'.get? s.heap.objs.size=YB { cls:=.type "set",dict:=YC,data:=.set #[] 0 (.fresh 0 0 b) }->T h' [])(hv:∀(i:Nat) (v:Xd),its[i]? =YB v->∃k,ns[i]? =YB k/\Ok v k)
  (q:∀h' tk ks,T h' ks->OfL ks ns->(∀b o,b<s.heap.objs.size->s.heap.get? b=YB o->h'.get? b=YB o)->Q .none { s with heap:=h',toks:=tk }) :
  Xy (X4 prog w) A (BR.«set.__init__» ⟨[X7 s.heap.objs.size,X7 l],[]⟩) (λfin s'=>∃v,fin= .done (.ret v)/\Q v s') E { s with heap:=s.heap.push { cls:=.type "set",dict:=YC,data:=.set #[] 0 (.fresh 0 0 b) } }:=by
 obtain⟨ol,hol,hcl,nl,hdl⟩:=id hl;obtain⟨ocls,odict,odata,oslots⟩:=ol;simp only at hcl hdl;subst hcl hdl;have ho':(s.heap.push { cls:=.type "set",dict:=YC,data:=.set #[] 0 (.fresh 0 0 b) }).get? l=YB { cls:=.type "list",dict:=odict,data:=.seq its nl,slots:=oslots }:=Xe _ hol;have gS:(s.heap.push { cls:=.type "set",dict:=YC,data:=.set #[] 0 (.fresh 0 0 b) }).get? s.heap.objs.size=YB { cls:=.type "set",dict:=YC,data:=.set #[] 0 (.fresh 0 0 b) }:=Xv _ rfl;have hT:Shared.TypeIs { s with heap:=s.heap.push { cls:=.type "set",dict:=YC,data:=.set #[] 0 (.fresh 0 0 b) } } (.ref s.heap.objs.size) "set" :=⟨_,gS,rfl⟩;have h1:=F.sub_list_set;have h2:=F.sub_list_frozenset;have h3:(Value.type "list"==Value.type "dict")=YF:=by decide
 have hl1:(s.heap.push { cls:=.type "set",dict:=YC,data:=.set #[] 0 (.fresh 0 0 b) }).IsList l its:=⟨_,ho',rfl,nl,rfl⟩;unfold BR.«set.__init__» noKeywords Builtin.Frozenset.updateFrom;generalize hPI:pyIter=PI
 wp_walk
 subst hPI;refine wpAny_pyIter_list hl1 (Xb (wpAny_runValue ?_));have lS:l<s.heap.objs.size:=Xz hol;refine Ycn (Walks.list (by simpa using hh) _ l ?hne its) (D _ rfl) ?sf ?zw ns ln hv its.size 0 _ [] (!0) (Qp _) ⟨⟨_,Xv _ rfl,rfl,rfl⟩,hl1.push _⟩ (emp _ (Xe _ gS)) (λb o _ e=>Xe _ (Xe _ e)) ⟨.nil,λx=>by rw[List.take_zero]⟩ (Xx _) λh' tk ks hS hO kp=>?_
 case hne=>rw[QC];exact Xn (BK lS)
 case sf=>
  rw[QC];intro m;rcases Xl.mp m with e|m
  .exact Xn (Qx _) e
  .exact XX lS (Xm.mp m)
 case zw=>
  rw[QC];exact λb m=>Xm.mp m▸Qx _
 refine Xj ?_;show Xy _ _ (ret QF) _ _ { s with heap:=h',toks:=tk };exact Xj ⟨_,rfl,q h' tk ks hS hO kp⟩
theorem Zyz{τ:Type}[DecidableEq τ]{T:YH->List τ->Prop}{Ok:Xd->τ->Prop}{l:YG}{its:Array Xd}{ns:List τ}(hh:A.handled=YC)(hl:s.heap.IsList l its)(ln:ns.length=its.size)(D:∀A':Qj,A'.units<=A.units+24->Yh3 prog w A' s.heap.objs.size T s.heap its.size Ok)(emp:∀h',h'.get? s.heap.objs.size=YB { cls:=.type "set",dict:=YC,data:=.set #[] 0 (.fresh 0 0 (!byT w)) }->T h' [])(hv:∀(i:Nat) (v:Xd),its[i]? =YB v->∃k,ns[i]? =YB k/\Ok v k)
  (q:∀h' tk ks,T h' ks->OfL ks ns->(∀b o,b<s.heap.objs.size->s.heap.get? b=YB o->h'.get? b=YB o)->Q (X7 s.heap.objs.size) { s with heap:=h',toks:=tk }) :
  Xy (X4 prog w) A (call (.type "set") [X7 l]) Q E s:=by
 obtain⟨c,tl,e0⟩:=Uv.mro;have e1:=Uv.made;have e2:=Uv.sub;refine wpAny_call (codeAny_of_tree ?_);show Xy _ _ (callAny (.type "set") _) _ _ _;refine Xj ⟨Code.quiet_builtin _ (!9),Bs F.entry_type_call ?_⟩;rw[Qj.under_plain (weight_type_call_type "set" [X7 l] []) rfl];have e3:=Uv.notType;have e4:=Uv.canCreate;have e5:=F.typeCall_set_1 (X7 l)
 repeat any_goals first|assumption|wp_step
 refine codeAny_mono (Yke (X7 l) (E:=E) (Q₁:=λobj s1=>obj=X7 s.heap.objs.size/\s1={ s with heap:=s.heap.push { cls:=.type "set",dict:=YC,data:=.set #[] 0 (.fresh 0 0 (!byT w)) } }) ⟨rfl,rfl⟩) λr s1 r1=>?_;cases r with
 | error e=>exact r1
 | ok fl=>
  cases fl with
  | ret obj=>
   obtain⟨rfl,rfl⟩:=r1;have gS:(s.heap.push { cls:=.type "set",dict:=YC,data:=.set #[] 0 (.fresh 0 0 (!byT w)) }).get? s.heap.objs.size=YB { cls:=.type "set",dict:=YC,data:=.set #[] 0 (.fresh 0 0 (!byT w)) }:=Xv _ rfl;have hT:Shared.TypeIs { s with heap:=s.heap.push { cls:=.type "set",dict:=YC,data:=.set #[] 0 (.fresh 0 0 (!byT w)) } } (X7 s.heap.objs.size) "set" :=⟨_,gS,rfl⟩;have e6:=Uv.init.lookup;have e7:=Uv.init.bind (X7 s.heap.objs.size)
   repeat any_goals first|assumption|wp_step
   refine codeAny_mono (codeAny_call_builtin (R:=wants (λr s2=>r= .none/\∃h' tk ks,s2={ s with heap:=h',toks:=tk }/\T h' ks/\OfL ks ns/\∀b o,b<s.heap.objs.size->s.heap.get? b=YB o->h'.get? b=YB o) E) Uv.init.plain F.entry_set_init (check_set_init_1 hT ?_)) λr2 s2 hr2=>?_
   .refine QQ (Yc7 (T:=T) (Ok:=Ok) (by simpa using hh) hl ln (λA' e=>D A' (by rw[e];show _<=_;dsimp only;omega)) emp hv (Q:=λr s2=>r= .none/\∃h' tk ks,s2={ s with heap:=h',toks:=tk }/\T h' ks/\OfL ks ns/\∀b o,b<s.heap.objs.size->s.heap.get? b=YB o->h'.get? b=YB o) λh' tk ks a1 a2 a3=>⟨rfl,h',tk,ks,rfl,a1,a2,a3⟩) (λfin s' hf=>?_) λ_ _ x=>x
    obtain⟨v,rfl,hq⟩:=hf;exact hq
   .cases r2 with
    | error e=>exact hr2
    | ok fl2=>
     cases fl2 with
     | ret r=>
      obtain⟨rfl,h',tk,ks,rfl,a1,a2,a3⟩:=hr2
      repeat any_goals first|assumption|wp_step
      exact q h' tk ks a1 a2 a3
     | _=>exact hr2.elim
  | _=>exact r1.elim
def Zuy{l:YG}{its:Array Xd}(hh:A.handled=YC)(hl:s.heap.IsList l its)(ln:ns.length=its.size)(lb:its.size+1<scanBound)(hv:∀(i:Nat) (v:Xd),its[i]? =YB v->∃k t,v=Uj k t/\ns[i]? =YB k)
  (q:∀h' tk ks,SetI prog w (!byT w) h' s.heap.objs.size ks->Of ks ns->(∀b o,b<s.heap.objs.size->s.heap.get? b=YB o->h'.get? b=YB o)->Q (X7 s.heap.objs.size) { s with heap:=h',toks:=tk }) :
  Xy (X4 prog w) A (call (.type "set") [X7 l]) Q E s :=
 Zyz (T:=λh ks=>SetI prog w (!byT w) h s.heap.objs.size ks) (Ok:=λv k=>∃t,v=Uj k t) hh hl ln (λ_ _=>⟨λ_ _ _ h k=>h.stay k,λs' E v k ks Q ok _ hS hl r=>by
  obtain⟨t,rfl⟩:=ok;exact Yg9 hS (!0) r⟩) (λh' e=>⟨_,#[],0,_,e,⟨rfl,rfl,rfl⟩,rfl,(λe m=>nomatch m),(!1),rfl,⟨rfl,λ_=>.nil⟩,rfl⟩) (λi v e=>by
  obtain⟨k,t,h1,h2⟩:=hv i v e;exact⟨k,h2,t,h1⟩) q
end
theorem Z4:Slot "set_iterator" "__next__" "set_iterator.__next__" :=
 .of (owner :="set_iterator") (n :="__next__") (by rw[typeLookup_type,builtinLookup_eq_fast];kernel_rfl) (!9) (!9) (!9) (by first|exact .inl (!9)|exact .inr (!9)) (by rw[isSubtype_type];kernel_rfl)
def W4:entryFor table "set_iterator.__next__"=YB BR.«set_iterator.__next__»:=entryFor_of_fast (by kernel_rfl)
def Je(a:Xd):argsOk "set_iterator.__next__" ⟨[a],[]⟩:=by unfold argsOk;kernel_rfl
def Ygg(h:YH)(I S:YG)(slot i n ep:Nat):Prop:=h.get? I=YB { cls:=.type "set_iterator",data:=.fields #[JS slot,JS i,.ref S,JS n,JS ep] }
def Zt4:∀{l:List Y} {i:Nat} (h:i<l.length),(l[i]::l.eraseIdx i).Perm l:=fun{l}=>by
 induction l with
 | nil=>intro i h;cases h
 | cons a l ih=>
  intro i h;cases i with
  | zero=>exact .refl _
  | succ i=>exact(List.Perm.swap ..).trans ((ih (Nat.lt_of_succ_lt_succ h)).cons a)
def Z5i(f:Nat->Nat):∀(fuel k:Nat) (left:List Y) (out:Array Y),left.length=fuel->(pickOrder.go f fuel k left out).toList.Perm (out.toList++left):=by
 intro fuel
 induction fuel with
 | zero=>
  intro k left out l;rw[U0.mp l,JG,pickOrder.go]
 | succ fuel ih=>
  intro k left out l;rw[pickOrder.go];have hlt:f k%left.length<left.length:=Nat.mod_lt _ (!0);rw[Xi hlt];dsimp only;refine(ih (k+1) _ _ (by rw[List.length_eraseIdx_of_lt hlt];omega)).trans ?_;rw[Array.toList_push,Vg];exact List.Perm.append_left _ (Zt4 hlt)
def Ztt(f:Nat->Nat)(xs:Array Y):(pickOrder f xs).toList.Perm xs.toList:=by
 unfold pickOrder;have:=Z5i f xs.size 0 xs.toList #[] (by rw[XM])
 rwa[List.nil_append]at this
end L2
variable {I S:YG}{U:YG->List Int->Prop}{wr:List YG}{ks:List Int}{kk ep slot:Nat}{pr:Pos}{τ:Type}{κ:Uu}
namespace L2
open PySem PySem.Spec PyProof.Rows
section
variable {prog:XH}{w:Ql}{A:Qj}{E:Xd->Xg->Prop}{s:Xg}
def Zyy{src:Source}{n:Nat}{Q:Nat->Xg->Prop}(hn:n≠0)(h:∀i,i<n->Q i { s with drawn:=s.drawn.bump src }):Xy (X4 prog w) A (choose src n) Q E s:=fun Γ p _=>by
 show Sem.wp _ _ (.choose src n .pure) _ _ _ _;rw[Sem.wp_choose];exact⟨hn,h _ (Nat.mod_lt _ (Nat.pos_of_ne_zero hn))⟩
theorem Z5a:∀(n:Nat) (xs:List Y) (s:Xg) (Q:List Y->Xg->Prop),xs.length=n->(∀ys d,ys.Perm xs->Q ys { s with drawn:=d })->Xy (X4 prog w) A (drawOrder n xs) Q E s:=by
 intro n
 induction n with
 | zero=>
  intro xs s Q l q;rw[U0.mp l]at q|-
  exact Xj (q [] s.drawn (.refl _))
 | succ n ih=>
  intro xs s Q l q;cases xs with
  | nil=>cases l
  | cons a xs=>
   rw[drawOrder];refine Xb (Zyy (by rw[l];exact Nat.succ_ne_zero _) λi hi=>?_);rw[Xi hi];dsimp only;refine Xb (ih _ _ _ (by rw[List.length_eraseIdx_of_lt hi];omega) λys d pm=>Xj (q _ d ?_))
   .exact(pm.cons _).trans (Zt4 hi)
   .intro z;cases z
def Zgx(w:Ql)(S:YG)(ep:Nat)(es:Array (Int×Xd)):List Xd:=(if byT w then(pickOrder (w.params.setOrder S ep) es).toList else es.toList).map (·.2)
theorem Zfn{es:Array (Int×Xd)}:(Zgx w S ep es).Perm (es.toList.map (·.2)):=by
 unfold Zgx;split
 .exact(Ztt _ es).map _
 .exact .refl _
def Zku(w:Ql)(t:JL)(slot i:Nat):Prop:=byT w=YF->JB t.place slot=i
theorem Zh9{Q:Bool->Xg->Prop}(h:Q (byT w) s):Xy (X4 prog w) A setsByText Q E s:=by
 unfold setsByText;exact Xb (wpAny_askSetting (Xj h))
def Zkc{es:Array (Int×Xd)}{t:JL}{Q:Option (Xd×Nat)->Xg->Prop}(ho:s.heap.get? S=YB o)(hd:o.data= .set es ep t)(hf:t.fits es.size=YD)(tb:Tb (!byT w) t)(hdr:byT w=YF->t.plain=YD\/es.size<=1)(hs:Zku w t slot i)
  (q:∀r,(∀x,(Zgx w S ep es)[i]? =YB x->∃nx,r=YB (x,nx)/\Zku w t nx (i+1))->((Zgx w S ep es)[i]? =YC->r=YC)->Q r s):Xy (X4 prog w) A (setNext S slot i ep) Q E s:=by
 unfold setNext;refine Xb (wpAny_setState_of ho hd hf (Xb (Zh9 ?_)));cases hb:byT w with
 | true=>
  have ew:Zgx w S ep es=(pickOrder (w.params.setOrder S ep) es).toList.map (·.2):=by unfold Zgx;rw[hb,YM rfl]
  simp only[if_true,bne_self_eq_false,Qg,if_false];unfold setWalk;refine Xb (Xb (wpAny_setState_of ho hd hf (Xb (Zh9 ?_))));rw[hb];simp only[if_true];refine Xb (wpAny_askSetting (Xj (Xj (q _ (λx hx=>?_) λhx=>?_))))
  .rw[ew,Xq,Qc]at hx
   show∃nx,Option.map _ (pickOrder (w.params.setOrder S ep) es)[i]? =_/\_;cases e:(pickOrder (w.params.setOrder S ep) es)[i]? with
   | none=>rw[e]at hx;cases hx
   | some y=>
    rw[e]at hx;cases hx;exact⟨slot,rfl,λz=>by rw[hb]at z;cases z⟩
  .rw[ew,Xq,Qc]at hx
   show Option.map _ (pickOrder (w.params.setOrder S ep) es)[i]? =_;cases e:(pickOrder (w.params.setOrder S ep) es)[i]? with
   | none=>rfl
   | some y=>rw[e]at hx;cases hx
 | false=>
  have ew:Zgx w S ep es=es.toList.map (·.2):=by unfold Zgx;rw[hb];rfl
  have pl:=hdr hb;have le:=tb.led;rw[hb]at le;have bl:=hs hb;obtain⟨mask,place,dummies,finger,led,moves,plain⟩:=t;dsimp only at pl le bl;subst le;have sz0:place.size=es.size:=by
   unfold SetTable.fits at hf;rw[XR,ZC]at hf;exact hf.1
  have up:Up place.toList:=by
   rcases pl with pl|pl
   .exact tb.up pl
   .have l1:place.toList.length<=1:=by rw[XM,sz0];exact pl
    generalize place.toList=l at l1
    match l,l1 with
    | [],_=>exact .nil
    | [a],_=>exact List.pairwise_singleton _ _
  have dr:(!plain&&decide (es.size>1))=YF:=by
   rcases pl with pl|pl
   .rw[pl];rfl
   .rw[YT (!0),Bool.and_false]
  simp only[Qg,if_false];show Xy _ _ (if(!plain&&decide (es.size>1))=YD then _ else _) _ _ _;rw[dr];simp only[Qg,if_false];refine Xb (Xj ?_);have sz:place.size=es.size:=by
   unfold SetTable.fits at hf;rw[XR,ZC]at hf;exact hf.1
  rw[bl];refine Xj (q _ (λx hx=>?_) λhx=>?_)
  .rw[ew,Xq,Qc]at hx
   cases e:es[i]? with
   | none=>rw[e]at hx;cases hx
   | some y=>
    rw[e]at hx;cases hx;have hi:i<place.size:=by rw[sz];exact(Uc.mp e).1
    have ep:place[i]? =YB place[i]:=JM hi;rw[ep];exact⟨place[i]+1,rfl,λ_=>Zsu up (by rw[Qc];exact ep)⟩
  .rw[ew,Xq,Qc]at hx
   cases e:es[i]? with
   | none=>rfl
   | some y=>rw[e]at hx;cases hx
end
section
variable {prog:XH}{w:Ql}{A:Qj}{E:Xd->Xg->Prop}{s:Xg}
def Zs9{es:Array (Int×Xd)}{t:JL}{x:Xd}{Q:Option Xd->Xg->Prop}(hI:Ygg s.heap I S slot i es.size ep)(ho:s.heap.get? S=YB o)(hd:o.data= .set es ep t)(hf:t.fits es.size=YD)(tb:Tb (!byT w) t)(hdr:byT w=YF->t.plain=YD\/es.size<=1)(hs:Zku w t slot i)(hx:(Zgx w S ep es)[i]? =YB x)
  (q:∀h' nx,Ygg h' I S nx (i+1) es.size ep->Zku w t nx (i+1)->JP I s.heap h'->Q (YB x) { s with heap:=h' }):Xy (X4 prog w) A (VP (.ref I)) Q E s:=by
 have hT:s.TypeIs (.ref I) "set_iterator" :=⟨_,hI,rfl⟩;unfold VP;refine Xb (Ud (Q0 (name:=QL "__next__") hT Z4 (QS Z4 hT W4 ?_ (Je _))));unfold BR.«set_iterator.__next__» slotArgs fieldsOf;simp only[List.isEmpty_nil,Uy,Qg,if_false,V1,bne_self_eq_false,pure_bind,bind_assoc];refine Xb (wpAny_load hI ?_);dsimp only;refine Xb (Xj ?_);show Xy _ _ (setEntries S>>=_) _ _ _;refine Xb (UV ho hd hf ?_);rw[show(((es.size:Nat):Int) !=((es.size:Nat):Int))=YF from bne_self_eq_false _];simp only[Qg,if_false];show Xy _ _ (setNext S slot i ep>>=_) _ _ _;refine Xb (Zkc ho hd hf tb hdr hs λr h1 _=>?_);obtain⟨nx,rfl,sk⟩:=h1 x hx;dsimp only;refine Xb (JC hI (!5) λh2 g2 b2=>?_);refine Xb (JC g2 (!5) λh3 g3 b3=>?_);exact Xj ⟨_,rfl,Xj (q h3 nx g3 sk (b2.trans b3))⟩
def Zx4{es:Array (Int×Xd)}{t:JL}{Q:Option Xd->Xg->Prop}(hh:A.handled=YC)(hI:Ygg s.heap I S slot i es.size ep)(ho:s.heap.get? S=YB o)(hd:o.data= .set es ep t)(hf:t.fits es.size=YD)(tb:Tb (!byT w) t)(hdr:byT w=YF->t.plain=YD\/es.size<=1)(hs:Zku w t slot i)(hx:(Zgx w S ep es)[i]? =YC)
  (q:∀h',Heap.ExtBut I s.heap h'->Q YC { s with heap:=h' }):Xy (X4 prog w) A (VP (.ref I)) Q E s:=by
 have hT:s.TypeIs (.ref I) "set_iterator" :=⟨_,hI,rfl⟩;unfold VP;refine Xb (Ud (Q0 (name:=QL "__next__") hT Z4 (QS Z4 hT W4 ?_ (Je _))));unfold BR.«set_iterator.__next__» slotArgs fieldsOf;simp only[List.isEmpty_nil,Uy,Qg,if_false,V1,bne_self_eq_false,pure_bind,bind_assoc];refine Xb (wpAny_load hI ?_);dsimp only;refine Xb (Xj ?_);show Xy _ _ (setEntries S>>=_) _ _ _;refine Xb (UV ho hd hf ?_);rw[show(((es.size:Nat):Int) !=((es.size:Nat):Int))=YF from bne_self_eq_false _];simp only[Qg,if_false];show Xy _ _ (setNext S slot i ep>>=_) _ _ _;refine Xb (Zkc ho hd hf tb hdr hs λr _ h2=>?_);rw[h2 hx];dsimp only;refine Xb (JC hI (!5) λh3 g3 b3=>?_);show Xy _ _ (newExc (.type "StopIteration") []>>=_) _ _ _;refine Xb ?_;simp only[newExc,newTuple];refine Xb (QG ?_ (by size_fits));refine Xb (m:=VR _ _) (wpAny_of_eq (a:=QF) (by first|rfl|(simp only[VR];rfl)) ?_);refine QG ?_ (by size_fits);simp only[raiseNew];refine Xb (wpAny_handled ?_);rw[show A.in1.handled=YC from hh];refine Xb (Xj (wpAny_throw ?_));exact Xb (wpAny_isInstance (T :="StopIteration") (b:=YD) ⟨_,Xv _ rfl,rfl⟩ isSubtype_stop (Xj (q _ ((b3.extBut.push _).push _))))
end
def Yf9(h:YH)(I S T:YG)(i n ep:Nat):Prop:=h.get? I=YB { cls:=.type "set_iterator",data:=.fields #[.ref T,JS i,.ref S,JS n,JS ep] }
def Zx7(ps:List Nat):Array Xd:=(ps.map λ(i:Nat)=>JS i).toArray
def Z63{ps:List Nat}{p:Nat}(h:ps[i]? =YB p):(Zx7 ps)[i]? =YB (JS p):=by
 unfold Zx7;rw[List.getElem?_toArray,Xq,h];rfl
def Zvc{ps:List Nat}(h:ps[i]? =YC):(Zx7 ps)[i]? =YC:=by
 unfold Zx7;rw[List.getElem?_toArray,Xq,h];rfl
section
variable {prog:XH}{w:Ql}{A:Qj}{E:Xd->Xg->Prop}{s:Xg}
def Zta{T:YG}{es:Array (Int×Xd)}{p:Nat}{t:JL}{ps:List Nat}{x:Int×Xd}{Q:Option Xd->Xg->Prop}(hI:Yf9 s.heap I S T i es.size ep)(hT2:s.heap.get? T=YB { cls:=.type "tuple",data:=.seq (Zx7 ps) })(ho:s.heap.get? S=YB o)(hd:o.data= .set es ep t)(hf:t.fits es.size=YD)(hp:ps[i]? =YB p)(hx:es[p]? =YB x)
  (q:∀h',Yf9 h' I S T (i+1) es.size ep->JP I s.heap h'->Q (YB x.2) { s with heap:=h' }):Xy (X4 prog w) A (VP (.ref I)) Q E s:=by
 have hT:s.TypeIs (.ref I) "set_iterator" :=⟨_,hI,rfl⟩;unfold VP;refine Xb (Ud (Q0 (name:=QL "__next__") hT Z4 (QS Z4 hT W4 ?_ (Je _))));unfold BR.«set_iterator.__next__» slotArgs fieldsOf;simp only[List.isEmpty_nil,Uy,Qg,if_false,V1,bne_self_eq_false,pure_bind,bind_assoc];refine Xb (wpAny_load hI ?_);dsimp only;refine Xb (Xj ?_);show Xy _ _ (setEntries S>>=_) _ _ _;refine Xb (UV ho hd hf ?_);rw[show(((es.size:Nat):Int) !=((es.size:Nat):Int))=YF from bne_self_eq_false _];simp only[Qg,if_false];show Xy _ _ (seqItems? (.ref T)>>=_) _ _ _;refine Xb (Vi hT2 rfl ?_);dsimp only;rw[QR,Z63 hp];show Xy _ _ (setNextDrawn S p ep>>=_) _ _ _;unfold setNextDrawn;refine Xb (Xb (wpAny_setState_of ho hd hf ?_));dsimp only;rw[bne_self_eq_false];simp only[Qg,if_false];rw[hx];refine Xj ?_;refine Xb (JC hI (!5) λh2 g2 b2=>?_);exact Xj ⟨_,rfl,Xj (q h2 g2 b2)⟩
def Zxe{T:YG}{es:Array (Int×Xd)}{t:JL}{ps:List Nat}{Q:Option Xd->Xg->Prop}(hh:A.handled=YC)(hI:Yf9 s.heap I S T i es.size ep)(hT2:s.heap.get? T=YB { cls:=.type "tuple",data:=.seq (Zx7 ps) })(ho:s.heap.get? S=YB o)(hd:o.data= .set es ep t)(hf:t.fits es.size=YD)(hp:ps[i]? =YC)
  (q:∀h',Heap.ExtBut I s.heap h'->Q YC { s with heap:=h' }):Xy (X4 prog w) A (VP (.ref I)) Q E s:=by
 have hT:s.TypeIs (.ref I) "set_iterator" :=⟨_,hI,rfl⟩;unfold VP;refine Xb (Ud (Q0 (name:=QL "__next__") hT Z4 (QS Z4 hT W4 ?_ (Je _))));unfold BR.«set_iterator.__next__» slotArgs fieldsOf;simp only[List.isEmpty_nil,Uy,Qg,if_false,V1,bne_self_eq_false,pure_bind,bind_assoc];refine Xb (wpAny_load hI ?_);dsimp only;refine Xb (Xj ?_);show Xy _ _ (setEntries S>>=_) _ _ _;refine Xb (UV ho hd hf ?_);rw[show(((es.size:Nat):Int) !=((es.size:Nat):Int))=YF from bne_self_eq_false _];simp only[Qg,if_false];show Xy _ _ (seqItems? (.ref T)>>=_) _ _ _;refine Xb (Vi hT2 rfl ?_);dsimp only;rw[QR,Zvc hp];dsimp only;refine Xb (JC hI (!5) λh2 g2 b2=>?_);refine Xb (JC g2 (!5) λh3 g3 b3=>?_);show Xy _ _ (newExc (.type "StopIteration") []>>=_) _ _ _;refine Xb ?_;simp only[newExc,newTuple];refine Xb (QG ?_ (by size_fits));refine Xb (m:=VR _ _) (wpAny_of_eq (a:=QF) (by first|rfl|(simp only[VR];rfl)) ?_);refine QG ?_ (by size_fits);simp only[raiseNew];refine Xb (wpAny_handled ?_);rw[show A.in1.handled=YC from hh];refine Xb (Xj (wpAny_throw ?_));exact Xb (wpAny_isInstance (T :="StopIteration") (b:=YD) ⟨_,Xv _ rfl,rfl⟩ isSubtype_stop (Xj (q _ (((b2.trans b3).extBut.push _).push _))))
end
theorem Zj0:entryFor table "set.__iter__"=YB BR.«frozenset.__iter__»:=entryFor_alias (id' :="frozenset.__iter__") (by kernel_rfl) rfl (!9) (by kernel_rfl)
def Zcc:Slot "set_iterator" "__iter__" "set_iterator.__iter__" :=
 .of (owner :="set_iterator") (n :="__iter__") (by rw[typeLookup_type,builtinLookup_eq_fast];kernel_rfl) (!9) (!9) (!9) (by first|exact .inl (!9)|exact .inr (!9)) (by rw[isSubtype_type];kernel_rfl)
def Zfe:entryFor table "set_iterator.__iter__"=YB BR.«dict_keyiterator.__iter__»:=entryFor_alias (id' :="dict_keyiterator.__iter__") (by kernel_rfl) (by first|rfl|decide +kernel|(unfold String.splitOn;simp +decide [String.splitOnAux])) (!9) (by kernel_rfl)
def Zgf(a:Xd):argsOk "set_iterator.__iter__" ⟨[a],[]⟩:=by unfold argsOk;kernel_rfl
section
variable {prog:XH}{w:Ql}{A:Qj}{E:Xd->Xg->Prop}{s:Xg}
def Zke{vs:Array Xd}(hI:s.heap.get? I=YB { cls:=.type "set_iterator",data:=.fields vs })(h:Q (.ref I) s):Xy (X4 prog w) A (pyIter (.ref I)) Q E s:=by
 have hT:s.TypeIs (.ref I) "set_iterator" :=⟨_,hI,rfl⟩;refine wpAny_pyIter_slot hT Zcc (QS Zcc hT Zfe ?_ (Zgf _));show Xy _ _ (ret (.ref I)) _ _ s;exact Xj ⟨_,rfl,"set_iterator",_,hT,Z4.lookup,h⟩
theorem Z9q{es:Array (Int×Xd)}{t:JL}(ho:s.heap.get? S=YB o)(hex:o.ExactSet)(hd:o.data= .set es ep t)(hf:t.fits es.size=YD)(hz:es.size<=1000)
  (q1:(byT w=YF->t.plain=YD\/es.size<=1)->Q (.ref s.heap.objs.size) { s with heap:=s.heap.push { cls:=.type "set_iterator",data:=.fields #[JS 0,JS 0,.ref S,JS es.size,JS ep] } })
  (q2:∀ps d,ps.Perm (QJ es.size)->Q (.ref (s.heap.objs.size+1)) { s with heap:=(s.heap.push { cls:=.type "tuple",data:=.seq (Zx7 ps) }).push { cls:=.type "set_iterator",data:=.fields #[.ref s.heap.objs.size,JS 0,.ref S,JS es.size,JS ep] },drawn:=d }):Xy (X4 prog w) A (pyIter (.ref S)) Q E s:=by
 have hT:s.TypeIs (.ref S) "set" :=⟨o,ho,hex.1⟩;refine wpAny_pyIter_slot hT F.slot_set_iter (QS F.slot_set_iter hT Zj0 ?_ (F.args_set_iter_1 _));unfold BR.«frozenset.__iter__» Builtin.Frozenset.slot0 slotArgs;simp only[List.isEmpty_nil,Uy,Qg,if_false,V1,bne_self_eq_false,pure_bind,bind_assoc];unfold Builtin.Frozenset.addrOf Builtin.Frozenset.sizeOf setDrawn;refine Xb (Xj ?_);refine Xb (Xb (UV ho hd hf (Xj ?_)));refine Xb (Xb (wpAny_setState_of ho hd hf (Xb (Zh9 (Xj ?_)))));show Xy _ _ (if(!byT w&&(!t.plain&&decide (es.size>1)))=YD then _ else _) _ _ _
 by_cases c:(!byT w&&(!t.plain&&decide (es.size>1)))=YD
 .rw[YM c]
  refine Xb (Z5a _ _ _ _ JW λps d pm=>?_);refine Xb (wpAny_newTuple ?_ (by rw[Xf,pm.length_eq,JW,Qe];omega));refine Xb (wpAny_setEpoch_of (Xe _ ho) hd hf ?_);have e:(s.heap.push { cls:=.type "tuple",data:=.seq (Zx7 ps) }).objs.size=s.heap.objs.size+1:=QC ..;refine Xb (QG (Xj ⟨_,rfl,"set_iterator",_,⟨_,Xv _ rfl,rfl⟩,Z4.lookup,?_⟩));have:=q2 ps d pm;rw[<-e]at this;exact this
 .rw[YQ c]
  refine Xb (wpAny_setEpoch_of ho hd hf ?_);refine Xb (QG (Xj ⟨_,rfl,"set_iterator",_,⟨_,Xv _ rfl,rfl⟩,Z4.lookup,q1 λhb=>?_⟩));rw[hb]at c;cases hp:t.plain with
  | true=>exact .inl rfl
  | false=>
   rw[hp]at c;exact .inr (Nat.le_of_not_lt λz=>c (by rw[YS z];rfl))
theorem Ya2(hh:A.handled=YC)(ne:S≠I){es:Array (Int×Xd)}{t:JL}(hd:o.data= .set es ep t)(hf:t.fits es.size=YD)(tb:Tb (!byT w) t)(hdr:byT w=YF->t.plain=YD\/es.size<=1) :
  Walks prog w A I [I,S] [I] es.size (λi v=>(Zgx w S ep es)[i]? =YB v) (λi h=>(∃slot,Ygg h I S slot i es.size ep/\Zku w t slot i)/\h.get? S=YB o) where
 sub:=λb hb=>by rw[Xm.mp hb];exact .head _
 frame:=λi h h' st k=>by
  obtain⟨⟨slot,h1,h2⟩,h3⟩:=st;exact⟨⟨slot,k I (!8) _ h1,h2⟩,k S (!15) _ h3⟩
 item:=λi s Q E hi st q=>by
  obtain⟨⟨slot,h1,h2⟩,h3⟩:=st;have hl:i<(Zgx w S ep es).length:=by rw[Zfn.length_eq,Xf,XM];exact hi
  have hx:=Xi hl;refine Zs9 h1 h3 hd hf tb hdr h2 hx λh' nx g1 g2 g3=>?_;exact q _ h' s.toks hx ⟨⟨nx,g1,g2⟩,g3.extBut _ _ ne h3⟩ λb o nb e=>g3.extBut _ _ (λz=>nb (Xm.mpr z)) e
 done:=λs Q E st q=>by
  obtain⟨⟨slot,h1,h2⟩,h3⟩:=st;refine Zx4 hh h1 h3 hd hf tb hdr h2 (Bk (by rw[Zfn.length_eq,Xf,XM];exact Xx _)) λh' g=>?_;exact q h' s.toks λb o nb e=>g _ _ (λz=>nb (Xm.mpr z)) e
 self:=λi s Q E st q=>by
  obtain⟨⟨slot,h1,h2⟩,h3⟩:=st;exact Zke h1 q
def Zlj(ps:List Nat)(es:Array (Int×Xd)):List Xd:=ps.filterMap λp=>es[p]?.map (·.2)
theorem Zod{ps:List Nat}{es:Array (Int×Xd)}(pm:ps.Perm (QJ es.size)):(Zlj ps es).Perm (es.toList.map (·.2)):=by
 have e:Zlj (QJ es.size) es=es.toList.map (·.2):=by
  have h:=filterMap_getElem?_range es;unfold Zlj;rw[<-List.map_filterMap,h]
 rw[<-e];exact pm.filterMap _
def Z4n{ps:List Nat}{es:Array (Int×Xd)}(h:∀p∈ps,p<es.size):∀{i p:Nat},ps[i]? =YB p->∃x,es[p]? =YB x/\(Zlj ps es)[i]? =YB x.2:=by
 induction ps with
 | nil=>intro i p e;cases e
 | cons a ps ih=>
  intro i p e;have ha:=h a (!8);have ea:es[a]? =YB es[a]:=JM ha;have ed:Zlj (a::ps) es=es[a].2::Zlj ps es:=by
   unfold Zlj;rw[QX,ea];rfl
  rw[ed];cases i with
  | zero=>
   cases e;exact⟨_,ea,rfl⟩
  | succ i=>exact ih (λp m=>h p (.tail _ m)) e
theorem Yap(hh:A.handled=YC){T:YG}(n1:S≠I)(n2:T≠I){es:Array (Int×Xd)}{t:JL}{ps:List Nat}(hd:o.data= .set es ep t)(hf:t.fits es.size=YD)(pm:ps.Perm (QJ es.size)) :
  Walks prog w A I [I,S,T] [I] es.size (λi v=>(Zlj ps es)[i]? =YB v) (λi h=>Yf9 h I S T i es.size ep/\h.get? S=YB o/\h.get? T=YB { cls:=.type "tuple",data:=.seq (Zx7 ps) }) where
 sub:=λb hb=>by rw[Xm.mp hb];exact .head _
 frame:=λi h h' st k=>⟨k I (!8) _ st.1,k S (!15) _ st.2.1,k T (.tail _ (!15)) _ st.2.2⟩
 item:=λi s Q E hi st q=>by
  have hl:i<ps.length:=by rw[pm.length_eq,JW];exact hi
  have hp:=Xi hl;obtain⟨x,h1,h2⟩:=Z4n (es:=es) (λp m=>VG.mp (pm.mem_iff.mp m)) hp;refine Zta st.1 st.2.2 st.2.1 hd hf hp h1 λh' g1 g3=>?_;exact q _ h' s.toks h2 ⟨g1,g3.extBut _ _ n1 st.2.1,g3.extBut _ _ n2 st.2.2⟩ λb o nb e=>g3.extBut _ _ (λz=>nb (Xm.mpr z)) e
 done:=λs Q E st q=>by
  refine Zxe hh st.1 st.2.2 st.2.1 hd hf (Bk (by rw[pm.length_eq,JW];exact Xx _)) λh' g=>?_;exact q h' s.toks λb o nb e=>g _ _ (λz=>nb (Xm.mpr z)) e
 self:=λi s Q E st q=>Zke st.1 q
end
theorem Z74:typeLookup (.type "set") "__len__"=pure (YB (.builtin "set.__len__")):=F.slot_set_len.lookup
section
variable {prog:XH}{w:Ql}{A:Qj}{E:Xd->Xg->Prop}{s:Xg}
theorem Z3q{Q:Bool->Xg->Prop}(ho:s.heap.get? S=YB o)(hex:o.ExactSet)(h:Q YF s):Xy (X4 prog w) A (Builtin.List.listLengthHint (.ref S)) Q E s:=by
 have hT:s.TypeIs (.ref S) "set" :=⟨o,ho,hex.1⟩;unfold Builtin.List.listLengthHint;refine Xb (wpAny_specialOf hT Z74 ?_);generalize hid:("set.__len__" : String)=id0
 (fail_if_success (clear hid id0))
 wp_delta
 rw[show splitId id0=YB ("set","__len__")from by subst hid;decide +kernel];subst hid;refine Xb (wpAny_isInstance (b:=YD) hT (by rw[isSubtype_type];kernel_rfl) ?_);simp only[Uy,Qg,if_false];rw[YM (!9)];refine Xb (wpAny_typeOf hT ?_);exact Xj h
theorem Znq{N:YG}{fp:List YG}{n:Nat}{P:Nat->Xd->Prop}{St:Nat->YH->Prop}(W:Walks prog w A.in1 I fp wr n P St)(hn:n<=1000)(hN:N∉fp)(st:St 0 s.heap)(gN:s.heap.get? N=YB { cls:=.type "list",data:=.seq #[] 2 })
  (q:∀h' tk (acc:Array Xd) c,acc.size=n->(∀(j:Nat) v,acc[j]? =YB v->P j v)->h'.get? N=YB { cls:=.type "list",data:=.seq acc c }->(∀b o,b∉N::wr->s.heap.get? b=YB o->h'.get? b=YB o)->R (.ok (.ret (.ref N))) { s with heap:=h',toks:=tk }) :
  codeAny (X4 prog w) A (.builtin "list.extend.loop" ⟨[.ref N,.ref I,.ref N],[]⟩) R s:=by
 refine codeAny_extend_loopS W.toS (by rw[Qe];omega) N hN (.ref N) n 0 s #[] 2 rfl (Qp _) st gN (ItemsOf.nil P) λs' acc c hm g it=>?_;obtain⟨h',g',d',tk',os'⟩:=s';have eg:g'=s.gens:=hm.gens;have ed:d'=s.drawn:=hm.drawn;have eo:os'=s.os:=hm.os;subst eg ed eo;exact q h' tk' acc c it.1 it.2 g hm.heap
theorem Zxf{N:YG}{Q:Unit->Xg->Prop}(gN:s.heap.get? N=YB { cls:=.type "list",data:=.seq #[] 0 })(q:∀h',h'.get? N=YB { cls:=.type "list",data:=.seq #[] 2 }->JP N s.heap h'->Q () { s with heap:=h' }):Xy (X4 prog w) A (Builtin.List.listTouch (.ref N)) Q E s:=by
 unfold Builtin.List.listTouch;refine Xb (listUpdate_at gN rfl ?_ (by rw[Qe];exact Qp _) (by rw[Qe];exact Qa rfl));have g1:=get?_update_seq (c :="list") (n:=0) gN (·.push .none);refine listUpdate_at g1 rfl (q _ ?_ ((Q7 ..).trans (Q7 ..))) (by rw[Qe];exact Qa rfl) (by rw[Qe];exact Qp _);exact get?_update_seq (c :="list") g1 (·.pop)
end
section
variable {prog:XH}{w:Ql}{A:Qj}{E:Xd->Xg->Prop}{s:Xg}
theorem Zkr{l:List Y}{acc:Array Y}(h:acc.size=l.length)(k:∀(j:Nat) v,acc[j]? =YB v->l[j]? =YB v):acc.toList=l:=by
 refine List.ext_getElem? λj=>?_;rw[Qc];cases e:acc[j]? with
 | some v=>exact(k j v e).symm
 | none=>
  have:=Array.getElem?_eq_none_iff.mp e;exact(Bk (!0)).symm
theorem Zw0{es:Array (Int×Xd)}{t:JL}{Q:List Xd->Xg->Prop}(hh:A.handled=YC)(ho:s.heap.get? S=YB o)(hex:o.ExactSet)(hd:o.data= .set es ep t)(hf:t.fits es.size=YD)(tb:Tb (!byT w) t)(hz:es.size<=1000)
  (q:∀h' tk d acc,acc.Perm (es.toList.map (·.2))->s.heap.objs.size<=h'.objs.size->(∀b o,b<s.heap.objs.size->s.heap.get? b=YB o->h'.get? b=YB o)->Q acc { s with heap:=h',toks:=tk,drawn:=d }):Xy (X4 prog w) A (collect (.ref S)) Q E s:=by
 have lS:S<s.heap.objs.size:=Xz ho;unfold collect;refine Xb (wpAny_runValue (Bs F.entry_proto_collect ?_));rw[JX F.plain_proto_collect _];show Xy _ A.in1 (newList []>>= λl=>again (.builtin "list.__iadd__" ⟨[l,.ref S],[]⟩)) _ _ s;refine Xb (QG (Xj ⟨VH F.plain_list_iadd _,Bs F.entry_list_iadd ?_⟩));rw[JX F.plain_list_iadd _];have g0:(s.heap.push { cls:=.type "list",data:=.seq ([]:List Xd).toArray }).get? s.heap.objs.size=YB { cls:=.type "list",data:=.seq #[] 0 }:=Xv _ rfl;have s0:(s.heap.push { cls:=.type "list",data:=.seq ([]:List Xd).toArray }).objs.size=s.heap.objs.size+1:=QC ..;have ho1:(s.heap.push { cls:=.type "list",data:=.seq ([]:List Xd).toArray }).get? S=YB o:=Xe _ ho;generalize hH:s.heap.push { cls:=.type "list",data:=.seq ([]:List Xd).toArray }=H1 at g0 s0 ho1|-
 have old:∀b o,s.heap.get? b=YB o->H1.get? b=YB o:=λb o e=>by rw[<-hH];exact Xe _ e
 show Xy _ A.in1 (Builtin.List.listExtendWith (.ref s.heap.objs.size) (.ref S) (.ref s.heap.objs.size)) _ _ { s with heap:=H1 };have hT1:Shared.TypeIs { s with heap:=H1 } (.ref S) "set" :=⟨o,ho1,hex.1⟩;have ns:Builtin.List.listSameRef (.ref s.heap.objs.size) (.ref S)=YF:=by simp[Builtin.List.listSameRef,XX lS]
 unfold Builtin.List.listExtendWith;refine Xb (wpAny_typeOf hT1 ?_);rw[YQ (by rw[ns];decide)];refine Xb (Z9q (s:={ s with heap:=H1 }) ho1 hex hd hf hz (λhdr=>?_) λps d pm=>?_)
 .refine Xb (BP (Z3q (Xe _ ho1) hex ?_))
  rw[YM (!9)];refine Xb (Us (Xb (Zxf (Xe _ g0) λh2 g2 b2=>Xj ⟨VH F.plain_extend_loop _,?_⟩)));have gI:h2.get? H1.objs.size=YB { cls:=.type "set_iterator",data:=.fields #[JS 0,JS 0,.ref S,JS es.size,JS ep] }:=b2.extBut _ _ (by rw[s0];exact XX (Qx _)) (Xv _ rfl);have gS:h2.get? S=YB o:=b2.extBut _ _ (Xn lS) (Xe _ ho1);refine Znq (I:=H1.objs.size) (s:={ s with heap:=h2 }) (Ya2 (S:=S) (by simpa using hh) (by rw[s0];exact Xn (BK lS)) hd hf tb hdr) hz (λm=>?_) ⟨⟨0,gI,λhb=>?_⟩,gS⟩ g2 λh' tk acc c l1 l2 g k=>?_
  .rw[s0]at m
   rcases Xl.mp m with e|m
   .exact Xn (Qx _) e
   .exact XX lS (Xm.mp m)
  .refine Zsr ?_
   rcases hdr hb with z|z
   .exact tb.up z
   .have sz:t.place.size=es.size:=by
     unfold SetTable.fits at hf;rw[XR,ZC]at hf;exact hf.1
    have l1:t.place.toList.length<=1:=by rw[XM,sz];exact z
    generalize t.place.toList=l at l1
    match l,l1 with
    | [],_=>exact .nil
    | [a],_=>exact List.pairwise_singleton _ _
  .have ea:acc.toList=Zgx w S ep es:=Zkr (by rw[l1,Zfn.length_eq,Xf,XM]) l2
   show Xy _ A (load s.heap.objs.size>>=_) _ _ { s with heap:=h',toks:=tk };refine Xb (wpAny_load g (Xj (q h' tk s.drawn acc.toList (ea▸Zfn) (U6 (Xz g)) λb o lb e=>k b o (λm=>?_) (b2.extBut _ _ (Xn lb) (Xe _ (old b o e))))));rcases Xl.mp m with z|m
   .exact Xn lb z
   .rw[Xm.mp m,s0]at lb
    exact Vf _ (Nat.lt_of_succ_lt lb)
 .refine Xb (BP (Z3q (Xe _ (Xe _ ho1)) hex ?_))
  rw[YM (!9)];refine Xb (Us (Xb (Zxf (Xe _ (Xe _ g0)) λh2 g2 b2=>Xj ⟨VH F.plain_extend_loop _,?_⟩)));have s1:(H1.push { cls:=.type "tuple",data:=.seq (Zx7 ps) }).objs.size=s.heap.objs.size+1+1:=by rw[QC,s0]
  have gI:h2.get? (s.heap.objs.size+1+1)=YB { cls:=.type "set_iterator",data:=.fields #[.ref H1.objs.size,JS 0,.ref S,JS es.size,JS ep] }:=b2.extBut _ _ (XX (BK (Qx _))) (by rw[<-s1];exact Xv _ rfl);have gS:h2.get? S=YB o:=b2.extBut _ _ (Xn lS) (Xe _ (Xe _ ho1));have gT:h2.get? H1.objs.size=YB { cls:=.type "tuple",data:=.seq (Zx7 ps) }:=b2.extBut _ _ (by rw[s0];exact XX (Qx _)) (Xe _ (Xv _ rfl));rw[show H1.objs.size+1=s.heap.objs.size+1+1 by rw[s0]];refine Znq (I:=s.heap.objs.size+1+1) (s:={ s with heap:=h2,drawn:=d }) (Yap (S:=S) (T:=H1.objs.size) (by simpa using hh) (Xn (BK (BK lS))) (by rw[s0];exact Xn (Qx _)) hd hf pm) hz (λm=>?_) ⟨gI,gS,gT⟩ g2 λh' tk acc c l1 l2 g k=>?_
  .rcases Xl.mp m with e|m
   .exact Xn (BK (Qx _)) e
   rcases Xl.mp m with e|m
   .exact XX lS e
   .have:=Xm.mp m
    rw[s0]at this;exact Xn (Qx _) this
  .have ea:acc.toList=Zlj ps es:=Zkr (by rw[l1,(Zod pm).length_eq,Xf,XM]) l2
   show Xy _ A (load s.heap.objs.size>>=_) _ _ { s with heap:=h',toks:=tk,drawn:=d };refine Xb (wpAny_load g (Xj (q h' tk d acc.toList (ea▸Zod pm) (U6 (Xz g)) λb o lb e=>k b o (λm=>?_) (b2.extBut _ _ (Xn lb) (Xe _ (Xe _ (old b o e)))))));rcases Xl.mp m with z|m
   .exact Xn lb z
   .rw[Xm.mp m]at lb
    exact Vf _ (Nat.lt_of_succ_lt (Nat.lt_of_succ_lt lb))
end
def ints_of(h:∀v∈vs,∃k t,v= .int k t):Vd vs (vs.map vI):=by
 induction vs with
 | nil=>exact .nil
 | cons v vs ih=>
  obtain⟨k,t,rfl⟩:=h v (!8);exact .cons k t (ih λu m=>h u (.tail _ m))
section
variable {prog:XH}{w:Ql}{A:Qj}{E:Xd->Xg->Prop}{s:Xg}
def Zzm(hh:A.handled=YC)(hS:SetI prog w (!byT w) s.heap S ks)(h64:ks.length<64)
  (q:∀h' tk d L (out:List Xd) c,s.heap.objs.size<=L->h'.get? L=YB { cls:=.type "list",data:=.seq out.toArray c }->Vd out (Zch ks)->(∀b o,b<s.heap.objs.size->s.heap.get? b=YB o->h'.get? b=YB o)->Q (.ref L) { s with heap:=h',toks:=tk,drawn:=d }):Xy (X4 prog w) A (call (.builtin "sorted") [.ref S]) Q E s:=by
 obtain⟨o,es,ep,t,ho,hex,hd,he,hb,hf,tb,rfl⟩:=hS;rw[Xf,XM]at h64;refine Calls.call_function_entry kind_sorted plain_sorted entry_sorted (args_sorted1 _) ?_;unfold BR.«sorted»;refine Xb (m:=checkCount "sorted" 1 1 _) (Xj ?_);refine Xb (Zw0 (by simpa using hh) ho hex hd hf tb (!0) λh1 tk d acc pm lN k1=>?_);have la:acc.length=es.size:=by rw[pm.length_eq,Xf,XM]
 refine Xb (wpAny_newList ?_ (by rw[Qe];omega));have ga:(h1.push (Vn "list" acc.toArray 0)).get? h1.objs.size=YB (Vn "list" acc.toArray 0):=Xv _ rfl;have ia:Vd acc (acc.map vI):=ints_of λv m=>by
  obtain⟨e,me,rfl⟩:=Qk.mp (pm.mem_iff.mp m);obtain⟨⟨k,i1,_⟩,_⟩:=he e me;obtain⟨t',e2⟩:=Zw3 i1;exact⟨k,t',e2⟩
 refine Xb (BP (QS slot_list_sort ⟨_,ga,rfl⟩ entry_list_sort (list_sort_tree ga ia (!0) λout ns' a1 a2 a3=>⟨_,rfl,?_⟩) (args_list_sort _)));have en:ns'=Zch (es.toList.map λe=>vI e.2):=Zbg (a2.trans (((pm.map vI).trans (by rw[X6];exact .refl _)).trans (J3 _).symm)) a3 (W9 _);subst en;have g1:=get?_update_seq (c :="list") ga (λ_=>(#[]:Array Xd));have g3:=get?_update_seq (c :="list") (Xe (Vn "list" #[] 0) (Xe (Vn "tuple" acc.toArray 0) g1)) (λ_=>out);refine Xj ⟨_,rfl,q _ tk d _ out.toList _ lN (by rw[Array.toArray_toList];exact g3) a1 λb o lb e=>?_⟩;have nb:b≠h1.objs.size:=Xn (X8 lb lN);exact(Q7 ..).extBut _ _ nb (Xe _ (Xe _ ((Q7 ..).extBut _ _ nb (Xe _ (k1 b o lb e)))))
end
theorem Inv.drawn{O:St}(I:Inv X pins O H s)(d:Drawn):Inv X pins O H { s with drawn:=d }:=by
 refine I.call (ch:=[]) (g':=s.gens) (d':=d) (t':=s.toks) ⟨λb o e _ _ _=>e,λb o e _ _ _=>⟨o.slots,e⟩,λb o e n _=>n,λb o e _=>⟨o,e⟩,λb ys e=>e,λb o u e=>e,λb ps e=>⟨#[],by rw[e];simp⟩⟩ (λb u e=>I.hok b u e) I.bare (λb hb=>nomatch hb)
def dnc:List Int->List Int
 | []=>[]
 | x::xs=>if x∈xs then dnc xs else x::dnc xs
theorem Zfd(ns:List Int):Of (dnc ns) ns:=by
 induction ns with
 | nil=>exact⟨.nil,λx=>.rfl⟩
 | cons a ns ih=>
  rw[dnc];split
  .rename_i c
   exact⟨ih.1,λx=>by rw[ih.2,Xl];exact⟨.inr,λm=>m.elim (λe=>e▸c) id⟩⟩
  .rename_i c
   exact⟨JF.mpr ⟨λm=>c ((ih.2 a).mp m),ih.1⟩,λx=>by rw[Xl,Xl,ih.2]⟩
def Zyc(h:Of ks ns):Zch ks=Zch (dnc ns):=by
 have pm:ks.Perm (dnc ns):=(List.perm_ext_iff_of_nodup h.1 (Zfd ns).1).mpr λx=>by rw[h.2,(Zfd ns).2]
 exact Zbg ((J3 ks).trans (pm.trans (J3 _).symm)) (W9 _) (W9 _)
section
variable {X:Cx}{p c:Bool}{io:List Nat}{a e:YJ}{pos pos' pl pr:Pos}{t:TA}{mr:MAt}{ra:FA}
end
section
variable {κ:Type}[DecidableEq κ]
def Zsl(kvs:List (κ×V))(k:κ):Option V:=(kvs.find? λkv=>decide (kv.1=k)).map (·.2)
def putK(kvs:List (κ×V))(k:κ)(v:V):List (κ×V) :=
 if(kvs.any λkv=>decide (kv.1=k))=YD then kvs.map (λkv=>if kv.1=k then(kv.1,v)else kv)else kvs++[(k,v)]
def Zhp{p:κ×V}{r:List (κ×V)}{k:κ}(e:p.1=k):Zsl (p::r) k=YB p.2:=by simp[Zsl,UJ,e]
def Zhq{p:κ×V}{r:List (κ×V)}{k:κ}(e:¬p.1=k):Zsl (p::r) k=Zsl r k:=by simp[Zsl,UJ,e]
theorem Zqk(k:κ):∀kvs:List (κ×V),(kvs.any λkv=>decide (kv.1=k))=(Zsl kvs k).isSome
 | []=>rfl
 | p::r=>by
  rw[List.any_cons]
  by_cases e:p.1=k
  .simp only[Zhp e,YS e,Bool.true_or,Option.isSome_some]
  .rw[Zhq e,YT e,Bool.false_or];exact Zqk k r
def Zi2(kvs:List (κ×V))(k:κ)(v:V):(putK kvs k v).length<=kvs.length+1:=by
 unfold putK;split
 .rw[Xf];omega
 .rw[Xw,XQ,V1];omega
def RelO.isSome_eq{o:Option V}{u:Option Xd}(r:RelO o u):o.isSome=u.isSome:=by
 cases o with
 | none=>cases u with
  | none=>rfl
  | some _=>exact(show False from r).elim
 | some _=>cases u with
  | none=>exact(show False from r).elim
  | some _=>rfl
def RelO.getD{o:Option V}{u:Option Xd}{d:V}{d':Xd}(r:RelO o u)(rd:RelV d d'):RelV (o.getD d) (u.getD d'):=by
 cases o with
 | none=>cases u with
  | none=>exact rd
  | some _=>exact(show False from r).elim
 | some _=>cases u with
  | none=>exact(show False from r).elim
  | some _=>exact r
def KV.val{kvs:List (κ×V)}{vs:List (κ×Xd)}(r:KV kvs vs)(k:κ):RelO (Zsl kvs k) (valueAt vs k):=by
 unfold KV at r
 induction r with
 | nil=>exact Ug
 | @cons p q ps qs h t ih=>
  obtain⟨h1,h2⟩:=h
  by_cases e:p.1=k
  .have e':q.1=k:=h1.symm.trans e
   have b:valueAt (q::qs) k=YB q.2:=by simp[valueAt,UJ,e']
   rw[Zhp e,b];exact h2
  .have e':¬q.1=k:=λz=>e (h1.trans z)
   have b:valueAt (q::qs) k=valueAt qs k:=by simp[valueAt,UJ,e']
   rw[Zhq e,b];exact ih
def KV.any{kvs:List (κ×V)}{vs:List (κ×Xd)}(r:KV kvs vs)(k:κ):(kvs.any λkv=>decide (kv.1=k))=vs.any λkv=>decide (kv.1=k):=by
 unfold KV at r
 induction r with
 | nil=>rfl
 | cons h t ih=>rw[List.any_cons,List.any_cons,ih,h.1]
def KV.repl{kvs:List (κ×V)}{vs:List (κ×Xd)}(r:KV kvs vs)(k:κ)(ry:RelV y u) :
  KV (kvs.map λkv=>if kv.1=k then(kv.1,y)else kv) (vs.map λkv=>if kv.1=k then(kv.1,u)else kv):=by
 unfold KV at r|-
 induction r with
 | nil=>exact .nil
 | @cons p q ps qs h t ih=>
  rw[XC,XC];refine .cons ?_ ih;obtain⟨h1,h2⟩:=h
  by_cases e:p.1=k
  .rw[YM e,YM (h1.symm.trans e)];exact⟨h1,ry⟩
  .rw[YQ e,YQ (λz=>e (h1.trans z))];exact⟨h1,h2⟩
theorem KV.put{kvs:List (κ×V)}{vs:List (κ×Xd)}(r:KV kvs vs)(k:κ)(ry:RelV y u):KV (putK kvs k y) (stored vs k u):=by
 unfold putK stored;rw[r.any k]
 by_cases e:(vs.any λkv=>decide (kv.1=k))=YD
 .rw[YM e,YM e];exact r.repl k ry
 .rw[YQ e,YQ e];exact Paired.snoc r ⟨rfl,ry⟩
theorem KV.length{kvs:List (κ×V)}{vs:List (κ×Xd)}(r:KV kvs vs):kvs.length=vs.length:=Paired.length r
end
def Z5d{k:Key}(r:RelV (kV k) u):(J5 P w).is k u=YD:=by
 cases k with
 | inl i=>obtain⟨t,e⟩:=(show∃t,u=Uj i t from r);subst e;exact Zqd P w i t
 | inr x=>obtain⟨t,e⟩:=(show∃t,u=Value.str x t from r);subst e;exact Zp8 P w x t
theorem Zoe:∀{ks:List Key} {us:List Xd},Vals (ks.map kV) us->ItemsAre (J5 P w) ks us
 | [],_,r=>by rw[List.map_nil]at r;cases r;exact .nil
 | k::ks,_,r=>by
  rw[XC]at r;cases r with
  | cons h t=>exact .cons (Z5d h) (Zoe t)
abbrev KT(H:Hp):List (List Key×V)->List (List Key×YG×Xd)->Prop:=Paired λp q=>p.1=q.1/\H q.2.1=YB (.tup (p.1.map kV))/\RelV p.2 q.2.2
end L2
variable {kvs:List (List Key×V)}
namespace L2
open PySem PySem.Spec PyProof.Rows
def KT.val{xs:List (List Key×YG×Xd)}(r:KT H kvs xs)(k:List Key):RelO (Zsl kvs k) ((atKey xs k).map (·.2)):=by
 induction r with
 | nil=>exact Ug
 | @cons p q ps qs h t ih=>
  obtain⟨h1,_,h2⟩:=h
  by_cases e:p.1=k
  .have e':q.1=k:=h1.symm.trans e
   have b:atKey (q::qs) k=YB q.2:=by simp[atKey,UJ,e']
   rw[Zhp e,b];exact h2
  .have e':¬q.1=k:=λz=>e (h1.trans z)
   have b:atKey (q::qs) k=atKey qs k:=by simp[atKey,UJ,e']
   rw[Zhq e,b];exact ih
def KT.repl{xs:List (List Key×YG×Xd)}(r:KT H kvs xs)(k:List Key)(ry:RelV y u) :
  KT H (kvs.map λkv=>if kv.1=k then(kv.1,y)else kv) (xs.map (putAt k u)):=by
 induction r with
 | nil=>exact .nil
 | @cons p q ps qs h t ih=>
  rw[XC,XC];refine .cons ?_ ih;obtain⟨h1,h2,h3⟩:=h;unfold putAt
  by_cases e:p.1=k
  .rw[YM e,YM (h1.symm.trans e)];exact⟨h1,h2,ry⟩
  .rw[YQ e,YQ (λz=>e (h1.trans z))];exact⟨h1,h2,h3⟩
theorem KT.put{xs:List (List Key×YG×Xd)}(r:KT H kvs xs)(k:List Key){b:YG}(hb:H b=YB (.tup (k.map kV)))(ry:RelV y u) :
  KT H (putK kvs k y) (storedH xs k b u):=by
 have e:(kvs.any λkv=>decide (kv.1=k))=(atKey xs k).isSome:=by
  rw[Zqk,(r.val k).isSome_eq,Option.isSome_map]
 unfold putK storedH;rw[e]
 by_cases q:(atKey xs k).isSome=YD
 .rw[YM q,YM q];exact r.repl k ry
 .rw[YQ q,YQ q];exact Paired.snoc r ⟨rfl,hb,ry⟩
def KT.keeps{xs:List (List Key×YG×Xd)}(r:KT H kvs xs)(ht:∀b ys,H b=YB (.tup ys)->H' b=YB (.tup ys)):KT H' kvs xs :=
 Paired.mapP r λ_ _ z=>⟨z.1,ht _ _ z.2.1,z.2.2⟩
section
variable {P:XH}{w:Ql}{H:Hp}{h:YH}{a:YG}
def Yar{u:HO}(ok:HOk P w H h)(e:Rd H a u):ObjOk P w H h a u:=e.ok ok
def Z1i{kvs:List (Key×V)}(ok:HOk P w H h)(e:Rd H a (.dK kvs)):kvs.length<=Xp/\(a==Vm)=YF/\∃vs,KV kvs vs/\h.DictOf (J5 P w) a vs :=
 show ObjOk P w H h a (.dK kvs)from Yar ok e
def Yhl{kvs:List (Key×V)}(ok:HOk P w H h)(e:H a=YB (.dK kvs)):kvs.length<=Xp/\(a==Vm)=YF/\∃vs,KV kvs vs/\h.DictOf (J5 P w) a vs:=Z1i ok (.inl e)
def Zwf{ks:List Key}(ok:HOk P w H h)(e:H a=YB (.tup (ks.map kV))):(tupleKind (J5 P w)).is h ks a:=by
 obtain⟨_,its,r,o,h1,h2,n,h3⟩:=(show ObjOk P w H h a (.tup (ks.map kV))from ok a _ e);exact⟨o,its.toArray,n,h1,h2,h3,by simpa using Zoe r⟩
def Z1s(ok:HOk P w H h)(e:Rd H a (.dT kvs)):kvs.length<=Xp/\(a==Vm)=YF/\
  ∃xs,KT H kvs xs/\h.DictOfH (tupleKind (J5 P w)) a xs:=by
 obtain⟨z,y,xs,r,o,es,ep,h1,h2,h3,h4,h5⟩:=(show ObjOk P w H h a (.dT kvs)from Yar ok e);refine⟨z,y,xs,r,o,es,ep,h1,h2,h3,h4,λx hx=>?_,h5⟩;have all:∀{l:List (List Key×V)} {m:List (List Key×YG×Xd)},KT H l m->∀x∈m,(tupleKind (J5 P w)).is h x.1 x.2.1:=by
  intro l m q
  induction q with
  | nil=>intro x hx;exact nomatch hx
  | @cons p q ps qs hq t ih=>
   intro x hx;rcases Xl.mp hx with e|hx
   .subst e
    exact Zwf ok (by rw[<-hq.1];exact hq.2.1)
   .exact ih x hx
 exact all r x hx
def Yko(ok:HOk P w H h)(e:H a=YB (.dT kvs)):kvs.length<=Xp/\(a==Vm)=YF/\
  ∃xs,KT H kvs xs/\h.DictOfH (tupleKind (J5 P w)) a xs:=Z1s ok (.inl e)
end
def DGet(H:Hp)(a:YG)(y:V)(r:Option V):Prop :=
 (∃ kvs k,Rd H a (.dK kvs)/\y=kV k/\r=Zsl kvs k)\/∃kvs k b,Rd H a (.dT kvs)/\y= .ref b/\H b=YB (.tup (k.map kV))/\r=Zsl kvs k
def DPut(H:Hp)(a:YG)(y v:V)(H':Hp):Prop :=
 (∃ kvs k,H a=YB (.dK kvs)/\y=kV k/\kvs.length<Xp/\H'=upd H a (.dK (putK kvs k v)))\/
 ∃kvs k b,H a=YB (.dT kvs)/\y= .ref b/\H b=YB (.tup (k.map kV))/\kvs.length<Xp/\H'=upd H a (.dT (putK kvs k v))
theorem DGet.k{H:Hp}{a:YG}{kvs:List (Key×V)}{k:Key}(e:H a=YB (.dK kvs)):DGet H a (kV k) (Zsl kvs k):=.inl ⟨kvs,k,.inl e,rfl,rfl⟩
theorem DGet.t{H:Hp}{a b:YG}{kvs:List (List Key×V)}{k:List Key}(e:H a=YB (.dT kvs))(eb:H b=YB (.tup (k.map kV))):DGet H a (.ref b) (Zsl kvs k):=.inr ⟨kvs,k,b,.inl e,rfl,eb,rfl⟩
theorem DPut.k{H:Hp}{a:YG}{kvs:List (Key×V)}{k:Key}{v:V}(e:H a=YB (.dK kvs))(hl:kvs.length<Xp):DPut H a (kV k) v (upd H a (.dK (putK kvs k v))):=.inl ⟨kvs,k,e,rfl,hl,rfl⟩
theorem DPut.t{H:Hp}{a b:YG}{kvs:List (List Key×V)}{k:List Key}{v:V}(e:H a=YB (.dT kvs))(eb:H b=YB (.tup (k.map kV)))(hl:kvs.length<Xp) :
  DPut H a (.ref b) v (upd H a (.dT (putK kvs k v))):=.inr ⟨kvs,k,b,e,rfl,eb,hl,rfl⟩
section
variable {X:Cx}{pins:List (YG×Obj)}{O:St}{H:Hp}{s:Xg}{a:YG}{y v:V}{u r:Xd}{o:Option V}{A:Qj}{E:Xd->Xg->Prop}
def Inv.big(I:Inv X pins O H s):Vm<s.heap.objs.size:=by
 have h:XN<s.heap.objs.size:=(I.mod.glob.keeps I.bk).lt;exact Vy (!1) h
def Zyg(hu:A.units+1<cLine)(I:Inv X pins O H s)(g:DGet H a y (YB v))(ry:RelV y u)(h:∀w' s',Inv X pins O H s'->RelV v w'->Q w' s') :
  Xy (X4 X.prog X.w) A (getItem (.ref a) u) Q E s:=by
 rcases g with⟨kvs,k,e,ey,l⟩|⟨kvs,k,b,e,ey,eb,l⟩
 .subst ey
  obtain⟨z,hd,vs,rel,dd⟩:=Z1i I.hok e;obtain⟨w',hw,rw'⟩:=RelO.some_of (v:=v) (o:=valueAt vs k) (by rw[l];exact rel.val k);exact wpAny_getItem_of (Z5d ry) dd.mapOf hw (h w' _ (I.tok _) rw')
 .subst ey
  cases(show u=X7 b from ry);obtain⟨z,hd,xs,rel,dd⟩:=Z1s I.hok e;obtain⟨w',hw,rw'⟩:=RelO.some_of (v:=v) (o:=(atKey xs k).map (·.2)) (by rw[l];exact rel.val k);obtain⟨p,hp,hp2⟩:=Be.mp hw;refine wpAny_getItem_heap (tupleKind_room_in1 hu) (Zwf I.hok eb) dd hp ?_;rw[hp2];exact h w' _ (I.tok _) rw'
def Zv2{ob:HO}(I:Inv X pins O H s)(mu:Mut (H a))(hs:JP a s.heap h')(he:∃q,h'.get? a=YB q)(new:ObjOk X.prog X.w (upd H a ob) h' a ob) :
  Inv X pins O (upd H a ob) { s with heap:=h',toks:=t' } :=
 I.write (x:=a) (e:=a) mu (.inl rfl) (λb q hb z=>(hs.2 b hb).trans z) he new
def Yd7{kvs:List (Key×V)}{vs:List (Key×Xd)}(z:kvs.length<=Xp)(hd:(a==Vm)=YF)(rel:KV kvs vs)(dd:h'.DictOf (J5 P w) a vs) :
  ObjOk P w H' h' a (.dK kvs):=⟨z,hd,vs,rel,dd⟩
def Zt1{Q:Unit->Xg->Prop}(hu:A.units+1<cLine)(I:Inv X pins O H s)(g:DPut H a y v H')(ry:RelV y u)(rv:RelV v r)(h:∀s',Inv X pins O H' s'->Q () s') :
  Xy (X4 X.prog X.w) A (setItem (.ref a) u r) Q E s:=by
 rcases g with⟨kvs,k,e,ey,l,eH⟩|⟨kvs,k,b,e,ey,eb,l,eH⟩
 .subst ey eH
  obtain⟨z,hd,vs,rel,dd⟩:=Yhl I.hok e;have hz:vs.length<=Xp:=by rw[<-rel.length];exact z
  have hl:(putK kvs k v).length<=Xp:=by have:=Zi2 kvs k v;omega
  refine wpAny_setItem_pairs (hsz:=hz) (Z5d ry) dd λh' dd' hs=>h _ ?_;have he:∃q,h'.get? a=YB q:=let⟨q,_,_,hq,_⟩:=dd';⟨q,hq⟩;exact Zv2 I (by rw[e];exact Ug) hs he (Yd7 hl hd (rel.put k rv) dd')
 .subst ey eH
  cases(show u=X7 b from ry);obtain⟨z,hd,xs,rel,dd⟩:=Yko I.hok e;have hz:xs.length<=Xp:=by rw[<-Paired.length rel];exact z
  have hl:(putK kvs k v).length<=Xp:=by have:=Zi2 kvs k v;omega
  refine wpAny_setItem_heap (hsz:=hz) (tupleKind_room_in1 hu) (Zwf I.hok eb) dd λh' dd' hs=>h _ ?_;obtain⟨q,es,ep,hq,h2,h3,h4,_,h5⟩:=dd';refine Zv2 I (by rw[e];exact Ug) hs ⟨q,hq⟩ ⟨hl,hd,_,(rel.put k eb rv).keeps λc ys ec=>?_,q,es,ep,hq,h2,h3,h4,h5⟩;rw[Zz (Yjr ec e (!12))];exact ec
end
section
variable {X:Cx}{pins:List (YG×Obj)}{O:St}{H:Hp}{s:Xg}{a:YG}{kvs:List (Key×V)}{k:Key}{u:Xd}{A:Qj}{E:Xd->Xg->Prop}
end
def Yg7(i:YJ):Prop:=∀ov iv,subscripted i YF ov iv=operate [ov,iv] (getItem ov iv)
def Z6a{slice:YJ}{T:String}
  (hl:typeLookup (.type T) "__getitem__"=pure (YB (.builtin id))) (hs:Yg7 slice)
  (h:Xy (X4 prog w) A (eval value env) (λo s₁=>Xy (X4 prog w) A (eval slice env) (λi s₂=>s₂.TypeIs o T/\Xy (X4 prog w) A (getItem o i) Q E s₂) E s₁) E s) :
  Xy (X4 prog w) A (eval (.Subscript value slice pos) env) Q E s:=by
 refine Subscript_ (QQ h (λo s₁ h₁=>QQ h₁ (λi s₂ h₂=>?_) λ_ _ x=>x) λ_ _ x=>x);obtain⟨hT,h₂⟩:=h₂;unfold subscriptTail;refine Xb ?_;rw[getitemInPython_of_ne hT.not_modules];refine Xb (wpAny_specialOf hT hl ?_);have fin:Xy (X4 prog w) A (subscripted slice YF o i) (λr s₃=>Xy (X4 prog w) A (letTemporaryGo value o r>>= λ_=>pure r) Q E s₃) E s₂:=by
  rw[hs o i];exact wpAny_operating (QQ h₂ (λr s₃ h₃=>Xb (wpAny_letTemporaryGo (Xj h₃))) λ_ _ x=>x)
 first
  | exact Xj (Xb fin)
  | exact Xb (Xj (Xb fin))
  | exact Xb fin
def Zpd{O:St}{o:Option V}(I:Inv X pins O H s)(g:DGet H a y o):s.TypeIs (.ref a) "dict" :=by
 rcases g with⟨kvs,k,e,_,_⟩|⟨kvs,k,b,e,_,_,_⟩
 .obtain⟨_,_,vs,_,dd⟩:=Z1i I.hok e
  exact dd.typeIs
 .obtain⟨_,_,xs,_,dd⟩:=Z1s I.hok e
  exact dd.typeIs
def Yi2(td ty:TE):TE:=λO H Q=>td O H λx H1=>ty O H1 λy H2=>∃a v,x= .ref a/\DGet H2 a y (YB v)/\Q v H2
def Yi9(td ty tv:TE):TS:=λD O H=>tv O H λv H1=>td O H1 λx H2=>ty O H2 λy H3=>∃a H4,x= .ref a/\DPut H3 a y v H4/\D.nx O H4
section
variable {X:Cx}{o i e value:YJ}{pos pos' tpos:Pos}{td ty tv:TE}
def Z59(hu:X.A.units+1<cLine)(ho:PE X o td)(hi:PE X i ty)(hs:Yg7 i):PE X (.Subscript o i pos) (Yi2 td ty):=by
 intro pins s O H Q I h;refine Z6a PySem.F.slot_dict_getitem.lookup hs (thn (ho pins s O H _ I h) λu s1 ⟨x,H1,I1,rx,q1⟩=>thn (hi pins s1 O H1 _ I1 q1) λiv s2 ⟨y,H2,I2,ry,a,v,ex,g,q2⟩=>?_);subst ex;obtain rfl:u=X7 a:=rx;exact⟨Zpd I2 g,Zyg hu I2 g ry λw' s3 I3 rw'=>⟨v,H2,I3,rw',q2⟩⟩
def Z5u(hu:X.A.units+1<cLine)(ho:PE X o td)(hi:PE X i ty)(hv:PE X value tv)(hs:Vv value (YB (.Subscript o i pos')) pos.line X.env=pure YF) :
  PS X (.Assign [.Subscript o i pos'] value pos) (Yi9 td ty tv):=by
 intro pins s O H D I h;refine wpAny_Assign_Subscript (thn (hv pins s O H _ I h) λr s1 ⟨v,H1,I1,rv,q1⟩=>thn (ho pins s1 O H1 _ I1 q1) λu s2 ⟨x,H2,I2,rx,q2⟩=>thn (hi pins s2 O H2 _ I2 q2) λiv s3 ⟨y,H3,I3,ry,a,H4,ex,g,q3⟩=>?_) hs;subst ex;obtain rfl:u=X7 a:=rx;exact Zt1 hu I3 g ry rv λs4 I4=>⟨O,H4,I4,q3⟩
end
def Zz1(h:YH)(hb:Vm<h.objs.size):ObjOk P w H (h.push { cls:=.type "dict",data:=.dict #[] }) h.objs.size (.dK []) :=
 ⟨Qp _,beq_eq_false_iff_ne.mpr (BL (Xn hb)),[],.nil,Heap.DictOf.new h⟩
def Z1c(h:YH)(hb:Vm<h.objs.size):ObjOk P w H (h.push { cls:=.type "dict",data:=.dict #[] }) h.objs.size (.dT []) :=
 ⟨Qp _,beq_eq_false_iff_ne.mpr (BL (Xn hb)),[],.nil,_,#[],0,Xv _ rfl,⟨rfl,rfl,rfl⟩,rfl,rfl,List.nodup_nil⟩
def Yb9:TE:=λ_ H Q=>∀p,H p=YC->Q (.ref p) (upd H p (.dK []))
def Yek:TE:=λ_ H Q=>∀p,H p=YC->Q (.ref p) (upd H p (.dT []))
section
variable {X:Cx}{pos:Pos}
def Z10:PE X (.Dict [] [] pos) Yb9:=λpins s O H Q I h=>
 wpAny_Dict_empty ⟨.ref s.heap.objs.size,_,I.laid (a:=s.heap.objs.size) (o:=.dK []) (t':=s.toks) (λ_ _ q=>Xe _ q) (Xx _) (Zz1 s.heap I.big),rfl,h _ (I.hok.fresh (Xx _))⟩
def Z0y:PE X (.Dict [] [] pos) Yek:=λpins s O H Q I h=>
 wpAny_Dict_empty ⟨.ref s.heap.objs.size,_,I.laid (a:=s.heap.objs.size) (o:=.dT []) (t':=s.toks) (λ_ _ q=>Xe _ q) (Xx _) (Z1c s.heap I.big),rfl,h _ (I.hok.fresh (Xx _))⟩
end
abbrev VV:List (V×V)->List (Xd×Xd)->Prop:=Paired λp q=>RelV p.1 q.1/\RelV p.2 q.2
structure M1(X:Cx)(o:YJ)(m:Str)(apos:Pos)(e:YJ)(cpos:Pos):Prop where
 base:attributeBase o m X.env (eval o X.env)=eval o X.env
 few:((Ba cpos (Xr [e] X.env)).all (λx=>!x.1)&&(backToKw cpos (keywordEach [] X.env)).all (λx=>x.1.isSome)
  &&decide (([e]:List YJ).length+([]:List Keyword).length+(if([]:List Keyword).isEmpty then 0 else 1)<30))=YD
 line:(apos.endLine==cpos.line)=YD
 trees:Ba cpos (Xr [e] X.env)=[(YF,eval e X.env)]
structure M2(X:Cx)(o:YJ)(m:Str)(apos:Pos)(e f:YJ)(cpos:Pos):Prop where
 base:attributeBase o m X.env (eval o X.env)=eval o X.env
 few:((Ba cpos (Xr [e,f] X.env)).all (λx=>!x.1)&&(backToKw cpos (keywordEach [] X.env)).all (λx=>x.1.isSome)
  &&decide (([e,f]:List YJ).length+([]:List Keyword).length+(if([]:List Keyword).isEmpty then 0 else 1)<30))=YD
 line:(apos.endLine==cpos.line)=YD
 trees:Ba cpos (Xr [e,f] X.env)=[(YF,eval e X.env),(YF,eval f X.env)]
def IsD(H:Hp)(a:YG):Prop:=(∃kvs,Rd H a (.dK kvs))\/∃kvs,Rd H a (.dT kvs)
def Yfj{O:St}(I:Inv X pins O H s)(d:IsD H a) :
  s.TypeIs (.ref a) "dict"/\(∀b,X7 a= .ref b->∃ob,s.heap.get? b=YB ob/\ob.dict=YC)/\(a==Vm)=YF:=by
 rcases d with⟨kvs,e⟩|⟨kvs,e⟩
 .obtain⟨_,hd,vs,_,dd⟩:=Z1i I.hok e
  refine⟨dd.typeIs,λb q=>?_,hd⟩;cases q;obtain⟨ob,_,_,h1,h2,_⟩:=dd;exact⟨ob,h1,h2.2.1⟩
 .obtain⟨_,hd,xs,_,dd⟩:=Z1s I.hok e
  refine⟨dd.typeIs,λb q=>?_,hd⟩;cases q;obtain⟨ob,_,_,h1,h2,_⟩:=dd;exact⟨ob,h1,h2.2.1⟩
section
variable {X:Cx}{pins:List (YG×Obj)}{O:St}{H:Hp}{s:Xg}{a:YG}{y d:V}{u r:Xd}{o:Option V}{A:Qj}{E:Xd->Xg->Prop}
end
section
variable {X:Cx}{o e f:YJ}{apos cpos:Pos}{td ty tx:TE}
end
variable {G:Xc}
def Zj2:Xa->Option Key
 | .int i=>YB (.inl i)
 | .str x=>YB (.inr x)
 | _=>YC
def Zoa:List Xa->Option (List Key)
 | []=>YB []
 | d::ds=>(Zj2 d).bind λk=>(Zoa ds).bind λks=>YB (k::ks)
def Zn4:Xa->Option KY
 | .tuple ds=>(Zoa ds).map .inr
 | d=>(Zj2 d).map .inl
def Z21:KY->Bool
 | .inl _=>YF
 | .inr _=>YD
def Z8o(k:Key):Zj2 (Z8s k)=YB k:=by cases k<;>rfl
def Z8e(ks:List Key):Zoa (ks.map Z8s)=YB ks:=by
 induction ks with
 | nil=>rfl
 | cons k ks ih=>rw[XC,Zoa,Z8o,ih];rfl
def Z3k(k:KY):Zn4 (kyD k)=YB k:=by
 cases k with
 | inl k=>cases k<;>rfl
 | inr ks=>show(Zoa (ks.map Z8s)).map (Sum.inr:List Key->KY)=_;rw[Z8e];rfl
def Z5b(k:KY):List KY->List Xa->Option Xa
 | [],_=>YC
 | _::_,[]=>YC
 | j::ks,d::ds=>if j=k then YB d else Z5b k ks ds
def Ybn(k:KY)(x:Xa):List KY->List Xa->List Xa
 | [],ds=>ds
 | _::_,[]=>[]
 | j::ks,d::ds=>(if j=k then x else d)::Ybn k x ks ds
def Zy6(k:KY)(ks:List KY):Bool:=ks.any λj=>decide (j=k)
def Zn7(k:KY)(ks:List KY):List KY:=if Zy6 k ks=YD then ks else ks++[k]
def Zmm(k:KY)(x:Xa)(ks:List KY)(ds:List Xa):List Xa:=if Zy6 k ks=YD then Ybn k x ks ds else ds++[x]
section
variable {H:Hp}{L:YG->Prop}{κ:Type}[DecidableEq κ]{f:κ->KY}
def Ykq(G:Xc)(H:Hp)(L:YG->Prop)(a:Option V)(b:Option Xa):Prop:=(∃v d,a=YB v/\b=YB d/\Da G H L v d)\/(a=YC/\b=YC)
def look(hf:∀a b,f a=f b->a=b)(k:κ)(kvs:List (κ×V)):∀ds,Das G H L (kvs.map (·.2)) ds->Ykq G H L (Zsl kvs k) (Z5b (f k) (kvs.map λp=>f p.1) ds):=by
 induction kvs with
 | nil=>exact λds _=>.inr ⟨rfl,rfl⟩
 | cons p kvs ih=>
  intro ds h;cases h with
  | cons h r=>
   rename_i d ds;show Ykq G H L _ (if f p.1=f k then YB d else Z5b (f k) (kvs.map λp=>f p.1) ds)
   by_cases e:p.1=k
   .rw[Zhp e,YM (YW f e)]
    exact .inl ⟨_,_,rfl,rfl,h⟩
   .rw[Zhq e,YQ λz=>e (hf _ _ z)]
    exact ih _ r
def Yk9(hf:∀a b,f a=f b->a=b)(k:κ)(kvs:List (κ×V)):(kvs.any λkv=>decide (kv.1=k))=Zy6 (f k) (kvs.map λp=>f p.1):=by
 unfold Zy6;rw[List.any_map];refine YW (List.any kvs) (funext λp=>?_);exact decide_eq_decide.mpr ⟨YW f,hf _ _⟩
def Yo4(k:κ)(v:V)(kvs:List (κ×V)):(kvs.map (λkv=>if kv.1=k then(kv.1,v)else kv)).map (λp=>f p.1)=kvs.map λp=>f p.1:=by
 rw[X6];refine Qy λp _=>?_;show f (if p.1=k then(p.1,v)else p).1=f p.1
 by_cases c:p.1=k
 .rw[YM c]
 .rw[YQ c]
def Yon(hf:∀a b,f a=f b->a=b)(k:κ){x:Xa}(hv:Da G H L v x)(kvs:List (κ×V)):∀ds,Das G H L (kvs.map (·.2)) ds->Das G H L ((kvs.map (λkv=>if kv.1=k then(kv.1,v)else kv)).map (·.2)) (Ybn (f k) x (kvs.map λp=>f p.1) ds):=by
 induction kvs with
 | nil=>intro ds h;cases h;exact .nil
 | cons p kvs ih=>
  intro ds h;cases h with
  | cons h r=>
   rename_i d ds;refine .cons ?_ (ih _ r);show Da G H L (if p.1=k then(p.1,v)else p).2 (if f p.1=f k then x else d)
   by_cases e:p.1=k
   .rw[YM e,YM (YW f e)];exact hv
   .rw[YQ e,YQ λz=>e (hf _ _ z)];exact h
def Zrj(hf:∀a b,f a=f b->a=b)(k:κ)(v:V)(kvs:List (κ×V)):(putK kvs k v).map (λp=>f p.1)=Zn7 (f k) (kvs.map λp=>f p.1):=by
 unfold putK Zn7;rw[Yk9 hf];cases c:Zy6 (f k) (kvs.map λp=>f p.1)with
 | true=>rw[YM rfl,YM rfl,Yo4]
 | false=>rw[YQ XJ,YQ XJ,Qs];rfl
def Zrq(hf:∀a b,f a=f b->a=b)(k:κ){x:Xa}(hv:Da G H L v x)(kvs:List (κ×V))(h:Das G H L (kvs.map (·.2)) ds):Das G H L ((putK kvs k v).map (·.2)) (Zmm (f k) x (kvs.map λp=>f p.1) ds):=by
 unfold putK Zmm;rw[Yk9 hf];cases c:Zy6 (f k) (kvs.map λp=>f p.1)with
 | true=>rw[YM rfl,YM rfl];exact Yon hf k hv kvs _ h
 | false=>rw[YQ XJ,YQ XJ,Qs];exact h.snoc hv
end
def Zp0:∀a b:Key,(Sum.inl a:KY)=Sum.inl b->a=b:=λ_ _ h=>Sum.inl.inj h
def Zqe:∀a b:List Key,(Sum.inr a:KY)=Sum.inr b->a=b:=λ_ _ h=>Sum.inr.inj h
section
variable {H:Hp}{L:YG->Prop}{y:V}{e:Xa}
def Da.key1{k:Key}(h:Da G H L y e)(hk:Zj2 e=YB k):y=kV k:=by
 cases h with
 | int i=>cases hk;rfl
 | str x=>cases hk;rfl
 | exc _ _ _=>unfold exD Zj2 at hk;cases hk
 | fn _=>unfold fnD Zj2 at hk;cases hk
 | dic _ _ _ _=>unfold dcD Zj2 at hk;cases hk
 | _=>cases hk
def Das.keys(h:Das G H L xs ds):∀ks,Zoa ds=YB ks->xs=ks.map kV :=
 Das.ind (Q:=λxs ds=>∀ks,Zoa ds=YB ks->xs=ks.map kV) (λks h=>by cases h;rfl) (fun{x xs d ds} h _ ih ks hk=>by
  rw[Zoa]at hk;obtain⟨k,h1,hk⟩:=bs hk;obtain⟨ks',h2,hk⟩:=bs hk;cases hk;rw[h.key1 h1,ih _ h2];rfl) h
def Da.keyT{ks:List Key}(h:Da G H L y e)(hk:Zn4 e=YB (.inr ks)):∃b,y= .ref b/\H b=YB (.tup (ks.map kV)):=by
 cases h with
 | tup e1 r=>
  rw[Zn4]at hk;obtain⟨ks',h1,h2⟩:=Be.mp hk;cases h2;exact⟨_,rfl,by rw[<-r.keys _ h1];exact e1⟩
 | exc _ _ _=>unfold exD Zn4 Zj2 at hk;cases hk
 | fn _=>unfold fnD Zn4 Zj2 at hk;cases hk
 | dic _ _ _ _=>unfold dcD Zn4 Zj2 at hk;cases hk
 | _=>cases hk
def Da.keyS{k:Key}(h:Da G H L y e)(hk:Zn4 e=YB (.inl k)):y=kV k:=by
 refine h.key1 ?_;unfold Zn4 at hk;split at hk
 .obtain⟨_,_,z⟩:=Be.mp hk;cases z
 .obtain⟨_,h1,z⟩:=Be.mp hk;cases z;exact h1
def Zso(k:KY):List (Xa×Xa)->Option Xa
 | []=>YC
 | p::r=>if Zn4 p.1=YB k then YB p.2 else Zso k r
def Zmo(k:KY)(ks:List KY):∀ds,Zso k ((ks.map kyD).zip ds)=Z5b k ks ds:=by
 induction ks with
 | nil=>intro ds;rfl
 | cons j ks ih=>
  intro ds;cases ds with
  | nil=>rfl
  | cons d ds=>
   show(if Zn4 (kyD j)=YB k then YB d else Zso k ((ks.map kyD).zip ds))=if j=k then YB d else Z5b k ks ds
   rw[Z3k,ih]
   by_cases c:j=k
   .rw[YM c,YM (YW YB c)]
   .rw[YQ c,YQ λz=>c (Qo z)]
def Da.dget{x:V}{t:Bool}{kvs:List (Xa×Xa)}{k:KY}(h:Da G H L x (.dict ((.none,.bool t)::kvs)))(hy:Da G H L y e)(hk:Zn4 e=YB k)(ht:Z21 k=t):∃a o,x= .ref a/\IsD H a/\DGet H a y o/\Ykq G H L o (Zso k kvs):=by
 generalize ed:Xa.dict ((.none,.bool t)::kvs)=d at h;cases h with
 | dic l r dk q=>
  rename_i a o t' ks xs ds;unfold dcD at ed;injection ed with ed;injection ed with e1 e2;injection e1 with _ e1;injection e1 with e1;subst e1 e2;rw[Zmo];cases o with
  | lst _=>exact dk.elim
  | dK kv=>
   obtain⟨rfl,rfl,rfl⟩:=dk;cases k with
   | inr _=>cases ht
   | inl k=>exact⟨a,_,rfl,.inl ⟨kv,r⟩,.inl ⟨kv,k,r,hy.keyS hk,rfl⟩,look Zp0 k kv _ q⟩
  | dT kv=>
   obtain⟨rfl,rfl,rfl⟩:=dk;cases k with
   | inl _=>cases ht
   | inr k=>
    obtain⟨b,hb,eb⟩:=hy.keyT hk;exact⟨a,_,rfl,.inr ⟨kv,r⟩,.inr ⟨kv,k,b,r,hb,eb,rfl⟩,look Zqe k kv _ q⟩
 | exc _ _ _=>unfold exD at ed;cases ed
 | fn _=>unfold fnD at ed;cases ed
 | _=>cases ed
end
variable {G:Xc}
section
variable {X:Cx}{io:List Nat}{p c p' c':Bool}{a b e f o:YJ}{ma mb m mi mo me mf:MEt}{pos pp apos cpos px:Pos}{i:Nat}{x:Str}
def hu1{n:Nat}(h:n+64<cLine):n+1<cLine:=Nat.lt_of_le_of_lt (Nat.add_le_add_left (by decide:1<=64) _) h
def Z16:Xa->Xa->Option OT:=λd e=>match d with
 | .dict ((.none,.bool t)::kvs)=>(Zn4 e).bind λk=>if Z21 k=t then(Zso k kvs).map OT.fz else YC
 | _=>YC
def Yh2:Xa->Xa->(OT->Prop)->Prop:=λd e k=>∃r,Z16 d e=YB r/\k r
def Ynw:R2:=λx y H Q=>∃a v,x= .ref a/\DGet H a y (YB v)/\Q v H
def Yjw:ByO Z16 Yh2:=λ_ _ r _ h hk=>⟨r,h,hk⟩
def Ydp:P2 G Ynw Yh2:=λH L x y d e k Q hx hy h kk=>by
 obtain⟨r,h,hk⟩:=h;unfold Z16 at h;split at h
 case h_2=>cases h
 rename_i t kvs;obtain⟨ky,h1,h⟩:=bs h
 by_cases ht:Z21 ky=t
 .rw[YM ht]at h
  obtain⟨a,o,rfl,_,g,R⟩:=hx.dget hy h1 ht;obtain⟨z,hz,rfl⟩:=Be.mp h;rcases R with⟨v,d,rfl,hd,q⟩|⟨_,hd⟩
  .rw[hz]at hd
   cases hd;exact⟨a,v,rfl,g,kk H v (.fz z) [] (Same.refl _) (.fz (q.wide λa l _=>⟨.inl l,λm=>nomatch m⟩)) .nil (λa m=>nomatch m) hk⟩
  .rw[hz]at hd;cases hd
 .rw[YQ ht]at h;cases h
def Yif(hu:X.A.units+64<cLine)(ha:ME X io p c a ma)(hb:ME X io p' c' b mb)(hc:p'=YD\/c=YD:=by first|exact QT rfl|exact QM rfl)(hs:Yg7 b):ME X io (p&&p') (c&&c') (.Subscript a b pos) (Ye9 Yh2 ma mb):=by
 obtain⟨_,A,sa⟩:=ha;obtain⟨_,B,sb⟩:=hb;exact⟨_,Z59 (hu1 hu) A B hs,Yi6 (r:=Ynw) Ydp sa sb hc⟩
def Z8k(t:Bool):MEt:=λδ K=>K (.dc t [] []) δ
def Z6b:ME X io YD YD (.Dict [] [] pos) (Z8k YF):=⟨_,Z10,λC H O δ fp ex K Q R h k q hq=>by
 refine k _ _ _ δ fp [q] (RE.tree (H1:=H) R R (Stp.same (Same.refl H) λ_ z=>z) (Z9 hq (.dK [])) (Za4 hq) (Zcp q) ?_) h;exact .dc (o:=.dK []) Z8 ⟨rfl,rfl,rfl⟩ .nil⟩
def Z8q:ME X io YD YD (.Dict [] [] pos) (Z8k YD):=⟨_,Z0y,λC H O δ fp ex K Q R h k q hq=>by
 refine k _ _ _ δ fp [q] (RE.tree (H1:=H) R R (Stp.same (Same.refl H) λ_ z=>z) (Z9 hq (.dT [])) (Za4 hq) (Zcp q) ?_) h;exact .dc (o:=.dT []) Z8 ⟨rfl,rfl,rfl⟩ .nil⟩
def Zzv(t:Bool):FE:=λδ=>YB (.dc t [] [],δ)
def Zv8{t:Bool}(h:ME X io p c e (Z8k t)):ME X io p c e (o2 (Zzv t)):=h.weak λδ K z=>by
 obtain⟨r,δ',h,k⟩:=z;cases h;exact k
def Rel.ownDc{C:MC G}{H:Hp}{O:St}{δ:Zg}{fp:Fp}{ex:YG->Prop}{t:Bool}{ks:List KY}{ds:List Xa}(R:Rel C io H O δ fp ex)(hi:δ[i]? =YB (YB (.dc t ks ds))) :
  ∃a' ob xs,O[i]? =YB (YB (.ref a'))/\H a'=YB (MuO.ho ob)/\ob.dic t ks xs/\Das G H (Lf C fp ex) xs ds/\fp i=[a']:=by
 obtain⟨v,e,o⟩:=R.own i _ hi;generalize hf:fp i=as at o;cases o with
 | dc h k r=>exact⟨_,_,_,e,h,k,r,rfl⟩
def Rel.topD{C:MC G}{H:Hp}{O:St}{δ:Zg}{fp:Fp}{ex:YG->Prop}{t:Bool}{ks ks':List KY}{ds ds':List Xa}{a':YG}{ob ob':MuO}{ys:List V}(R:Rel C io H O δ fp ex)(hi:δ[i]? =YB (YB (.dc t ks ds)))(hv:O[i]? =YB (YB (.ref a')))
  (hf:fp i=[a']) (hx:H a'=YB ob.ho) (dk:ob'.dic t ks' ys) (o:Das G H (Lf C fp ex) ys ds') :
  Rel C io (upd H a' ob'.ho) O (δ.set i (YB (.dc t ks' ds'))) (fpu fp i [a']) ex/\Stp YF H δ fp (upd H a' ob'.ho) (δ.set i (YB (.dc t ks' ds'))) (fpu fp i [a']):=by
 have hm:a'∈fp i:=by rw[hf];exact .head _
 have ne':∀a,¬Foot fp a->a≠a':=λa h z=>h ⟨i,by rw[z];exact hm⟩;have kp:∀b o,H b=YB o->b≠a'->upd H a' ob'.ho b=YB o:=λb o e n=>by rw[Zz n];exact e
 have sub:∀a,a∈[a']->a∈fp i:=λa m=>by rw[hf];exact m
 have o':Das G (upd H a' ob'.ho) (Lf C (fpu fp i [a']) (exu ex [])) ys ds':=by
  have f0:∀a,¬Foot fp a->¬Foot (fpu fp i [a']) a:=λa h z=>by
   rcases z.of_u with z|⟨j,_,z⟩
   .exact h ⟨i,sub a z⟩
   .exact h ⟨j,z⟩
  refine o.frame (λa zs l q=>⟨⟨f0 a l.1,λz=>l.2.1 (Zdq.mp z),l.2.2⟩,?_⟩) λa zs q=>kp a _ q λz=>ImO.nm q (z▸hx);rcases q with q|⟨u,q⟩
  .exact .inl (kp a _ q (ne' a l.1))
  .exact .inr ⟨u,kp a _ q (ne' a l.1)⟩
 have key:=R.change (new:=[]) (as':=[a']) (t':=.dc t ks' ds') (H':=upd H a' ob'.ho) hi hv (λb o e nb=>kp b o e λz=>nb (by rw[z];exact hm)) (λb e=>by
   by_cases q:b=a'
   .subst q;rw[Z8]at e;cases e
   .rwa[Zz q]at e) (.dc Z8 dk o') (Zcp a') (λa m=>.inl (sub a m)) (λa m=>nomatch m)
 exact⟨key.1.drop λa z=>.inl z,key.2⟩
def Yfs(i:Nat)(m mi:MEt):MSt:=λD δ=>m δ λr δ1=>match δ1[i]? with
 | some (YB (.dc t ks ds))=>mi δ1 λn _=>match Zn4 n.data with
  | some k=>(Z21 k=t/\ks.length<Xp)/\D.nx (δ1.set i (YB (.dc t (Zn7 k ks) (Zmm k r.data ks ds))))
  | none=>False
 | _=>False
def Z66(i:Nat)(hu:X.A.units+64<cLine)(he:ME X io p YD e m)(hj:ME X io YD c a mi)(hN:X.N[i]? =YB x:=by rfl)(hv:Vis X.env.scope x:=by first|exact QT rfl|exact QM (QT rfl)|exact QM (QM rfl))(hd:(x==(!10))=YF:=by decide)
  (hcd:(x==(!17))=YF:=by decide)
  (hs:Vv e (YB (.Subscript (.Name x px) a pp)) pos.line X.env=pure YF:=by rfl):MS X io (.Assign [.Subscript (.Name x px) a pp] e pos) (Yfs i m mi):=by
 obtain⟨_,A,s⟩:=he;obtain⟨_,B,sj⟩:=hj;refine⟨_,Z5u (hu1 hu) (pv i hN hv hd hcd) B A hs,λC H O δ fp ex D D' R h E=>?_⟩;refine s C H O δ fp ex _ _ R h λH1 v r δ1 fp1 new r1 h1=>?_;have R1:=r1.base;have q:=(r1.da R).wide (L':=Lf C fp1 ex) λa l _=>l rfl;split at h1
 case h_2=>exact h1.elim
 rename_i t ks ds hi;obtain⟨a',_,_,hv0,_⟩:=R1.ownDc hi;refine⟨_,hv0,?_⟩;refine sj.pureAfter R1 h1 λH2 w n R2 s2 q2 h2=>?_;split at h2
 case h_2=>exact h2.elim
 rename_i k hk;obtain⟨⟨ht,hl⟩,h2⟩:=h2;obtain⟨a2,ob,xs,hv2,hx,dk,o,hf⟩:=R2.ownDc hi;rw[hv0]at hv2;cases hv2;have q':=q.same s2;have kpp:Kp H1 fp1 H2 fp1:=⟨λb o e _=>s2 _ _ e,λz=>(nomatch z),λa z=>.inl z,s2.al⟩;cases ob with
 | lst _=>exact dk.elim
 | dK kv=>
  obtain⟨rfl,rfl,rfl⟩:=dk;rw[Xf]at hl;cases k with
  | inr _=>cases ht
  | inl k=>
   obtain⟨R3,S3⟩:=R2.topD (ob':=.dK (putK kv k v)) hi hv0 hf hx ⟨rfl,(Zrj Zp0 k v kv).symm,rfl⟩ (Zrq Zp0 k q' kv o);exact⟨a',_,rfl,.inl ⟨kv,k,hx,q2.keyS hk,hl,rfl⟩,E.nx _ O _ _ R3 (r1.stp.kp.trans (Kp.trans kpp S3.kp)) h2⟩
 | dT kv=>
  obtain⟨rfl,rfl,rfl⟩:=dk;rw[Xf]at hl;cases k with
  | inl _=>cases ht
  | inr k=>
   obtain⟨b',hb,eb⟩:=q2.keyT hk;obtain⟨R3,S3⟩:=R2.topD (ob':=.dT (putK kv k v)) hi hv0 hf hx ⟨rfl,(Zrj Zqe k v kv).symm,rfl⟩ (Zrq Zqe k q' kv o);exact⟨a',_,rfl,.inr ⟨kv,k,b',hx,hb,eb,hl,rfl⟩,E.nx _ O _ _ R3 (r1.stp.kp.trans (Kp.trans kpp S3.kp)) h2⟩
def Z1h(i:Nat)(e j:FE):FS:=wE e λr δ1=>match δ1[i]? with
 | some (YB (.dc t ks ds))=>wE j (λn _=>match Zn4 n.data with
  | some k=>if Z21 k=t/\ks.length<Xp then .nx (δ1.set i (YB (.dc t (Zn7 k ks) (Zmm k r.data ks ds))))else .bad
  | none=>.bad) δ1
 | _=>.bad
def Z5m(h:MS X io st (Yfs i (o2 fa) (o2 fb))):MS X io st (oS (Z1h i fa fb)):=h.weak λD δ h=>by
 refine(Zsp h).imp λr δ' z=>?_;split at z
 case h_2=>exact z.elim
 rename_i q;(try rw[q]);refine(Zsp z).imp λn δ2 z=>?_;split at z
 case h_2=>exact z.elim
 rename_i k q2;(try rw[q2]);exact Zhy z
end
def Zzu:List Xa->Option Xa:=λds=>match ds with|[.int i]=>if i.natAbs.log2<1920 then YB (.str (toString i))else YC|_=>YC
def Yn8:List Xa->(Xa->Prop)->Prop:=λds k=>∃r,Zzu ds=YB r/\k r
def Zoh:∀ds r k,Zzu ds=YB r->k r->Yn8 ds k:=λ_ r _ h hk=>⟨r,h,hk⟩
def Zha:PNs G (λxs H Q=>∃i,xs=[.int i]/\i.natAbs.log2<1920/\Q (.str (toString i)) H) Yn8:=λH L xs ds k Q hx h kk=>by
 obtain⟨r,h,hk⟩:=h;unfold Zzu at h;split at h
 case h_2=>cases h
 rename_i i;cases hx with
 | cons q r0=>
  cases r0;cases q
  by_cases c:i.natAbs.log2<1920
  .rw[YM c]at h
   cases h;exact⟨i,rfl,c,kk _ _ (.str _) hk⟩
  .rw[YQ c]at h;cases h
def Jd:Xa->Xa->Option Xa:=λd e=>match d,e with| .str x,.str y=>if x.length+y.length<=Xp then YB (.str (x++y))else YC|_,_=>YC
def Ybf:Xa->Xa->(Xa->Prop)->Prop:=λd e k=>∃r,Jd d e=YB r/\k r
def Wb:ByS Jd Ybf:=λ_ _ r _ h hk=>⟨r,h,hk⟩
def Yl:P2s G (λx y H Q=>∃i j,x= .str i/\y= .str j/\i.length+j.length<=Xp/\Q (.str (i++j)) H) Ybf:=λH L x y d e k Q hx hy h kk=>by
 obtain⟨r,h,hk⟩:=h;unfold Jd at h;split at h
 case h_2=>cases h
 rename_i i j;cases hx;cases hy
 by_cases c:i.length+j.length<=Xp
 .rw[YM c]at h
  cases h;exact⟨i,j,rfl,rfl,c,kk _ _ (.str _) hk⟩
 .rw[YQ c]at h;cases h
def Z2n:Xa->Xa->Option OT:=λd e=>match d,e with| .str x,.int i=>if x.length<=Xp then(atI x.cps.toList i).map λc=>.fz (.str ⟨#[c]⟩)else YC|_,_=>YC
def Yn3:Xa->Xa->(OT->Prop)->Prop:=λd e k=>∃r,Z2n d e=YB r/\k r
def Z5e:ByO Z2n Yn3:=λ_ _ r _ h hk=>⟨r,h,hk⟩
def Zvf:P2 G (rIx G) Yn3:=λH L x y d e k Q hx hy h kk=>by
 obtain⟨r,h,hk⟩:=h;unfold Z2n at h;split at h
 case h_2=>cases h
 rename_i z i;cases hx;cases hy
 by_cases c:z.length<=Xp
 .rw[YM c]at h
  obtain⟨ch,h1,rfl⟩:=Be.mp h;exact .inr (.inr ⟨z,i,ch,rfl,rfl,c,h1,kk H _ (.fz (.str ⟨#[ch]⟩)) [] (Same.refl _) (.fz (.str _)) .nil (λa m=>nomatch m) hk⟩)
 .rw[YQ c]at h;cases h
end L2
namespace L2
open PySem PySem.Spec PyProof.Rows PySem.W PySem.SeqAt
theorem Paired.at{Y β:Type}{R:Y->β->Prop}{as:List Y}{bs:List β}(h:PySem.Paired R as bs):∀{i:Nat} {y:β},bs[i]? =YB y->∃x,as[i]? =YB x/\R x y:=by
 induction h with
 | nil=>intro i y z;cases z
 | cons h t ih=>
  intro i y z;cases i with
  | zero=>cases z;exact⟨_,rfl,h⟩
  | succ i=>exact ih z
end L2
namespace L2
open PySem PySem.Spec PyProof.Rows
def Yk3(o:Option (Option OT))(δ:Zg):Option (OT×Zg):=match o with|some (YB (.fz d))=>YB (.fz d,δ)|_=>YC
def Zwo(d:Xa)(δ:Zg):Yk3 (YB (YB (.fz d))) δ=YB (.fz d,δ):=rfl
def Z9x(o:Option (Option OT))(δ:Zg):Option (OT×Zg):=match o with|some (YB t)=>YB (.fz t.data,δ)|_=>YC
def Z5z(t:OT)(δ:Zg):Z9x (YB (YB t)) δ=YB (.fz t.data,δ):=rfl
def Zt7(i:Nat)(δ:Zg):Yk i δ=Yk3 δ[i]? δ:=rfl
def Z39(i:Nat)(δ:Zg):Zjv i δ=Z9x δ[i]? δ:=rfl
def Yos(d:Xa)(δ:Zg):fC d δ=YB (.fz d,δ):=rfl
def Zzl(g:Xa->Xa->Option Xa)(a b:FE)(δ:Zg):Zd g a b δ=(a δ).bind λp=>(b p.2).bind λq=>(g p.1.data q.1.data).bind λd=>YB (.fz d,q.2):=rfl
def Zxt(g:Xa->Xa->Option OT)(a b:FE)(δ:Zg):W2 g a b δ=(a δ).bind λp=>(b p.2).bind λq=>(g p.1.data q.1.data).bind λd=>YB (d,q.2):=rfl
def Ycd(g:Xa->Option Xa)(a:FE)(δ:Zg):fUn g a δ=(a δ).bind λp=>(g p.1.data).bind λd=>YB (.fz d,p.2):=rfl
def onB(d:Xa)(x y:Option Y):Option Y:=match d with| .bool YD=>x| .bool YF=>y|_=>YC
def Yc9(x y:Option Y):onB (.bool YD) x y=x:=rfl
def Ybr(x y:Option Y):onB (.bool YF) x y=y:=rfl
def Zwx(a b:FE)(δ:Zg):Znr a b δ=(a δ).bind λp=>onB p.1.data (b p.2) (YB (.fz (.bool YF),p.2)):=by
 unfold Znr onB;cases a δ with
 | none=>rfl
 | some p=>first|rfl|(simp only[Xh];done)|(simp only[Xh];generalize p.1.data=d;cases d<;>first|rfl|(rename_i b;cases b<;>rfl))
def Z13(a b:FE)(δ:Zg):fOr a b δ=(a δ).bind λp=>onB p.1.data (YB (.fz (.bool YD),p.2)) (b p.2):=by
 unfold fOr onB;cases a δ with
 | none=>rfl
 | some p=>first|rfl|(simp only[Xh];done)|(simp only[Xh];generalize p.1.data=d;cases d<;>first|rfl|(rename_i b;cases b<;>rfl))
def Ylv(t:FT)(a b:FE)(δ:Zg):fIf t a b δ=(t δ).bind λp=>if p.1=YD then a p.2 else b p.2:=rfl
def Yiq(t:OT)(δ:Zg):Option (Bool×Zg):=match t with| .fz (.bool b)=>YB (b,δ)|_=>YC
def Yds(b:Bool)(δ:Zg):Yiq (.fz (.bool b)) δ=YB (b,δ):=rfl
def Yiu(e:FE)(δ:Zg):tV e δ=(e δ).bind λp=>Yiq p.1 p.2:=by
 unfold tV Yiq;cases e δ with
 | none=>rfl
 | some p=>rfl
def Ya8(t:FT)(δ:Zg):tNo t δ=(t δ).bind λp=>YB (!p.1,p.2):=rfl
def Z2k(t u:FT)(δ:Zg):tAn t u δ=(t δ).bind λp=>if p.1=YD then u p.2 else YB (YF,p.2):=rfl
def Z96(t u:FT)(δ:Zg):tO t u δ=(t δ).bind λp=>if p.1=YD then YB (YD,p.2)else u p.2:=rfl
def Ykl(e:FE)(δ:Zg):tD e δ=(e δ).bind λp=>(Z1t p.1.data).bind λb=>YB (b,p.2):=rfl
def Yh9(δ:Zg):Zj6 δ=YB (YD,δ):=rfl
def Ykr(δ:Zg):Yj δ=YB ([],δ):=rfl
def Zzr(e:FE)(a:FA)(δ:Zg):Ze e a δ=(e δ).bind λp=>(a p.2).bind λq=>YB (p.1::q.1,q.2):=rfl
def Z8i(a:FA)(δ:Zg):Zjp a δ=(a δ).bind λp=>if p.1.length<=Xp then YB (.fz (.tuple (OT.datas p.1)),p.2)else YC:=rfl
def Zwz(a:FA)(δ:Zg):Zgv a δ=(a δ).bind λp=>if p.1.length<=Xp then YB (.nd p.1,p.2)else YC:=rfl
def Z0p(a:FA)(δ:Zg):Zr0 a δ=(a δ).bind λp=>if p.1.length<=Xp then YB (.tp p.1,p.2)else YC:=rfl
def Yg0(e:FE)(δ:Zg):Zxg e δ=(e δ).bind λp=>if Zbh p.1.data=YD then YB (.fz p.1.data,p.2)else YC:=rfl
def Ycl(e:FE)(δ:Zg):Zgz e δ=(e δ).bind λp=>if Zga p.1=YD then YB (p.1,p.2)else YC:=rfl
def okO(x:RF)(δ:Zg):Option (OT×Zg):=match x with| .ok r=>YB (r,δ)|_=>YC
def Yb8(r:OT)(δ:Zg):okO (.ok r) δ=YB (r,δ):=rfl
def Z1l(F:FD)(a:FA)(δ:Zg):Z7 F a δ=(a δ).bind λp=>okO (F (OT.datas p.1)) p.2:=by
 unfold Z7 okO;cases a δ with
 | none=>rfl
 | some p=>rfl
def atO(o:Option (Option OT))(k:OT->Option Y):Option Y:=match o with|some (YB t)=>k t|_=>YC
def Ypq(t:OT)(k:OT->Option Y):atO (YB (YB t)) k=k t:=rfl
def Ycz(i:Nat)(F:FIO)(a:FA)(δ:Zg):Z2w i F a δ=atO δ[i]? λ_=>(a δ).bind λp=>atO p.2[i]? λt=>(F t (OT.datas p.1)).bind λq=>YB (q.1,p.2.set i (YB q.2)):=by
 unfold Z2w;generalize δ[i]? =o;rcases o with _|_|t
 .rfl
 .rfl
 .show(a δ).bind _=(a δ).bind _
  cases a δ with
  | none=>rfl
  | some p=>
   show(λo:Option (Option OT)=>(match o with|some (YB t)=>(F t (OT.datas p.1)).bind λq=>YB (q.1,p.2.set i (YB q.2))|_=>YC)) p.2[i]? =atO p.2[i]? _;generalize p.2[i]? =o;rcases o with _|_|t<;>rfl
def Z5n(g:List Xa->Option Xa)(a:FA)(δ:Zg):Zdm g a δ=(a δ).bind λp=>(g (OT.datas p.1)).bind λd=>YB (.fz d,p.2):=rfl
def Z9n(g:List Xa->Option OT)(a:FA)(δ:Zg):fBl g a δ=(a δ).bind λp=>(g (OT.datas p.1)).bind λd=>YB (d,p.2):=rfl
def Z52(T:String)(e:FE)(δ:Zg):Zjy T e δ=(e δ).bind λp=>if Zhm p.1.data=YD then YC else YB (.fz (.bool (Zhf T p.1.data)),p.2):=rfl
def Yom(δ:Zg):oN δ=YB (YC,δ):=rfl
def asInt(d:Xa)(k:Int->Option Y):Option Y:=match d with| .int i=>k i|_=>YC
def Z48(i:Int)(k:Int->Option Y):asInt (.int i) k=k i:=rfl
def Zt5(d:Xa)(k:List Xa->Option Y):Option Y:=match d with| .list i=>k i|_=>YC
def Zva(i:List Xa)(k:List Xa->Option Y):Zt5 (.list i) k=k i:=rfl
def Z76(d:Xa)(k:List Xa->Option Y):Option Y:=match d with| .tuple i=>k i|_=>YC
def Yhg(i:List Xa)(k:List Xa->Option Y):Z76 (.tuple i) k=k i:=rfl
def Ykf(e:FE)(δ:Zg):oI e δ=(e δ).bind λp=>asInt p.1.data λi=>YB (YB i,p.2):=by
 unfold oI asInt;cases e δ with
 | none=>rfl
 | some p=>rfl
def Z94(e:FE)(lo hi:FO)(δ:Zg):fSl e lo hi δ=(e δ).bind λp=>(lo p.2).bind λq=>(hi q.2).bind λr=>Zt5 p.1.data λds=>YB (.nd ((cutD ds q.1 r.1).map OT.fz),r.2):=by
 unfold fSl Zt5;rfl
def Z8n(e:FE)(δ:Zg):Zg8 e δ=(e δ).bind λp=>Zt5 p.1.data λds=>YB (ds,p.2):=by
 unfold Zg8 Zt5;rfl
def Yms(e:FE)(δ:Zg):iTp e δ=(e δ).bind λp=>Z76 p.1.data λds=>YB (ds,p.2):=by
 unfold iTp Z76;rfl
def as1(ds:List Xa)(k:Int->Option Y):Option Y:=match ds with|[.int i]=>k i|_=>YC
def Yit(i:Int)(k:Int->Option Y):as1 [.int i] k=k i:=rfl
def as2(ds:List Xa)(k:Int->Int->Option Y):Option Y:=match ds with|[.int i,.int j]=>k i j|_=>YC
def Yoh(i j:Int)(k:Int->Int->Option Y):as2 [.int i,.int j] k=k i j:=rfl
def Ydy(a:FA)(δ:Zg):iRa a δ=(a δ).bind λp=>as1 (OT.datas p.1) λj=>if rOk j=YD then YB (Zro 0 j.toNat,p.2)else YC:=by
 unfold iRa as1;rfl
def Ym2(a:FA)(δ:Zg):iRb a δ=(a δ).bind λp=>as2 (OT.datas p.1) λi j=>if(rOk i&&rOk j)=YD then YB (Zro i (j-i).toNat,p.2)else YC:=by
 unfold iRb as2;rfl
def Yhu(a:FA)(δ:Zg):Ymj a δ=(a δ).bind λp=>as1 (OT.datas p.1) λj=>if rOk j=YD/\j.toNat<=Xp then YB (.nd ((Zro 0 j.toNat).map OT.fz),p.2)else YC:=by
 unfold Ymj as1;rfl
def Yhi(a b:FE)(δ:Zg):Ymm a b δ=(a δ).bind λp=>(b p.2).bind λq=>asInt q.1.data λk=>if rOk k=YD/\k.toNat<=Xp then YB (.nd (By k.toNat (.fz p.1.data)),p.2)else YC:=by
 unfold Ymm asInt;rfl
def Yjy(ds:List Xa)(k:List Xa->List Xa->Option Y):Option Y:=match ds with|[.list i,.list j]=>k i j|_=>YC
def Yl0(i j:List Xa)(k:List Xa->List Xa->Option Y):Yjy [.list i,.list j] k=k i j:=rfl
def Ygi(a:FA)(δ:Zg):Yaa a δ=(a δ).bind λp=>Yjy (OT.datas p.1) λas bs=>YB (Zpw as bs,p.2):=by
 unfold Yaa Yjy;rfl
def Yod(i:Nat)(d:Xa)(δ:Zg):gNm i d δ=YB (δ.set i (YB (.fz d))):=rfl
def Yip(i:Nat)(d:Xa)(δ:Zg):Ypa i d δ=if Zbh d=YD then YB (δ.set i (YB (.fz d)))else YC:=rfl
def Ym5(δ:Zg):gNl [] δ=YB δ:=rfl
def Ykt(g:FG)(gs:FGs)(d:Xa)(r:List Xa)(δ:Zg):gCn g gs (d::r) δ=(g d δ).bind (gs r):=rfl
def Ymp(n:Nat)(gs:FGs)(ds:List Xa)(δ:Zg):gTp n gs (.tuple ds) δ=if ds.length=n then gs ds δ else YC:=rfl
def Ymw(n:Nat)(gs:FGs)(ds:List Xa)(δ:Zg):gLs n gs (.list ds) δ=if ds.length=n then gs ds δ else YC:=rfl
def RS.thn(r:RS)(g:FS):RS:=match r with| .nx δ=>g δ|r=>r
def Zv7(δ:Zg)(g:FS):(RS.nx δ).thn g=g δ:=rfl
def Z26(r:OT)(δ:Zg)(g:FS):(RS.rt r δ).thn g= .rt r δ:=rfl
def Ymo(δ:Zg)(g:FS):(RS.bk δ).thn g= .bk δ:=rfl
def Ylp(δ:Zg)(g:FS):(RS.ct δ).thn g= .ct δ:=rfl
def Z9w(c:Str)(δ:Zg)(g:FS):(RS.ex c δ).thn g= .ex c δ:=rfl
def Zf8(f g:FS)(δ:Zg):Z3 f g δ=(f δ).thn g:=rfl
def Ymt(δ:Zg):fNx δ= .nx δ:=rfl
def Ykc(δ:Zg):Ypn δ= .bk δ:=rfl
def Yj3(δ:Zg):Yol δ= .ct δ:=rfl
def Yas(c:Str)(δ:Zg):Zks c δ= .ex c δ:=rfl
def Yge(δ:Zg):Yj5 δ= .rt (.fz .none) δ:=rfl
def onO(o:Option (Y×Zg))(k:Y->Zg->RS):RS:=match o with|some (r,δ')=>k r δ'|none=>.bad
def Wv(r:Y)(δ:Zg)(k:Y->Zg->RS):onO (YB (r,δ)) k=k r δ:=rfl
def Zgl(e:FE)(k:OT->Zg->RS)(δ:Zg):wE e k δ=onO (e δ) k:=by
 unfold wE onO;cases e δ<;>rfl
def onF(x:RF)(δ:Zg)(k:OT->Zg->RS):RS:=match x with| .ok r=>k r δ| .exn c=>.ex c δ| .bad=>.bad
def Yeb(r:OT)(δ:Zg)(k:OT->Zg->RS):onF (.ok r) δ k=k r δ:=rfl
def Yft(c:Str)(δ:Zg)(k:OT->Zg->RS):onF (.exn c) δ k= .ex c δ:=rfl
def Yer(F:FD)(a:FA)(k:OT->Zg->RS)(δ:Zg):wX F a k δ=onO (a δ) λrs δ1=>onF (F (OT.datas rs)) δ1 k:=by
 unfold wX onO onF;cases a δ with
 | none=>rfl
 | some p=>rfl
def Zt0(t:FT)(u w:FS)(δ:Zg):Y4 t u w δ=onO (t δ) λb δ'=>if b=YD then u δ' else w δ':=by
 unfold Y4 onO;cases t δ<;>rfl
def Z5g(it:FI)(g:FG)(u:FS)(δ:Zg):Zf7 it g u δ=onO (it δ) λds δ1=>forLoop g u ds δ1:=by
 unfold Zf7 onO;cases it δ<;>rfl
def Yf0(r:OT)(δ:Zg):Zwe r δ= .nx δ:=rfl
def Z4c(r:OT)(δ:Zg):W7 r δ= .rt r δ:=rfl
def Ygz(r:OT)(δ:Zg):Yjl r δ=if Zbh r.data=YD then .rt (.fz r.data) δ else .bad:=rfl
def Zyv(i:Nat)(r:OT)(δ:Zg):Ju i r δ= .nx (δ.set i (YB (.fz r.data))):=rfl
def Zzt(i:Nat)(r:OT)(δ:Zg):Zux i r δ=if Zbh r.data=YD then .nx (δ.set i (YB (.fz r.data)))else .bad:=rfl
def Zzn(i:Nat)(r:OT)(δ:Zg):Zbf i r δ= .nx (δ.set i (YB r)):=rfl
def onD(o:Option Zg):RS:=match o with|some δ=>.nx δ|none=>.bad
def Yg3(δ:Zg):onD (YB δ)= .nx δ:=rfl
def Yir(g:FG)(r:OT)(δ:Zg):Yfo g r δ=onD (g r.data δ):=rfl
def onT(o:Option (Option OT))(k:OT->RS):RS:=match o with|some (YB t)=>k t|_=>.bad
def Yel(t:OT)(k:OT->RS):onT (YB (YB t)) k=k t:=rfl
def Zzd(i:Nat)(δ:Zg):Zhe i δ=onT δ[i]? λt=>.rt t (δ.set i YC):=rfl
def Zr3(i:Nat)(u:FS)(δ:Zg):Zgt i u δ=onT δ[i]? λt=>u (δ.set i (YB (.fz t.data))):=rfl
def onN(o:Option (Option OT))(k:List OT->RS):RS:=match o with|some (YB (.nd ts))=>k ts|_=>.bad
def Yd9(t:List OT)(k:List OT->RS):onN (YB (YB (.nd t))) k=k t:=rfl
def Zsy(i:Nat)(e:FE)(δ:Zg):Jp i e δ=onN δ[i]? λ_=>onO (e δ) λr δ1=>onN δ1[i]? λts=>if ts.length<Xp then .nx (δ1.set i (YB (.nd (ts++[.fz r.data]))))else .bad:=by
 unfold Jp;generalize δ[i]? =o;rcases o with _|_|(_|_|_|_)
 .rfl
 .rfl
 .rfl
 .show wE e _ δ=onO (e δ) _
  rw[Zgl];congr 1
 .rfl
 .rfl
def Z5v(i:Nat)(e:FE)(δ:Zg):Zrn i e δ=onN δ[i]? λ_=>onO (e δ) λr δ1=>onN δ1[i]? λts=>if ts.length<Xp then .nx (δ1.set i (YB (.nd (ts++[r]))))else .bad:=by
 unfold Zrn;generalize δ[i]? =o;rcases o with _|_|(_|_|_|_)
 .rfl
 .rfl
 .rfl
 .show wE e _ δ=onO (e δ) _
  rw[Zgl];congr 1
 .rfl
 .rfl
def onI(d:Xa)(k:Int->RS):RS:=match d with| .int i=>k i|_=>.bad
def Yoi(i:Int)(k:Int->RS):onI (.int i) k=k i:=rfl
def onX(o:Option Nat)(k:Nat->RS):RS:=match o with|some i=>k i|_=>.bad
def Ypw(i:Nat)(k:Nat->RS):onX (YB i) k=k i:=rfl
def Z8a(i:Nat)(e j:FE)(δ:Zg):Zy3 i e j δ=onO (e δ) λr δ1=>onN δ1[i]? λts=>onO (j δ1) λn _=>onI n.data λk=>onX (ixN ts.length k) λj=>.nx (δ1.set i (YB (.nd (ts.set j (.fz r.data))))):=by
 unfold Zy3;rw[Zgl];congr 1;funext r δ1;generalize δ1[i]? =o;rcases o with _|_|(_|_|_|_)
 .rfl
 .rfl
 .rfl
 .show wE j _ δ1=onO (j δ1) _
  rw[Zgl];congr 1;funext n δ2;generalize n.data=d;cases d<;>try rfl
  show(match ixN _ _ with|some j=>_|none=>_)=onX (ixN _ _) _;generalize ixN _ _=x;cases x<;>rfl
 .rfl
 .rfl
def onU(o:Option OT)(k:List OT->RS):RS:=match o with|some (.nd ts)=>k ts|_=>.bad
def Yp4(t:List OT)(k:List OT->RS):onU (YB (.nd t)) k=k t:=rfl
def onP(o:Option (Option OT))(k:List OT->RS):RS:=match o with|some (YB (.tp ts))=>k ts|_=>.bad
def Ypy(t:List OT)(k:List OT->RS):onP (YB (YB (.tp t))) k=k t:=rfl
def Yai(i c:Nat)(e:FE)(δ:Zg):Z2i i c e δ=onP δ[i]? λts=>onU ts[c]? λus=>onO (e δ) λr _=>if us.length<Xp then .nx (δ.set i (YB (.tp (ts.set c (.nd (us++[.fz r.data]))))))else .bad:=by
 unfold Z2i;generalize δ[i]? =o;rcases o with _|_|(_|_|ts|_)
 .rfl
 .rfl
 .rfl
 .rfl
 .show(match ts[c]? with|some (.nd us)=>wE e _ δ|_=>_)=onU ts[c]? _
  generalize ts[c]? =o;rcases o with _|(_|_|_|_)
  .rfl
  .rfl
  .show wE e _ δ=onO (e δ) _
   rw[Zgl]
  .rfl
  .rfl
 .rfl
def on2(ds:List Xa)(k:Xa->Xa->RS):RS:=match ds with|[d,e]=>k d e|_=>.bad
def Yqb(d e:Xa)(k:Xa->Xa->RS):on2 [d,e] k=k d e:=rfl
def Yi3(i j:Nat)(a:FA)(δ:Zg):Zy0 i j a δ=onO (a δ) λrs δ1=>on2 (OT.datas rs) λd e=>.nx ((δ1.set i (YB (.fz d))).set j (YB (.fz e))):=by
 unfold Zy0 onO on2;cases a δ<;>rfl
def Zoy{n:Nat}{S:FS}(h:ds.length=np):J2 np n S ds=(S (Yo n ds)).told:=by
 unfold J2;rw[YM h]
def Z7t(δ:Zg):(RS.nx δ).told= .ok (.fz .none):=rfl
def Z7c(r:OT)(δ:Zg):(RS.rt r δ).told= .ok r:=rfl
def Z7s(c:Str)(δ:Zg):(RS.ex c δ).told= .exn c:=rfl
def Ylu(i j:Int):Zgy (.int i) (.int j)=YB (.int (i+j)):=rfl
def Yoo(i j:Int):gSb (.int i) (.int j)=YB (.int (i-j)):=rfl
def Yp6(i j:Int):gLt (.int i) (.int j)=YB (.bool (decide (i<j))):=rfl
def Yps(i j:Int):gLe (.int i) (.int j)=YB (.bool (decide (i<=j))):=rfl
def Yie(i j:Int):gGt (.int i) (.int j)=YB (.bool (decide (j<i))):=rfl
def Yig(i j:Int):gGe (.int i) (.int j)=YB (.bool (decide (j<=i))):=rfl
def Z20{i j:Int}(h:Z8u i j=YD):Zmh (.int i) (.int j)=YB (.int (i*j)):=by
 unfold Zmh i2c;dsimp only;rw[YM h]
def Zpz{i j:Int}(h:Yfn i j=YD):J4 (.int i) (.int j)=YB (.int (i.fdiv j)):=by
 unfold J4 i2c;dsimp only;rw[YM h]
def Ydv{i j:Int}(h:j≠0):Zbd (.int i) (.int j)=YB (.int (i.fmod j)):=by
 unfold Zbd i2c Ym4;dsimp only;rw[YM (YS h)]
def Ybx{i j:Int}(h:Yjt i j=YD):Zmf (.int i) (.int j)=YB (.int (i^j.toNat)):=by
 unfold Zmf i2c;dsimp only;rw[YM h]
def Z9a{x y:Int}(h:x.natAbs<2^64):Z8u x y=YD:=Zlc.mpr (.of_left (intBits_le_64 (!0) (!0)))
def Yax{x y:Int}(h:y.natAbs<2^64):Z8u x y=YD:=Zlc.mpr (.of_right (intBits_le_64 (!0) (!0)))
def Zot{n:Nat}{i j:Int}(h0:j≠0)(h:Bt n j)(hn:n<=9000:=by decide):Yfn i j=YD:=by
 obtain⟨h1,h2⟩:=DivOk.of (i:=i) h0 h hn;unfold Yfn;rw[YS h1,YS h2];rfl
def Ye7(i j:Int):gEq (.int i) (.int j)=YB (.bool (decide (i=j))):=by
 show YB (UG (i==j))=_;rw[show(i==j)=decide (i=j)from rfl]
def Yjm(i j:Int):gNe (.int i) (.int j)=YB (.bool (!decide (i=j))):=by
 show YB (UG (!(i==j)))=_;rw[show(i==j)=decide (i=j)from rfl]
def Ybj(d:Xa):gIs d .none=YB (.bool (Zc2 d)):=rfl
def Yf2(d:Xa):Ycq d .none=YB (.bool (!Zc2 d)):=rfl
def Zy8(ds:List Xa)(i:Int):gIx (.list ds) (.int i)=(atI ds i).bind λx=>YB (.fz x):=rfl
def Ypd(ds:List Xa)(i:Int):gIx (.tuple ds) (.int i)=(atI ds i).bind λx=>YB (.fz x):=rfl
def Z3m(ds:List Xa):Zl7 [.list ds]=YB (.int ds.length):=rfl
def Zkn(ds:List Xa):Zl7 [.tuple ds]=YB (.int ds.length):=rfl
def Zw1(i:Int):Z8t [.int i]=YB (.int (i.natAbs:Int)):=by
 show YB (Xo (if i<0 then -i else i))=_;congr 2;split<;>omega
def Yns(i j:Int):Yox [.int i,.int j]=YB (.int (if j>i then j else i)):=rfl
def Ynu(i j:Int):Ypk [.int i,.int j]=YB (.int (if j<i then j else i)):=rfl
def Yks(i:Int):Ymy [.int i]=YB (.int i):=rfl
def Ynl(b:Bool):Ymy [.bool b]=YB (.int (if b then 1 else 0)):=rfl
def Ykn(ds:List Xa):Zxy [.list ds]=YB (.nd (ds.map OT.fz)):=rfl
def Z4h(ds:List Xa):Zxy [.tuple ds]=YB (.nd (ds.map OT.fz)):=rfl
def Ydw{es:List Xa}(h:ds.length+es.length<=Xp):Zp1 (.list ds) (.list es)=YB (.nd ((ds++es).map OT.fz)):=by
 unfold Zp1;dsimp only;rw[YM h]
def Yfm(i:Int):Yab (.int i)=YB (.int (-i)):=rfl
def Ymd(b:Bool):Ygv (.bool b)=YB (.bool (!b)):=rfl
def Ynr(b:Bool):Z1t (.bool b)=YB b:=rfl
def Yli(i:Int):Z1t (.int i)=YB (i !=0):=rfl
def Yky:Z1t .none=YB YF:=rfl
def Ymr(ds:List Xa):Z1t (.list ds)=YB (!ds.isEmpty):=rfl
def Z2g{u:FS}(I:Nat->Zg->Prop)(h0:I 0 δ)
  (turn:∀(i:Nat) (d:Xa) (δ:Zg),ds[i]? =YB d->I i δ->∃δ1 δ2,gg d δ=YB δ1/\(u δ1= .nx δ2\/u δ1= .ct δ2)/\I (i+1) δ2):∃δ',forLoop gg u ds δ= .nx δ'/\I ds.length δ':=by
 induction ds generalizing δ I with
 | nil=>exact⟨δ,rfl,h0⟩
 | cons d ds ih=>
  obtain⟨δ1,δ2,e1,e2,h1⟩:=turn 0 d δ rfl h0;obtain⟨δ',e3,h3⟩:=ih (δ:=δ2) (λi δ=>I (i+1) δ) h1 λi d' δ hd hi=>turn (i+1) d' δ (by simpa using hd) hi;refine⟨δ',?_,h3⟩;rw[Zav,e1];dsimp only;rcases e2 with e2|e2<;>rw[e2]<;>exact e3
def Goes(r:RS)(Q:Zg->Prop):Prop:=∃δ,(r= .nx δ\/r= .ct δ)/\Q δ
def Goes.nx{Q:Zg->Prop}(h:Q δ):Goes (.nx δ) Q:=⟨δ,.inl rfl,h⟩
theorem Goes.ct{Q:Zg->Prop}(h:Q δ):Goes (.ct δ) Q:=⟨δ,.inr rfl,h⟩
theorem Zyh{cs:Zg}(mk:Y->Xa)(f:Y->OT):∀(xs:List Y) (z:Option OT),(∀x∈xs,me (YB (.fz (mk x))::cs)=YB (f x,YB (.fz (mk x))::cs)) ->
  ∃z',compLoop (gNm 0) Zj6 me (xs.map mk) (z::cs)=YB (xs.map f,z'::cs)
 | [],z,_=>⟨z,rfl⟩
 | x::xs,z,h=>by
  obtain⟨z',e⟩:=Zyh mk f xs (YB (.fz (mk x))) λy hy=>h y (.tail _ hy);refine⟨z',?_⟩;rw[XC,compLoop];show(YB (YB (OT.fz (mk x))::cs)).bind _=_;rw[Xh];show(YB (YD,YB (OT.fz (mk x))::cs)).bind _=_;rw[Xh,YM rfl,h x (!8),Xh,e];rfl
theorem Zqr{t:FT}{cs:Zg}(mk:Y->Xa)(p:Y->Bool)(f:Y->OT):∀(xs:List Y) (z:Option OT),(∀x∈xs,t (YB (.fz (mk x))::cs)=YB (p x,YB (.fz (mk x))::cs))->(∀x∈xs,p x=YD->me (YB (.fz (mk x))::cs)=YB (f x,YB (.fz (mk x))::cs)) ->
  ∃z',compLoop (gNm 0) t me (xs.map mk) (z::cs)=YB ((xs.filter p).map f,z'::cs)
 | [],z,_,_=>⟨z,rfl⟩
 | x::xs,z,ht,h=>by
  obtain⟨z',e⟩:=Zqr mk p f xs (YB (.fz (mk x))) (λy hy=>ht y (.tail _ hy)) λy hy=>h y (.tail _ hy);refine⟨z',?_⟩;rw[XC,compLoop];show(YB (YB (OT.fz (mk x))::cs)).bind _=_;rw[Xh,ht x (!8),Xh];dsimp only
  by_cases hp:p x=YD
  .rw[YM hp,h x (!8) hp,Xh,e,List.filter_cons_of_pos hp];rfl
  .rw[YQ hp,e,List.filter_cons_of_neg hp]
def Z0u{cs:Zg}(xs:List Y)(mk:Y->Xa)(f:Y->OT)(hi:it δ=YB (xs.map mk,δ1))(hz:xs.length<=Xp)(hb:blk 1 caps δ1=YC::cs)
  (h:∀x∈xs,me (YB (.fz (mk x))::cs)=YB (f x,YB (.fz (mk x))::cs)):Jq 1 caps it (gNm 0) Zj6 me δ=YB (.nd (xs.map f),δ1):=by
 unfold Jq;rw[hi,Xh];dsimp only;rw[YM (by rw[Xf];exact hz),hb];obtain⟨z',e⟩:=Zyh (me:=me) (cs:=cs) mk f xs YC h;rw[e];rfl
def Zvd{t:FT}{cs:Zg}(xs:List Y)(mk:Y->Xa)(p:Y->Bool)(f:Y->OT)(hi:it δ=YB (xs.map mk,δ1))(hz:xs.length<=Xp)(hb:blk 1 caps δ1=YC::cs)
  (ht:∀x∈xs,t (YB (.fz (mk x))::cs)=YB (p x,YB (.fz (mk x))::cs)) (h:∀x∈xs,p x=YD->me (YB (.fz (mk x))::cs)=YB (f x,YB (.fz (mk x))::cs)):Jq 1 caps it (gNm 0) t me δ=YB (.nd ((xs.filter p).map f),δ1):=by
 unfold Jq;rw[hi,Xh];dsimp only;rw[YM (by rw[Xf];exact hz),hb];obtain⟨z',e⟩:=Zqr (t:=t) (me:=me) (cs:=cs) mk p f xs YC ht h;rw[e];rfl
def Yog:(2<=Xp)=True:=by simp[Qe]
def Ypm:(1<=Xp)=True:=by simp[Qe]
def Yp0:(0<=Xp)=True:=by simp
def Yh4:(3<=Xp)=True:=by simp[Qe]
def Ztd(f:Y->Xa)(xs:List Y):(xs.map λx=>OT.fz (f x)).map OT.data=xs.map f:=by
 rw[X6];exact Qy λx _=>OT.data_fz _
def Z4q{j:Int}{x:Y}(h0:0<=j)(h1:j<=1000000):(if rOk j=YD then YB x else YC)=YB x:=YM (Yfz (!0) h1)
def Ybv{r:RS}{k:Nat}(h:k<=1000000):(if k<Xp then r else .bad)=r:=YM (by rw[Qe];omega)
def EvV(e:FE)(δ:Zg)(d:Xa):Prop:=∃t,e δ=YB (t,δ)/\t.data=d
def EvA(a:FA)(δ:Zg)(ds:List Xa):Prop:=∃ts,a δ=YB (ts,δ)/\OT.datas ts=ds
def EvT(t:FT)(δ:Zg)(b:Bool):Prop:=t δ=YB (b,δ)
def Told(F:FD)(ds:List Xa)(d:Xa):Prop:=∃t,F ds= .ok t/\t.data=d
section
variable {e a b:FE}{as:FA}{x y d:Xa}{xs:List Xa}{q:Bool}{t u:FT}{S S':FS}{r:RS}
theorem EvV.cast{e:FE}{x y:Xa}(h:EvV e δ x)(k:x=y):EvV e δ y:=k▸h
def Za(h:δ[i]? =YB (YB (.fz d)):=by rfl):EvV (Yk i) δ d:=⟨_,by rw[Zt7,h,Zwo],OT.data_fz _⟩
def Za6{t:OT}(h:δ[i]? =YB (YB t))(hd:t.data=d):EvV (Zjv i) δ d:=⟨_,by rw[Z39,h,Z5z],by rw[OT.data_fz,hd]⟩
def Zn:EvV (fC d) δ d:=⟨_,rfl,OT.data_fz _⟩
def Zr{g:Xa->Xa->Option Xa}(ha:EvV a δ x)(hb:EvV b δ y)(h:g x y=YB d):EvV (Zd g a b) δ d:=by
 obtain⟨_,e1,d1⟩:=ha;obtain⟨_,e2,d2⟩:=hb;exact⟨_,by rw[Zzl,e1,Xh,e2,Xh,d1,d2,h,Xh],OT.data_fz _⟩
def Zkf{g:Xa->Xa->Option OT}{o:OT}(ha:EvV a δ x)(hb:EvV b δ y)(h:g x y=YB o)(hd:o.data=d):EvV (W2 g a b) δ d:=by
 obtain⟨_,e1,d1⟩:=ha;obtain⟨_,e2,d2⟩:=hb;exact⟨_,by rw[Zxt,e1,Xh,e2,Xh,d1,d2,h,Xh],hd⟩
def Wo(ha:EvV a δ x)(hb:EvV b δ y)(h:gIx x y=YB (.fz d)):EvV (W2 gIx a b) δ d:=Zkf ha hb h (OT.data_fz _)
def Za7{i j:Int}(ha:EvV a δ (.int i))(hb:EvV b δ (.int j)):EvV (Zd Zgy a b) δ (.int (i+j)):=Zr ha hb rfl
def Z3i{i j:Int}(ha:EvV a δ (.int i))(hb:EvV b δ (.int j)):EvV (Zd gSb a b) δ (.int (i-j)):=Zr ha hb rfl
def Z91{g:Xa->Option Xa}(ha:EvV a δ x)(h:g x=YB d):EvV (fUn g a) δ d:=by
 obtain⟨_,e1,d1⟩:=ha;exact⟨_,by rw[Ycd,e1,Xh,d1,h,Xh],OT.data_fz _⟩
def W3(ha:EvV a δ (.bool YD))(hb:EvV b δ d):EvV (Znr a b) δ d:=by
 obtain⟨_,e1,d1⟩:=ha;obtain⟨_,e2,d2⟩:=hb;exact⟨_,by rw[Zwx,e1,Xh,d1,Yc9,e2],d2⟩
def Zcy(ha:EvV a δ (.bool YF)):EvV (Znr a b) δ (.bool YF):=by
 obtain⟨_,e1,d1⟩:=ha;exact⟨_,by rw[Zwx,e1,Xh,d1,Ybr],OT.data_fz _⟩
def Z4z(ha:EvV a δ (.bool YF))(hb:EvV b δ d):EvV (fOr a b) δ d:=by
 obtain⟨_,e1,d1⟩:=ha;obtain⟨_,e2,d2⟩:=hb;exact⟨_,by rw[Z13,e1,Xh,d1,Ybr,e2],d2⟩
def Z69(ha:EvV a δ (.bool YD)):EvV (fOr a b) δ (.bool YD):=by
 obtain⟨_,e1,d1⟩:=ha;exact⟨_,by rw[Z13,e1,Xh,d1,Yc9],OT.data_fz _⟩
def Zb0{T:String}(ha:EvV a δ x)(hf:Zhm x=YF:=by rfl):EvV (Zjy T a) δ (.bool (Zhf T x)):=by
 obtain⟨_,e1,d1⟩:=ha;exact⟨_,by rw[Z52,e1,Xh,d1,YQ (by rw[hf];decide)],OT.data_fz _⟩
def Zh:EvA Yj δ []:=⟨_,rfl,Zi0⟩
def Zb(h:EvV e δ d)(k:EvA as δ ds):EvA (Ze e as) δ (d::ds):=by
 obtain⟨_,e1,d1⟩:=h;obtain⟨_,e2,d2⟩:=k;exact⟨_,by rw[Zzr,e1,Xh,e2,Xh],by rw[Zgk,d1,d2]⟩
def Zq(h:EvA as δ ds)(k:Told F ds d):EvV (Z7 F as) δ d:=by
 obtain⟨_,e1,d1⟩:=h;obtain⟨_,e2,d2⟩:=k;exact⟨_,by rw[Z1l,e1,Xh,d1,e2,Yb8],d2⟩
def Jg{g:List Xa->Option Xa}(h:EvA as δ ds)(k:g ds=YB d):EvV (Zdm g as) δ d:=by
 obtain⟨_,e1,d1⟩:=h;exact⟨_,by rw[Z5n,e1,Xh,d1,k,Xh],OT.data_fz _⟩
def Ztf{g:List Xa->Option OT}{o:OT}(h:EvA as δ ds)(k:g ds=YB o)(hd:o.data=d):EvV (fBl g as) δ d:=by
 obtain⟨_,e1,d1⟩:=h;exact⟨_,by rw[Z9n,e1,Xh,d1,k,Xh],hd⟩
theorem Zd1:∀ts:List OT,(OT.datas ts).length=ts.length
 | []=>by rw[Zi0];rfl
 | t::ts=>by rw[Zgk,XQ,XQ,Zd1 ts]
theorem datas_map:∀ts:List OT,OT.datas ts=ts.map OT.data
 | []=>Zi0
 | t::ts=>by rw[Zgk,XC,datas_map ts]
def Zdb(h:EvA as δ ds)(hl:ds.length<=1000):EvV (Zjp as) δ (.tuple ds):=by
 obtain⟨ts,e1,d1⟩:=h;have:=Zd1 ts;rw[d1]at this;exact⟨_,by rw[Z8i,e1,Xh,YM (by rw[Qe];show ts.length<=_;omega)],by rw[OT.data_fz];exact YW _ d1⟩
def Zbo(h:EvA as δ ds)(hl:ds.length<=1000):EvV (Zgv as) δ (.list ds):=by
 obtain⟨ts,e1,d1⟩:=h;have:=Zd1 ts;rw[d1]at this;exact⟨_,by rw[Zwz,e1,Xh,YM (by rw[Qe];show ts.length<=_;omega)],by rw[OT.data_nd,<-datas_map,d1]⟩
def Zm3{o:OT}{b:Bool}(h:o.data= .bool b):o= .fz (.bool b):=by
 cases o with
 | fz d=>rw[OT.data_fz]at h;rw[h]
 | nd ts=>rw[OT.data_nd]at h;cases h
 | tp ts=>rw[OT.data_tp]at h;cases h
 | dc _ _ _=>rw[OT.data_dc]at h;cases h
def Yv(h:EvV e δ (.bool p)):EvT (tV e) δ p:=by
 obtain⟨_,e1,d1⟩:=h;unfold EvT;rw[Yiu,e1,Xh,Zm3 d1,Yds]
def Yor(h:EvV e δ d)(k:Z1t d=YB p):EvT (tD e) δ p:=by
 obtain⟨_,e1,d1⟩:=h;unfold EvT;rw[Ykl,e1,Xh,d1,k,Xh]
def Wy(h:EvV e δ (.bool p)):EvT (tD e) δ p:=Yor h rfl
def Jy(h:EvT t δ p):EvT (tNo t) δ (!p):=by
 unfold EvT at h|-
 rw[Ya8,h,Xh]
def Zkb(h:EvT t δ YD)(k:EvT u δ p):EvT (tAn t u) δ p:=by
 unfold EvT at h k|-
 rw[Z2k,h,Xh,YM rfl,k]
def Zjc(h:EvT t δ YF):EvT (tAn t u) δ YF:=by
 unfold EvT at h|-
 rw[Z2k,h,Xh,YQ XJ]
def Zcj(h:EvT t δ YF)(k:EvT u δ p):EvT (tO t u) δ p:=by
 unfold EvT at h k|-
 rw[Z96,h,Xh,YQ XJ,k]
def Zcg(h:EvT t δ YD):EvT (tO t u) δ YD:=by
 unfold EvT at h|-
 rw[Z96,h,Xh,YM rfl]
def Yt(h:S δ= .nx δ')(k:S' δ'=r):Z3 S S' δ=r:=by rw[Zf8,h,Zv7,k]
def Zwy{o:OT}(h:S δ= .rt o δ'):Z3 S S' δ= .rt o δ':=by rw[Zf8,h,Z26]
def Zt(h:EvV e δ d):wE e (Ju i) δ= .nx (δ.set i (YB (.fz d))):=by
 obtain⟨_,e1,d1⟩:=h;rw[Zgl,e1,Wv,Zyv,d1]
def Ye3(h:EvV e δ d):∃o,wE e W7 δ= .rt o δ/\o.data=d:=by
 obtain⟨_,e1,d1⟩:=h;exact⟨_,by rw[Zgl,e1,Wv,Z4c],d1⟩
def Jx(h:EvT t δ YD)(k:S δ=r):Y4 t S S' δ=r:=by
 unfold EvT at h;rw[Zt0,h,Wv,YM rfl,k]
def Zj(h:EvT t δ YF)(k:S' δ=r):Y4 t S S' δ=r:=by
 unfold EvT at h;rw[Zt0,h,Wv,YQ (!1),k]
def Yk1{k:OT->Zg->RS}(h:EvA as δ ds)(hF:Told F ds d)(hk:∀o,o.data=d->k o δ=r):wX F as k δ=r:=by
 obtain⟨_,e1,d1⟩:=h;obtain⟨o,e2,d2⟩:=hF;rw[Yer,e1,Wv,d1,e2,Yeb,hk o d2]
def Zxj{k:OT->Zg->RS}{c:Str}(h:EvA as δ ds)(hF:F ds= .exn c):wX F as k δ= .ex c δ:=by
 obtain⟨_,e1,d1⟩:=h;rw[Yer,e1,Wv,d1,hF,Yft]
def Zej(S:FS)(δ:Zg)(d:Xa):Prop:=∃o δ',S δ= .rt o δ'/\o.data=d
def Zo(h:S δ= .nx δ')(k:Zej S' δ' d):Zej (Z3 S S') δ d:=by
 obtain⟨o,δ2,e,hd⟩:=k;exact⟨o,δ2,Yt h e,hd⟩
def Yi(k:Zej S δ d):Zej (Z3 S S') δ d:=by
 obtain⟨o,δ2,e,hd⟩:=k;exact⟨o,δ2,Zwy e,hd⟩
def Z0(h:EvV e δ d):Zej (wE e W7) δ d:=by
 obtain⟨o,e1,hd⟩:=Ye3 h;exact⟨o,δ,e1,hd⟩
def Yu(h:EvT t δ YD)(k:Zej S δ d):Zej (Y4 t S S') δ d:=by
 obtain⟨o,δ2,e,hd⟩:=k;exact⟨o,δ2,Jx h e,hd⟩
def Z2{n:Nat}(hl:xs.length=np)(k:Zej S (Yo n xs) d):Told (J2 np n S) xs d:=by
 obtain⟨o,δ2,e,hd⟩:=k;exact⟨o,by rw[Zoy hl,e,Z7c],hd⟩
def EvO(o:FO)(δ:Zg)(l:Option Int):Prop:=o δ=YB (l,δ)
def Z3j:EvO oN δ YC:=rfl
def Zvq{i:Int}(h:EvV e δ (.int i)):EvO (oI e) δ (YB i):=by
 obtain⟨_,e1,d1⟩:=h;unfold EvO;rw[Ykf,e1,Xh,d1,Z48]
def Z6h{lo hi:FO}{l h:Option Int}(he:EvV e δ (.list ds))(hl:EvO lo δ l)(hh:EvO hi δ h):EvV (fSl e lo hi) δ (.list (cutD ds l h)):=by
 obtain⟨_,e1,d1⟩:=he;unfold EvO at hl hh;exact⟨_,by rw[Z94,e1,Xh,hl,Xh,hh,Xh,d1,Zva],by rw[OT.data_nd,OT.map_fz]⟩
def Yd1{es:List Xa}(ha:EvV a δ (.list ds))(hb:EvV b δ (.list es))(h:ds.length+es.length<=1000000):EvV (W2 Zp1 a b) δ (.list (ds++es)) :=
 Zkf ha hb (Ydw (by rw[Qe];omega)) (by rw[OT.data_nd,OT.map_fz])
def EvI(it:FI)(δ:Zg)(ds:List Xa):Prop:=it δ=YB (ds,δ)
def Za8(h:EvV e δ (.list ds)):EvI (Zg8 e) δ ds:=by
 obtain⟨_,e1,d1⟩:=h;unfold EvI;rw[Z8n,e1,Xh,d1,Zva]
def Ydr{n:Nat}(h:EvA as δ [.int n])(hn:n<=1000000):EvI (iRa as) δ (Zro 0 n):=by
 obtain⟨_,e1,d1⟩:=h;unfold EvI;rw[Ydy,e1,Xh,d1,Yit,Z4q (!0) (!0),QR]
def Zqs{g:FG}(h:EvI it δ ds)(k:forLoop g S ds δ=r):Zf7 it g S δ=r:=by
 unfold EvI at h;rw[Z5g,h,Wv,k]
def Zdt{cs:Zg}(xs:List Y)(mk f:Y->Xa)(hi:EvI it δ (xs.map mk))(hz:xs.length<=1000000)(hb:blk 1 caps δ=YC::cs)(h:∀x∈xs,EvV me (YB (.fz (mk x))::cs) (f x)):EvV (Jq 1 caps it (gNm 0) Zj6 me) δ (.list (xs.map f)):=by
 have g:∀x,∃o:OT,x∈xs->me (YB (.fz (mk x))::cs)=YB (o,YB (.fz (mk x))::cs)/\o.data=f x:=λx=>by
  by_cases c:x∈xs
  .obtain⟨o,h1,h2⟩:=h x c
   exact⟨o,λ_=>⟨h1,h2⟩⟩
  .exact⟨.fz .none,λz=>YZ z c⟩
 obtain⟨o,ho⟩:=Classical.axiomOfChoice g;unfold EvI at hi;refine⟨_,Z0u (cs:=cs) xs mk o hi (by rw[Qe];omega) hb (λx hx=>(ho x hx).1),?_⟩;rw[OT.data_nd,X6];exact YW _ (Qy λx hx=>(ho x hx).2)
def Zv1(h:EvV e δ d)(hi:δ[i]? =YB (YB (.nd ts)))(hl:ts.length<=1000000):Jp i e δ= .nx (δ.set i (YB (.nd (ts++[.fz d])))):=by
 obtain⟨_,e1,d1⟩:=h;rw[Zsy,hi,Yd9,e1,Wv,hi,Yd9,Ybv hl,d1]
def Ze1{o:OT}(h:e δ=YB (o,δ)):wE e (Zbf i) δ= .nx (δ.set i (YB o)):=by rw[Zgl,h,Wv,Zzn]
def Ymf{o:OT}(h:δ[i]? =YB (YB o))(hd:o.data=d):Zej (Zhe i) δ d:=⟨o,_,by rw[Zzd,h,Yel],hd⟩
def Zxi{o:OT}(h:δ[i]? =YB (YB o))(k:S (δ.set i (YB (.fz o.data)))=r):Zgt i S δ=r:=by rw[Zr3,h,Yel,k]
def Zvj{n:Nat}(hl:xs.length=np)(k:S (Yo n xs)= .nx δ'):Told (J2 np n S) xs .none:=⟨_,by rw[Zoy hl,k,Z7t],OT.data_fz _⟩
def Zl0{n:Nat}{c:Str}(hl:xs.length=np)(k:S (Yo n xs)= .ex c δ'):J2 np n S xs= .exn c:=by rw[Zoy hl,k,Z7s]
def Zna{c:Str}(h:S δ= .ex c δ'):Z3 S S' δ= .ex c δ':=by rw[Zf8,h,Z9w]
theorem Told.ok{b:Bool}(h:Told F ds (.bool b)):F ds= .ok (.fz (.bool b)):=by
 obtain⟨o,e1,d1⟩:=h;rw[e1,Zm3 d1]
def Z0n{o:OT}{i:Int}(h:o.data= .int i):o= .fz (.int i):=by
 cases o with
 | fz d=>rw[OT.data_fz]at h;rw[h]
 | nd ts=>rw[OT.data_nd]at h;cases h
 | tp ts=>rw[OT.data_tp]at h;cases h
 | dc _ _ _=>rw[OT.data_dc]at h;cases h
theorem Told.int{i:Int}(h:Told F ds (.int i)):F ds= .ok (.fz (.int i)):=by
 obtain⟨o,e1,d1⟩:=h;rw[e1,Z0n d1]
def Ztx{o:OT}(h:o.data= .none):o= .fz .none:=by
 cases o with
 | fz d=>rw[OT.data_fz]at h;rw[h]
 | nd ts=>rw[OT.data_nd]at h;cases h
 | tp ts=>rw[OT.data_tp]at h;cases h
 | dc _ _ _=>rw[OT.data_dc]at h;cases h
def Told.of{o:OT}(h:F ds= .ok o)(hd:o.data=d):Told F ds d:=⟨o,h,hd⟩
end
section
variable {e a b:FE}{as:FA}{x y d:Xa}{xs:List Xa}{i j:Int}{k:Nat}{q:Bool}{t u:FT}{S S':FS}{r:RS}{Q:Xa->Prop}
def Yp(ha:EvV a δ (.int i))(hb:EvV b δ (.int j))(h:j≠0):EvV (Zd Zbd a b) δ (.int (i.fmod j)):=Zr ha hb (Ydv h)
def Ydb{i j:Int}(h:(decide (0<j)&&decide (j<18446744073709551616))=YD):J4 (.int i) (.int j)=YB (.int (i.fdiv j)):=by
 rw[XR,decide_eq_true_eq,decide_eq_true_eq]at h;exact Zpz (Zot (n:=64) (!0) (Bt.of_lt (!0) (!0)))
def J0(ha:EvV a δ (.int i))(hb:EvV b δ (.int j))(h:(decide (0<j)&&decide (j<18446744073709551616))=YD:=by decide):EvV (Zd J4 a b) δ (.int (i.fdiv j)):=Zr ha hb (Ydb h)
def Zic(ha:EvV a δ (.int i))(hb:EvV b δ (.int j))(h:i.natAbs<2^64:=by decide):EvV (Zd Zmh a b) δ (.int (i*j)):=Zr ha hb (Z20 (Z9a h))
def Zow(ha:EvV a δ (.int i))(hb:EvV b δ (.int j))(h:j.natAbs<2^64:=by decide):EvV (Zd Zmh a b) δ (.int (i*j)):=Zr ha hb (Z20 (Yax h))
def Zcm(ha:EvV a δ (.int i))(hb:EvV b δ (.int j))(h:decide (i<j)=p):EvV (Zd gLt a b) δ (.bool p):=h▸Zr ha hb rfl
def Zed(ha:EvV a δ (.int i))(hb:EvV b δ (.int j))(h:decide (j<i)=p):EvV (Zd gGt a b) δ (.bool p):=h▸Zr ha hb (Yie _ _)
def Zm2(ha:EvV a δ (.int i))(hb:EvV b δ (.int j))(h:decide (j<=i)=p):EvV (Zd gGe a b) δ (.bool p):=h▸Zr ha hb (Yig _ _)
def Zal(ha:EvV a δ (.int i))(hb:EvV b δ (.int j))(h:decide (i=j)=p):EvV (Zd gEq a b) δ (.bool p):=h▸Zr ha hb (Ye7 _ _)
def Zev(ha:EvV a δ (.int i))(hb:EvV b δ (.int j))(h:(!decide (i=j))=p):EvV (Zd gNe a b) δ (.bool p):=h▸Zr ha hb (Yjm _ _)
def Zq1(ha:EvV a δ (.int i)):EvV (fUn Yab a) δ (.int (-i)):=Z91 ha (Yfm _)
def Zff(h:EvV e δ (.list ds)):EvV (Zdm Zl7 (Ze e Yj)) δ (.int ds.length):=Jg (Zb h Zh) (Z3m ds)
def Zix(ha:EvV a δ (.list ds))(hb:EvV b δ (.int i))(h:atI ds i=YB d):EvV (W2 gIx a b) δ d:=Wo ha hb (by rw[Zy8,h];rfl)
def Zfc(S:FS)(δ:Zg)(Q:Xa->Prop):Prop:=∃d,Zej S δ d/\Q d
def Yc(h:S δ= .nx δ')(k:Zfc S' δ' Q):Zfc (Z3 S S') δ Q:=k.imp λ_ k=>⟨Zo h k.1,k.2⟩
def Wd(k:Zfc S δ Q):Zfc (Z3 S S') δ Q:=k.imp λ_ k=>⟨Yi k.1,k.2⟩
def Wl(h:EvV e δ d)(k:Q d):Zfc (wE e W7) δ Q:=⟨d,Z0 h,k⟩
def Wu(h:EvT t δ YD)(k:Zfc S δ Q):Zfc (Y4 t S S') δ Q:=k.imp λ_ k=>⟨Yu h k.1,k.2⟩
def Yng{o:OT}(h:δ[k]? =YB (YB o))(hd:Q o.data):Zfc (Zhe k) δ Q:=⟨_,Ymf h rfl,hd⟩
def Zmi{n:Nat}(hl:xs.length=np)(h:Zfc S (Yo n xs) Q):∃d,Told (J2 np n S) xs d/\Q d:=h.imp λ_ k=>⟨Z2 hl k.1,k.2⟩
def Z2o{g:FG}(I:Nat->Zg->Prop)(hi:EvI it δ ds)(h0:I 0 δ)(turn:∀(i:Nat) (d:Xa) (δ:Zg),ds[i]? =YB d->I i δ->∃δ1 δ2,g d δ=YB δ1/\(S δ1= .nx δ2\/S δ1= .ct δ2)/\I (i+1) δ2)(k:∀δ',I ds.length δ'->Zfc S' δ' Q):Zfc (Z3 (Zf7 it g S) S') δ Q:=by
 obtain⟨δ',e,h⟩:=Z2g I h0 turn;exact Yc (Zqs hi e) (k δ' h)
def Z3g{g:FG}(I:Nat->Zg->Prop)(hi:EvI it δ ds)(h0:I 0 δ)(turn:∀(i:Nat) (d:Xa) (δ:Zg),ds[i]? =YB d->I i δ->∃δ1 δ2,g d δ=YB δ1/\(S δ1= .nx δ2\/S δ1= .ct δ2)/\I (i+1) δ2)(k:∀δ',I ds.length δ'->Zej S' δ' d):Zej (Z3 (Zf7 it g S) S') δ d:=by
 obtain⟨δ',e,h⟩:=Z2g I h0 turn;exact Zo (Zqs hi e) (k δ' h)
def Z4o(h:EvV e δ d):∃o,wE e (Zbf k) δ= .nx (δ.set k (YB o))/\o.data=d:=by
 obtain⟨o,e1,d1⟩:=h;exact⟨o,Ze1 e1,d1⟩
def Z3w:wE (Zgv Yj) (Zbf k) δ= .nx (δ.set k (YB (.nd []))):=Ze1 (by rw[Zwz];rfl)
def Yr{i:Int}(h:0<j):0<=i.fmod j:=by rw[Zfs h];exact Int.emod_nonneg _ (!0)
def Yz{i:Int}(h:0<j):i.fmod j<j:=by rw[Zfs h];exact Int.emod_lt_of_pos _ h
def Zwn{o:OT}(h:δ[k]? =YB (YB o))(g:Zfc S (δ.set k (YB (.fz o.data))) Q):Zfc (Zgt k S) δ Q:=by
 obtain⟨d,⟨o',δ2,e,hd⟩,hq⟩:=g;exact⟨d,⟨o',δ2,Zxi h e,hd⟩,hq⟩
def Zts{es:List Xa}(h:EvA as δ ds)(hz:Z8w ds=YB es):EvI (Zmu as) δ es:=by
 obtain⟨_,e1,d1⟩:=h;unfold EvI Zmu;rw[e1,Xh,d1,hz,Xh]
def Yam{xs:List Str}{D c:Str}{h:FS}{δ2:Zg}(e:S δ= .ex c δ')(hc:(xs.contains c&&Zsd c D)=YD)(hh:h (δ'.set k (YB (.fz (exD c))))= .nx δ2):Z5f xs S D k h δ= .nx (δ2.set k YC):=by
 unfold Z5f;rw[e];dsimp only;rw[YM hc,hh]
def Z2r{xs:List Str}{D x:Str}(ha:EvV a δ (exD x))(h:xs.contains x=YD)(hd:Zsd x D=p):EvV (Zxw xs D a) δ (.bool p):=by
 obtain⟨_,e1,d1⟩:=ha;exact⟨_,by unfold Zxw;rw[e1,Xh,d1,show Zko (exD x)=YB x from rfl,Xh,YM h],by rw[OT.data_fz,hd]⟩
def Z4t{xs Ds:List Str}{x:Str}(ha:EvV a δ (exD x))(h:xs.contains x=YD)(hd:Ds.any (Zsd x)=p):EvV (Zq0 xs Ds a) δ (.bool p):=by
 obtain⟨_,e1,d1⟩:=ha;exact⟨_,by unfold Zq0;rw[e1,Xh,d1,show Zko (exD x)=YB x from rfl,Xh,YM h],by rw[OT.data_fz,hd]⟩
def Zdl{T:String}(ha:EvV a δ x)(h:Zhf T x=p)(hf:Zhm x=YF:=by rfl):EvV (Zjy T a) δ (.bool p):=(Zb0 ha hf).cast (by rw[h])
def Z8j{a b:FE}{bs es:List Xa}{as:List Xa}(ha:EvV a δ (.list as))(hb:EvV b δ (.list bs))(hz:Zpw as bs=es):EvI (Zmu (Ze a (Ze b Yj))) δ es:=Zts (Zb ha (Zb hb Zh)) (YW YB hz)
theorem Told.none{F:FD}(h:Told F ds .none):F ds= .ok (.fz .none):=by
 obtain⟨o,e1,d1⟩:=h;rw[e1,Ztx d1]
end
end L2
namespace My
open PySem L2 PySem.Spec
def Zad:FS :=
 (Z3 (wE (Zdm Z8t (Ze (Yk 0) Yj)) (Ju 0))
  (Z3 (wE (Zdm Z8t (Ze (Yk 1) Yj)) (Ju 1))
  (Z3 (Zkl (tV (Zd gNe (Yk 1) (fC (.int 0)))) (Z3 (wE (Zd Zbd (Yk 0) (Yk 1)) (Ju 2))
  (Z3 (wE (Yk 1) (Ju 0))
  (wE (Yk 2) (Ju 1)))))
  (wE (Yk 0) W7))))
def Yn:FD:=J2 2 3 Zad
theorem Zl5{f1 f2:Int->Int->Option OT->Zg}{t:FT}{u:FS}(ht:∀x y z,t (f1 x y z)=YB (!decide (y=0),f1 x y z))(hu:∀x y z,y≠0->∃z',u (f1 x y z)= .nx (f1 y (x.fmod y) z')) :
  ∀(n:Nat) (x y:Int) (z:Option OT),0<=x->0<=y->y.toNat<n->∃z',whileLoop t u n (f1 x y z)= .nx (f1 (Vp x y:Int) 0 z')
 | 0,_,_,_,_,_,h=>YZ h (UT _)
 | n+1,x,y,z,hx,hy,h=>by
  unfold whileLoop;rw[ht];dsimp only
  by_cases c:y=0
  .subst c
   refine⟨z,?_⟩;simp only[decide_true,Uy,Qg,if_false];rw[Int.gcd_zero_right];congr 2;omega
  .simp only[c,decide_false,Bool.not_false,if_true]
   obtain⟨z1,e1⟩:=hu x y z c;rw[e1];dsimp only;have hm:x.fmod y=x%y:=Zfs (!0);have h1:0<=x%y:=Int.emod_nonneg x c;have h2:x%y<y:=Int.emod_lt_of_pos x (!0);obtain⟨z2,e2⟩:=Zl5 (f1:=f1) (f2:=f2) ht hu n y (x.fmod y) z1 hy (!0) (!0);exact⟨z2,by rw[e2,Z1e hx (!0)]⟩
def Zbj(a b:Int):Yn [.int a,.int b]= .ok (.fz (.int (Vp a b:Int))):=by
 obtain⟨z',e⟩:=Zl5 (f1:=λx y z=>[YB (.fz (.int x)),YB (.fz (.int y)),z]) (f2:=λx y z=>[]) (t:=tV (Zd gNe (Yk 1) (fC (.int 0)))) (u:=Z3 (wE (Zd Zbd (Yk 0) (Yk 1)) (Ju 2)) (Z3 (wE (Yk 1) (Ju 0)) (wE (Yk 2) (Ju 1)))) (λx y z=>Yv (Zev Za Zn rfl)) (λx y z hy=>⟨_,Yt (Zt (Yp Za Za hy)) (Yt (Zt Za) (Zt Za))⟩) ((b.natAbs:Int).toNat+1) (a.natAbs:Int) (b.natAbs:Int) YC (!0) (!0) (!0);rw[Int.gcd_eq_natAbs_gcd_natAbs,V0,V0]at e;exact Told.int<|Z2 rfl<|Zo (Zt (Jg (Zb Za Zh) (Zw1 a)))<|Zo (Zt (Jg (Zb Za Zh) (Zw1 b)))<|Zo (Zm5 _ e (by intro z;cases z)) (Z0 Za)
def Zjn:FS :=
 (Z3 (wE (Z7 Yn (Ze (Yk 0) (Ze (Yk 1) Yj))) (Ju 2))
  (Z3 (Y4 (tV (Zd gLt (Yk 1) (fC (.int 0))))
  (wE (fUn Yab (Yk 2)) (Ju 2))
  fNx)
  (wE (Zjp (Ze (Zd J4 (Yk 0) (Yk 2)) (Ze (Zd J4 (Yk 1) (Yk 2)) Yj))) W7)))
def Zjf:FD:=J2 2 3 Zjn
def Yj4{n:Nat}{t b:Int}(hb:b≠0)(hB:Bt n b)(hn:n<=9000)(s:Int)(e:s=shr t b):J4 (.int t) (.int s)=YB (.int (Qw t b).num)/\J4 (.int b) (.int s)=YB (.int ((Qw t b).den:Int)):=by
 subst e;rw[Zpz (Zot (Z2x hb) (Z2c hb hB) hn),Zpz (Zot (Z2x hb) (Z2c hb hB) hn),Z6f hb,Z8l hb];exact⟨rfl,rfl⟩
def Zdz:FS :=
 (wE (Znr (Zjy "int" (Yk 0)) (fUn Ygv (Zjy "bool" (Yk 0)))) W7)
def Ye:FD:=J2 1 1 Zdz
def Zdp(i:Int):Ye [.int i]= .ok (.fz (.bool YD)):=rfl
def Zip:FS :=
 (Z3 (Y4 (tO (tNo (tD (Z7 Ye (Ze (Yk 0) Yj)))) (tO (tNo (tD (Z7 Ye (Ze (Yk 1) Yj)))) (tV (Zd gEq (Yk 1) (fC (.int 0))))))
  (Zks "NoNumber")
  fNx)
  (wE (Z7 Zjf (Ze (Yk 0) (Ze (Yk 1) Yj))) W7))
def Zxn:FD:=J2 2 2 Zip
def Zd8:FS :=
 (Z3 (wE (fC (.int 1)) (Ju 1))
  (Z3 (Zf7 (Zg8 (Yk 0)) (gNm 2)
  (wE (Zd Zmh (Zd J4 (Yk 1) (Z7 Yn (Ze (Yk 1) (Ze (W2 gIx (Yk 2) (fC (.int 1))) Yj)))) (W2 gIx (Yk 2) (fC (.int 1)))) (Ju 1)))
  (wE (Yk 1) W7)))
def Zea:FD:=J2 1 3 Zd8
def prD(p:Int×Int):Xa:=.tuple [.int p.1,.int p.2]
def Ze7:FS :=
 (Z3 (wE (fC (.int 1)) (Ju 1))
  (Z3 (Zf7 (Zg8 (Yk 0)) (gNm 2)
  (wE (Z7 Zea (Ze (W2 Zp1 (Zgv (Ze (Zjp (Ze (fC (.int 1)) (Ze (Yk 1) Yj))) Yj)) (Yk 2)) Yj)) (Ju 1)))
  (wE (Yk 1) W7)))
def Zo1:FD:=J2 1 3 Ze7
def Zhh:FS :=
 (wE (Jq 1 [0] (Zg8 (Yk 1)) (gNm 0) Zj6 (Zd Zmh (W2 gIx (Yk 0) (fC (.int 0))) (Zd J4 (Yk 1) (W2 gIx (Yk 0) (fC (.int 1)))))) W7)
def Zhj:FD:=J2 2 2 Zhh
def Zgc:FS :=
 (wE (Jq 1 [0] (Zg8 (Yk 1)) (gNm 0) Zj6 (Z7 Zhj (Ze (Yk 1) (Ze (Yk 0) Yj)))) W7)
def Ztc:FD:=J2 2 2 Zgc
def Zi6:FS :=
 (Z3 (wE (Zgv Yj) (Zbf 1))
  (Z3 (Zf7 (iRa (Ze (Yk 0) Yj)) (gNm 2)
  (Zf7 (iRb (Ze (Zd Zgy (Yk 2) (fC (.int 1))) (Ze (Yk 0) Yj))) (gNm 3)
  (Jp 1 (Zjp (Ze (Yk 2) (Ze (Yk 3) Yj))))))
  (Zhe 1)))
def Zww:FD:=J2 1 4 Zi6
end My
namespace My
open PySem L2 PySem.Spec
def Zb1:FS :=
 (Z3 (Y4 (tV (Zd gLt (Yk 1) (Zdm Zl7 (Ze (Yk 0) Yj))))
  (wE (W2 gIx (Yk 0) (Yk 1)) W7)
  fNx)
  (wE (fC (.int 0)) W7))
def Ys:FD:=J2 2 2 Zb1
def Zh6:FS :=
 (Z3 (Y4 (tV (Zd gEq (Zd Zbd (Zd J4 (Yk 0) (fC (.int 7))) (fC (.int 8))) (fC (.int 3))))
  (wE (Zd Zgy (Zd Zgy (Yk 2) (fC (.int 1))) (Zd Zbd (Zd J4 (Yk 0) (fC (.int 56))) (Zd gSb (Yk 3) (Yk 2)))) W7)
  fNx)
  (wE (Zd Zgy (Yk 1) (Zd Zbd (Yk 0) (Zd gSb (Zd Zgy (Yk 2) (fC (.int 1))) (Yk 1)))) W7))
def Zvv:FD:=J2 4 4 Zh6
def Zib:FS :=
 (Z3 (wE (Zd Zbd (Zd Zmh (Zd Zgy (Zd Zgy (Zd Zbd (Yk 0) (fC (.int 2147483629))) (Zd Zmh (fC (.int 9973)) (Yk 1))) (fC (.int 5))) (fC (.int 48271))) (fC (.int 2147483647))) (Ju 2))
  (Z3 (wE (Zd Zbd (Zd Zmh (Yk 2) (Yk 2)) (fC (.int 2147483587))) (Ju 2))
  (wE (Zd J4 (Zd Zbd (Zd Zmh (Zd Zgy (Yk 2) (Zd Zmh (fC (.int 7919)) (Yk 1))) (fC (.int 16807))) (fC (.int 2147483563))) (fC (.int 8))) W7)))
def Ziq:FD:=J2 2 3 Zib
def Zfz:FS :=
 (Z3 (wE (Zgv Yj) (Zbf 2))
  (Z3 (wE (Yk 0) (Ju 3))
  (Z3 (Zf7 (iRa (Ze (Yk 1) Yj)) (gNm 4)
  (Z3 (wE (Z7 Ziq (Ze (Yk 0) (Ze (Yk 4) Yj))) (Ju 5))
  (Z3 (Y4 (tV (Zd gGe (Yk 0) (Zd Zmf (fC (.int 10)) (fC (.int 18)))))
  (wE (Zd Zbd (Yk 3) (fC (.int 720720))) (Ju 5))
  fNx)
  (Z3 (wE (Zd J4 (Yk 3) (fC (.int 720720))) (Ju 3))
  (Jp 2 (Yk 5))))))
  (Zhe 2))))
def Zri:FD:=J2 2 6 Zfz
def Zw(p:List Int):Xa:=.list (p.map Xo)
def Z1v{p:List Int}{i:Int}(h0:0<=i)(h1:i<p.length):atI (p.map Xo) i=YB (.int (p.getD i.toNat 0)):=by
 rw[Zm9 h0,Xq,Xi (!0)];simp[Xu,Xi (show i.toNat<p.length by omega)]
def Zoi{a b:FE}{p:List Int}{i:Int}(ha:EvV a δ (Zw p))(hb:EvV b δ (.int i))(h0:0<=i)(h1:i<p.length):EvV (W2 gIx a b) δ (.int (p.getD i.toNat 0)):=Zix ha hb (Z1v h0 h1)
def Zd3{a:FE}{p:List Int}(ha:EvV a δ (Zw p)):EvV (Zdm Zl7 (Ze a Yj)) δ (.int p.length):=by
 have:=Zff (ds:=p.map Xo) ha
 rwa[Xf]at this
def Yll:Zmf (.int 10) (.int 18)=YB (.int 1000000000000000000):=rfl
def Zkp(ns:List Int){k:Int}(h0:0<=k):∃c,Ys [Zw ns,.int k]= .ok (.fz (.int c)):=by
 by_cases c:k<ns.length
 .exact⟨_,Told.int<|Z2 rfl<|Yi (Yu (Yv (Zcm Za (Zd3 Za) (YS c))) (Z0 (Zoi Za Za h0 c)))⟩
 .exact⟨_,Told.int<|Z2 rfl<|Zo (Zj (Yv (Zcm Za (Zd3 Za) (YT c))) rfl) (Z0 Zn)⟩
def Zq3{e:FE}{vs:List Int}{v:Int}(h:EvV e δ (.int v))(hi:δ[i]? =YB (YB (.nd (vs.map λv=>.fz (.int v)))))(hl:vs.length<=1000000):Jp i e δ= .nx (δ.set i (YB (.nd ((vs++[v]).map λv=>.fz (.int v))))):=by
 rw[Zv1 h hi (by rw[Xf];exact hl),Qs];rfl
def Z0o(vs:List Int):(OT.nd (vs.map λv=>OT.fz (.int v))).data=Zw vs:=by rw[OT.data_nd,Ztd];rfl
end My
namespace L2
open PySem PySem.Spec PyProof.Rows
def Zza:List Xa->Option OT:=λds=>match ds with|[d]=>(Zh0 d).map λes=>.fz (.tuple es)|_=>YC
def Yao:List Xa->(OT->Prop)->Prop:=λds k=>n1 (λd=>match Zh0 d with|some es=>k (.fz (.tuple es))|none=>False) ds
def Zyx:PN G (Z3u G) Yao:=λH L xs ds k Q hx h kk=>by
 obtain⟨v,d,rfl,rfl,q,h⟩:=hx.one h;have nw:∀{xs:List V} {es:List Xa},Das G H L xs es->k (.fz (.tuple es))->∀p,H p=YC->Q (.ref p) (upd H p (.tup xs)):=λr h p hp=>
  kk _ _ _ [] (Z9 hp _) (.fz (.tup Z8 ((r.same (Z9 hp _)).wide λa l _=>⟨.inl l,λm=>nomatch m⟩))) .nil (λa m=>nomatch m) h
 cases q with
 | lst l e r=>exact⟨_,_,rfl,.inl ⟨.inl e,nw r h⟩⟩
 | tup e r=>exact⟨_,_,rfl,.inr ⟨.inl (.inl e),kk H _ _ [] (Same.refl H) (.fz (.tup e (r.wide λa l _=>⟨.inl l,λm=>nomatch m⟩))) .nil (λa m=>nomatch m) h⟩⟩
 | scr ks=>exact⟨_,_,rfl,.inl ⟨ks.sq,nw (Das.ints _) h⟩⟩
 | _=>exact h.elim
def Z2p:∀(ds:List Xa) (r:OT) (k:OT->Prop),Zza ds=YB r->k r->Yao ds k:=λds r k h hk=>by
 unfold Zza at h;split at h
 case h_2=>cases h
 rename_i d;show match Zh0 d with|some es=>k (.fz (.tuple es))|none=>False
 cases e:Zh0 d with
 | none=>rw[e]at h;cases h
 | some es=>rw[e]at h;cases h;exact hk
end L2
variable {S':FS}{z:Str}{cs:Zg}
namespace L2
open PySem PySem.Spec PyProof.Rows
section
variable {a:YJ}
def Yde{n:Int}{t:Tok}(hg:Gl X x)(hm:X.mg x=YB (.int n t))(hdb:(x==(!10))=YF:=by decide):ME X io YD YD (.Name x pos) (mC (.int n)) :=
 ⟨_,Za1 (v:=.int n) hg hm ⟨t,rfl⟩ hdb,λC H O δ fp ex K Q R h k=>k H (.int n) _ δ fp [] (.fz R (.refl _ _ _ _) (.int n)) h⟩
def Z9s{t:Tok}(hg:Gl X x)(hm:X.mg x=YB (.str z t))(hdb:(x==(!10))=YF:=by decide):ME X io YD YD (.Name x pos) (mC (.str z)) :=
 ⟨_,Za1 (v:=.str z) hg hm ⟨t,rfl⟩ hdb,λC H O δ fp ex K Q R h k=>k H (.str z) _ δ fp [] (.fz R (.refl _ _ _ _) (.str z)) h⟩
end
def Zj1:List Xa->Option (List Str)
 | []=>YB []
 | .str x::ds=>(Zj1 ds).map (x::·)
 | _::_=>YC
theorem Zji:∀(ts:List Str),Zj1 (ts.map QD)=YB ts
 | []=>rfl
 | t::ts=>by rw[XC,Zj1,Zji ts];rfl
def Das.strs:∀{xs:List V} {ds:List Xa} {ts:List Str},Das G H L xs ds->Zj1 ds=YB ts->xs=ts.map V.str
 | _,[],_,.nil,h=>by cases h;rfl
 | _,d::ds,_,.cons h r,e=>by
  cases d with
  | str x=>
   rw[Zj1]at e;obtain⟨ts,e1,rfl⟩:=Be.mp e;cases h;rw[r.strs e1];rfl
  | _=>cases e
theorem Znh:∀{ts:List Str} {us:List Xd},Vals (ts.map V.str) us->∃l:List (Str×Tok),us=strValues l/\l.map (·.1)=ts
 | [],_,r=>by cases r;exact⟨[],rfl,rfl⟩
 | t::ts,_,r=>by
  rw[XC]at r;cases r with
  | cons h r=>
   obtain⟨k,rfl⟩:=h;obtain⟨l,rfl,rfl⟩:=Znh r;exact⟨(t,k)::l,rfl,rfl⟩
def rJoin(K:Xc):V->List V->Hp->VK->Prop:=λx vs H Q=>∃sep b ts,x= .str sep/\vs=[.ref b]/\SqL K H b (ts.map V.str)/\JoinOk sep ts=YD/\Q (.str (Uz sep ts)) H
def Zex(hK:X.K=K):MtR X "str.join" (rJoin K):=by
 intro pins s O H x vs v us Q I rx rv h;obtain⟨sep,b,ts,rfl,rfl,hb,ok,q⟩:=h;obtain⟨t,rfl⟩:=rx;obtain⟨u,rfl,ru⟩:=rv.one;cases ru;obtain⟨its,n,r,hl,o,e1,e2,e3,e4⟩:=I.lstQ hK hb;obtain⟨l,rfl,hl2⟩:=Znh r;exact SC.join (l:=l) (texts:=ts) ⟨o,e1,e2,n,e4⟩ hl2 ok λt' k=>⟨.str _,H,I.tok k,⟨t',rfl⟩,q⟩
def Zi4(z y:Str):Bool:=decide (z.length<=Xp)&&(decide ((Ve z y).length<=Xp)&& !(y.length==0))
def Z29:V->List V->Hp->VK->Prop:=λx vs H Q=>∃z y,x= .str z/\vs=[.str y]/\Zi4 z y=YD/\∀p,H p=YC->Q (.ref p) (upd H p (.lst ((Ve z y).map V.str)))
theorem Zxu:∀(l:List (Str×Tok)),Vals ((l.map (·.1)).map V.str) (strValues l)
 | []=>.nil
 | p::l=>.cons ⟨p.2,rfl⟩ (Zxu l)
theorem Zb5:MtR X "str.split" Z29:=by
 intro pins s O H x vs v us Q I rx rv h;obtain⟨z,y,rfl,rfl,ok,q⟩:=h;obtain⟨t,rfl⟩:=rx;obtain⟨w,rfl,ru⟩:=rv.one;obtain⟨u,rfl⟩:=ru;unfold Zi4 at ok;rw[XR,XR,decide_eq_true_eq,decide_eq_true_eq,Bool.not_eq_true']at ok;obtain⟨z1,z2,hy⟩:=ok;have fin:∀(l:List (Str×Tok)) (tk:Nat),l.map (·.1)=Ve z y->EP X pins O Q (.ref s.heap.objs.size) { s with heap:=s.heap.push { cls:=.type "list",data:=.seq (strValues l).toArray },toks:=tk }:=λl tk hl=>by
  refine⟨.ref s.heap.objs.size,_,I.laid (a:=s.heap.objs.size) (t':=tk) (o:=.lst ((Ve z y).map V.str)) (λ_ _ q=>Xe _ q) (Xx _) ⟨by rw[Xf];exact z2,strValues l,_,by rw[<-hl];exact Zxu l,Xv _ rfl⟩,rfl,q _ (I.hok.fresh (Xx _))⟩
 cases h1:(decide (z.length<y.length)||decide (Builtin.Str.strKind z<Builtin.Str.strKind y))
 .cases hf:(Q8 z y 0 z.length (z.length+1)).isEmpty
  .have es:Ve z y=Builtin.Str.partsBetween z (Q8 z y 0 z.length (z.length+1)) y.length:=(YQ (ne_true_of_eq_false h1)).trans (YQ (ne_true_of_eq_false hf))
   refine call_meets Bg (typeIs_str _ _ _) F.entry_str_split (F.args_str_split_2 _ _) (meets_str_split_sep z y t u h1 hy hf z1 (es▸z2)) ?_;show wants _ _ _ { s with toks:=_,heap:=s.heap.push { cls:=.type "list",data:=.seq (strsFrom s.toks (Builtin.Str.partsBetween z (Q8 z y 0 z.length (z.length+1)) y.length)).toArray } };rw[strsFrom_eq];exact fin (numbered s.toks _) _ ((numbered_texts _ _).trans es.symm)
  .exact call_meets Bg (typeIs_str _ _ _) F.entry_str_split (F.args_str_split_2 _ _) (meets_str_split_not_found z y t u h1 hy hf) (fin [(z,t)] s.toks ((YQ (ne_true_of_eq_false h1)).trans (YM hf)).symm)
 .exact call_meets Bg (typeIs_str _ _ _) F.entry_str_split (F.args_str_split_2 _ _) (meets_str_split_cannot_occur z y t u h1) (fin [(z,t)] s.toks (YM h1).symm)
section
variable {o:YJ}{mo:MEt}{r:V->List V->Hp->VK->Prop}
def PMs(G:Xc)(r:V->List V->Hp->VK->Prop)(g:Str->List Xa->Option Xa):Prop:=∀(H:Hp) (L:YG->Prop) (z:Str) (xs:List V) (ds:List Xa) (d:Xa) (Q:VK),Das G H L xs ds->g z ds=YB d->(∀v,ScD v d->Q v H)->r (.str z) xs H Q
def PM(G:Xc)(r:V->List V->Hp->VK->Prop)(g:Str->List Xa->Option OT):Prop:=∀(H:Hp) (L:YG->Prop) (z:Str) (xs:List V) (ds:List Xa) (d:OT) (Q:VK),Das G H L xs ds->g z ds=YB d->(∀H' v new,Same H H'->Own G H' (λa=>(L a\/H a=YC)/\a∉new) v d new->new.Nodup->(∀a∈new,H a=YC)->Q v H')->r (.str z) xs H Q
def Yhm(g:Str->List Xa->Option Xa)(mo:MEt)(mr:MAt):MEt:=λδ K=>mo δ λro δ1=>∃z,ro.data= .str z/\mr δ1 λrs δ2=>∃d,g z (OT.datas rs)=YB d/\K (.fz d) δ2
def Yjg(g:Str->List Xa->Option OT)(mo:MEt)(mr:MAt):MEt:=λδ K=>mo δ λro δ1=>∃z,ro.data= .str z/\mr δ1 λrs δ2=>∃d,g z (OT.datas rs)=YB d/\K d δ2
def Da.strInv(h:Da G H L v (.str z)):v= .str z:=by cases h;rfl
def Yo1{g:Str->List Xa->Option Xa}{t:TA}(P:PMs G r g)(so:SE G io p c to mo)(sa:SA G io p' c' t mr):SE G io (p&&p') YD (tBM G "str" r to t) (Yhm g mo mr):=λC H O δ fp ex K Q R h kk=>
 so C H O δ fp ex _ _ R h λH1 v ro δ1 fp1 new1 r1 h1=>by
  obtain⟨z,hz,h1⟩:=h1;have q:=r1.da R;rw[hz]at q;cases q.strInv;exact⟨rfl,sa C H1 O δ1 fp1 ex _ _ r1.base h1 λH2 vs rs δ2 fp2 new2 r2 h2=>by
   obtain⟨d,e,h2⟩:=h2;exact P H2 _ z vs _ d _ (r2.das r1.base) e λv sc=>kk H2 v _ δ2 fp2 [] (.fz r2.base (r1.stp.trans r2.stp) sc.da) h2⟩
def Ypg{g:Str->List Xa->Option OT}{t:TA}(P:PM G r g)(so:SE G io p c to mo)(sa:SA G io p' c' t mr):SE G io (p&&p') c' (tBM G "str" r to t) (Yjg g mo mr):=λC H O δ fp ex K Q R h kk=>
 so C H O δ fp ex _ _ R h λH1 v ro δ1 fp1 new1 r1 h1=>by
  obtain⟨z,hz,h1⟩:=h1;have q:=r1.da R;rw[hz]at q;cases q.strInv;exact⟨rfl,sa C H1 O δ1 fp1 ex _ _ r1.base h1 λH2 vs rs δ2 fp2 new2 r2 h2=>by
   obtain⟨d,e,h2⟩:=h2;exact P H2 _ z vs _ d _ (r2.das r1.base) e λH' v new s ow nd hn=>kk H' v d δ2 fp2 new (RE.tree R r2.base (r1.stp.trans r2.stp) s hn nd ow) h2⟩
def Zo9{g:Str->List Xa->Option Xa}(P:PMs X.K r g)(slot:Slot "str" name id)(hty:typeOf (.builtin id)=pure (.type "method_descriptor"))(hm:MtR X id r)(ho:ME X io p c o mo)(ha:MA X io p' c' (e::es) mr)
  (hbase:attributeBase o name X.env (eval o X.env)=eval o X.env:=by rfl)
  (hfew:((Ba cpos (Xr (e::es) X.env)).all (λx=>!x.1)&&(backToKw cpos (keywordEach [] X.env)).all (λx=>x.1.isSome)
   &&decide ((e::es).length+([]:List Keyword).length+(if([]:List Keyword).isEmpty then 0 else 1)<30))=YD:=by rfl)
  (hline:(apos.endLine==cpos.line)=YD:=by rfl) (hs:Xr (e::es) X.env=(YF,eval e X.env)::Xr es X.env:=by rfl) (hplain:(Ba cpos (Xr es X.env)).any (·.1)=YF:=by rfl) :
  ME X io (p&&p') YD (.Call (.Attribute o name apos) (e::es) [] cpos) (Yhm g mo mr):=by
 obtain⟨_,Oa,so⟩:=ho;obtain⟨_,A,sa⟩:=ha;exact⟨_,Z5w PySem.F.plainAttrs_str slot hty hm Oa A hbase hfew hline hs hplain,Yo1 P so sa⟩
def Znz{g:Str->List Xa->Option OT}(P:PM X.K r g)(slot:Slot "str" name id)(hty:typeOf (.builtin id)=pure (.type "method_descriptor"))(hm:MtR X id r)(ho:ME X io p c o mo)(ha:MA X io p' c' (e::es) mr)
  (hbase:attributeBase o name X.env (eval o X.env)=eval o X.env:=by rfl)
  (hfew:((Ba cpos (Xr (e::es) X.env)).all (λx=>!x.1)&&(backToKw cpos (keywordEach [] X.env)).all (λx=>x.1.isSome)
   &&decide ((e::es).length+([]:List Keyword).length+(if([]:List Keyword).isEmpty then 0 else 1)<30))=YD:=by rfl)
  (hline:(apos.endLine==cpos.line)=YD:=by rfl) (hs:Xr (e::es) X.env=(YF,eval e X.env)::Xr es X.env:=by rfl) (hplain:(Ba cpos (Xr es X.env)).any (·.1)=YF:=by rfl) :
  ME X io (p&&p') c' (.Call (.Attribute o name apos) (e::es) [] cpos) (Yjg g mo mr):=by
 obtain⟨_,Oa,so⟩:=ho;obtain⟨_,A,sa⟩:=ha;exact⟨_,Z5w PySem.F.plainAttrs_str slot hty hm Oa A hbase hfew hline hs hplain,Ypg P so sa⟩
def Zh7:Str->List Xa->Option Xa:=λz ds=>match ds with
 | [.list es]=>(Zj1 es).bind λts=>if JoinOk z ts=YD then YB (.str (Uz z ts))else YC
 | _=>YC
def Ze8:PMs G (rJoin G) Zh7:=λH L z xs ds d Q hx h kk=>by
 unfold Zh7 at h;split at h
 case h_2=>cases h
 rename_i es;obtain⟨ts,h1,h⟩:=bs h;split at h
 case isFalse=>cases h
 rename_i ok;cases h;cases hx with
 | cons q r0=>
  cases r0;cases q with
  | lst l e r=>exact⟨z,_,ts,rfl,rfl,.inl (r.strs h1▸e),ok,kk _ (.str _)⟩
  | scr ks=>
   rename_i a ns;cases ns with
   | nil=>cases h1;exact⟨z,_,[],rfl,rfl,ks.sq,ok,kk _ (.str _)⟩
   | cons n ns=>cases h1
def Zda:Str->List Xa->Option OT:=λz ds=>match ds with
 | [.str y]=>if Zi4 z y=YD then YB (.nd (((Ve z y).map QD).map OT.fz))else YC
 | _=>YC
theorem Zrd:∀(ts:List Str),Das G H L (ts.map V.str) (ts.map QD)
 | []=>.nil
 | t::ts=>.cons (.str t) (Zrd ts)
def Zb2:PM G Z29 Zda:=λH L z xs ds d Q hx h kk=>by
 unfold Zda at h;split at h
 case h_2=>cases h
 rename_i y;split at h
 case isFalse=>cases h
 rename_i ok;cases h;cases hx with
 | cons q r0=>
  cases r0;cases q.strInv;exact⟨z,y,rfl,rfl,ok,λp hp=>kk _ _ [p] (Z9 hp _) (Own.list hp (Zrd _)) (Zcp p) (Za4 hp)⟩
def Zy1(g:Str->List Xa->Option Xa)(o:FE)(a:FA):FE:=λδ=>(o δ).bind λp=>match p.1.data with
 | .str z=>(a p.2).bind λq=>(g z (OT.datas q.1)).bind λd=>YB (.fz d,q.2)
 | _=>YC
def Zse(g:Str->List Xa->Option OT)(o:FE)(a:FA):FE:=λδ=>(o δ).bind λp=>match p.1.data with
 | .str z=>(a p.2).bind λq=>(g z (OT.datas q.1)).bind λd=>YB (d,q.2)
 | _=>YC
variable {fo:FE}
def Zjd{g:Str->List Xa->Option Xa}(h:ME X io p c e (Yhm g (o2 fo) (o2 ra))):ME X io p c e (o2 (Zy1 g fo ra)):=h.weak λδ K z=>by
 obtain⟨r,δ',h,k⟩:=z;obtain⟨⟨x,δ1⟩,h1,h⟩:=bs h;dsimp only at h;split at h
 case h_2=>cases h
 rename_i z hz;obtain⟨⟨y,δ2⟩,h2,h⟩:=bs h;obtain⟨d,h3,h⟩:=bs h;cases h;exact⟨x,δ1,h1,z,hz,y,δ2,h2,_,h3,k⟩
def Zg5{g:Str->List Xa->Option OT}(h:ME X io p c e (Yjg g (o2 fo) (o2 ra))):ME X io p c e (o2 (Zse g fo ra)):=h.weak λδ K z=>by
 obtain⟨r,δ',h,k⟩:=z;obtain⟨⟨x,δ1⟩,h1,h⟩:=bs h;dsimp only at h;split at h
 case h_2=>cases h
 rename_i z hz;obtain⟨⟨y,δ2⟩,h2,h⟩:=bs h;obtain⟨d,h3,h⟩:=bs h;cases h;exact⟨x,δ1,h1,z,hz,y,δ2,h2,_,h3,k⟩
end
def Its(x:Str):It:=⟨λi _=>i<x.cps.size,λi H v H'=>H'=H/\∃c,x.cps[i]? =YB c/\v= .str ⟨#[c]⟩,λi _=>x.cps.size<=i⟩
theorem Zxa(x:Str)(t:Tok)(it:YG):Turn P w K tg (Its x) [it] it (λi h=>h.IsStrIter it "str_ascii_iterator" x t i) where
 mem:=by simp
 obj:=λi h st b hb=>by
  have e:b=it:=by simpa using hb
  subst e;obtain⟨o,e,c,d⟩:=st;exact⟨o,e,λv z=>by rw[d]at z;cases z⟩
 keep:=λi h h' st k=>by
  obtain⟨o,e,c,d⟩:=st;exact⟨o,k it (!5) o e,c,d⟩
 item:=by
  intro X hP hw hK hc i pins s O H E I hf st hg;subst hP hw hK;obtain⟨f0,f1,f2,f3,f4,f5⟩:=hf it (!5);have hx:x.cps[i]? =YB x.cps[i]:=JM hg;refine wpAny_pyNext_ascii_item st hx λh' st' sb=>?_;have I1:Inv X pins O H { s with heap:=h',toks:=s.toks+1 }:=I.turned (λb o hb e=>(sb.2 b hb).trans e) f0 f1 f3 f4 f5;obtain⟨o,e,c,d⟩:=id st';exact⟨_,rfl,Z02 (s:={ s with heap:=h',toks:=s.toks+1 }) e c d (!1) ⟨.str ⟨#[x.cps[i]]⟩,H,I1,⟨_,rfl⟩,⟨rfl,_,hx,rfl⟩,st',λb hb=>(hf b hb).1⟩⟩
 done:=by
  intro X hP hw hK hc i pins s O H E I hf st hg;subst hP hw hK;obtain⟨f0,f1,f2,f3,f4,f5⟩:=hf it (!5);exact wpAny_pyNext_ascii_end (I.ok.hd hc) st (VM hg) λh' eb=>⟨rfl,I.turned (t':=s.toks) (λb o hb e=>eb b o hb e) f0 f1 f3 f4 f5⟩
 self:=λ_ _ _ _ _ st h=>wpAny_pyIter_striter_ascii st h
theorem Zu7(x:Str)(t:Tok)(it:YG):Turn P w K tg (Its x) [it] it (λi h=>h.IsStrIter it "str_iterator" x t i) where
 mem:=by simp
 obj:=λi h st b hb=>by
  have e:b=it:=by simpa using hb
  subst e;obtain⟨o,e,c,d⟩:=st;exact⟨o,e,λv z=>by rw[d]at z;cases z⟩
 keep:=λi h h' st k=>by
  obtain⟨o,e,c,d⟩:=st;exact⟨o,k it (!5) o e,c,d⟩
 item:=by
  intro X hP hw hK hc i pins s O H E I hf st hg;subst hP hw hK;obtain⟨f0,f1,f2,f3,f4,f5⟩:=hf it (!5);have hx:x.cps[i]? =YB x.cps[i]:=JM hg;refine wpAny_pyNext_wide_item st hx λh' st' sb=>?_;have I1:Inv X pins O H { s with heap:=h',toks:=s.toks+1 }:=I.turned (λb o hb e=>(sb.2 b hb).trans e) f0 f1 f3 f4 f5;obtain⟨o,e,c,d⟩:=id st';exact⟨_,rfl,Z02 (s:={ s with heap:=h',toks:=s.toks+1 }) e c d (!1) ⟨.str ⟨#[x.cps[i]]⟩,H,I1,⟨_,rfl⟩,⟨rfl,_,hx,rfl⟩,st',λb hb=>(hf b hb).1⟩⟩
 done:=by
  intro X hP hw hK hc i pins s O H E I hf st hg;subst hP hw hK;obtain⟨f0,f1,f2,f3,f4,f5⟩:=hf it (!5);exact wpAny_pyNext_wide_end (I.ok.hd hc) st (VM hg) λh' eb=>⟨rfl,I.turned (t':=s.toks) (λb o hb e=>eb b o hb e) f0 f1 f3 f4 f5⟩
 self:=λ_ _ _ _ _ st h=>wpAny_pyIter_striter_wide st h
def Yhz(tl:TE):TI:=λO H R=>tl O H λx H1=>∃z,x= .str z/\R (Its z) H1
def Yca{l:YJ}(hl:PE X l tl):PI X tg l (Yhz tl):=by
 intro pins s O H R I h;refine thn (hl pins s O H _ I h) λv s1 qz9=>?_;obtain⟨x,H1,I1,r1,q1⟩:=qz9;obtain⟨z,e,q⟩:=q1;subst e;obtain⟨t,rfl⟩:=r1;have fp:∀b∈[s1.heap.objs.size],Zkw X pins H1 b:=λb hb=>by
  have e:b=s1.heap.objs.size:=by simpa using hb
  subst e;exact I1.fpOk (Xx _) (I1.hok.fresh (Xx _))
 cases ha:z.cps.all (·<128)
 .exact wpAny_pyIter_wide ha ⟨s1.heap.objs.size,[s1.heap.objs.size],_,_,H1,rfl,I1.kept (t':=s1.toks) λb o e=>Xe _ e,Zu7 z t _,⟨_,Xv _ rfl,rfl,rfl⟩,fp,q⟩
 .exact wpAny_pyIter_ascii ha ⟨s1.heap.objs.size,[s1.heap.objs.size],_,_,H1,rfl,I1.kept (t':=s1.toks) λb o e=>Xe _ e,Zxa z t _,⟨_,Xv _ rfl,rfl,rfl⟩,fp,q⟩
def Zmn(z:Str):List Xa:=z.cps.toList.map λc=>.str ⟨#[c]⟩
def Zzb{C:MC G}:IterOk C fp ex H1 YD (Its z) (Zmn z):=λH' _ i=>by
 unfold Zmn;rw[Xq,Qc];refine⟨λd hd=>?_,λhd=>?_⟩
 .obtain⟨c,hc,rfl⟩:=Be.mp hd
  refine⟨(Uc.mp hc).1,λx H'' hy=>?_⟩;obtain⟨rfl,c',hc',rfl⟩:=hy;rw[hc]at hc';cases hc';exact⟨Same.refl _,.str _⟩
 .exact Array.getElem?_eq_none_iff.mp (Option.map_eq_none_iff.mp hd)
def iS(m:MEt):MIt:=λδ K=>m δ λr δ'=>match r.data with| .str z=>K (Zmn z) δ'|_=>False
def Z2q(h:ME X io p c e m):MI X io p YD tg e (iS m):=by
 obtain⟨_,A,s⟩:=h;exact⟨_,Yca A,λC H O δ fp ex K' Q R h kk=>s C H O δ fp ex _ _ R h λH1 v r δ1 fp1 new r1 h1=>by
  have q:=r1.da R;generalize r.data=d at q h1;split at h1
  case h_2=>exact h1.elim
  cases q.strInv;exact⟨_,rfl,kk _ H1 _ δ1 fp1 r1.base r1.stp Zzb h1⟩⟩
def Yfx(e:FE):FI:=λδ=>(e δ).bind λp=>match p.1.data with| .str z=>YB (Zmn z,p.2)|_=>YC
def Z2b(h:MI X io p c tg e (iS (o2 fa))):MI X io p c tg e (o2 (Yfx fa)):=h.weak λδ K z=>by
 obtain⟨r,δ',h,k⟩:=z;obtain⟨⟨x,δ1⟩,h1,h⟩:=bs h;dsimp only at h;split at h
 case h_2=>cases h
 rename_i z hz;cases h;refine⟨x,_,h1,?_⟩;show match x.data with| .str z=>K (Zmn z) _|_=>False
 rw[hz];exact k
def Zwj:List Xa->Option Xa:=λds=>match ds with|[.str z]=>if z.length<=Xp then YB (.int z.length)else YC|_=>YC
def Ybi:List Xa->(Xa->Prop)->Prop:=λds k=>∃d,Zwj ds=YB d/\k d
def Zq8:∀ds r k,Zwj ds=YB r->k r->Ybi ds k:=λds r k h hk=>⟨r,h,hk⟩
def Zln:PNs G (λxs H Q=>∃z,xs=[.str z]/\z.length<=Xp/\Q (.int z.length) H) Ybi:=λH L xs ds k Q hx h kk=>by
 obtain⟨d,h,hk⟩:=h;unfold Zwj at h;split at h
 case h_2=>cases h
 split at h
 case isFalse=>cases h
 rename_i z hz;cases h;cases hx with
 | cons q r0=>
  cases r0;cases q.strInv;exact⟨z,rfl,hz,kk _ _ (.int _) hk⟩
def Z8z(neg:Bool):Xa->Xa->Option Xa:=λd e=>match d,e with
 | .str i,.str j=>YB (.bool (if neg then !(!(Q8 j i 0 j.length 1).isEmpty)else !(Q8 j i 0 j.length 1).isEmpty))
 | _,_=>YC
def Yna(neg:Bool):Xa->Xa->(Xa->Prop)->Prop:=λd e k=>∃r,Z8z neg d e=YB r/\k r
def Yd6{neg:Bool}:ByS (Z8z neg) (Yna neg):=λ_ _ r _ h hk=>⟨r,h,hk⟩
def Ynn(neg:Bool):R2:=λx y H Q=>∃i j,x= .str i/\y= .str j/\Q (.bl (if neg then !(!(Q8 j i 0 j.length 1).isEmpty)else !(Q8 j i 0 j.length 1).isEmpty)) H
def Znx:OpR X (JR .NotIn) (Ynn YD):=Zng
def Z2s{neg:Bool}:P2s G (Ynn neg) (Yna neg):=λH L x y d e k Q hx hy h kk=>by
 obtain⟨r,h,hk⟩:=h;unfold Z8z at h;split at h
 case h_2=>cases h
 cases h;cases hx.strInv;cases hy.strInv;exact⟨_,_,rfl,rfl,kk _ _ (.bl _) hk⟩
def Yce:List V->Hp->VK->Prop:=λxs H Q=>∃z n,xs=[.str z]/\z.length<=640/\intText? z=YB n/\Q (.int n) H
def Zm8:Zbe X (.type "int") Yce:=by
 intro pins s O H xs us Q I rv h;obtain⟨z,n,rfl,hl,hn,q⟩:=h;obtain⟨u,rfl,t,rfl⟩:=rv.one;exact call_int_1 (PySem.W.KIN.gives_text hl hn).meets (show(Made.int n).post _ s from⟨rfl,.int n,H,I.tok _,⟨_,rfl⟩,q⟩)
def Zs6:List Xa->Option Xa:=λds=>match ds with
 | [.str z]=>if z.length<=640 then(intText? z).bind λn=>YB (.int n)else YC
 | _=>YC
def Yb7:List Xa->(Xa->Prop)->Prop:=λds k=>∃d,Zs6 ds=YB d/\k d
def Z31:∀ds r k,Zs6 ds=YB r->k r->Yb7 ds k:=λds r k h hk=>⟨r,h,hk⟩
def Zuq:PNs G Yce Yb7:=λH L xs ds k Q hx h kk=>by
 obtain⟨d,h,hk⟩:=h;unfold Zs6 at h;split at h
 case h_2=>cases h
 rename_i z;cases hx with
 | cons q r0=>
  cases r0;cases q.strInv;split at h
  case isFalse=>cases h
  rename_i hl;obtain⟨n,hn,h⟩:=bs h;cases h;exact⟨z,n,rfl,hl,hn,kk _ _ (.int _) hk⟩
theorem Owns.split:∀{xs:List V} {ts:List OT} {as:List YG},Owns G H L xs ts as->∃ass:List (List YG),ass.length=xs.length/\ass.flatten=as/\∀(k:Nat) (x:V) (t:OT) (b:List YG),xs[k]? =Option.some x->ts[k]? =Option.some t->ass[k]? =Option.some b->Own G H L x t b
 | _,_,_,.nil=>⟨[],rfl,rfl,λk x t b e=>by simp at e⟩
 | _,_,_,.cons (as:=as) (bs:=bs) h r=>by
  obtain⟨ass,e1,e2,h2⟩:=Owns.split r;refine⟨as::ass,by rw[XQ,XQ,e1],by rw[List.flatten_cons,e2],λk x t b q1 q2 q3=>?_⟩;cases k with
  | zero=>
   simp at q1 q2 q3;subst q1 q2 q3;exact h
  | succ k=>exact h2 k x t b (by simpa using q1) (by simpa using q2) (by simpa using q3)
section
variable {kd:Xa->Option Y}{lt:Y->Y->Bool}
end
section
variable {kd:Xa->Option Y}{lt:Y->Y->Bool}
end
section
variable {a:YJ}
def Yoz:V->Option Int->Option Int->Hp->VK->Prop:=λx lo hi H Q=>∃z,x= .str z/\z.length<=Xp/\Q (.str (JN z lo hi)) H
theorem Ydu:SlR X Yoz:=by
 intro pins s O H x v vl vu lo hi sl Q I rx hs pl pu h;obtain⟨z,rfl,hz,q⟩:=h;obtain⟨t,rfl⟩:=rx;have fin:∀t' k,EP X pins O Q (.str (JN z lo hi) t') { s with toks:=k }:=λt' k=>⟨.str _,H,I.tok k,⟨t',rfl⟩,q⟩;obtain⟨o,e1,e2,e3⟩:=hs;refine⟨"str",_,F.slot_str_getitem.lookup,typeIs_str _ _ _,?_⟩;cases pl with
 | none=>cases pu with
  | none=>exact U7 (l:=YC) (u:=YC) (st:=YC) ⟨o,e1,e2,e3⟩ rfl (post_val_or_str ⟨XD (Uo z _ _) hz,fin⟩)
  | int j w=>exact U7 (l:=YC) (u:=YB (j,w)) (st:=YC) ⟨o,e1,e2,e3⟩ rfl (post_val_or_str ⟨XD (Uo z _ _) hz,fin⟩)
 | int i u=>cases pu with
  | none=>exact U7 (l:=YB (i,u)) (u:=YC) (st:=YC) ⟨o,e1,e2,e3⟩ rfl (post_val_or_str ⟨XD (Uo z _ _) hz,fin⟩)
  | int j w=>exact U7 (l:=YB (i,u)) (u:=YB (j,w)) (st:=YC) ⟨o,e1,e2,e3⟩ rfl (post_val_or_str ⟨XD (Uo z _ _) hz,fin⟩)
def Yob(m:MEt)(ml mh:MOt):MEt:=λδ K=>m δ λr δ1=>ml δ1 λlo δ2=>mh δ2 λhi δ3=>∃z,r.data= .str z/\z.length<=Xp/\K (.fz (.str (JN z lo hi))) δ3
def Zsx(ha:ME X io YD c a ma)(hl:MO X io YD lo ml)(hh:MO X io YD hi mh):ME X io YD YD (.Subscript a (.Slice lo hi YC p2) pos) (Yob ma ml mh):=by
 obtain⟨_,A,s⟩:=ha;obtain⟨_,B,sl⟩:=hl;obtain⟨_,D,sh⟩:=hh;refine⟨_,Zq6 Ydu A B D,?_⟩;intro C H O δ fp ex K' Q R h k;refine s C H O δ fp ex _ _ R h λH1 v r δ1 fp1 new r1 h1=>?_;refine sl C H1 O δ1 fp1 ex _ _ r1.base h1 λH2 l δ2 fp2 R2 S2 h2=>?_;refine sh C H2 O δ2 fp2 ex _ _ R2 h2 λH3 u δ3 fp3 R3 S3 h3=>?_;obtain⟨z,hz,hl,h3⟩:=h3;have q:=r1.da R;rw[hz]at q;cases q.strInv;exact⟨z,rfl,hl,k H3 _ _ δ3 fp3 [] (.fz R3 ((r1.stp.trans S2).trans S3) (.str _)) h3⟩
def Z22(e:FE)(lo hi:FO):FE:=λδ=>(e δ).bind λp=>(lo p.2).bind λq=>(hi q.2).bind λr=>match p.1.data with| .str z=>if z.length<=Xp then YB (.fz (.str (JN z q.1 r.1)),r.2)else YC|_=>YC
def Zkv{lo hi:FO}(h:ME X io p c e (Yob (o2 fa) (o2 lo) (o2 hi))):ME X io p c e (o2 (Z22 fa lo hi)):=h.weak λδ K z=>by
 obtain⟨r,δ',h,k⟩:=z;obtain⟨⟨x,δ1⟩,h1,h⟩:=bs h;obtain⟨⟨y,δ2⟩,h2,h⟩:=bs h;obtain⟨⟨w,δ3⟩,h3,h⟩:=bs h;dsimp only at h;split at h
 case h_2=>cases h
 rename_i z hz;split at h
 case isFalse=>cases h
 rename_i hl;cases h;exact⟨x,δ1,h1,y,δ2,h2,w,_,h3,z,hz,hl,k⟩
end
def Sg(z:Str)(t:Tok)(it:YG)(i:Nat)(h:YH):Prop:=h.IsStrIter it "str_ascii_iterator" z t i\/h.IsStrIter it "str_iterator" z t i
theorem Sg.keep{t:Tok}{it:YG}(q:Sg z t it i h)(k:∀o,h.get? it=YB o->h'.get? it=YB o):Sg z t it i h' :=
 q.imp (λ⟨o,a,b⟩=>⟨o,k o a,b⟩) λ⟨o,a,b⟩=>⟨o,k o a,b⟩
structure Ap(z TI TO i1 i2:YG):Prop where
 a1:TI≠z
 a2:TO≠z
 a3:i1≠z
 a4:i2≠z
 a5:i1≠TO
 a6:i2≠TO
 a7:i1≠i2
 a8:TI≠TO
 a9:TI≠i1
 a10:TI≠i2
abbrev yT1(h:YH)(x:Str)(t:Tok):YH:=h.push { cls:=.type (strIterType x),data:=.fields #[.str x t,.int 0 0] }
abbrev yT2(h:YH)(x y:Str)(t u:Tok):YH:=yT1 (yT1 h x t) y u
abbrev yT3(h:YH)(x y:Str)(t u:Tok):YH:=(yT2 h x y t u).push { cls:=.type "tuple",data:=.seq #[.ref h.objs.size,.ref (yT1 h x t).objs.size] }
abbrev yT4(h:YH)(x y:Str)(t u:Tok):YH:=(yT3 h x y t u).push { cls:=.type "tuple",data:=.seq #[.none,.none] }
abbrev yT5(h:YH)(x y:Str)(t u:Tok):YH:=(yT4 h x y t u).push { cls:=.type "zip",data:=.fields #[.none,.bool YF,.bool YF,.ref (yT2 h x y t u).objs.size,.ref (yT3 h x y t u).objs.size] }
theorem Sg.at{h:YH}{x:Str}{t:Tok}{it:YG}(e:h.get? it=YB { cls:=.type (strIterType x),data:=.fields #[.str x t,.int 0 0] }):Sg x t it 0 h:=by
 unfold strIterType at e;split at e
 .exact .inl ⟨_,e,rfl,rfl⟩
 .exact .inr ⟨_,e,rfl,rfl⟩
section
variable {a:YJ}
end
section
variable {test:YJ}{rs:List YK}{g:MGt}{mt:MTt}{ur:MSt}{pi:Pos}{t:FT}{r:FS}
end
section
variable {pt:Pos}
end
def Ztw{n:Int}(hg:Gl X x)(hm:∃t,X.mg x=YB (.int n t))(hdb:(x==(!10))=YF:=by decide):ME X io YD YD (.Name x pos) (mC (.int n)):=by
 obtain⟨t,h⟩:=hm;exact Yde hg h hdb
def Zxk(hg:Gl X x)(hm:∃t,X.mg x=YB (.str z t))(hdb:(x==(!10))=YF:=by decide):ME X io YD YD (.Name x pos) (mC (.str z)):=by
 obtain⟨t,h⟩:=hm;exact Z9s hg h hdb
end L2
namespace L2
open PySem PySem.Spec PyProof.Rows PySem.W
structure TmS where
 p:Array Nat
 q:Array (Nat×Nat×Nat)
 g:Nat
def TM(Y:Type):Type:=TmS->KasT (Option (Y×TmS))
def TM.nxt(f:Y->TM β):Option (Y×TmS)->KasT (Option (β×TmS))
 | none=>.ret YC
 | some r=>f r.1 r.2
noncomputable instance:Monad TM where
 pure a:=λt=>.ret (YB (a,t))
 bind m f:=λt=>(m t).bind (TM.nxt f)
def Zzk:TM Y:=λ_=>.ret YC
def Yd2(i j:Nat):TM (Option Bool):=λt=>.ask i j λb=>.ret (YB (YB b,t))
def Yo0(l:List Nat):Nat->Option Nat:=List.rec (motive:=λ_=>Nat->Option Nat) (λ_=>YC) (λx _ ih i=>Nat.rec (motive:=λ_=>Option Nat) (YB x) (λj _=>ih j) i) l
def Zih(a:Array Nat)(i:Nat):TM Nat:=match Yo0 a.toList i with|some x=>pure x|none=>Zzk
def fcN(n:Nat)(k:Nat->β):β:=Nat.rec (motive:=λ_=>β) (k 0) (λm _=>k (m+1)) n
def fcL(l:List Nat):(List Nat->β)->β:=List.rec (motive:=λ_=>(List Nat->β)->β) (λk=>k []) (λx _ ih k=>fcN x λy=>ih λm=>k (y::m)) l
def fcQ(l:List (Nat×Nat×Nat)):(List (Nat×Nat×Nat)->β)->β:=List.rec (motive:=λ_=>(List (Nat×Nat×Nat)->β)->β) (λk=>k []) (λx _ ih k=>fcN x.1 λa=>fcN x.2.1 λb=>fcN x.2.2 λc=>ih λm=>k ((a,b,c)::m)) l
def fcT(t:TmS)(k:TmS->β):β:=fcL t.p.toList λp=>fcQ t.q.toList λq=>fcN t.g λg=>k ⟨⟨p⟩,⟨q⟩,g⟩
def Zlk:TM TmS:=λt=>.ret (YB (t,t))
def Zqc(f:TmS->TmS):TM PUnit:=λt=>fcT (f t) λt=>.ret (YB (⟨⟩,t))
def Ybt:List Nat->β->(Nat->β->TM (ForInStep β))->TM β
 | [],b,_=>pure b
 | x::l,b,f=>do
  match<-f x b with
  | .done b=>pure b
  | .yield b=>Ybt l b f
section
variable {it:Array Keyed}
def toS(κ:Uu)(it:Array Keyed)(t:TmS):SortSt:=SortSt.mk' κ (t.p.map (kas_item it)) t.q t.g YC
variable {Y' β':Type}
end
end L2
namespace L2
open PySem PySem.Spec PyProof.Rows PySem.W
structure Rg where
 a:Nat
 b:Nat
noncomputable instance:ForIn TM Rg Nat where
 forIn r b f:=Ybt (List.range' r.a (r.b-r.a)) b f
def Z06(le:Bool)(key:Nat)(arr:Array Nat)(base i:Nat):TM (Option Bool):=do
 let x<-Zih arr (base+i)
 if le then Yd2 x key else return(<-Yd2 key x).map (!·)
def Ztb(le:Bool)(key:Nat)(arr:Array Nat)(base n hint:Nat):TM (Option Nat):=do
 let mut last:=0
 let mut ofs:=1
 let mut lo:=0
 let mut hi:=0
 let YB right<-Z06 le key arr base hint|return YC
 if right then
  let most:=n-hint
  for _ in Rg.mk 0 n do
   if ofs>=most then break
   let YB more<-Z06 le key arr base (hint+ofs)|return YC
   if !more then break
   last:=ofs
   ofs:=2*ofs+1
  lo:=hint+last+1
  hi:=hint+min ofs most
 else
  let most:=hint+1
  for _ in Rg.mk 0 n do
   if ofs>=most then break
   let YB more<-Z06 le key arr base (hint-ofs)|return YC
   if more then break
   last:=ofs
   ofs:=2*ofs+1
  lo:=hint+1-min ofs most
  hi:=hint-last
 for _ in Rg.mk 0 n do
  if lo>=hi then break
  let m:=lo+(hi-lo)/2
  let YB more<-Z06 le key arr base m|return YC
  if more then lo:=m+1 else hi:=m
 return YB hi
section
variable {it:Array Keyed}
end
end L2
namespace L2
open PySem PySem.Spec PyProof.Rows PySem.W
def Zrs(g:Nat):TM PUnit:=Zqc λt=>{ t with g:=g }
def Ypj(a b:Array Nat):TM (Array Nat):=do
 let total:=a.size+b.size;let fin (out:Array Nat) (i j:Nat):=out++a.extract i a.size++b.extract j b.size;let lst (out:Array Nat) (i j:Nat):=out++b.extract j b.size++a.extract i a.size
 let mut out:Array Nat:=#[<-Zih b 0]
 let mut i:=0
 let mut j:=1
 if j==b.size then return fin out i j
 if i+1==a.size then return lst out i j
 let mut mg:=(<-Zlk).g
 for _ in Rg.mk 0 total do
  let mut na:=0
  let mut nb:=0
  for _ in Rg.mk 0 total do
   let YB c<-Yd2 (<-Zih b j) (<-Zih a i)|return fin out i j
   if c then
    out:=out.push (<-Zih b j);j:=j+1;nb:=nb+1;na:=0
    if j==b.size then return fin out i j
    if nb>=mg then break
   else
    out:=out.push (<-Zih a i);i:=i+1;na:=na+1;nb:=0
    if i+1==a.size then return lst out i j
    if na>=mg then break
  mg:=mg+1
  for _ in Rg.mk 0 total do
   if mg>1 then mg:=mg-1
   Zrs mg
   let YB k<-Ztb YF (<-Zih b j) a i (a.size-i) 0|return fin out i j
   na:=k
   if k>0 then
    out:=out++a.extract i (i+k);i:=i+k
    if i+1==a.size then return lst out i j
    if i==a.size then return fin out i j
   out:=out.push (<-Zih b j);j:=j+1
   if j==b.size then return fin out i j
   let YB k<-Ztb YD (<-Zih a i) b j (b.size-j) 0|return fin out i j
   nb:=k
   if k>0 then
    out:=out++b.extract j (j+k);j:=j+k
    if j==b.size then return fin out i j
   out:=out.push (<-Zih a i);i:=i+1
   if i+1==a.size then return lst out i j
   if na<7&&nb<7 then break
  mg:=mg+1
  Zrs mg
 Zzk
end L2
variable {γ:Type}
namespace L2
open PySem PySem.Spec PyProof.Rows PySem.W
section
variable {it:Array Keyed}
end
end L2
namespace L2
open PySem PySem.Spec PyProof.Rows PySem.W
def Yp9(a b:Array Nat):TM (Array Nat):=do
 let total:=a.size+b.size;let fin (out:Array Nat) (i j:Nat):=a.extract 0 i++b.extract 0 j++out.reverse;let fst (out:Array Nat) (i j:Nat):=b.extract 0 j++a.extract 0 i++out.reverse
 let mut i:=a.size-1
 let mut j:=b.size
 let mut out:Array Nat:=#[<-Zih a i]
 if i==0 then return fin out i j
 if j==1 then return fst out i j
 let mut mg:=(<-Zlk).g
 for _ in Rg.mk 0 total do
  let mut na:=0
  let mut nb:=0
  for _ in Rg.mk 0 total do
   let YB c<-Yd2 (<-Zih b (j-1)) (<-Zih a (i-1))|return fin out i j
   if c then
    i:=i-1;out:=out.push (<-Zih a i);na:=na+1;nb:=0
    if i==0 then return fin out i j
    if na>=mg then break
   else
    j:=j-1;out:=out.push (<-Zih b j);nb:=nb+1;na:=0
    if j==1 then return fst out i j
    if nb>=mg then break
  mg:=mg+1
  for _ in Rg.mk 0 total do
   if mg>1 then mg:=mg-1
   Zrs mg
   let YB x<-Ztb YF (<-Zih b (j-1)) a 0 i (i-1)|return fin out i j
   let k:=i-x
   na:=k
   if k>0 then
    out:=out++(a.extract x i).reverse;i:=x
    if i==0 then return fin out i j
   j:=j-1;out:=out.push (<-Zih b j)
   if j==1 then return fst out i j
   let YB x<-Ztb YD (<-Zih a (i-1)) b 0 j (j-1)|return fin out i j
   let k:=j-x
   nb:=k
   if k>0 then
    out:=out++(b.extract x j).reverse;j:=x
    if j==1 then return fst out i j
    if j==0 then return fin out i j
   i:=i-1;out:=out.push (<-Zih a i)
   if i==0 then return fin out i j
   if na<7&&nb<7 then break
  mg:=mg+1
  Zrs mg
 Zzk
section
variable {it:Array Keyed}
end
end L2
namespace L2
open PySem PySem.Spec PyProof.Rows PySem.W
def Zr9(i j:Nat):TM (Option Bool):=do
 let t<-Zlk
 let x<-Zih t.p i
 let y<-Zih t.p j
 Yd2 x y
def Z1w(i j:Nat):TM PUnit:=Zqc λt=>{ t with p:=kas_rev t.p i j }
def mvL(l:List Nat)(i d:Nat):List Nat:=l.take (i-d)++((l.drop i).take 1++((l.drop (i-d)).take d++l.drop (i+1)))
def Ypr(p:Array Nat)(i j:Nat):Array Nat:=if(Nat.blt i p.toList.length&&Nat.ble j i)=YD then⟨mvL p.toList i (i-j)⟩else bubble p i (i-j)
def Yj0(i j:Nat):TM PUnit:=Zqc λt=>{ t with p:=Ypr t.p i j }
def Yhd(lo m:Nat):TM (Option Nat):=do
 let mut n:=1
 for _ in Rg.mk 1 m do
  let YB c<-Zr9 (lo+n) (lo+n-1)|return YC
  if c then break
  n:=n+1
 if n==m then return YB n
 if n>1 then
  let YB c<-Zr9 lo (lo+n-1)|return YC
  if c then return YB n
  Z1w lo (lo+n)
 n:=n+1
 let mut e:=0
 for _ in Rg.mk n m do
  let YB c<-Zr9 (lo+n) (lo+n-1)|return YC
  if c then
   if e>0 then Z1w (lo+n-(e+1)) (lo+n)
   e:=0
  else
   let YB d<-Zr9 (lo+n-1) (lo+n)|return YC
   if d then break
   e:=e+1
  n:=n+1
 if e>0 then Z1w (lo+n-(e+1)) (lo+n)
 Z1w lo (lo+n)
 for _ in Rg.mk n m do
  let YB c<-Zr9 (lo+n) (lo+n-1)|return YC
  if c then break
  n:=n+1
 return YB n
def Yju(lo n ok:Nat):TM Bool:=do
 for k in Rg.mk (max ok 1) n do
  let mut l:=0
  let mut r:=k
  for _ in Rg.mk 0 k do
   if l>=r then break
   let m:=(l+r)/2
   let YB c<-Zr9 (lo+k) (lo+m)|return YF
   if c then r:=m else l:=m+1
  Yj0 (lo+k) (lo+l)
 return YD
section
variable {it:Array Keyed}
end
end L2
namespace L2
open PySem PySem.Spec PyProof.Rows PySem.W
def layA(k:Nat)(m a:Array γ):Array γ:=m.toList.zipIdx.foldl (λa q=>a.setIfInBounds (k+q.2) q.1) a
def Yl6(i:Nat):TM Bool:=do
 let t<-Zlk
 let(YB (c,n,u),YB (d,m,_)):=(t.q[i]?,t.q[i+1]?)|Zzk
 Zqc λ_=>{ t with q:=(t.q.setIfInBounds i (c,n+m,u)).eraseIdxIfInBounds (i+1) }
 let YB k<-Ztb YF (<-Zih t.p d) t.p c n 0|return YF
 let(c,n):=(c+k,n-k)
 if n==0 then return YD
 let YB m<-Ztb YD (<-Zih t.p (c+n-1)) t.p d m (m-1)|return YF
 if m==0 then return YD
 let x:=t.p.extract c d;let y:=t.p.extract d (d+m)
 let z<-if n<=m then Ypj x y else Yp9 x y
 Zqc λt=>{ t with p:=layA c z t.p }
 let _<-Zlk
 return YD
section
variable {it:Array Keyed}
def Yb5:TM PUnit:=do
 let sz:=(<-Zlk).p.size
 let mr:=minRun' sz sz 0
 let mut lo:=0
 for _ in Rg.mk 0 sz do
  if lo>=sz then break
  let YB f<-Yhd lo (sz-lo)|return
  let mut n:=f
  if n<mr then
   let fo:=min (sz-lo) mr
   if !(<-Yju lo fo n)then return
   n:=fo
  if let YB (c,m,_):=(<-Zlk).q.back? then
   let u:=power' sz (2*c+m) (2*c+m+m+n) sz
   for _ in Rg.mk 0 sz do
    let z:=(<-Zlk).q
    let YB (_,_,v):=(if z.size>1 then z[z.size-2]? else YC)|break
    if v<=u then break
    if !(<-Yl6 (z.size-2))then return
   Zqc λt=>{ t with q:=t.q.modify (t.q.size-1) λ(c,m,_)=>(c,m,u) }
  Zqc λt=>{ t with q:=t.q.push (lo,n,0) }
  lo:=lo+n
 for _ in Rg.mk 0 sz do
  let z:=(<-Zlk).q
  if z.size<=1 then break
  let k:=z.size-2;let bf:=if k>0 then z[k-1]?.map (·.2.1)else YC
  let k:=if bf.any (·<(z[k+1]?.elim 0 (·.2.1)))then k-1 else k
  if !(<-Yl6 k)then return
end
end L2
namespace L2
open PySem PySem.Spec PyProof.Rows PySem.W
def Yn5(lt:Nat->Nat->Bool)(n:Nat):KasT Y->Option Y
 | .ret a=>YB a
 | .ask i j k=>if(Nat.blt i n&&Nat.blt j n)=YD then Yn5 lt n (k (lt i j))else YC
def Z64(lt:Nat->Nat->Bool)(n:Nat):Option (!6):=(Yn5 lt n (Yb5 ⟨(QJ n).toArray,#[],7⟩)).bind λo=>o.map λr=>r.2.p.toList
def Yp7(d:Y)(l:List Nat)(vs:List Y):List Y:=l.map λi=>vs.getD i d
section
variable {kd:Xa->Option Y}{lt:Y->Y->Bool}
def Z9u(kd:Xa->Option Y)(lt:Y->Y->Bool):List Xa->Option OT:=λds=>match ds with
 | [.list es]=>(Z64 (lk kd lt es) es.length).bind λp=>if(decide (2<=es.length)&&decide (es.length<=10000)&&decide (p.length=es.length)&&es.all λd=>(kd d).isSome)=YD then YB (.nd ((Yp7 .none p es).map OT.fz))else YC
 | _=>YC
def Ylh(kd:Xa->Option Y)(lt:Y->Y->Bool):List Xa->Option OT:=λds=>match Zn6 kd lt ds with|some o=>YB o|none=>Z9u kd lt ds
end
end L2
namespace L2
open PySem PySem.Spec
def EvP(e:FE)(δ:Zg)(Q:Xa->Zg->Prop):Prop:=∃t δ',e δ=YB (t,δ')/\Q t.data δ'
def EpT(t:FT)(δ:Zg)(Q:Bool->Zg->Prop):Prop:=∃b δ',t δ=YB (b,δ')/\Q b δ'
def EpS(S:FS)(δ:Zg)(N:Zg->Prop)(R:Xa->Zg->Prop):Prop:=(∃δ',S δ= .nx δ'/\N δ')\/∃o δ',S δ= .rt o δ'/\R o.data δ'
def ToldI(F:FIO)(t:OT)(ds:List Xa)(Q:Xa->OT->Prop):Prop:=∃r t',F t ds=YB (r,t')/\Q r.data t'
section
variable {e a b:FE}{as:FA}{Q:Xa->Zg->Prop}{QA:List Xa->Zg->Prop}{T:Bool->Zg->Prop}{t u:FT}{S:FS}{N:Zg->Prop}{R:Xa->Zg->Prop}{d:Xa}
def Zik(h:EvV e δ d)(q:Q d δ):EvP e δ Q:=by
 obtain⟨t,e1,e2⟩:=h;exact⟨t,δ,e1,e2▸q⟩
def EvP.mono{Q':Xa->Zg->Prop}(h:EvP e δ Q)(k:∀d δ',Q d δ'->Q' d δ'):EvP e δ Q':=by
 obtain⟨t,δ',e1,q⟩:=h;exact⟨t,δ',e1,k _ _ q⟩
def Zht(h:EvT t δ p)(q:T p δ):EpT t δ T:=⟨p,δ,h,q⟩
def Zqa(h:EpS S δ (λδ'=>EpS S' δ' N R) R):EpS (Z3 S S') δ N R:=by
 rcases h with⟨δ',e,h⟩|⟨o,δ',e,h⟩
 .rcases h with⟨δ2,e2,q⟩|⟨o,δ2,e2,q⟩
  .exact .inl ⟨δ2,by rw[Zf8,e,Zv7,e2],q⟩
  .exact .inr ⟨o,δ2,by rw[Zf8,e,Zv7,e2],q⟩
 .exact .inr ⟨o,δ',by rw[Zf8,e,Z26],h⟩
def Zlt(h:EvP e δ R):EpS (wE e W7) δ N R:=by
 obtain⟨t,δ',e1,q⟩:=h;exact .inr ⟨t,δ',by rw[Zgl,e1];rfl,q⟩
def Zxl(h:EpT t δ λp δ'=>(p=YD->EpS S δ' N R)/\(p=YF->EpS S' δ' N R)):EpS (Y4 t S S') δ N R:=by
 obtain⟨p,δ',e1,q1,q2⟩:=h;have e:Y4 t S S' δ=if p=YD then S δ' else S' δ':=by unfold Y4;rw[e1]
 cases p with
 | true=>
  have g:=q1 rfl;unfold EpS at g|-
  rw[e];exact g
 | false=>
  have g:=q2 rfl;unfold EpS at g|-
  rw[e];exact g
def Zwi(q:N δ):EpS fNx δ N R:=.inl ⟨δ,rfl,q⟩
def EpS.mono{N':Zg->Prop}{R':Xa->Zg->Prop}(h:EpS S δ N R)(k:∀δ',N δ'->N' δ')(k2:∀d δ',R d δ'->R' d δ'):EpS S δ N' R' :=
 h.imp (λ⟨δ',e,q⟩=>⟨δ',e,k _ q⟩) λ⟨o,δ',e,q⟩=>⟨o,δ',e,k2 _ _ q⟩
def Z1o{g:FG}(I:Nat->Zg->Prop)(ds:List Xa)(m:Nat)(h0:I m δ)(turn:∀(k:Nat) (d:Xa) (δ:Zg),ds[k]? =YB d->I (m+k) δ->∃δ1,g d δ=YB δ1/\EpS S δ1 (I (m+k+1)) R)(fin:∀δ',I (m+ds.length) δ'->N δ') :
  (∃ δ',forLoop g S ds δ= .nx δ'/\N δ')\/∃o δ',forLoop g S ds δ= .rt o δ'/\R o.data δ':=by
 induction ds generalizing m δ with
 | nil=>exact .inl ⟨δ,rfl,fin δ h0⟩
 | cons d ds ih=>
  obtain⟨δ1,e1,h⟩:=turn 0 d δ rfl h0;rcases h with⟨δ2,e2,q⟩|⟨o,δ2,e2,q⟩
  .have e:forLoop g S (d::ds) δ=forLoop g S ds δ2:=by rw[forLoop,e1];show(match S δ1 with| .nx δ2=>_| .ct δ2=>_| .bk δ2=>_|r=>_)=_;rw[e2]
   rw[e];refine ih (m+1) q (λk d' δ' hk hI=>?_) λδ' hI=>fin δ' (by rw[XQ];rw[show m+1+ds.length=m+(ds.length+1) by omega]at hI;exact hI);have:=turn (k+1) d' δ' hk (by rw[show m+(k+1)=m+1+k by omega];exact hI)
   rwa[show m+(k+1)+1=m+1+k+1 by omega]at this
  .refine .inr ⟨o,δ2,?_,q⟩
   rw[forLoop,e1];show(match S δ1 with| .nx δ2=>_| .ct δ2=>_| .bk δ2=>_|r=>_)=_;rw[e2]
def Zuz{g:FG}{δ0:Zg}(I:Nat->Zg->Prop)(hi:it δ=YB (ds,δ0))(h0:I 0 δ0)(turn:∀(k:Nat) (d:Xa) (δ:Zg),ds[k]? =YB d->I k δ->∃δ1,g d δ=YB δ1/\EpS S δ1 (I (k+1)) R)(fin:∀δ',I ds.length δ'->N δ'):EpS (Zf7 it g S) δ N R:=by
 have e:Zf7 it g S δ=forLoop g S ds δ0:=by unfold Zf7;rw[hi]
 have h:=Z1o (R:=R) (N:=N) (S:=S) (g:=g) (δ:=δ0) I ds 0 h0 (λk d δ hk hI=>by rw[Nat.zero_add]at hI|-;exact turn k d δ hk hI) (λδ' hI=>by rw[Nat.zero_add]at hI;exact fin δ' hI);unfold EpS;rw[e];exact h
def ToldI.mono{F:FIO}{t0:OT}{Q Q':Xa->OT->Prop}(h:ToldI F t0 ds Q)(k:∀d t,Q d t->Q' d t):ToldI F t0 ds Q':=by
 obtain⟨r,t',e,q⟩:=h;exact⟨r,t',e,k _ _ q⟩
def Yjf{g:FG}(I:Nat->List Xa->Zg->Prop)(ds:List Xa)(m:Nat)(acc:List Xa)(h0:I m acc δ)(turn:∀(k:Nat) (d:Xa) (acc:List Xa) (δ:Zg),ds[k]? =YB d->I (m+k) acc δ->∃δ1,g d δ=YB δ1/\EpT t δ1 λp δ2=>(p=YD->EvP e δ2 λd δ3=>I (m+k+1) (acc++[d]) δ3)/\(p=YF->I (m+k+1) acc δ2)) :
  ∃ts δ',compLoop g t e ds δ=YB (ts,δ')/\I (m+ds.length) (acc++ts.map OT.data) δ':=by
 induction ds generalizing m acc δ with
 | nil=>exact⟨[],δ,rfl,by rw[List.map_nil,JG];exact h0⟩
 | cons d ds ih=>
  obtain⟨δ1,e1,p,δ2,e2,q1,q2⟩:=turn 0 d acc δ rfl h0;have next:∀(k:Nat) (d:Xa) (acc:List Xa) (δ:Zg),ds[k]? =YB d->I (m+1+k) acc δ->∃δ1,g d δ=YB δ1/\EpT t δ1 λp δ2=>(p=YD->EvP e δ2 λd δ3=>I (m+1+k+1) (acc++[d]) δ3)/\(p=YF->I (m+1+k+1) acc δ2):=λk d acc δ hk hI=>by
   have:=turn (k+1) d acc δ hk (by rw[show m+(k+1)=m+1+k by omega];exact hI)
   rwa[show m+(k+1)+1=m+1+k+1 by omega]at this
  have el:m+1+ds.length=m+(ds.length+1):=by omega
  cases p with
  | true=>
   obtain⟨o,δ3,e3,hI⟩:=q1 rfl;obtain⟨ts,δ',e4,hf⟩:=ih (m+1) (acc++[o.data]) hI next
   refine⟨o::ts,δ',?_,?_⟩
   .rw[compLoop,e1];show(t δ1).bind _=_;rw[e2];show(e δ2).bind _=_;rw[e3];show(compLoop g t e ds δ3).bind _=_;rw[e4];rfl
   .rw[XQ,<-el,XC];rw[Vg]at hf;exact hf
  | false=>
   obtain⟨ts,δ',e4,hf⟩:=ih (m+1) acc (q2 rfl) next
   refine⟨ts,δ',?_,by rw[XQ,<-el];exact hf⟩;rw[compLoop,e1];show(t δ1).bind _=_;rw[e2];exact e4
end
end L2
namespace L2
open PySem PySem.Spec PyProof.Rows
def gt(ts:List OT)(k:Nat):OT:=ts.getD k (.fz .none)
inductive Zu9(mt:MTt)(ts:List OT):List Nat->List Nat->Prop where
 | nil:Zu9 mt ts [] []
 | keep {k:Nat} {p q:List Nat}:mt [YB (.fz (gt ts k).data)] (λb _=>b=YD)->Zu9 mt ts p q->Zu9 mt ts (k::p) (k::q)
 | skip {k:Nat} {p q:List Nat}:mt [YB (.fz (gt ts k).data)] (λb _=>b=YF)->Zu9 mt ts p q->Zu9 mt ts (k::p) q
structure Yqc{Y:Type}(kd:Xa->Option Y)(lt:Y->Y->Bool)(ds:List Xa)(p:List Nat):Prop where
 nd:p.Nodup
 bd:∀k∈p,k<ds.length
 lw:p.length<=10000
 is:(ds.length<64/\p=if ds.length<2 then QJ ds.length else Ztl (lk kd lt ds) ds.length)\/(2<=ds.length/\ds.length<=10000/\Z64 (lk kd lt ds) ds.length=YB p/\p.length=ds.length)
 ky:keyed kd ds
section
variable {lpos ps pe:Pos}{y:Str}{kd:Xa->Option Y}{lt:Y->Y->Bool}{mt:MTt}
end
def Yop(kd:Xa->Option Y)(lt:Y->Y->Bool)(ds:List Xa):Option (!6) :=
 if ds.all (λd=>(kd d).isSome)=YD then
  if ds.length<64 then YB (if ds.length<2 then QJ ds.length else Ztl (lk kd lt ds) ds.length)
  else(Z64 (lk kd lt ds) ds.length).bind λp=>if(decide (ds.length<=10000)&&p.isPerm (QJ ds.length))=YD then YB p else YC
 else YC
def Ydh(t:FT)(ts:List OT):List Nat->Option (!6)
 | []=>YB []
 | k::p=>(t [YB (.fz (gt ts k).data)]).bind λb=>(Ydh t ts p).bind λq=>YB (if b.1=YD then k::q else q)
def Yqa(kd:Xa->Option Y)(lt:Y->Y->Bool)(i:Nat)(t:FT):FS:=λδ=>match δ[i]? with
 | some (YB (.nd ts))=>match(Yop kd lt (OT.datas ts)).bind (Ydh t ts)with|some q=>.rt (.nd (q.map (gt ts))) (δ.set i YC)|none=>.bad
 | _=>.bad
section
variable {kd:Xa->Option Y}{lt:Y->Y->Bool}{t:FT}
end
end L2
namespace L2
open PySem PySem.Spec PyProof.Rows PySem.W PySem.SeqAt
def kdV:Xa->Option (!14):=λd=>match d with| .tuple (e::es)=>Zdd (e::es)|_=>YC
def Zhx{d:Xa}{k:List Int}(h:kdV d=YB k):k≠[]/\d= .tuple (k.map Xo):=by
 unfold kdV at h;split at h
 case h_2=>cases h
 have e:=Zaq h;exact⟨λz=>(by rw[z]at e;cases e),YW Q5 e⟩
theorem Ybm{Q:Bool->Xg->Prop}{fin:Bool}:∀{xs ys:List Int} {vs us:List Xd} (i:Nat),Vd vs xs->Vd us ys->fin=decide (i+xs.length<i+ys.length)->Q (ltI xs ys) s->KatLex prog w A YD fin Q (vs.zip us) i s
 | [],[],_,_,i,.nil,.nil,hf,h=>kat_nil (by rw[hf,YT (!5)];exact h)
 | [],y::ys,_,_,i,.nil,.cons _ _ r,hf,h=>kat_nil (by rw[hf,YS (!5)];exact h)
 | x::xs,[],_,_,i,.cons _ _ r,.nil,hf,h=>kat_nil (by rw[hf,YT (!5)];exact h)
 | x::xs,y::ys,_,_,i,.cons _ t r,.cons _ t2 r2,hf,h=>by
  refine kat_cons ?_;refine EqAt.int_int _ _ _ _ prog w _ _ ?_;rw[ltI]at h
  by_cases c:x=y
  .rw[YM c]at h
   rw[ZC.mpr c];exact kat_yes (Ybm (i+1) r r2 (by rw[hf];refine decide_eq_decide.mpr ?_;rw[XQ,XQ];omega) h)
  .rw[YQ c]at h
   rw[beq_eq_false_iff_ne.mpr c];refine kat_no ?_;cases i with
   | zero=>exact oneLt_int h
   | succ i=>exact kat_one _ _ (Ydc h)
def Yaf:Yn1 kdV ltI:=by
 refine⟨λd k h=>by rw[(Zhx h).2];exact(Zm1 k).1,tuples' YD,λprog w A E s vs ds as Q h2 r hk q=>?_,λprog w A E s u v d e as bs k m C hu r1 r2 h1 h2 h=>?_⟩
 .have key:∃fs:List Xd,KatTups s.heap vs fs/\fs.length=vs.length/\∀v∈fs,∃i t,v= .int i t:=by
   clear h2 q
   induction ds generalizing vs as with
   | nil=>cases r;exact⟨[],trivial,rfl,λ_ m=>nomatch m⟩
   | cons d ds ih=>
    cases r with
    | cons r q=>
     obtain⟨fs,t,l,z⟩:=ih _ _ q λd m=>hk d (.tail _ m);obtain⟨k,hk⟩:=hk d (!8);obtain⟨kn,kd⟩:=Zhx hk;rw[kd]at r;obtain⟨a,items,rfl,⟨o,e,c,n,hd⟩,ia⟩:=Zgi r;obtain⟨x,xs,rfl⟩:=Vs kn;generalize hl:items.toList=l' at ia;cases ia with
     | cons _ t' ia=>
      rename_i vr;have e0:items[0]? =YB (.int x t'):=by rw[<-Qc,hl];rfl
      refine⟨.int x t'::fs,KatTups.cons e c hd e0 t,YW Nat.succ l,λv hv=>?_⟩;rcases Xl.mp hv with rfl|hv
      .exact⟨_,_,rfl⟩
      .exact z v hv
  obtain⟨fs,t,l,z⟩:=key;exact kat_kind (T:=.type "int") t (!0) (λv hv=>by obtain⟨i,t,rfl⟩:=z v hv;exact(show Looks _ _ (pure (Value.type "int")) _ from .now)) rfl q
 .rw[(Zhx h1).2]at r1
  rw[(Zhx h2).2]at r2;obtain⟨a,i1,rfl,⟨o1,g1,c1,n1,d1⟩,z1⟩:=Zgi r1;obtain⟨b,i2,rfl,⟨o2,g2,c2,n2,d2⟩,z2⟩:=Zgi r2;refine kat_lt g1 d1 g2 d2 (Ybm 0 z1 z2 ?_ h);refine decide_eq_decide.mpr ?_;rw[<-Zd5 z1,<-Zd5 z2,XM,XM];omega
end L2
namespace L2
open PySem PySem.Spec PyProof.Rows PySem.W PySem.SeqAt
def LiesD(h:YH)(d:YG)(es:Array DictEntry)(ep:Nat):Prop:=∃o,h.get? d=YB o/\o.ExactDict/\o.data= .dict es ep
section
variable {d it:YG}{es:Array DictEntry}
theorem LiesD.ty(x:LiesD s.heap d es ep):s.TypeIs (.ref d) "dict" :=let⟨o,ho,e,_⟩:=x;⟨o,ho,e.1⟩
def LiesD.ext(x:LiesD h d es ep)(k:∀o,h.get? d=YB o->h'.get? d=YB o):LiesD h' d es ep:=let⟨o,ho,r⟩:=x;⟨o,k o ho,r⟩
end
section
variable {O:St}{d:YG}
def Inv.froze(I:Inv X pins O H s)(e:H d=YB (.dT kvs)):∃o,Inv X pins O (upd H d (.frz o (.dT kvs))) s:=by
 have ok:=I.hok d _ e;obtain⟨o,ho⟩:∃o,s.heap.get? d=YB o:=by
  obtain⟨_,_,_,_,o,_,_,h,_⟩:=(show ObjOk X.prog X.w H s.heap d (.dT kvs)from ok);exact⟨o,h⟩
 have ne:∀{b:YG} {u:HO},H b=YB u->(∀q,u≠ .dT q)->b≠d:=λh n z=>by
  rw[z,e]at h;cases h;exact n _ rfl
 have u:Un X.fs [] H (upd H d (.frz o (.dT kvs))) s.heap s.heap:=⟨λb ob q _ _ _=>q,λb ob q _ _ _=>⟨ob.slots,q⟩,λb ob q n _=>by rw[Zz (λz=>by rw[z,e]at n;cases n)];exact n,λb ob q _=>⟨ob,q⟩,
  λb xs q=>by rw[Zz (ne q λ_ z=>by cases z)];exact q,λb ob v q=>by rw[Zz (ne q λ_ z=>by cases z)];exact q,λb ps q=>⟨#[],by rw[Zz (ne q λ_ z=>by cases z),q];simp⟩⟩
 refine⟨o,I.un (h':=s.heap) (t':=s.toks) u (I.hok.write (x:=d) (e:=d) (by rw[e];exact Ug) (.inl rfl) (λb v _ q=>q) ⟨o,ho⟩ ⟨ho,ok.stay (λb v _ q=>q) (λb q=>?_) λb xs q=>?_⟩)⟩
 .rw[Zz (ne q λ_ z=>by cases z)];exact q
 .rw[Zz (ne q λ_ z=>by cases z)];exact q
def Inv.frozen(I:Inv X pins O H s)(e:Rd H d (.dT kvs)):∃o,Inv X pins O (upd H d (.frz o (.dT kvs))) s:=by
 rcases e with e|⟨o,e⟩
 .exact I.froze e
 .refine⟨o,?_⟩
  have:upd H d (.frz o (.dT kvs))=H:=by
   funext b;unfold upd;split
   .rename_i z;rw[z,e]
   .rfl
  rw[this];exact I
end
def Zt8{F:Y->β->Prop}{l:List Y}{m:List β}(h:Paired F l m):l.length=m.length/\∀(i:Nat) (a:Y),l[i]? =YB a->∃b:β,m[i]? =YB b/\F a b:=by
 induction h with
 | nil=>exact⟨rfl,λi a h=>by cases h⟩
 | cons r _ ih=>
  refine⟨YW (·+1) ih.1,λi a h=>?_⟩;cases i with
  | zero=>cases h;exact⟨_,rfl,r⟩
  | succ i=>exact ih.2 i a h
theorem Zlw:∀ks:List Key,Das G H L (ks.map kV) (ks.map Z8s)
 | []=>.nil
 | .inl i::ks=>.cons (.int i) (Zlw ks)
 | .inr x::ks=>.cons (.str x) (Zlw ks)
end L2
namespace L2
open PySem PySem.Spec PyProof.Rows PySem.W PySem.SeqAt
section
variable {d it:YG}{es:Array DictEntry}
theorem Zub(nd:(d==Vm)=YF)(x:LiesD s.heap d es ep)(h:Q (.ref s.heap.objs.size) { s with heap:=s.heap.push { cls:=.type "dict_keyiterator",data:=.fields #[.ref d,.int 0 0,.int es.size 0,.int ep 0] } }):Xy (X4 prog w) A (pyIter (.ref d)) Q E s:=by
 obtain⟨o,ho,hc,dat⟩:=id x;have hT:=x.ty;refine wpAny_pyIter_slot hT PySem.F.slot_dict_iter (QS PySem.F.slot_dict_iter hT PySem.F.entry_dict_iter ?_ (PySem.F.args_dict_iter_1 _));unfold BR.«dict.__iter__»;refine Xb ?_;unfold Builtin.Dict.dictSlotNone;refine Xb (wpAny_notOrdered_dict hT ?_);show Xy _ _ (pure (X7 d)) _ _ s;refine Xj ?_;show Xy _ _ (Builtin.Dict.showsAll d>>=_) _ _ s;unfold Builtin.Dict.showsAll;rw[YQ (by rw[nd];exact XJ)];refine Xb (Xj ?_);refine Xb (wpAny_dictEntries ho dat ?_);refine Xb (wpAny_dictEpoch ho dat ?_);exact Xb (QG (Xj ⟨_,rfl,"dict_keyiterator",_,⟨_,Xv _ rfl,rfl⟩,Bo.lookup,h⟩))
theorem Zya{e:DictEntry}{Q:Option Xd->Xg->Prop}(hit:s.heap.IsKeyIter it d i es.size ep)(l:LiesD s.heap d es ep)(hx:es[i]? =YB e)
  (hQ:∀h',h'.IsKeyIter it d (i+1) es.size ep->JP it s.heap h'->Q (YB e.key) { s with heap:=h' }):Xy (X4 prog w) A (VP (.ref it)) Q E s:=by
 obtain⟨o,ho,hc,hd⟩:=id hit;obtain⟨od,hod,_,dat⟩:=l;have lt:i<es.size:=by
  rcases Vo i es.size with q|q
  .exact q
  .rw[VM q]at hx;cases hx
 unfold VP;refine Xb (Ud (Q0 (name:=QL "__next__") hit.typeIs Bo
  (QS Bo hit.typeIs PySem.F.entry_dict_keyiterator_next ?_ (PySem.F.args_dict_keyiterator_next_1 _))))
 refine Xb (Xj (Xb (Xb ?_)));refine Xb (V2 hit.typeIs (Xj ?_));refine Xb (wpAny_fieldsOf ho hd ?_);have hown:Builtin.Dict_items.ownsTuple "dict_keyiterator"=YF:=by decide
 simp only[hown,Qg,if_false];show Xy _ _ (if(X7 d==QF)=YD then _ else _) _ _ s;rw[YQ (show¬((X7 d==QF)=YD)from XJ)];refine Xb (Xj (Xb (wpAny_dictEntries hod dat ?_)));rw[YQ (!5)];refine Xb (Xj (Xb (wpAny_dictEpoch hod dat ?_)));rw[YQ (!5)];refine Xj ?_;simp only[show¬((i:Int)<0)from by omega,if_false,QR,hx];refine Xb (Xb (V2 hit.typeIs (Xj ?_)));refine Xb (wpAny_isOneOf_keyiter hit.typeIs ?_);show Xy _ _ (setField (.ref it) 1 (JS ((i:Int)+1))>>=_) _ _ s;refine Xb (wpAny_setField ho hd (!5) ?_);have hit':(s.heap.update it (Obj.mapFields (·.setIfInBounds 1 (JS ((i:Int)+1))))).IsKeyIter it d (i+1) es.size ep :=
  ⟨_,Heap.get?_update_self _ ho (Obj.isFreed_of_fields (Obj.data_mapFields hd _)),(Obj.cls_mapFields ..).trans hc,by rw[Obj.data_mapFields hd];simp[JS]⟩
 refine Xb (BP ?_);refine Xb (wpAny_isOneOf_keyiter (s:={ s with heap:=s.heap.update it (Obj.mapFields (·.setIfInBounds 1 (JS ((i:Int)+1)))) }) hit'.typeIs ?_);show Xy _ _ (pure e.key) _ _ _;exact Xj (Xj ⟨_,rfl,Xj (hQ _ hit' (Q7 ..))⟩)
theorem Zz5{Q:Option Xd->Xg->Prop}(hh:A.handled=YC)(hit:s.heap.IsKeyIter it d i es.size ep)(l:LiesD s.heap d es ep)(hx:es.size<=i)
  (hQ:∀h',Heap.ExtBut it s.heap h'->Q YC { s with heap:=h' }):Xy (X4 prog w) A (VP (.ref it)) Q E s:=by
 obtain⟨o,ho,hc,hd⟩:=id hit;obtain⟨od,hod,_,dat⟩:=l;unfold VP;refine Xb (Ud (Q0 (name:=QL "__next__") hit.typeIs Bo
  (QS Bo hit.typeIs PySem.F.entry_dict_keyiterator_next ?_ (PySem.F.args_dict_keyiterator_next_1 _))))
 refine Xb (Xj (Xb (Xb ?_)));refine Xb (V2 hit.typeIs (Xj ?_));refine Xb (wpAny_fieldsOf ho hd ?_);have hown:Builtin.Dict_items.ownsTuple "dict_keyiterator"=YF:=by decide
 simp only[hown,Qg,if_false];show Xy _ _ (if(X7 d==QF)=YD then _ else _) _ _ s;rw[YQ (show¬((X7 d==QF)=YD)from XJ)];refine Xb (Xj (Xb (wpAny_dictEntries hod dat ?_)));rw[YQ (!5)];refine Xb (Xj (Xb (wpAny_dictEpoch hod dat ?_)));rw[YQ (!5)];refine Xj ?_;simp only[show¬((i:Int)<0)from by omega,if_false,QR,VM hx];refine Xb (Xb (V2 hit.typeIs (Xj ?_)));show Xy _ _ (setField (.ref it) 0 .none>>=_) _ _ s;refine Xb (wpAny_setField ho hd (!5) ?_);show Xy _ _ (newExc (.type "StopIteration") []>>=_) _ _ _;refine Xb ?_;simp only[newExc,newTuple];refine Xb (QG ?_ (by size_fits));refine Xb (m:=VR _ _) (wpAny_of_eq (a:=QF) (by first|rfl|(simp only[VR];rfl)) ?_);refine QG ?_ (by size_fits);simp only[raiseNew];refine Xb (wpAny_handled ?_);rw[show A.in1.handled=YC from hh];refine Xb (Xj (wpAny_throw ?_));refine Xb (wpAny_isInstance (T :="StopIteration") (b:=YD) ⟨_,Xv _ rfl,rfl⟩ isSubtype_stop ?_);exact Xj (hQ _ (((Q7 ..).extBut.push _).push _))
def Zti(hh:A.handled=YC)(I d:YG)(hne:d≠I)(es:Array DictEntry)(ep:Nat) :
  Walks prog w A I [I,d] [I] es.size (λi v=>∃e,es[i]? =YB e/\v=e.key) (λi h=>h.IsKeyIter I d i es.size ep/\LiesD h d es ep) where
 sub:=λb hb=>by simp at hb;simp[hb]
 frame:=λ_ _ _ st hk=>⟨st.1.at λo e=>hk I (!5) o e,st.2.ext λo e=>hk d (!5) o e⟩
 item:=λi s Q E hi st hQ=>by
  obtain⟨e,hx⟩:∃p,es[i]? =YB p:=⟨es[i],by simp[hi]⟩;refine Zya st.1 st.2 hx λh' hit' hs'=>?_;exact hQ e.key h' s.toks ⟨e,hx,rfl⟩ ⟨hit',st.2.ext λo q=>hs'.extBut d o hne q⟩ λb o hb e=>hs'.extBut b o (λh=>hb (by simp[h])) e
 done:=λs Q E st hQ=>Zz5 hh st.1 st.2 (Xx _) λh' he'=>hQ h' s.toks λb o hb e=>he' b o (λh=>hb (by simp[h])) e
 self:=λ_ _ _ _ st hQ=>wpAny_pyIter_keyiter st.1 hQ
def Zzh(lo:(d==Vm)=YF):KdlSrc prog w "dict" d d es.size (λi v=>∃e,es[i]? =YB e/\v=e.key) (λh=>LiesD h d es ep) where
 type:=λ_ hm=>hm.ty
 there:=λ_ hm=>let⟨_,ho,_⟩:=hm;⟨Xz ho,Xz ho⟩
 keep:=λ_ _ hm hk=>hm.ext λo e=>hk d (.inl rfl) o e
 notList:=by decide
 notTuple:=by decide
 hint:=λ_ _ _ _ hm hq=>kdl_hint_dict hm.ty hq
 iter:=λ_ s hh hm=>⟨_,_,(λ_ _ hq=>Zub lo hm hq),Zti hh _ d (let⟨_,ho,_⟩:=hm;Xn (Xz ho)) es ep,⟨⟨_,Xv _ rfl,rfl,rfl⟩,hm.ext λo e=>Xe _ e⟩⟩
end
def KL(H:Hp)(kvs:List (List Key×V))(vs:List V):Prop:=vs.length=kvs.length/\∀(i:Nat) (k:List Key) (x:V),kvs[i]? =YB (k,x)->∃b,vs[i]? =YB (.ref b)/\H b=YB (.tup (k.map kV))
def Z2m:List V->Hp->VK->Prop:=λxs H Q=>∃d kvs,xs=[.ref d]/\Rd H d (.dT kvs)/\kvs.length<=Xp/\∀vs:List V,KL H kvs vs->∀p,H p=YC->Q (.ref p) (upd H p (.lst vs))
def Zte(hc:X.calm=YD):Zbe X (.type "list") Z2m:=by
 intro pins s O H xs us Q I rv h;obtain⟨d,kvs,rfl,rd,hn,q⟩:=h;obtain⟨u,rfl,ru⟩:=rv.one;obtain rfl:u=X7 d:=ru;obtain⟨t1,t2,nsys⟩:=Yfj I (.inr ⟨kvs,rd⟩);obtain⟨ob,I2⟩:=I.frozen rd;obtain⟨ho1,ok⟩:=(show ObjOk X.prog X.w _ s.heap d (.frz ob (.dT kvs))from I2.hok d _ Z8);obtain⟨_,_,xs,pr,o',en,ep,ho2,ex,dat,el,_⟩:=(show ObjOk X.prog X.w _ s.heap d (.dT kvs)from ok);rw[ho1]at ho2;cases ho2;obtain⟨lx,ax⟩:=Zt8 pr;have sz:en.size=xs.length:=by rw[<-XM,el,Xf]
 have L:LiesD s.heap d en ep:=⟨ob,ho1,ex,dat⟩;refine kdl_call (Zzh nsys) (I.ok.hd hc) L (by rw[sz,<-lx];exact hn) λh' tk acc c hk hD hacc=>?_;obtain⟨vs,hvs⟩:∃vs:List V,vs=xs.map λz=>.ref z.2.1:=⟨_,rfl⟩;have lv:vs.length=kvs.length:=by rw[hvs,Xf,lx]
 have KL':KL H kvs vs:=⟨lv,λi k x h=>by
  obtain⟨z,hz,r1,r2,r3⟩:=ax i (k,x) h;refine⟨z.2.1,by rw[hvs,Xq,hz];rfl,?_⟩
  by_cases y:z.2.1=d
  .rw[y,Z8]at r2;cases r2
  .rwa[Zz y]at r2⟩
 have ea:acc.toList=xs.map λz=>X7 z.2.1:=by
  refine List.ext_getElem? λi=>?_;rw[Xq,Qc]
  by_cases ci:i<acc.size
  .obtain⟨e,h1,h2⟩:=hacc.2 i acc[i] (JM ci)
   rw[JM ci,h2];rw[<-Qc,el,Xq]at h1;cases hz:xs[i]? with
   | none=>rw[hz]at h1;cases h1
   | some z=>rw[hz]at h1;cases h1;rfl
  .rw[VM (!0),Bk (by have:=hacc.1;omega)];rfl
 have vv:∀xs:List (List Key×YG×Xd),Vals (xs.map λz=>V.ref z.2.1) (xs.map λz=>X7 z.2.1):=λxs=>by
  induction xs with
  | nil=>exact .nil
  | cons z xs ih=>exact .cons rfl ih
 refine⟨.ref s.heap.objs.size,_,I.laid (a:=s.heap.objs.size) (t':=tk) (o:=.lst vs) hk (Xx _) ⟨by rw[lv];exact hn,acc.toList,c,by rw[ea,hvs];exact vv xs,by rw[Array.toArray_toList];exact hD⟩,rfl,q vs KL' _ (I.hok.fresh (Xx _))⟩
def Zkm:List Xa->Option OT:=λds=>match ds with
 | [.dict ((.none,.bool YD)::kvs)]=>if kvs.length<=Xp then YB (.nd ((kvs.map (·.1)).map OT.fz))else YC
 | _=>YC
def Z33:List Xa->(OT->Prop)->Prop:=λds k=>∃r,Zkm ds=YB r/\k r
def Z50:∀(ds:List Xa) (r:OT) (k:OT->Prop),Zkm ds=YB r->k r->Z33 ds k:=λds r k h hk=>⟨r,h,hk⟩
def Z07:PN G Z2m Z33:=λH L xs ds k Q hx h kk=>by
 obtain⟨r,h,hk⟩:=h;unfold Zkm at h;split at h
 case h_2=>cases h
 rename_i kvs;split at h
 case isFalse=>cases h
 rename_i hl;cases h;cases hx with
 | cons q r0=>
  cases r0;generalize ed:Xa.dict ((.none,.bool YD)::kvs)=d at q;cases q with
  | @dic a o t ks xs ds l e kd r=>
   unfold dcD at ed;injection ed with ed;injection ed with e1 e2;injection e1 with _ e1;injection e1 with e1;subst e1 e2;cases o with
   | lst ys=>exact kd.elim
   | dK z=>cases kd.1
   | dT z=>
    obtain⟨_,rfl,rfl⟩:=kd;have ld:=r.length;rw[Xf]at ld;have ek:(((z.map λp=>(.inr p.1:KY)).map kyD).zip ds).map (·.1)=z.map λp=>keyT p.1:=by
     rw[List.map_fst_zip (by rw[Xf,Xf];omega),X6];rfl
    have lz:z.length<=Xp:=by
     rw[List.length_zip,Xf,Xf]at hl;omega
    refine⟨a,z,rfl,e,lz,λvs K p hp=>?_⟩;rw[ek]at hk;have dv:∀(z:List (List Key×V)) (vs:List V),KL H z vs->Das G H L vs (z.map λp=>keyT p.1):=λz=>by
     induction z with
     | nil=>intro vs K;have:=U0.mp K.1;subst this;exact .nil
     | cons y z ih=>
      intro vs K;cases vs with
      | nil=>cases K.1
      | cons v vs=>
       obtain⟨b,h1,h2⟩:=K.2 0 y.1 y.2 rfl;cases h1;exact .cons (.tup h2 (Zlw y.1)) (ih vs ⟨Nat.succ.inj K.1,λi k x h=>K.2 (i+1) k x h⟩)
    exact kk _ _ _ [p] (Z9 hp _) (Own.list hp (dv z vs K)) (Zcp p) (Za4 hp) hk
  | exc _ _ _=>unfold exD at ed;cases ed
  | fn _=>unfold fnD at ed;cases ed
  | _=>cases ed
end L2
namespace L2
open PySem PySem.Spec PyProof.Rows PySem.W PySem.SeqAt
open PySem.AutoSeq1 (wpAny_loadPart')
open MeetsSeq MeetsSeq2 MeetsSeq3 SeqRoads2
def Zyw(l b:YG)(items items2:Array Xd)(n n2:Nat)(dd dd2:Option YG)(sl sl2:Array (Option Xd)){xs ys:List Int}(h1:Vd items.toList xs)(h2:Vd items2.toList ys)(k:Nat) :
  ∀i:Nat,items.size-i=k->i<=items.size->i<=items2.size->Meets (BR.«list.__eq__.loop» ⟨[.ref l,.ref b,JS i,JS 5],[]⟩)
   (λA R s=>s.heap.get? l=YB { cls:=.type "list",dict:=dd,data:=.seq items n,slots:=sl }/\s.heap.get? b=YB { cls:=.type "list",dict:=dd2,data:=.seq items2 n2,slots:=sl2 }/\
    R (.ok (.ret (.bool (!ltI (xs.drop i) (ys.drop i))))) s):=by
 have e1:items.size=xs.length:=Zd5 h1;have e2:items2.size=ys.length:=Zd5 h2;have fin:∀i,i<=items.size->i<=items2.size->(i=items.size\/i=items2.size)->(!ltI (xs.drop i) (ys.drop i))=decide (items.size>=items2.size):=λi u1 u2 c=>by
  rw[Zmp (c.imp (λc=>U5 (!0)) λc=>U5 (!0)),JK,JK,<-decide_not];exact decide_eq_decide.mpr (!0)
 induction k with
 | zero=>
  intro i hk u1 u2 prog w A R s h;obtain⟨hp,g,d,tk,os⟩:=s;obtain⟨hl,hb,h⟩:=h
  wp_walk using Qm hl,Qm hb
  have hi1:items[((i:Nat):Int).toNat]? =YC:=by simp;omega
  rw[fin i u1 u2 (.inl (!0))]at h;rw[hi1]
  wp_walk using Qm hl,Qm hb
  exact h
 | succ k ih=>
  intro i hk u1 u2 prog w A R s h;obtain⟨hp,g,d,tk,os⟩:=s;obtain⟨hl,hb,h⟩:=h;have hlt:i<items.size:=by omega
  obtain⟨x,t,q1,q2⟩:=Zrm h1 i hlt;have hi1:items[((i:Nat):Int).toNat]? =YB (.int x t):=by rw[QR,<-q1,Qc]
  wp_walk using Qm hl,Qm hb
  by_cases c:i<items2.size
  .obtain⟨y,u,q3,q4⟩:=Zrm h2 i c
   have hi2:items2[((i:Nat):Int).toNat]? =YB (.int y u):=by rw[QR,<-q3,Qc]
   have hc:((i:Int)+1)=((i+1:Nat):Int):=by push_cast;rfl
   rw[q2,q4]at h;unfold ltI at h;rw[hi1,hi2];refine Xb (EqAt.int_int x t y u prog w _ _ ?_)
   by_cases cx:x=y
   .rw[YM cx]at h
    rw[ZC.mpr cx]
    wp_walk
    rw[hc];exact⟨VH Ue _,Bs entry_eq_loop (by
     rw[JX Ue _];exact ih (i+1) (!0) (!0) (!0) prog w A R _ ⟨hl,hb,h⟩)⟩
   .rw[YQ cx,<-decide_not,decide_eq_decide.mpr (show¬x<y↔y<=x by omega)]at h
    rw[beq_eq_false_iff_ne.mpr cx]
    wp_walk using Qm hl,Qm hb
    rw[hi1,hi2];refine Xb (PyProof.Rows.ge_int ?_)
    wp_walk
    exact h
  .have hi2:items2[((i:Nat):Int).toNat]? =YC:=by simp;omega
   rw[fin i u1 u2 (.inr (!0))]at h;rw[hi1,hi2]
   wp_walk using Qm hl,Qm hb
   exact h
theorem Zye(l b:YG)(items items2:Array Xd)(n n2:Nat)(dd dd2:Option YG)(sl sl2:Array (Option Xd)){xs ys:List Int}(h1:Vd items.toList xs)(h2:Vd items2.toList ys) :
  Meets (BR.«list.__ge__» ⟨[.ref l,.ref b],[]⟩)
   (λA R s=>s.heap.get? l=YB { cls:=.type "list",dict:=dd,data:=.seq items n,slots:=sl }/\s.heap.get? b=YB { cls:=.type "list",dict:=dd2,data:=.seq items2 n2,slots:=sl2 }/\
    R (.ok (.ret (.bool (!ltI xs ys)))) s):=by
 intro prog w A R s h;obtain⟨hp,g,d,tk,os⟩:=s;obtain⟨hl,hb,h⟩:=h;have f3:=AutoSeq1.sub_list_list
 wp_walk using Qm hl,Qm hb
 exact⟨VH Ue _,Bs entry_eq_loop (by
  rw[JX Ue _];exact Zyw l b items items2 n n2 dd dd2 sl sl2 h1 h2 _ 0 rfl (Qp _) (Qp _) prog w A R _ ⟨hl,hb,h⟩)⟩
end L2
namespace L2
open PySem PySem.Spec PyProof.Rows
def Yoc(K:Xc):R2:=λx y H Q=>∃(L L':YG->Prop) (ns ms:List Int),Da K H L x (.list (ns.map Xo))/\Da K H L' y (.list (ms.map Xo))/\Q (.bl (!ltI ns ms)) H
theorem Yb2(hu:X.A.units+64<cLine):OpR X (JR .GtE) (Yoc X.K):=by
 intro pins s O H x y v u Q I rx ry h;obtain⟨L,L',ns,ms,h1,h2,q⟩:=h;obtain⟨as,k1⟩:=h1.reads rfl I rx (lay_ints ns).1;obtain⟨bs,k2⟩:=h2.reads rfl I ry (lay_ints ms).1;obtain⟨a,i1,rfl,⟨⟨cls,dd,data,sl⟩,hl,hc,n,hd⟩,z1⟩:=Zd7 k1;obtain⟨b,i2,rfl,⟨⟨cls2,dd2,data2,sl2⟩,hl2,hc2,n2,hd2⟩,z2⟩:=Zd7 k2;simp only at hc hd hc2 hd2;subst hc hd hc2 hd2;exact richCompare_meets_room (op:=.GtE) ⟨_,hl,rfl⟩ ⟨_,hl2,rfl⟩ F.slot_list_ge F.entry_list_ge (F.args_list_ge_2 _ _) (Zye a b i1 i2 n n2 dd dd2 sl sl2 z1 z2)
  ⟨hl,hl2,show Value.bool (!ltI ns ms)≠Value.notImplemented/\_ from⟨(λx=>nomatch x),⟨.bl (!ltI ns ms),H,I,rfl,q⟩⟩⟩ (!0)
def Z85:Xa->Xa->Option Xa:=λd e=>match d,e with
 | .list ds,.list es=>(Zdd ds).bind λns=>(Zdd es).bind λms=>YB (.bool (!ltI ns ms))
 | _,_=>YC
def Yls:Xa->Xa->(Xa->Prop)->Prop:=λd e k=>∃r,Z85 d e=YB r/\k r
def Yiv:ByS Z85 Yls:=λ_ _ r _ h hk=>⟨r,h,hk⟩
def Ye5:P2s G (Yoc G) Yls:=λH L x y d e k Q hx hy h kk=>by
 obtain⟨r,h,hk⟩:=h;unfold Z85 at h;split at h
 case h_2=>cases h
 obtain⟨ns,h1,h⟩:=bs h;obtain⟨ms,h2,h⟩:=bs h;cases h;rw[Zaq h1]at hx;rw[Zaq h2]at hy;exact⟨L,L,ns,ms,hx,hy,kk _ _ (.bl _) hk⟩
def Yjs(K:Xc):R2:=λx y H Q=>∃(L L':YG->Prop) (ns ms:List Int),Da K H L x (.list (ns.map Xo))/\Da K H L' y (.list (ms.map Xo))/\Q (.bl (ltI ns ms)) H
theorem Ya3(hu:X.A.units+64<cLine):OpR X (JR .Lt) (Yjs X.K):=by
 intro pins s O H x y v u Q I rx ry h;obtain⟨L,L',ns,ms,h1,h2,q⟩:=h;obtain⟨as,k1⟩:=h1.reads rfl I rx (lay_ints ns).1;obtain⟨bs,k2⟩:=h2.reads rfl I ry (lay_ints ms).1;obtain⟨a,i1,rfl,⟨⟨cls,dd,data,sl⟩,hl,hc,n,hd⟩,z1⟩:=Zd7 k1;obtain⟨b,i2,rfl,⟨⟨cls2,dd2,data2,sl2⟩,hl2,hc2,n2,hd2⟩,z2⟩:=Zd7 k2;simp only at hc hd hc2 hd2;subst hc hd hc2 hd2;exact richCompare_meets_room (op:=.Lt) ⟨_,hl,rfl⟩ ⟨_,hl2,rfl⟩ F.slot_list_lt F.entry_list_lt (F.args_list_lt_2 _ _) (Zun a b i1 i2 n n2 dd dd2 sl sl2 z1 z2)
  ⟨hl,hl2,show Value.bool (ltI ns ms)≠Value.notImplemented/\_ from⟨(λx=>nomatch x),⟨.bl (ltI ns ms),H,I,rfl,q⟩⟩⟩ (!0)
def Yf6:Xa->Xa->Option Xa:=λd e=>match d,e with
 | .list ds,.list es=>(Zdd ds).bind λns=>(Zdd es).bind λms=>YB (.bool (ltI ns ms))
 | _,_=>YC
def Yja:Xa->Xa->(Xa->Prop)->Prop:=λd e k=>∃r,Yf6 d e=YB r/\k r
def Yii:ByS Yf6 Yja:=λ_ _ r _ h hk=>⟨r,h,hk⟩
def Yeo:P2s G (Yjs G) Yja:=λH L x y d e k Q hx hy h kk=>by
 obtain⟨r,h,hk⟩:=h;unfold Yf6 at h;split at h
 case h_2=>cases h
 obtain⟨ns,h1,h⟩:=bs h;obtain⟨ms,h2,h⟩:=bs h;cases h;rw[Zaq h1]at hx;rw[Zaq h2]at hy;exact⟨L,L,ns,ms,hx,hy,kk _ _ (.bl _) hk⟩
def Ymv(K:Xc):R2:=λx y H Q=>rI0 (λi j=>.bl (decide (i<j))) x y H Q\/Yjs K x y H Q
def Yct(hu:X.A.units+64<cLine):OpR X (JR .Lt) (Ymv X.K):=λpins s O H x y v u Q I rx ry h=>h.elim (Z6d pins s O H x y v u Q I rx ry) (Ya3 hu pins s O H x y v u Q I rx ry)
def Ymn:Xa->Xa->(Xa->Prop)->Prop:=λd e k=>Z0m (λi j=>.bool (decide (i<j))) d e k\/Yja d e k
def Z84:Xa->Xa->Option Xa:=λd e=>(gLt d e).or (Yf6 d e)
def Yhq:ByS Z84 Ymn:=λd e r k h hk=>by
 unfold Z84 at h;cases c:gLt d e with
 | some z=>
  rw[c]at h;cases h;exact .inl (Yi5 d e _ k c hk)
 | none=>
  rw[c]at h;exact .inr (Yii d e r k h hk)
def Ybp:P2s G (Ymv G) Ymn:=λH L x y d e k Q hx hy h kk=>h.elim (λh=>.inl (Zg0 H L x y d e k Q hx hy h kk)) λh=>.inr (Yeo H L x y d e k Q hx hy h kk)
end L2
namespace L2
open PySem PySem.Spec PyProof.Rows PySem.W
def Zfm{lt:Nat->Nat->Bool}{f:Y->KasT β}(t:KasT Y):kEv lt (t.bind f)=kEv lt (f (kEv lt t)):=by
 induction t with
 | ret a=>rfl
 | ask i j k ih=>exact ih _
structure Tot(lt:Nat->Nat->Bool)(n:Nat):Prop where
 tr:∀i j k,i<n->j<n->k<n->lt i j=YD->lt j k=YD->lt i k=YD
 tot:∀i j,i<n->j<n->i≠j->lt i j=YF->lt j i=YD
 asy:∀i j,i<n->j<n->lt i j=YD->lt j i=YF
section
variable {lt:Nat->Nat->Bool}{n:Nat}
abbrev gD(p:Array Nat)(i:Nat):Nat:=p.getD i 0
theorem kP.size{p:Array Nat}(h:kP n p):p.size=n:=by rw[<-XM,List.Perm.length_eq h,JW]
def Zqh{p:Array Nat}(h:i<p.size):p[i]? =YB (gD p i):=by rw[JM h];simp[gD,Array.getD,h]
def Zzj{p q:Array Nat}(h:p[i]? =q[j]?):gD p i=gD q j:=by
 show p.getD i 0=q.getD j 0;rw[Array.getD_eq_getD_getElem?,Array.getD_eq_getD_getElem?,h]
def kP.blw{p:Array Nat}(h:kP n p)(hi:i<n):gD p i<n:=h.at (Nat.lt_of_le_of_lt (Qp _) hi) i
theorem kP.ne{p:Array Nat}(h:kP n p)(hi:i<j)(hj:j<n):gD p i≠gD p j:=λe=>by
 have nd:p.toList.Nodup:=(List.Perm.nodup_iff h).mpr List.nodup_range;have sz:=h.size;have a:=Zqh (p:=p) (i:=i) (!0);have b:=Zqh (p:=p) (i:=j) (!0);rw[<-Qc]at a b;obtain⟨a1,a2⟩:=Xk.mp a;obtain⟨b1,b2⟩:=Xk.mp b;exact Q3.mp nd i j a1 b1 hi (by rw[a2,b2,e])
def Ri(lt:Nat->Nat->Bool)(p:Array Nat)(m:Nat):Prop:=∀i j,i<j->j<m->lt (gD p i) (gD p j)=YD
def Fa(lt:Nat->Nat->Bool)(p:Array Nat)(m:Nat):Prop:=∀i j,i<j->j<m->lt (gD p j) (gD p i)=YD
variable (T:Tot lt n)
include T
def Z2v{p:Array Nat}(h:kP n p)(f:Nat):∀m,1<=m->m+f<=n->Ri lt p m->Ri lt p (kEv lt (kas_asc p f m))/\m<=kEv lt (kas_asc p f m)/\kEv lt (kas_asc p f m)<=m+f/\(kEv lt (kas_asc p f m)<m+f->lt (gD p (kEv lt (kas_asc p f m))) (gD p (kEv lt (kas_asc p f m)-1))=YD):=by
 induction f with
 | zero=>exact λm _ _ r=>⟨r,Xx _,Xx _,λz=>YZ z (Vf _)⟩
 | succ f ih=>
  intro m h1 hn r;show _/\_;rw[kas_asc,kEv];cases c:lt (p.getD m 0) (p.getD (m-1) 0)with
  | true=>
   rw[YM rfl,kEv];exact⟨r,Xx _,Vb _ _,λ_=>c⟩
  | false=>
   rw[YQ XJ];have up:lt (gD p (m-1)) (gD p m)=YD:=T.tot _ _ (h.blw (!0)) (h.blw (!0)) (h.ne (!0) (!0)).symm c;have r2:Ri lt p (m+1):=λi j hij hj=>by
    rcases Vo j m with q|q
    .exact r i j hij q
    .have:j=m:=by omega
     subst this;rcases Vo i (j-1)with q2|q2
     .exact T.tr _ _ _ (h.blw (!0)) (h.blw (!0)) (h.blw (!0)) (r i (j-1) q2 (!0)) up
     .have:i=j-1:=by omega
      subst this;exact up
   obtain⟨a,b,c,d⟩:=ih (m+1) (!0) (!0) r2;exact⟨a,by omega,by omega,λz=>d (!0)⟩
def Z4i{p:Array Nat}(h:kP n p)(f:Nat):∀m,1<=m->m+f<=n->Fa lt p m->∃m',kEv lt (kas_desc f p m 0)=(p,m',0)/\Fa lt p m'/\m<=m'/\m'<=m+f:=by
 induction f with
 | zero=>exact λm _ _ r=>⟨m,rfl,r,Xx _,Xx _⟩
 | succ f ih=>
  intro m h1 hn r;rw[kas_desc,kEv];cases c:lt (p.getD m 0) (p.getD (m-1) 0)with
  | true=>
   rw[YM rfl,YQ (Vf _)];have r2:Fa lt p (m+1):=λi j hij hj=>by
    rcases Vo j m with q|q
    .exact r i j hij q
    .have:j=m:=by omega
     subst this;rcases Vo i (j-1)with q2|q2
     .exact T.tr _ _ _ (h.blw (!0)) (h.blw (!0)) (h.blw (!0)) c (r i (j-1) q2 (!0))
     .have:i=j-1:=by omega
      subst this;exact c
   obtain⟨m',e,a,b,d⟩:=ih (m+1) (!0) (!0) r2;exact⟨m',e,a,by omega,by omega⟩
  | false=>
   rw[YQ XJ,kEv];have up:lt (p.getD (m-1) 0) (p.getD m 0)=YD:=T.tot _ _ (h.blw (!0)) (h.blw (!0)) (h.ne (!0) (!0)).symm c;rw[up,YM rfl,kEv];exact⟨m,rfl,r,Xx _,Vb _ _⟩
def Zzf{p:Array Nat}(h:kP n p)(h0:0<n):∃m p',kEv lt (kas_count n p)=(m,p')/\kP n p'/\Ri lt p' m/\1<=m/\m<=n:=by
 rw[kas_count,Zfm];obtain⟨a,b,c,d⟩:=Z2v T h (n-1) 1 (Xx _) (!0) λi j _ _=>by omega
 generalize kEv lt (kas_asc p (n-1) 1)=m at a b c d
 by_cases e:m=n
 .rw[YM (by rw[e];exact beq_self_eq_true _),kEv]
  exact⟨m,p,rfl,h,a,b,by omega⟩
 rw[YQ (λz=>e (ZC.mp z))]
 by_cases m1:m>1
 .rw[YM m1,kEv,a 0 (m-1) (!0) (!0),YM rfl,kEv]
  exact⟨m,p,rfl,h,a,b,by omega⟩
 rw[YQ m1];have em:m=1:=by omega
 subst em;have lt1:=d (!0);rw[kas_descPart,Zfm];obtain⟨m',e2,f2,b2,d2⟩:=Z4i T h (n-(1+1)) (1+1) (!0) (!0) λi j hij hj=>by
  have:i=0:=by omega
  have:j=1:=by omega
  subst i j;exact lt1
 rw[e2,YQ (Vf _),kas_tail3,Zfm,kEv];have kr:kP n (kas_rev p 0 m'):=h.rev _ _;have rr:Ri lt (kas_rev p 0 m') m':=λi j hij hj=>by
  have ge:∀k,k<m'->gD (kas_rev p 0 m') k=gD p (m'-1-k):=λk hk=>Zzj (by
   have:=getElem?_mirror_all (xs:=p) (i:=0) (j:=m') (by rw[h.size];omega) k;rw[YM ⟨Qp _,hk⟩,Nat.zero_add]at this;exact this)
  rw[ge i (!0),ge j hj];exact f2 _ _ (!0) (!0)
 obtain⟨a,b,c,_⟩:=Z2v T kr (n-m') m' (!0) (!0) rr;have n2:2<=n:=by omega
 have:m'<=n:=by omega
 refine⟨_,_,rfl,kr,a,?_,?_⟩
 .exact XD (!0) b
 .exact XD c (!0)
def Z0z{p:Array Nat}(h:kP n p){k:Nat}(hk:k<n)(f:Nat):∀l r,l<=r->r<=k->r-l<=f->(∀i,i<l->lt (gD p i) (gD p k)=YD)->(∀i,r<=i->i<k->lt (gD p k) (gD p i)=YD)->Ri lt p k ->
  kEv lt (kas_place p k f l r)<=k/\(∀i,i<kEv lt (kas_place p k f l r)->lt (gD p i) (gD p k)=YD)/\∀i,kEv lt (kas_place p k f l r)<=i->i<k->lt (gD p k) (gD p i)=YD:=by
 induction f with
 | zero=>
  intro l r lr rk z a b R;have:l=r:=by omega
  subst this;exact⟨rk,a,b⟩
 | succ f ih=>
  intro l r lr rk z a b R;rw[kas_place]
  by_cases c:l>=r
  .rw[YM c,kEv]
   exact⟨by omega,a,λi x y=>b i (!0) y⟩
  rw[YQ c,kEv];have hm:(l+r)/2<k:=by omega
  cases q:lt (p.getD k 0) (p.getD ((l+r)/2) 0)with
  | true=>
   rw[YM rfl];refine ih _ _ (!0) (!0) (!0) a (λi x y=>?_) R
   by_cases e:i=(l+r)/2
   .subst e;exact q
   .exact T.tr _ _ _ (h.blw hk) (h.blw (!0)) (h.blw (!0)) q (R _ _ (!0) y)
  | false=>
   rw[YQ XJ];have up:lt (gD p ((l+r)/2)) (gD p k)=YD:=T.tot _ _ (h.blw hk) (h.blw (!0)) (h.ne hm hk).symm q;refine ih _ _ (!0) (!0) (!0) (λi x=>?_) b R
   by_cases e:i=(l+r)/2
   .subst e;exact up
   .exact T.tr _ _ _ (h.blw (!0)) (h.blw (!0)) (h.blw hk) (R _ _ (!0) hm) up
def Yd4(f:Nat):∀{p:Array Nat} (h:kP n p) (k:Nat),k+f<=n->Ri lt p k->Ri lt (kEv lt (kas_bin f p k)) (k+f):=by
 induction f with
 | zero=>exact λh k _ r=>r
 | succ f ih=>
  intro p h k hn r;rw[kas_bin,Zfm];obtain⟨a,b,c⟩:=Z0z T h (k:=k) (!0) k 0 k (Qp _) (Xx _) (!0) (λi z=>YZ z (UT _)) (λi x y=>YZ y (!0)) r;generalize kEv lt (kas_place p k k 0 k)=l at a b c;have ge:∀j,gD (bubble p k (k-l)) j=if j=l then gD p k else if l<j/\j<=k then gD p (j-1)else gD p j:=λj=>by
   have e:=getElem?_bubble (xs:=p) (src:=k) (by rw[h.size];omega) (k-l) (!0) j;have e0:k-(k-l)=l:=by omega
   rw[e0]at e
   by_cases c1:j=l
   .rw[YM c1]at e|-
    exact Zzj e
   .rw[YQ c1]at e|-
    by_cases c2:l<j/\j<=k
    .rw[YM c2]at e|-
     exact Zzj e
    .rw[YQ c2]at e|-
     exact Zzj e
  have:=ih (h.bub k (k-l)) (k+1) (!0) λi j hij hj=>?_
  .rw[show k+1+f=k+(f+1) by omega]at this
   exact this
  rw[ge,ge];rcases Nat.lt_trichotomy j l with q|q|q
  .rw[YQ (!0),YQ (!0),YQ (!0),YQ (!0)]
   exact r i j hij (!0)
  .rw[YQ (!0),YQ (!0),YM q]
   exact b i (!0)
  .rw[YQ (show¬j=l by omega),YM (show l<j/\j<=k by omega)]
   rcases Nat.lt_trichotomy i l with q2|q2|q2
   .rw[YQ (!0),YQ (!0)]
    exact r i (j-1) (!0) (!0)
   .rw[YM q2]
    exact c (j-1) (!0) (!0)
   .rw[YQ (!0),YM (!0)]
    exact r (i-1) (j-1) (!0) (!0)
def Z8r(h0:0<n):Ri lt (kEv lt (kas_sort n)) n:=by
 rw[kas_sort,Zfm];obtain⟨m,p,e,kp,r,l1,l2⟩:=Zzf T (p:=Uk (QJ n)) (List.Perm.refl _) h0;rw[e]
 by_cases c:m<n
 .rw[YM c]
  have em:max m 1=m:=by omega
  rw[em];have:=Yd4 T (n-m) kp m (!0) r;rw[show m+(n-m)=n by omega]at this;exact this
 .rw[YQ c,kEv]
  have:m=n:=by omega
  rw[this]at r;exact r
def Z5p(h0:0<n):(Ztl lt n).Pairwise λi j=>lt i j=YD:=by
 have h:kP n (kEv lt (kas_sort n)):=(Zi7 h0).ev (P:=kP n);have r:=Z8r T h0;refine Q3.mpr λi j hi hj hij=>?_;have sz:=h.size;rw[<-XM]at sz;have l2:(Ztl lt n).length=n:=sz;have ge:∀k (hk:k<(Ztl lt n).length),(Ztl lt n)[k]=gD (kEv lt (kas_sort n)) k:=λk hk=>by
  have:=Zqh (p:=kEv lt (kas_sort n)) (i:=k) (by rw[h.size];omega);rw[<-Qc]at this;exact(Xk.mp this).2
 rw[ge,ge];exact r i j hij (!0)
end
def Z8d{β:Type}{d:Y}{lt:Nat->Nat->Bool}{vs:List Y}{R:Y->Y->Prop}(T:Tot lt vs.length)(hR:∀i j,i<vs.length->j<vs.length->lt i j=YD->R (vs.getD i d) (vs.getD j d)):(sLay d lt vs).Pairwise R:=by
 unfold sLay;split
 .rename_i c
  match vs,c with
  | [],_=>exact .nil
  | [a],_=>exact List.pairwise_singleton _ _
 .rename_i c
  have pm:=Zh2 (lt:=lt) (n:=vs.length) (!0);have up:=Z5p T (!0);have h:=List.Pairwise.imp_of_mem (fun{i j} hi hj e=>hR i j (VG.mp (pm.mem_iff.mp hi)) (VG.mp (pm.mem_iff.mp hj)) e) up;exact List.pairwise_map.mpr h
end L2
namespace L2
open PySem PySem.Spec PyProof.Rows
def Zy7(x:Str)(n:Int):Str:=⟨(By n.toNat x.cps).foldl (·++·) #[]⟩
theorem Z78(c:Array Nat):∀(n:Nat) (a:Array Nat),((By n c).foldl (·++·) a).size=a.size+n*c.size:=by
 intro n
 induction n with
 | zero=>intro a;show a.size=_;omega
 | succ n ih=>
  intro a;rw[List.replicate_succ,List.foldl_cons,ih,Array.size_append,Nat.succ_mul];omega
def Z01(x:Str)(n:Int):Bool:=decide (0<=n)&&decide (n<=64)&&decide (1<=x.length)&&decide (x.length<=64)
def Yc4:R2:=λx y H Q=>∃i n,x= .str i/\y= .int n/\Z01 i n=YD/\Q (.str (Zy7 i n)) H
theorem Zvk:OpR X (Ut .Mult) Yc4:=by
 intro pins s O H x y v u Q I rx ry h;obtain⟨z,n,rfl,rfl,ok,q⟩:=h;obtain⟨t,rfl⟩:=rx;obtain⟨t',rfl⟩:=ry;unfold Z01 at ok;rw[XR,XR,XR,decide_eq_true_iff,decide_eq_true_iff,decide_eq_true_iff,decide_eq_true_iff]at ok;obtain⟨⟨⟨o1,o2⟩,o3⟩,o4⟩:=ok;have lm:z.length*n.toNat<=4096:=XD (Nat.mul_le_mul o4 (show n.toNat<=64 by omega)) (!1);refine P.mul_str (by rw[YT (!0),YT (!0)];rfl) (λh1 _=>?_) (λ_ _=>?_) ?_
 .have:(64:Int)<=(2^63-1)/n:=by
   refine Int.le_ediv_of_mul_le (!0) ?_;omega
  omega
 .unfold BR.Str.tooLong
  exact YT (by rw[Qe];omega)
 .have fin:∀tk,EP X pins O Q (.str (Zy7 z n) tk) s:=λtk=>⟨.str (Zy7 z n),H,I,⟨_,rfl⟩,q⟩
  by_cases h1:n<1
  .rw[YM h1]
   have e:n=0:=by omega
   subst e;exact⟨by decide,.str (Zy7 z 0),H,I.tok _,⟨_,rfl⟩,q⟩
  .rw[YQ h1]
   by_cases h2:n=1
   .subst h2
    rw[YM (by rw[show((1:Int)==1)=YD from rfl];rfl)];have e:Zy7 z 1=z:=by
     unfold Zy7;show Str.mk (#[]++z.cps)=z;rw[Array.empty_append]
    have f:=fin t;rw[e]at f;exact f
   .rw[YQ (by
     rw[Bool.or_eq_true,ZC,ZC];omega)]
    exact⟨by
     show((By n.toNat z.cps).foldl (·++·) #[]).size<=Xp;rw[Z78,Qe,Nat.mul_comm];have:z.cps.size*n.toNat<=4096:=lm;show 0+_<=_;omega,.str (Zy7 z n),H,I.tok _,⟨_,rfl⟩,q⟩
def Zpl:Xa->Xa->Option Xa:=λd e=>match d,e with
 | .str x,.int n=>if Z01 x n=YD then YB (.str (Zy7 x n))else YC
 | _,_=>YC
def Z9j:Xa->Xa->(Xa->Prop)->Prop:=λd e k=>∃r,Zpl d e=YB r/\k r
def Z24:ByS Zpl Z9j:=λ_ _ r _ h hk=>⟨r,h,hk⟩
def Zx0:P2s G Yc4 Z9j:=λH L x y d e k Q hx hy h kk=>by
 obtain⟨r,h,hk⟩:=h;unfold Zpl at h;split at h
 case h_2=>cases h
 split at h
 case isFalse=>cases h
 rename_i ok;cases h;cases hx.strInv;cases hy;exact⟨_,_,rfl,rfl,ok,kk _ _ (.str _) hk⟩
section
variable {a:YJ}{pl:Pos}{t:TA}
def Yph(K:Xc)(t:TA):TE:=λO H Q=>t O H λvs H1=>∃(l:YG) (ns:List Int),vs=[.ref l]/\SqL K H1 l (ns.map V.int)/\(ns.length<2000/\(dnc ns).length<64)/\∀p,H1 p=YC->Q (.ref p) (upd H1 p (.lst ((Zch (dnc ns)).map V.int)))
def Zpq(hc:X.calm=YD)(hgl:Gl X "sorted")(hml:X.mg "sorted"=YC)(hvl:Qd "sorted"=YB (.builtin "sorted"))(hg:Gl X "set")(hm:X.mg "set"=YC)(hv:Qd "set"=YB (.type "set"))(ha:PA X [a] t)
  (he:Xr [a] X.env=(YF,eval a X.env)::Xr [] X.env:=by rfl) (hpl:(Ba pos' (Xr [] X.env)).any (·.1)=YF:=by rfl)
  (he':Xr [.Call (.Name "set" pr) [a] [] pos'] X.env=(YF,eval (.Call (.Name "set" pr) [a] [] pos') X.env)::Xr [] X.env:=by rfl) (hpl':(Ba pos (Xr [] X.env)).any (·.1)=YF:=by rfl) :
  PE X (.Call (.Name "sorted" pl) [.Call (.Name "set" pr) [a] [] pos'] [] pos) (Yph X.K t):=by
 intro pins s O H Q I h;refine Vx (Zjg I hgl hml hvl ?_ (!1) (!1));refine PyProof.Rows.callWith_builtin1 ?_ he' hpl';rw[he'];show Xy _ _ (spliced ((YF,eval (.Call (.Name "set" pr) [a] [] pos') X.env)::Ba pos (Xr [] X.env))) _ _ s;have inner:Xy (X4 X.prog X.w) X.A (eval (.Call (.Name "set" pr) [a] [] pos') X.env) (λu s2=>∃(S:YG) (ks ns:List Int) (H1:Hp),u=X7 S/\SetI X.prog X.w (!byT X.w) s2.heap S ks/\Of ks ns/\(ns.length<2000/\(dnc ns).length<64)/\Inv X pins O H1 s2/\∀p,H1 p=YC->Q (.ref p) (upd H1 p (.lst ((Zch (dnc ns)).map V.int)))) X.xe s:=by
  refine Vx (Zjg I hg hm hv ?_ (!1) (!1));refine VJ (thn (ha pos' pins s O H _ I h) λus s1 qz=>?_) he hpl;obtain⟨vs,H1,I1,r1,l,ns,rfl,hs,h64,q⟩:=qz;obtain⟨u,rfl,ru⟩:=vals1 r1;cases(show u=X7 l from ru);obtain⟨its,rv,pl,hz⟩:=I1.list hs;obtain⟨ps,rfl,e2⟩:=Zcq rv;have lp:ps.length=ns.length:=by rw[<-e2,Xf]
  refine Zuy (its:=(ps.map λp=>Uj p.1 p.2).toArray) (ns:=ns) (I1.ok.hd hc) pl.isList (by simp[lp]) (by rw[XF,Xf];unfold scanBound;omega) (λi v ev=>?_) λh' tk ks a1 a2 a3=>?_
  .rw[List.getElem?_toArray,Xq]at ev
   cases ep:ps[i]? with
   | none=>rw[ep]at ev;cases ev
   | some p=>
    rw[ep]at ev;cases ev;exact⟨p.1,p.2,rfl,by rw[<-e2,Xq,ep];rfl⟩
  .exact⟨_,ks,ns,H1,rfl,a1,a2,h64,I1.kept (t':=tk) (λb u e=>a3 b u (Xz e) e),q⟩
 refine Calls.spliced_cons (thn inner λu s2 qz=>?_);obtain⟨S,ks,ns,H1,rfl,hS,hO,h64,I2,q⟩:=qz;refine Calls.spliced_nil ?_;have lk:ks.length=(dnc ns).length:=((List.perm_ext_iff_of_nodup hO.1 (Zfd ns).1).mpr λx=>by rw[hO.2,(Zfd ns).2]).length_eq;refine Zzm (I2.ok.hd hc) hS (!0) λh' tk d L out cc lN g io k=>?_;rw[Zyc hO]at io;have ld:((Zch (dnc ns)).map V.int).length<=Xp:=by
  rw[Xf,<-Zyc hO,(J3 ks).length_eq,Qe];omega
 refine⟨.ref L,_,(I2.laid (t':=tk) (o:=.lst ((Zch (dnc ns)).map V.int)) (λb ob e=>k b ob (Xz e) e) lN ⟨ld,out,cc,Ycm io,g⟩).drawn d,rfl,q _ (I2.hok.fresh lN)⟩
def Zoj(mr:MAt):MEt:=λδ K=>mr δ λrs δ'=>n1 (λd=>∃ns:List Int,d= .list (ns.map Xo)/\(ns.length<2000/\(dnc ns).length<64)/\K (.nd (((Zch (dnc ns)).map Xo).map OT.fz)) δ') (OT.datas rs)
def Zsc(hc:X.calm=YD)(hgl:Gl X "sorted")(hml:X.mg "sorted"=YC)(hvl:Qd "sorted"=YB (.builtin "sorted"))(hg:Gl X "set")(hm:X.mg "set"=YC)(hv:Qd "set"=YB (.type "set"))(ha:MA X io p c [a] mr)
  (he:Xr [a] X.env=(YF,eval a X.env)::Xr [] X.env:=by rfl) (hpl:(Ba pos' (Xr [] X.env)).any (·.1)=YF:=by rfl)
  (he':Xr [.Call (.Name "set" pr) [a] [] pos'] X.env=(YF,eval (.Call (.Name "set" pr) [a] [] pos') X.env)::Xr [] X.env:=by rfl) (hpl':(Ba pos (Xr [] X.env)).any (·.1)=YF:=by rfl) :
  ME X io p YD (.Call (.Name "sorted" pl) [.Call (.Name "set" pr) [a] [] pos'] [] pos) (Zoj mr):=by
 obtain⟨_,A,s⟩:=ha;refine⟨_,Zpq hc hgl hml hvl hg hm hv A he hpl he' hpl',λC H O δ fp ex K Q R h kk=>s C H O δ fp ex _ _ R h λH1 vs rs δ1 fp1 new r1 h1=>?_⟩;obtain⟨v,d,rfl,e2,q,ns,e,h64,h2⟩:=(r1.das R).one h1;subst e;obtain⟨l,rfl,hs⟩:=q.ints_sq;refine⟨l,ns,rfl,hs,h64,λp hp=>?_⟩;have sm:=Z9 hp (.lst ((Zch (dnc ns)).map V.int));exact kk _ _ _ δ1 fp1 [p] (RE.tree R r1.base r1.stp sm (Za4 hp) (Zcp p) (Own.list hp (Das.ints _))) h2
def Zdj(a:FA):FE:=λδ=>(a δ).bind λq=>match OT.datas q.1 with|[.list es]=>(Zdd es).bind λns=>if(ns.length<2000/\(dnc ns).length<64)then YB (.nd (((Zch (dnc ns)).map Xo).map OT.fz),q.2)else YC|_=>YC
def Zou(h:ME X io p c e (Zoj (o2 ra))):ME X io p c e (o2 (Zdj ra)):=h.weak λδ K h=>by
 obtain⟨r,δ',h,k⟩:=h;obtain⟨⟨x,δ1⟩,h1,h⟩:=bs h;refine⟨x,δ1,h1,?_⟩;dsimp only at h|-
 split at h
 case h_2=>cases h
 rename_i es q;rw[q];obtain⟨ns,h2,h⟩:=bs h;split at h
 case isFalse=>cases h
 rename_i l64;cases h;exact⟨ns,by rw[Zaq h2],l64,k⟩
end
end L2
namespace L2
open PySem PySem.Spec
instance nx_Dict{a b}{p:Pos}:NoStar (.Dict a b p):=⟨λ_ _=>rfl⟩
end L2
namespace L2
open PySem PySem.Spec PyProof.Rows
def Zog:Xa->Bool| .dict ((.str _,.bool _)::_)=>YD|_=>YF
def Z97{T:String}(h:T="int"\/T="bool"\/T="str"\/T="list"\/T="tuple"):QB K (.type "dict") (.type T)=YB YF:=by
 rcases h with rfl|rfl|rfl|rfl|rfl<;>first|rfl|(unfold QB PySem.W.kitCls;rfl)|decide +kernel
def Ydo{pins O s}{o:MuO}{t:Bool}{ks:List KY}(I:Inv X pins O H s)(e:Rd H a o.ho)(k:o.dic t ks xs):PySem.W.KitAt a "dict" s.heap:=by
 have ok:=e.ok I.hok;cases o with
 | lst _=>exact k.elim
 | dK kvs=>
  obtain⟨_,_,vs,_,o,es,ep,h1,h2,_⟩:=ok;exact⟨o,h1,h2.1⟩
 | dT kvs=>
  obtain⟨_,_,xs,_,o,es,ep,h1,h2,_⟩:=ok;exact⟨o,h1,h2.1⟩
def Ykj(G:Xc):List V->Hp->VK->Prop:=λxs H Q=>∃(x:V) (T:String) (L:YG->Prop) (d:Xa),xs=[x,.ty T]/\Da G H L x d/\Zog d=YF/\(T="int"\/T="bool"\/T="str"\/T="list"\/T="tuple")/\Q (.bl (Zhf T d)) H
def Zuh(hK:X.K=G):Zbe X (.builtin "isinstance") (Ykj G):=by
 subst hK;intro pins s O H xs us Q I r h;obtain⟨x,T,L,d,rfl,q,hf,hT,h⟩:=h
 by_cases hn:Zhm d=YF
 .exact Zmz rfl pins s O H _ us Q I r ⟨x,T,L,d,rfl,q,hn,hT,h⟩
 obtain⟨u,w',rfl,r1,r2⟩:=vals2 r;cases(show w'=Value.type T from r2);have fin:∀tk:Nat,EP X pins O Q (.bool (Zhf T d)) { s with toks:=tk }:=λtk=>⟨.bl _,H,I.tok tk,rfl,h⟩;cases q with
 | non=>exact YZ rfl hn
 | bl b=>exact YZ rfl hn
 | int b=>exact YZ rfl hn
 | str b=>exact YZ rfl hn
 | lst l e qs=>exact YZ rfl hn
 | tup e qs=>exact YZ rfl hn
 | scr ks=>exact YZ rfl hn
 | exc Z hn' e=>exact YZ rfl hn
 | fn _=>cases hf
 | dic l e k qs=>
  rename_i a o t ks xs ds;cases(show u=X7 a from r1);exact QZ PySem.W.kitx_dict I.kIn (Ydo I e k) (b:=Zhf T (dcD t ks ds)) (Z97 hT) (!12) fin
section
variable {a:YJ}
def Yes(T:String)(m:MEt):MEt:=λδ K=>m δ λr δ'=>Zog r.data=YF/\K (.fz (.bool (Zhf T r.data))) δ'
def Ycp{T:Str}{T':String}(hT:T'="int"\/T'="bool"\/T'="str"\/T'="list"\/T'="tuple")(hg:Gl X "isinstance")(hm:X.mg "isinstance"=YC)(hv:Qd "isinstance"=YB (.builtin "isinstance"))
  (hg2:Gl X T) (hm2:X.mg T=YC) (hv2:Qd T=YB (.type T')) (ha:ME X io p c a ma) (hn:T≠"__name__" :=by decide) (hd:(T==(!10))=YF:=by decide)
  (he:Xr [a,.Name T p2] X.env=(YF,eval a X.env)::Xr [.Name T p2] X.env:=by rfl) (he2:Xr [.Name T p2] X.env=(YF,eval (.Name T p2) X.env)::Xr [] X.env:=by rfl) (hpl:(Ba pos (Xr [.Name T p2] X.env)).any (·.1)=YF:=by rfl) :
  ME X io p YD (.Call (.Name "isinstance" pp) [a,.Name T p2] [] pos) (Yes T' ma):=by
 obtain⟨_,A,s⟩:=ha;refine⟨_,Zd6 (Zuh rfl) hg hm hv (Wr A (Wr (Zov (v:=.ty T') hg2 hm2 hv2 rfl hn hd) Zi9 he2) he) (!1) (!1) he hpl,?_⟩;intro C H O δ fp ex K' Q R h k;refine s C H O δ fp ex _ _ R h λH' v r δ' fp' new r1 h1=>?_;exact⟨v,T',_,_,rfl,r1.da R,h1.1,hT,k H' _ _ δ' fp' [] (.fz r1.base r1.stp (.bl _)) h1.2⟩
def Z03(T:String)(e:FE):FE:=λδ=>(e δ).bind λp=>if Zog p.1.data=YD then YC else YB (.fz (.bool (Zhf T p.1.data)),p.2)
def Z5x{T:String}(h:ME X io p c e (Yes T (o2 fa))):ME X io p c e (o2 (Z03 T fa)):=h.weak λδ K h=>by
 obtain⟨r,δ',h,k⟩:=h;obtain⟨⟨x,δ1⟩,h1,h⟩:=bs h
 by_cases hf:Zog x.data=YD
 .have h':(if Zog x.data=YD then YC else YB (OT.fz (.bool (Zhf T x.data)),δ1))=YB (r,δ'):=h
  rw[YM hf]at h';cases h'
 .have h':(if Zog x.data=YD then YC else YB (OT.fz (.bool (Zhf T x.data)),δ1))=YB (r,δ'):=h
  rw[YQ hf]at h';injection h' with h';injection h' with e1 e2;subst e1 e2;exact⟨x,_,h1,Bool.eq_false_iff.mpr hf,k⟩
end
end L2
namespace My
open PySem L2 PySem.Spec
def xsL:List Str:=["NoText"]
abbrev Wj:=Yk 0
def Zc5:FS :=
 (wE (Znr (Zjy "int" Wj) (fUn Ygv (Zjy "bool" Wj))) W7)
def Zc9:FD:=J2 1 1 Zc5
abbrev Zax:=Yk 1
abbrev Zmj:=Ze Wj Yj
abbrev Zop:=fC .none
abbrev Zrc:=wE (fC (.bool YF)) W7
abbrev Ztk:=Ze Zax Yj
abbrev Z1d:=Zdm Zl7 Ztk
abbrev Zhs:=Yk 2
abbrev Zoq:=Yk 3
abbrev Z3v:=Ze Zhs (Ze Zoq Yj)
abbrev Z9z:=fC (.bool YD)
def Js(R:FD):FS :=
 (Z3 (Y4 (tD (Zjy "bool" Zax))
  (wE (Znr (Zjy "bool" Wj) (Zd gEq Wj Zax)) W7)
  fNx)
  (Z3 (Y4 (tD (Zjy "int" Zax))
  (wE (Znr (Z7 Zc9 Zmj) (Zd gEq Wj Zax)) W7)
  fNx)
  (Z3 (Y4 (tD (Zjy "str" Zax))
  (wE (Znr (Zjy "str" Wj) (Zd gEq Wj Zax)) W7)
  fNx)
  (Z3 (Y4 (tV (Zd gIs Zax Zop))
  (wE (Zd gIs Wj Zop) W7)
  fNx)
  (Z3 (Y4 (tO (tV (Zd gNe (Zjy "tuple" Zax) (Zjy "tuple" Wj))) (tV (Zd gNe (Zjy "list" Zax) (Zjy "list" Wj))))
  Zrc
  fNx)
  (Z3 (Y4 (tV (Zd gNe (Zdm Zl7 Zmj) Z1d))
  Zrc
  fNx)
  (Z3 (Zf7 (Zmu (Ze Wj Ztk)) (gTp 2 (gCn (gNm 2) (gCn (gNm 3) gNl)))
  (Y4 (tNo (tD (Z7 R Z3v)))
  Zrc
  fNx))
  (wE Z9z W7))))))))
def Zx:Nat->FD
 | 0=>λ_=>RF.bad
 | k+1=>J2 2 4 (Js (Zx k))
def Zcl:FS :=
 (Y4 (tNo (tD (Z03 "str" Wj)))
  (Zks "NoText")
  fNx)
def Wf:FD:=J2 1 1 Zcl
abbrev Za5:=fC (.int 1)
abbrev Zy2:=fC (.int 10)
def Zau:FS :=
 (wE (Zft (λi j=>decide (i<=j)) (λi j=>decide (i<=j)) Za5 Wj Zy2) W7)
def W8:FD:=J2 1 1 Zau
def Zc8:FS :=
 (Z3 (Zf7 (Zmu (Ze Wj (Ze (fSl Wj (oI Za5) oN) Yj))) (gTp 2 (gCn (gNm 1) (gCn (gNm 2) gNl)))
  (Y4 (tNo (tV (Zd Z84 Zax Zhs)))
  Zrc
  fNx))
  (wE Z9z W7))
def Y5:FD:=J2 1 3 Zc8
abbrev Zhr:=fC (.int 0)
abbrev Z2y:=Ze Zhs Yj
abbrev Z49:=W2 gIx Zax Zhr
abbrev Z88:=fUn Yab Za5
abbrev Yno:=wE (Znr (Z7 Y5 Ztk) (Znr (Zd gGe Z49 Za5) (Zd gLt (W2 gIx Zax Z88) Wj))) W7
def Zcx:FS :=
 (Z3 (Y4 (tO (tNo (tD (Zjy "list" Zax))) (tV (Zd gEq Z1d Zhr)))
  Zrc
  fNx)
  (Z3 (Zf7 (Zg8 Zax) (gNm 2)
  (Y4 (tNo (tD (Z7 Ye Z2y)))
  Zrc
  fNx))
  Yno))
def Jf:FD:=J2 2 3 Zcx
abbrev Zpa:=fC (.int 2)
abbrev Ymh:=tO (tNo (tD (Zjy "tuple" Wj))) (tV (Zd gNe (Zdm Zl7 Zmj) Zpa))
abbrev Yfv:=W2 gIx Wj Zhr
abbrev Z3o:=W2 gIx Wj Za5
def Zby:FS :=
 (Z3 (Y4 Ymh
  Zrc
  fNx)
  (Z3 (Y4 (tO (tNo (tD (Z7 Ye (Ze Yfv Yj)))) (tNo (tD (Z7 Ye (Ze Z3o Yj)))))
  Zrc
  fNx)
  (wE (Znr (Zd gGe Z3o Za5) (Zd gEq (Z7 Yn (Ze Yfv (Ze Z3o Yj))) Za5)) W7)))
def Zy:FD:=J2 1 1 Zby
abbrev Ygp:=W2 gIx Zax Za5
abbrev Yeu:=Ze Ygp Yj
abbrev Yhr:=wE (Znr (Z7 Jf (Ze Wj (Ze Z49 Yj))) (Znr (Z7 Zy Yeu) (Zd gGt (W2 gIx Ygp Zhr) Zhr))) W7
def Zak:FS :=
 (Z3 (Y4 (tO (tNo (tD (Zjy "tuple" Zax))) (tV (Zd gNe Z1d Zpa)))
  Zrc
  fNx)
  Yhr)
def Yb:FD:=J2 2 2 Zak
abbrev Zs8:=gNm 0
def Zaa:FS :=
 (Z3 (Y4 (tNo (tD (Zjy "list" Zax)))
  Zrc
  fNx)
  (Z3 (Zf7 (Zg8 Zax) (gNm 2)
  (Y4 (tNo (tD (Z7 Yb (Ze Wj Z2y))))
  Zrc
  fNx))
  (wE (Z7 Y5 (Ze (Jq 1 [] (Zg8 Zax) Zs8 Zj6 Yfv) Yj)) W7)))
def Wa:FD:=J2 2 3 Zaa
abbrev Z81:=Zdm Zwj Zmj
abbrev Z3d:=fC (.int 40)
abbrev Ylo:=tV (Zd (Z8z YD) Zax (fC (.str "0123456789")))
abbrev Z83:=fC (.str "0")
def Zay:FS :=
 (Z3 (Y4 (tNo (tV (Zft (λi j=>decide (i<=j)) (λi j=>decide (i<=j)) Za5 Z81 Z3d)))
  Zrc
  fNx)
  (Z3 (Zf7 (Yfx Wj) (gNm 1)
  (Y4 Ylo
  Zrc
  fNx))
  (wE (fOr (Zd gEq Wj Z83) (Zd gNe (W2 Z2n Wj Zhr) Z83)) W7)))
def Za0:FD:=J2 1 2 Zay
def Zb4:FS :=
 (wE (fIf (tD (Z7 Za0 Zmj)) (Zdm Zs6 Zmj) Zop) W7)
def Y9:FD:=J2 1 1 Zb4
abbrev Ygd:=Zdm Zzu (Ze Yfv Yj)
def Zbb:FS :=
 (Z3 (wE Ygd (Ju 1))
  (Z3 (Y4 (tV (Zd gEq Z3o Za5))
  (wE Zax W7)
  fNx)
  (wE (Zd Jd (Zd Jd Zax (fC (.str "/"))) (Zdm Zzu (Ze Z3o Yj))) W7)))
def Yw:FD:=J2 1 2 Zbb
abbrev Yg4:=Zse Zda Wj (Ze (fC (.str "/")) Yj)
abbrev Yg5:=tV (Zd gEq (Zdm Zl7 (Ze (Zjv 1) Yj)) Za5)
abbrev Ylj:=wE (fBl Zza (Ze (Zjv 1) Yj)) (Zux 2)
abbrev Yl1:=wE (fIf (tAn (tD (Z7 Zy Z2y)) (tV (Zd gEq (Z7 Yw Z2y) Wj))) Zhs Zop) W7
def Zba:FS :=
 (Z3 (wE (Jq 1 [] (Zg8 Yg4) Zs8 Zj6 (Z7 Y9 Zmj)) (Zbf 1))
  (Z3 (Y4 Yg5
  (Jp 1 Za5)
  fNx)
  (Z3 Ylj
  Yl1)))
def We:FD:=J2 1 3 Zba
abbrev Z23:=fC (.str ": ")
abbrev Zyb:=wE Zop W7
abbrev Z28:=fC (.str " ")
def Zbc:FS :=
 (Z3 (wE (Zse Zda Wj (Ze Z23 Yj)) (Ju 1))
  (Z3 (Y4 (tV (Zd gNe Z1d Zpa))
  Zyb
  fNx)
  (wE (Zr0 (Ze (Jq 1 [] (Zg8 (Zse Zda Z49 (Ze Z28 Yj))) Zs8 Zj6 (Z7 Y9 Zmj)) (Ze (Z7 We Yeu) Yj))) W7)))
def Jj:FD:=J2 1 2 Zbc
abbrev Z89:=fC (.str "none")
abbrev Zxo:=Zgv Yj
abbrev Z6c:=fC (.str "; ")
def J1:FS :=
 (Z3 (Y4 (tV (Zd gEq Wj Z89))
  (wE Zxo W7)
  fNx)
  (wE (Jq 1 [] (Zg8 (Zse Zda Wj (Ze Z6c Yj))) Zs8 Zj6 (Z7 Jj Zmj)) W7))
def Wi:FD:=J2 1 1 J1
abbrev Yhp:=tNo (tD (Z7 W8 Zmj))
abbrev Yiy:=tNo (tD (Z7 Wa (Ze Wj (Ze (Zjv 2) Yj))))
def Zc6:FS :=
 (Z3 (wX Wf Ztk Zwe)
  (Z3 (wE (Z7 Wi Ztk) (Zbf 2))
  (Z3 (Y4 (tO Yhp Yiy)
  (Zks "NoText")
  fNx)
  (Zhe 2))))
def Z5:FD:=J2 2 3 Zc6
abbrev Zpy:=Yk 4
abbrev Zhv:=Yk 5
abbrev Z6m:=Ze Zhv Yj
def Zdc:FS :=
 (Z3 (wE Zop (Ju 2))
  (Z3 (wE Zop (Ju 3))
  (Z3 (Z5f xsL (wX Z5 (Ze Wj Ztk) (Ju 2)) "NoText" 4 (Z3 (wE (Zq0 xsL ["NoCut","NoName","NoNumber","NoOrder","NoPoint","NoRow","NoTable","NoWeb","TooMany"] Zpy) (Ju 5))
  (wE (Zjp (Ze (Zxw xsL "CutError" Zpy) (Ze (Zxw xsL "ValueError" Zpy) Z6m))) (Ju 3))))
  (wE (Zjp Z3v) W7))))
def Jt:FD:=J2 2 6 Zdc
def Zg2:FS :=
 (Z3 (Y4 (tV (Zd gEq Z3o Za5))
  (wE Ygd W7)
  fNx)
  (wE (Zd Jd (Zd Jd Ygd (fC (.str "/"))) (Zdm Zzu (Ze Z3o Yj))) W7))
def Zbz:FD:=J2 1 1 Zg2
abbrev Ykd:=Jq 1 [] (Zg8 Wj) Zs8 Zj6 (Zdm Zzu Zmj)
abbrev Ybw:=fC (.str "")
abbrev Ym6:=Ze Z83 (Ze (fC (.str "9")) (Ze (fC (.str "10")) (Ze (fC (.str "01")) (Ze (fC (.str "-1")) (Ze Ybw (Ze (fC (.str "11")) (Ze (fC (.str "1.0")) Yj)))))))
abbrev Ynj:=Zd J4 Zoq (fC (.int 16))
abbrev Zz2:=fC (.int 8)
abbrev Ylf:=W2 gIx (Zgv Ym6) (Zd Zbd Ynj Zz2)
abbrev Yn4:=Zgz (W2 Zp1 (fSl (Zjv 4) oN (oI (Zd Zgy Zhv Za5))) (fSl (Zjv 4) (oI Zhv) oN))
abbrev Yl9:=Zgz (Z1k (Zjv 4) oN oN (oI Z88))
abbrev Zss:=Ju 6
abbrev Yf5:=fC (.int 3)
abbrev Yl7:=Ze Z83 (Ze (fC (.str "0/1")) (Ze (fC (.str "2/4")) (Ze (fC (.str "1/1")) (Ze (fC (.str "-1")) (Ze (fC (.str "01")) (Ze (fC (.str "1/0")) (Ze Ybw (Ze (fC (.str "+1")) (Ze (fC (.str "1 2")) (Ze (fC (.str "1/2/3")) (Ze (fC (.str "3/")) Yj)))))))))))
abbrev Ymb:=W2 gIx (Zgv Yl7) (Zd Zbd Ynj (fC (.int 12)))
abbrev Zpu:=fC (.int 4)
abbrev Ygr:=Zy1 Zh7 Z28 (Ze (Zjv 4) Yj)
abbrev Znb:=Yk 6
abbrev Ymi:=Ze (Zd Jd (Zd Jd Ygr (fC (.str ":"))) Znb) (Ze (Zd Jd (Zd Jd Ygr (fC (.str " : "))) Znb) (Ze Znb (Ze (Zd Jd Z23 Znb) Yj)))
def Zai:FS :=
 (Z3 (wE Ykd (Zbf 4))
  (Z3 (wE (Zd Zbd Zoq (Zdm Zl7 (Ze (Zjv 4) Yj))) (Ju 5))
  (Z3 (Y4 (tV (Zd gEq Zhs Zhr))
  (Zy3 4 Ylf Zhv)
  fNx)
  (Z3 (Y4 (tV (Zd gEq Zhs Za5))
  (wE Yn4 (Zbf 4))
  fNx)
  (Z3 (Y4 (tV (Zd gEq Zhs Zpa))
  (wE Yl9 (Zbf 4))
  fNx)
  (Z3 (wE (Z7 Zbz Ztk) Zss)
  (Z3 (Y4 (tV (Zd gEq Zhs Yf5))
  (wE Ymb Zss)
  fNx)
  (Z3 (Y4 (tV (Zd gEq Zhs Zpu))
  (wE (W2 gIx (Zgv Ymi) (Zd Zbd Zoq Zpu)) W7)
  fNx)
  (wE (Zd Jd (Zd Jd Ygr Z23) Znb) W7)))))))))
def Ww:FD:=J2 4 7 Zai
abbrev Zx8:=Ju 4
abbrev Yj9:=Z22 Wj oN (oI Zoq)
abbrev Yln:=Z22 Wj (oI (Zd Zgy Zoq Za5)) oN
abbrev Ynm:=Ze (Zd Jd Wj Z6c) (Ze (Zd Jd Z6c Wj) (Ze (Zd Jd Wj (fC (.str "\n"))) (Ze (Zd Jd Z28 Wj) (Ze (Zd Jd Wj Z28) (Ze (Zd Jd Wj (fC (.str ";"))) (Ze (Zd Jd Wj (fC (.str "; none"))) Yj))))))
abbrev Yf3:=W2 gIx Zhs Yf5
abbrev Ygm:=fC (.int 7)
abbrev Yg8:=gTp 2 (gCn Zs8 (gCn (gNm 1) gNl))
abbrev Ym0:=Zd Jd (Zd Jd (Zy1 Zh7 Z28 (Ze Ykd Yj)) Z23) (Z7 Zbz Ztk)
abbrev Ztm:=Zjv 7
abbrev Ynv:=Ze (fC (.str "None")) (Ze (fC (.str "none ")) (Ze (fC (.str " none")) (Ze (fC (.str "none; none")) (Ze Ybw Yj))))
abbrev Z5k:=fC (.int 5)
abbrev Yjz:=Zdm Zl7 (Ze Ztm Yj)
abbrev Zr5:=Yk 8
abbrev Yhn:=W2 gIx Ztm (Yk 9)
abbrev Ygu:=tV (Zd gEq Zhv Z5k)
abbrev Z87:=fC (.int 6)
abbrev Ygf:=tV (Zd gEq Zhv Z87)
abbrev Yk4:=wE (Zy1 Zh7 Z6c (Ze Ztm Yj)) W7
def Zb6:FS :=
 (Z3 (wE (Zd Zbd (W2 gIx Zhs Zhr) (Zd Zgy Z81 Za5)) (Ju 3))
  (Z3 (wE (W2 Z2n (fC (.str " 0123456789/-+.\n	_a;:")) (Zd Zbd (W2 gIx Zhs Za5) (fC (.int 21)))) Zx8)
  (Z3 (wE (Zd Zbd (W2 gIx Zhs Zpa) Zy2) (Ju 5))
  (Z3 (Y4 (tV (Zd gEq Zhv Zhr))
  (wE (Zd Jd Yj9 Yln) W7)
  fNx)
  (Z3 (Y4 (tV (Zd gEq Zhv Za5))
  (wE (Zd Jd (Zd Jd Yj9 Zpy) (Z22 Wj (oI Zoq) oN)) W7)
  fNx)
  (Z3 (Y4 (tV (Zd gEq Zhv Zpa))
  (wE (Zd Jd (Zd Jd Yj9 Zpy) Yln) W7)
  fNx)
  (Z3 (Y4 (tV (Zd gEq Zhv Yf5))
  (Z3 (wE (Zgv Ynm) Zss)
  (wE (W2 gIx Znb (Zd Zbd Yf3 Ygm)) W7))
  fNx)
  (Z3 (wE (Jq 2 [] (Zg8 Zax) Yg8 Zj6 Ym0) (Zbf 7))
  (Z3 (Y4 (tV (Zd gEq Ztm Zxo))
  (wE (W2 gIx (Zgv Ynv) (Zd Zbd Yf3 Z5k)) W7)
  fNx)
  (Z3 (wE (Zd Zbd Yf3 Yjz) (Ju 8))
  (Z3 (wE (Zd Zbd (W2 gIx Zhs Zpu) Yjz) (Ju 9))
  (Z3 (Y4 (tV (Zd gEq Zhv Zpu))
  (Z3 (wE (W2 gIx Ztm Zr5) (Zux 10))
  (Z3 (Zy3 7 (Zxg Yhn) Zr5)
  (Zy3 7 (Yk 10) (Yk 9))))
  (Y4 Ygu
  (wE (Zgz (W2 Zp1 (W2 Zp1 (fSl Ztm oN (oI Zr5)) (Zgv (Ze Yhn Yj))) (fSl Ztm (oI Zr5) oN))) (Zbf 7))
  (Y4 Ygf
  (wE (Zgz (W2 Zp1 (fSl Ztm oN (oI Zr5)) (fSl Ztm (oI (Zd Zgy Zr5 Za5)) oN))) (Zbf 7))
  (Zy3 7 (Z7 Ww (Ze (W2 gIx (W2 gIx Zax Zr5) Zhr) (Ze (W2 gIx (W2 gIx Zax Zr5) Za5) (Ze (Zd Zbd (W2 gIx Zhs Zpu) Z5k) (Ze (W2 gIx Zhs Z5k) Yj))))) Zr5))))
  Yk4))))))))))))
def W5:FD:=J2 3 11 Zb6
def Zae:FS :=
 (Z3 (Y4 (tV (Zd gEq Wj Zxo))
  (wE Z89 W7)
  fNx)
  (wE (Zy1 Zh7 Z6c (Ze (Jq 2 [] (Zg8 Wj) Yg8 Zj6 Ym0) Yj)) W7))
def Ws:FD:=J2 1 1 Zae
def Zce:FS :=
 (Z3 (wE Zxo (Zbf 3))
  (Z3 (wE Wj Zx8)
  (Z3 (Zf7 (iRa Ztk) (gNm 5)
  (Z3 (wE (Zd Zbd (Zd Zmh (Zd Zgy (Zd Zgy Wj (Zd Zmh (fC (.int 977)) Zhv)) Za5) (fC (.int 48271))) (fC (.int 2147483647))) Zss)
  (Z3 (wE (Zd Zbd (Zd Zmh Znb Znb) (fC (.int 2147483629))) Zss)
  (Z3 (wE (Zd J4 (Zd Zbd (Zd Zmh (Zd Zgy Znb (Zd Zmh (fC (.int 40692)) (Zd Zgy Zhv Yf5))) (fC (.int 69621))) (fC (.int 2147483423))) Zz2) Zss)
  (Z3 (Y4 (tV (Zd gGe Wj (Zd Zmf Zy2 (fC (.int 18)))))
  (wE Zpy Zss)
  fNx)
  (Z3 (Jp 3 (Zd Zbd Znb Zhs))
  (wE (Zd J4 Zpy Zhs) Zx8)))))))
  (Zhe 3))))
def Jb:FD:=J2 3 7 Zce
abbrev Yho:=fC (.str "1: 1")
abbrev Yl4:=Ze Ybw (Ze Z28 (Ze (fC (.str ";")) (Ze (fC (.str ":")) (Ze (fC (.str "1")) (Ze (fC (.str "1:")) (Ze (fC (.str "1:1")) (Ze Yho (Ze (fC (.str "1 : 1")) (Ze (fC (.str "1: 1;")) (Ze (fC (.str "1: 1; ")) (Ze (fC (.str "1: 1;2: 1")) (Ze (fC (.str "1: 1,2: 1")) Yj))))))))))))
abbrev Ync:=Ze (fC (.str "1 2: 1")) (Ze (fC (.str "2 1: 1")) (Ze (fC (.str "1 1: 1")) (Ze (fC (.str "1  2: 1")) (Ze (fC (.str " 1: 1")) (Ze (fC (.str "1: 1 ")) (Ze (fC (.str "1: 1/2")) (Ze (fC (.str "1: 2/4")) (Ze (fC (.str "1: 0")) (Ze (fC (.str "1: -1")) Yj)))))))))
abbrev Yn9:=Ze (fC (.str "2: 1; 1: 1")) (Ze (fC (.str "1: 1; 1: 2")) (Ze (fC (.str "1: 1; 1 2: 1")) (Ze (fC (.str "1 2: 1; 1: 1")) (Ze (fC (.str "0: 1")) (Ze (fC (.str "0 1: 1")) (Ze (fC (.str "None")) (Ze (fC (.str "NONE")) Yj)))))))
abbrev Ylb:=Ze (fC (.str "1: 1\n2: 1")) (Ze (Zd Jd (fC (.str "1: ")) (Zd Zpl (fC (.str "9")) Z3d)) (Ze (Zd Jd Yho (Zd Zpl Z83 Z3d)) (Ze (fC (.str "1: none")) (Ze (fC (.str "none: 1")) Yj))))
def Zee:FS :=
 (Z3 (wE (Zgv Yl4) (Ju 1))
  (Z3 (wE (W2 Zp1 Zax (Zgv Ync)) (Ju 1))
  (Z3 (wE (W2 Zp1 Zax (Zgv Yn9)) (Ju 1))
  (Z3 (wE (W2 Zp1 Zax (Zgv Ylb)) (Ju 1))
  (wE (W2 gIx Zax (Zd Zbd Wj Z1d)) W7)))))
def Zap:FD:=J2 1 2 Zee
abbrev Ymu:=tV (Zd gEq (W2 Z2n Wj Zhr) Z83)
abbrev Yl3:=tAn (tV (Zd gGt Z81 Za5)) Ymu
def Zao:FS :=
 (Z3 (Y4 (tO (tV (Zd gEq Wj Ybw)) (tO (tV (Zd gGt Z81 Z3d)) Yl3))
  (wE Z88 W7)
  fNx)
  (Z3 (Zf7 (Yfx Wj) (gNm 1)
  (Y4 Ylo
  (wE Z88 W7)
  fNx))
  (wE (Zdm Zs6 Zmj) W7)))
def Yh:FD:=J2 1 2 Zao
abbrev Ygh:=Zd gNe Zax Zhr
abbrev Ygw:=Ze Zax (Ze (Zd Zbd Wj Zax) Yj)
def Zco:FS :=
 (Z3 (Zkl (tV Ygh) (Zy0 0 1 Ygw))
  (wE (Zdm Z8t Zmj) W7))
def Wg:FD:=J2 2 2 Zco
abbrev Yiw:=tV (Zd gEq Z1d Zpa)
abbrev Yly:=tO (tV (Zd gGt Z1d Zpa)) (tO (tV (Zd gLt Zhs Zhr)) (tV (Zd gNe (Z7 Wg Z3v) Za5)))
def Zcd:FS :=
 (Z3 (wE Yg4 (Ju 1))
  (Z3 (wE (Z7 Yh (Ze Z49 Yj)) (Ju 2))
  (Z3 (wE Za5 (Ju 3))
  (Z3 (Y4 Yiw
  (Z3 (wE (Z7 Yh Yeu) (Ju 3))
  (Y4 (tV (Zd gLt Zoq Zpa))
  Zyb
  fNx))
  fNx)
  (Z3 (Y4 Yly
  Zyb
  fNx)
  (wE (Zjp Z3v) W7))))))
def Jc:FD:=J2 1 4 Zcd
abbrev Ykg:=wE (Zse Zda Zoq (Ze Z23 Yj)) Zx8
abbrev Yc8:=Ze Zpy Yj
abbrev Yhv:=tV (Zd gNe (Zdm Zl7 Yc8) Zpa)
abbrev Ygt:=Jq 1 [] (Zg8 (Zse Zda (W2 gIx Zpy Zhr) (Ze Z28 Yj))) Zs8 Zj6 (Z7 Yh Zmj)
abbrev Ygx:=Z7 Jc (Ze (W2 gIx Zpy Za5) Yj)
abbrev Yjj:=tV (Zd gIs Znb Zop)
abbrev Yk8:=tV (Zd gLt (W2 gIx Znb Zhr) Za5)
abbrev Ykv:=tO Yk8 (tO (tV (Zd gLt (Zdm Zys Z6m) Za5)) (tO (tV (Zd gGe (Zdm Zv4 Z6m) Wj)) (tV (Zd gNe Zhv (Zdj Z6m)))))
abbrev Ykh:=W2 gIx (W2 gIx (Zjv 2) Z88) Zhr
def Zbs:FS :=
 (Z3 (Y4 (tV (Zd gGt Wj Zy2))
  Zyb
  fNx)
  (Z3 (Y4 (tV (Zd gEq Zax Z89))
  (wE Zxo W7)
  fNx)
  (Z3 (wE Zxo (Zbf 2))
  (Z3 (Zf7 (Zg8 (Zse Zda Zax (Ze Z6c Yj))) (gNm 3)
  (Z3 Ykg
  (Z3 (Y4 Yhv
  Zyb
  fNx)
  (Z3 (wE Ygt (Ju 5))
  (Z3 (wE Ygx Zss)
  (Z3 (Y4 (tO Yjj Ykv)
  Zyb
  fNx)
  (Z3 (Y4 (tAn (tV (Zd gNe (Zjv 2) Zxo)) (tV (Zd Z85 Ykh Zhv)))
  Zyb
  fNx)
  (Jp 2 (Zjp (Ze Zhv (Ze Znb Yj)))))))))))
  (Zhe 2)))))
def Zbu:FD:=J2 2 7 Zbs
def Zbl:FS :=
 (Z3 (wE (Z7 Wg (Ze Wj Ztk)) (Ju 2))
  (wE (Zjp (Ze (Zd J4 Wj Zhs) (Ze (Zd J4 Zax Zhs) Yj))) W7))
def Wn:FD:=J2 2 3 Zbl
abbrev Z37:=Ze Za5 Yj
abbrev Yhc:=Zd Zbd (Zd Zmf Wj Zpu) (Zd Zmf Zy2 Z3d)
def Zdx:FS :=
 (Z3 (wE (Zd Zbd Wj Zz2) (Ju 1))
  (Z3 (wE (Zd J4 Wj Zz2) (Ju 0))
  (Z3 (Y4 (tV (Zd gEq Zax Zhr))
  (wE (Zjp (Ze Zhr Z37)) W7)
  fNx)
  (Z3 (Y4 (tV (Zd gLt Zax Zpu))
  (wE (Zjp (Ze (Zd Zbd Wj (fC (.int 31))) Z37)) W7)
  fNx)
  (Z3 (Y4 (tV (Zd gLt Zax Z87))
  (wE (Z7 Wn (Ze (Zd Zbd Wj (fC (.int 41))) (Ze (Zd Zgy Za5 (Zd Zbd (Zd J4 Wj (fC (.int 41))) (fC (.int 12)))) Yj))) W7)
  fNx)
  (Z3 (Y4 (tV (Zd gEq Zax Z87))
  (wE (Zjp (Ze Yhc Z37)) W7)
  fNx)
  (wE (Z7 Wn (Ze Yhc (Ze (Zd Zgy Za5 (Zd Zbd (Zd J4 (Zd Zmf Wj Zpu) Ygm) (Zd gSb (Zd Zmf Zy2 Z3d) Za5))) Yj))) W7)))))))
def J7:FD:=J2 1 2 Zdx
abbrev Yl8:=tV (Zd gEq (Zd Zbd (Zd J4 Zax (W2 gIx (Zgv (Ze Za5 (Ze Zpa (Ze Zpu (Ze Zz2 (Ze (fC (.int 16)) (Ze (fC (.int 32)) (Ze (fC (.int 64)) (Ze (fC (.int 128)) (Ze (fC (.int 256)) Yj)))))))))) Wj)) Zpa) Za5)
abbrev Ynb:=Z7 J7 (Ze (Zd Zbd (Zd J4 Zoq (fC (.int 512))) (Zd Zmf Zy2 (fC (.int 13)))) Yj)
abbrev Ymg:=tV (Zd gGt (W2 gIx Zhv Zhr) Zhr)
def Jk:FS :=
 (Z3 (wE (Zzv YD) (Zbf 2))
  (Z3 (Zf7 (Zg8 Zax) (gNm 3)
  (Z3 (wE (Jq 1 [3] (iRa (Ze (Zd gSb Wj Za5) Yj)) Zs8 Yl8 (Zd Zgy Wj Za5)) Zx8)
  (Z3 (wE Ynb (Ju 5))
  (Y4 (tAn (tV (Zd gNe Zpy Zxo)) Ymg)
  (Z1h 2 Zhv (fBl Zza Yc8))
  fNx))))
  (Zgt 2 (wE (Jq 1 [2] (Zg8 (fBl (Zn6 kdV ltI) (Ze (fBl Zkm Z2y) Yj))) Zs8 Zj6 (Zr0 (Ze (fBl Zxy Zmj) (Ze (W2 Z16 Zax Wj) Yj)))) W7))))
def Jo:FD:=J2 2 6 Jk
abbrev Yh5:=tV (Zd gLt Zhv Z5k)
abbrev Ybo:=W2 gIx Zoq Ygm
abbrev Yag:=W2 gIx Zoq Zz2
abbrev Yjk:=tV (Zd gEq (Zd Zbd (Zd J4 Yag (fC (.int 64))) Zz2) Z5k)
abbrev Yme:=wE (Zd Zgy (fC (.int 11)) (Zd Zbd (Zd J4 Yag (fC (.int 512))) (fC (.int 30)))) Zss
abbrev Yki:=tV (Zd gEq (Zd Zbd Ybo Zpu) Zhr)
abbrev Yn6:=wE (Z7 Jt (Ze Znb Yc8)) (Yfo (gTp 2 (gCn (gNm 8) (gCn (gNm 9) gNl))))
abbrev Ymx:=wE (Znr (Zd gIs Zr5 Zop) (Zd gEq (Yk 9) (Zjp (Ze Z9z (Ze Z9z (Ze (fC (.bool YF)) Yj)))))) W7
abbrev Yk0:=wE (Znr (Zd gIs (Yk 9) Zop) (Z7 (Zx 6) (Ze Zr5 (Ze (Yk 7) Yj)))) W7
def Zkk:FS :=
 (Z3 (wE (Zd Zgy Zpa (Zd Zbd (Z7 Ys (Ze Wj (Ze Zhr Yj))) (fC (.int 9)))) (Ju 1))
  (Z3 (wE (Z7 Jo (Ze Zax (Ze (fSl Wj (oI Zpa) (oI Zy2)) Yj))) (Ju 2))
  (Z3 (wE (Z7 Jb (Ze (Z7 Ys (Ze Wj Z37)) (Ze (fC (.int 9)) (Ze (Zd Zmf Zy2 Z87) Yj)))) (Ju 3))
  (Z3 (wE (Z7 Ws Z2y) Zx8)
  (Z3 (wE (Zd Zbd (W2 gIx Zoq Z87) Zz2) (Ju 5))
  (Z3 (Y4 Yh5
  (wE (Z7 W5 (Ze Zpy Z3v)) Zx8)
  fNx)
  (Z3 (Y4 Ygu
  (wE (Z7 Zap (Ze Ybo Yj)) Zx8)
  fNx)
  (Z3 (wE (W2 gIx (Zgv (Ze Zax (Ze Zax (Ze Zax (Ze (Zd Zgy Za5 (Zd Zbd (Zd J4 Yag Zpu) Zy2)) Yj))))) (Zd Zbd Yag Zpu)) Zss)
  (Z3 (Y4 Yjk
  Yme
  fNx)
  (Z3 (wE (Z7 Zbu (Ze Znb Yc8)) (Ju 7))
  (Z3 (Y4 (tAn Ygf Yki)
  (Z3 (wE (W2 gIx (Zgv (Ze Zop (Ze Ygm (Ze (Zgv (Ze (Zr0 (Ze (Zgv Z37) (Ze (Zjp (Ze Za5 Z37)) Yj))) Yj)) (Ze (Zgv (Ze Z89 Yj)) (Ze Z9z (Ze (Zjp (Ze Yho Yj)) (Ze (Zzv YF) (Ze Zhr Yj))))))))) (Zd Zbd (Zd J4 Ybo Zpu) Zz2)) Zx8)
  (wE Zop (Ju 7)))
  fNx)
  (Z3 Yn6
  (Z3 (Y4 (tV (Zd gIs (Yk 7) Zop))
  Ymx
  fNx)
  Yk0)))))))))))))
def Zgm:FD:=J2 1 10 Zkk
end My
namespace My
open PySem L2 PySem.Spec
def mkS(l:List Nat):Str:=⟨l.toArray⟩
def dg(n:Nat):List Nat:=(Nat.toDigits 10 n).map Char.toNat
def sgn(i:Int):List Nat:=if i<0 then[45]else[]
def tx(i:Int):List Nat:=sgn i++dg i.natAbs
def Cp(l:List Nat):Prop:=∀c∈l,c<128
def Zis(a b:List Nat):mkS a++mkS b=mkS (a++b):=by
 show Str.mk (a.toArray++b.toArray)=Str.mk (a++b).toArray;rw[List.append_toArray]
def Jm(a:List Nat):(mkS a).length=a.length:=XF ..
def Zk6{a b:List Nat}(h:mkS a=mkS b):a=b:=by
 have:=YW (λs:Str=>s.cps.toList) h;exact this
def Yc2(i:Int):QL (toString i)=mkS (tx i):=by
 rw[Bf];refine YW (λl:List Nat=>Str.mk l.toArray) ?_;unfold tx sgn;cases i with
 | ofNat n=>
  rw[YQ (by exact Int.not_lt.mpr (U3 n))];show(String.ofList (Nat.toDigits 10 n)).toList.map Char.toNat=_;rw[String.toList_ofList];rfl
 | negSucc n=>
  rw[YM (Int.negSucc_lt_zero n)];show("-"++String.ofList (Nat.toDigits 10 (n+1))).toList.map Char.toNat=_;rw[String.toList_append,Qs,String.toList_ofList (l:=Nat.toDigits 10 (n+1))];rfl
def dgc:∀d:Fin 10,(Nat.digitChar d).toNat=48+d:=by decide
def Zeu{n:Nat}(h:n<10):dg n=[48+n]:=by
 unfold dg;rw[Nat.toDigits_of_lt_base h];exact YW (λx=>[x]) (dgc ⟨n,h⟩)
def Zjl{n:Nat}(h:10<=n):dg n=dg (n/10)++[48+n%10]:=by
 unfold dg;rw[Nat.toDigits_of_base_le (!1) h,Qs];exact YW (λx=>_++[x]) (dgc ⟨n%10,Nat.mod_lt _ (!1)⟩)
def Zki{n c:Nat}(h:c∈dg n):48<=c/\c<=57:=by
 induction n using Nat.strongRecOn with
 | ind n ih=>
  by_cases k:n<10
  .rw[Zeu k]at h
   have:=Xm.mp h;omega
  .rw[Zjl (!0)]at h
   rcases X3.mp h with h|h
   .exact ih (n/10) (!0) h
   .have:=Xm.mp h
    omega
def Zpe(n:Nat):dg n≠[]:=by
 by_cases k:n<10
 .rw[Zeu k];intro z;cases z
 .rw[Zjl (!0)];intro z
  exact List.append_ne_nil_of_right_ne_nil _ (Br _ _) z
def Yeh{n:Nat}(h:n<2^400):(dg n).length<=400:=by
 unfold dg;rw[Xf];exact(Nat.length_toDigits_le_iff (!1) (!1)).mpr (X8 h (Nat.pow_le_pow_left (!1) 400))
def Z19{i:Int}(h:Bt 400 i):(tx i).length<=401:=by
 unfold tx sgn;rw[Xw];have:=Yeh h;split
 .rw[U9];omega
 .rw[V1];omega
def Zgr{i:Int}(h:Bt 400 i):Zzu [.int i]=YB (.str (mkS (tx i))):=by
 have c:i.natAbs.log2<1920:=by
  by_cases z:i.natAbs=0
  .rw[z];decide
  .exact(Nat.log2_lt z).mpr (X8 h (Nat.pow_le_pow_right (!1) (!1)))
 show(if i.natAbs.log2<1920 then YB (QD (QL (toString i)))else YC)=_;rw[YM c,Yc2]
def Zc0{a b:List Nat}(h:a.length+b.length<=1000000):Jd (.str (mkS a)) (.str (mkS b))=YB (.str (mkS (a++b))):=by
 show(if(mkS a).length+(mkS b).length<=Xp then YB (QD (mkS a++mkS b))else YC)=_;rw[Jm,Jm,YM (by rw[Qe];omega),Zis]
def Zns{a:List Nat}(h:Cp a):Va (.str (mkS a))=YD:=by
 unfold Va;rw[Vc];have:Xa.strOk (mkS a)=YD:=by
  unfold Xa.strOk;rw[Array.all_eq_true_iff_forall_mem];intro c m;have:=h c (List.mem_toArray.mp m);exact YS (!0)
 rw[this];rfl
def Zey{a b:List Nat}(ha:Cp a)(hb:Cp b):gEq (.str (mkS a)) (.str (mkS b))=YB (.bool (decide (a=b))):=by
 unfold gEq;rw[YM (by rw[Zns ha,Zns hb];rfl)];refine YW (λz=>YB (UG z)) ?_;rw[JT];rw[Bool.eq_iff_iff,ZC,decide_eq_true_eq];exact⟨Zk6,YW mkS⟩
def Z53{a b:List Nat}(ha:Cp a)(hb:Cp b):gNe (.str (mkS a)) (.str (mkS b))=YB (.bool (!decide (a=b))):=by
 unfold gNe;rw[YM (by rw[Zns ha,Zns hb];rfl)];refine YW (λz=>YB (UG (!z))) ?_;rw[JT];rw[Bool.eq_iff_iff,ZC,decide_eq_true_eq];exact⟨Zk6,YW mkS⟩
def Qb(n:Nat)(q:Rat):Prop:=Bt n q.num/\Bt n (q.den:Int)
def btc{n:Nat}{m:Int}(h1:decide (-(2^n)<m)=YD)(h2:decide (m<2^n)=YD):Bt n m:=Bt.of_lt (YX h1) (YX h2)
def Ycv{as:FA}{x y:Xa}(h:EvA as δ [x,y]):Zy0 i j as δ= .nx ((δ.set i (YB (.fz x))).set j (YB (.fz y))):=by
 obtain⟨ts,e1,e2⟩:=h;unfold Zy0;rw[e1];show(match OT.datas ts with|[d,e]=>RS.nx ((δ.set i (YB (.fz d))).set j (YB (.fz e)))|_=>.bad)=_;rw[e2]
def Z6y{t b:Int}(hb:0<b):Vp b (t.fmod b)=Vp t b:=by
 rw[Zfs hb,Int.gcd_comm b,Int.emod_def,Int.gcd_sub_mul_left_left]
def Ziu{t b:Int}(hb:0<b):Told Wg [.int t,.int b] (.int (Vp t b:Int)):=by
 have ht:∀x y:Int,EvT (tV Ygh) [YB (.fz (.int x)),YB (.fz (.int y))] (!decide (y=0)):=λx y=>Yv (Zev Za Zn rfl);have hu:∀x y:Int,y≠0->Zy0 0 1 Ygw [YB (.fz (.int x)),YB (.fz (.int y))]= .nx [YB (.fz (.int y)),YB (.fz (.int (x.fmod y)))]:=λx y hy=>Ycv (Zb Za (Zb (Yp Za Za hy) Zh));obtain⟨z',e⟩:=Zl5 (f1:=λx y z=>[YB (.fz (.int x)),YB (.fz (.int y))]) (f2:=λx y z=>[]) (t:=tV Ygh) (u:=Zy0 0 1 Ygw) (λx y z=>ht x y) (λx y z hy=>⟨YC,hu x y hy⟩) ((t.fmod b).toNat+1) b (t.fmod b) YC (!0) (Yr hb) (!0);have e':whileLoop (tV Ygh) (Zy0 0 1 Ygw) ((t.fmod b).toNat+1+1) [YB (.fz (.int t)),YB (.fz (.int b))]= .nx [YB (.fz (.int (Vp t b:Int))),YB (.fz (.int 0))]:=by
  rw[whileLoop];have h1:=ht t b;unfold EvT at h1;rw[h1];dsimp only;rw[YM (by rw[YT (!0)];rfl),hu t b (!0)];dsimp only;rw[e,Z6y hb]
 exact Z2 rfl<|Zo (Zm5 _ e' (by intro z;cases z)) (Z0 (EvV.cast (Jg (Zb Za Zh) (Zw1 _)) (by rw[V0])))
def Zdw{n:Nat}{t b:Int}(hb:0<b)(hB:Bt n b)(hn:n<=9000:=by decide):Told Wn [.int t,.int b] (frD (Qw t b)):=by
 have eg:(Vp t b:Int)=shr t b:=by unfold shr;rw[YQ (!0)]
 obtain⟨e1,e2⟩:=Yj4 (t:=t) (b:=b) (!0) hB hn _ eg;exact Z2 rfl<|Zo (Zt (Zq (Zb Za (Zb Za Zh)) (Ziu hb))) (Z0 (Zdb (Zb (Zr Za Za e1) (Zb (Zr Za Za e2) Zh)) (show 2<=1000 by decide)))
def at0{q:Rat}(h:δ[i]? =YB (YB (.fz (frD q)))):EvV (W2 gIx (Yk i) Zhr) δ (.int q.num):=Wo (Za h) Zn rfl
def at1{q:Rat}(h:δ[i]? =YB (YB (.fz (frD q)))):EvV (W2 gIx (Yk i) Za5) δ (.int (q.den:Int)):=Wo (Za h) Zn rfl
def Qv(b:Int)(n:Nat)(q:Rat):Prop:=∃x,q=Qw x b/\Bt n x
theorem Qv.zero(b:Int)(n:Nat):Qv b (n+1) 0:=⟨0,(Rat.zero_divInt b).symm,(btc (n:=1) (!1) (!1)).mono (!0)⟩
def Z4f{t b:Int}(hb:b≠0):((Qw t b).den:Int)∣b:=by
 rw[Rat.den_divInt,YQ hb];have:(b.natAbs/b.gcd t:Nat)∣b.natAbs:=Nat.div_dvd_of_dvd (by rw[Int.gcd_eq_natAbs_gcd_natAbs];exact Nat.gcd_dvd_left ..);exact Int.ofNat_dvd_left.mpr this
structure Bot(b:Int):Prop where
 lo:1<=b
 hi:b<=1000000000
def Zxx(c:Int)(m:Nat)(hm:m<=1000){top:Int}(h0:0<top)(h1:top<18446744073709551616):∃vs:List Int,Told Jb [.int c,.int m,.int top] (Zw vs)/\vs.length=m/\∀v∈vs,0<=v/\v<top:=by
 have big:(decide (0<top)&&decide (top<18446744073709551616))=YD:=by rw[YS h0,YS h1];rfl
 have key:∃d,Told Jb [.int c,.int m,.int top] d/\∃vs,d=Zw vs/\vs.length=m/\∀v∈vs,0<=v/\v<top:=by
  refine Zmi rfl<|Yc Z3w<|Yc (Zt Za)<|Z2o (ds:=Zro 0 m) (λi δ=>∃(vs:List Int) (x:Int) (z1 z2:Option OT),δ=[YB (.fz (.int c)),YB (.fz (.int m)),YB (.fz (.int top)),YB (.nd (vs.map λv=>.fz (.int v))),YB (.fz (.int x)),z1,z2]/\vs.length=i/\∀v∈vs,0<=v/\v<top)
   (Ydr (Zb Za Zh) (!0)) ⟨[],c,YC,YC,rfl,rfl,λ_ m=>nomatch m⟩ (λi d δ hd q=>?_) λδ' q=>?_
  .obtain⟨vs,x,z1,z2,rfl,hl,hv⟩:=q
   obtain⟨hi,rfl⟩:=Zqw hd;have snoc:∀w:Int,∀v∈vs++[w.fmod top],0<=v/\v<top:=λw v hv'=>by
    rcases X3.mp hv' with h|h
    .exact hv v h
    .rw[Xm.mp h];exact⟨Yr h0,Yz h0⟩
   have s0:=Yr (i:=(c+977*(0+(i:Int))+1)*48271) (j:=2147483647) (!1);have s1:=Yz (i:=(c+977*(0+(i:Int))+1)*48271) (j:=2147483647) (!1);have st1:=Zt (i:=6) (δ:=[YB (.fz (.int c)),YB (.fz (.int m)),YB (.fz (.int top)),YB (.nd (vs.map λv=>.fz (.int v))),YB (.fz (.int x)),YB (.fz (.int (0+(i:Int)))),z2]) (Yp (Zow (Za7 (Za7 (Za (i:=0) (d:=.int c)) (Zic (Zn (d:=.int 977)) (Za (i:=5) (d:=.int (0+(i:Int)))))) (Zn (d:=.int 1))) (Zn (d:=.int 48271))) (Zn (d:=.int 2147483647)) (!1));generalize((c+977*(0+(i:Int))+1)*48271).fmod 2147483647=s at s0 s1 st1
   by_cases q:1000000000000000000<=c
   .exact⟨_,_,rfl,.inl (Yt st1 (Yt (Zt (Yp (Zic Za Za (!0)) Zn (!1))) (Yt (Zt (J0 (Yp (Zow (Za7 Za (Zic Zn (Za7 Za Zn))) Zn) Zn (!1)) Zn)) (Yt (Jx (Yv (Zm2 Za (Zr Zn Zn Yll) (YS q))) (Zt Za)) (Yt (Zq3 (vs:=vs) (Yp Za Za (!0)) rfl (!0)) (Zt (J0 Za Za big))))))),_,_,_,_,rfl,by rw[Xw,hl];rfl,snoc _⟩
   .exact⟨_,_,rfl,.inl (Yt st1 (Yt (Zt (Yp (Zic Za Za (!0)) Zn (!1))) (Yt (Zt (J0 (Yp (Zow (Za7 Za (Zic Zn (Za7 Za Zn))) Zn) Zn (!1)) Zn)) (Yt (Zj (Yv (Zm2 Za (Zr Zn Zn Yll) (YT q))) rfl) (Yt (Zq3 (vs:=vs) (Yp Za Za (!0)) rfl (!0)) (Zt (J0 Za Za big))))))),_,_,_,_,rfl,by rw[Xw,hl];rfl,snoc _⟩
  .obtain⟨vs,x,z1,z2,rfl,hl,hv⟩:=q
   rw[Zp5]at hl;exact Yng rfl ⟨vs,Z0o vs,hl,hv⟩
 obtain⟨d,h,vs,rfl,hl⟩:=key;exact⟨vs,h,hl⟩
def q0:frD 0= .tuple [.int 0,.int 1]:=rfl
def Z80(p:List Int)(lo hi:Option Int):List Int:=(p.drop (HT.sIx p.length 0 lo)).take (HT.sIx p.length p.length hi-HT.sIx p.length 0 lo)
def Z0q(p:List Int)(lo hi:Option Int):cutD (p.map Xo) lo hi=(Z80 p lo hi).map Xo:=by
 unfold cutD Z80;rw[Xf,List.map_take,List.map_drop]
def Yjp{e:FE}{r p:List Int}{lo hi:FO}{l h:Option Int}(he:EvV e δ (Zw r))(hl:EvO lo δ l)(hh:EvO hi δ h)(hp:Z80 r l h=p):EvV (fSl e lo hi) δ (Zw p):=hp▸(Z6h (ds:=r.map Xo) he hl hh).cast (by rw[Z0q];rfl)
def Z1u(p:List Int)(a b:Nat):(Z80 p (YB (a:Int)) (YB ((a+b:Nat):Int))).length<=b:=by
 unfold Z80;rw[HT.sIx_nat,HT.sIx_nat,Bq,JK];omega
def Zw7{k c:Int}(h:δ[i]? =YB (YB (.fz (Zw ns))))(e:Ys [Zw ns,.int k]= .ok (.fz (.int c))):EvV (Z7 Ys (Ze (Yk i) (Ze (fC (.int k)) Yj))) δ (.int c):=Zq (Zb (Za h) (Zb Zn Zh)) (.of e (OT.data_fz _))
def tw{a b:Int}:EvV (Zjp (Ze (fC (.int a)) (Ze (fC (.int b)) Yj))) δ (.tuple [.int a,.int b]):=Zdb (Zb Zn (Zb Zn Zh)) (show 2<=1000 by decide)
theorem Zk7{a b:List Int}(h:Zw a=Zw b):a=b:=by
 unfold Zw at h;injection h with h;exact List.map_inj_right (λx y z=>by injection z)|>.mp h
def Z3a(x y:Bool):gNe (.bool x) (.bool y)=YB (.bool (x !=y)):=by cases x<;>cases y<;>rfl
def ctD(p:List Int×Rat):Xa:=.tuple [Zw p.1,frD p.2]
def Zfx(L:List (!11)):Xa:=.list (L.map ctD)
def Zmg(L:List (!11)):OT:=.nd ((L.map ctD).map OT.fz)
def Zi8(L:List (!11)):(Zmg L).data=Zfx L:=by unfold Zmg Zfx;rw[OT.data_nd,OT.map_fz]
def Zxr{t:FT}{a b:FE}{d:Xa}(h:EvT t δ YD)(k:EvV a δ d):EvV (fIf t a b) δ d:=by
 obtain⟨o,e1,e2⟩:=k;exact⟨o,by unfold fIf;unfold EvT at h;rw[h];exact e1,e2⟩
def Zpk{t:FT}{a b:FE}{d:Xa}(h:EvT t δ YF)(k:EvV b δ d):EvV (fIf t a b) δ d:=by
 obtain⟨o,e1,e2⟩:=k;exact⟨o,by unfold fIf;unfold EvT at h;rw[h];exact e1,e2⟩
def Zca(q:Rat):Told Zy [frD q] (.bool YD):=by
 have g1:(Vp q.num (q.den:Int):Int)=1:=by
  rw[Int.gcd_eq_natAbs_gcd_natAbs,V0];exact YW Int.ofNat q.reduced
 have w:∀{δ:Zg} {k i:Int},EvV (W2 gIx Wj (fC (.int k))) δ (.int i)->EvT (tNo (tD (Z7 Ye (Ze (W2 gIx Wj (fC (.int k))) Yj)))) δ YF:=λh=>Jy (p:=YD) (Wy (Zq (Zb h Zh) (.of (Zdp _) (OT.data_fz _))));exact Z2 rfl<|Zo (Zj (Zcj (Jy (p:=YD) (Wy (Zdl Za rfl))) (Yv (Zev (Jg (Zb (Za (d:=frD q)) Zh) (Zkn [.int q.num,.int (q.den:Int)])) Zn rfl))) rfl)<|
  Zo (Zj (Zcj (w (at0 rfl)) (w (at1 rfl))) rfl)<|Z0 (W3 (Zm2 (at1 rfl) Zn (YS (Z1y q))) (Zal (Zq (Zb (at0 rfl) (Zb (at1 rfl) Zh)) (.of (Zbj _ _) (OT.data_fz _))) Zn (by rw[g1];rfl)))
def Zs1(h:∀d∈ds,J9 d=YD):J9 (.list ds)=YD:=by
 rw[J9]
 induction ds with
 | nil=>rfl
 | cons d ds ih=>rw[Ze2,h d (!8),ih λe he=>h e (.tail _ he)];rfl
theorem Zos(p:List Int):Sh 1 (Zw p):=Zle λd m=>by
 obtain⟨x,_,rfl⟩:=Qk.mp m;exact Zuo x
theorem Zgq(p:List Int):J9 (Zw p)=YD:=Zs1 λd m=>by
 obtain⟨x,_,rfl⟩:=Qk.mp m;rfl
theorem Zru(a b:List Int):gNe (Zw a) (Zw b)=YB (.bool (!decide (a=b))):=by
 have s:Va (Zw a)=YD:=((Zos a).shp (!0)).ok;have t:Va (Zw b)=YD:=((Zos b).shp (!0)).ok;unfold gNe;rw[YM (by rw[s,t];rfl)]
 by_cases c:a=b
 .subst c
  rw[Zzq (Zgq a)];simp
 .have:JT (Zw a) (Zw b)=YF:=by
   cases e:JT (Zw a) (Zw b)with
   | false=>rfl
   | true=>exact YZ (Zk7 ((Zqg _ _ (Zgq a) (Zgq b)).mp e)) c
  rw[this,YT c]
def Yga(p:List Y)(lo hi:Option Int):List Y:=(p.drop (HT.sIx p.length 0 lo)).take (HT.sIx p.length p.length hi-HT.sIx p.length 0 lo)
def Zq9{n:Nat}{S:FS}{xs:List Xa}{Q:Xa->Prop}(hl:xs.length=np)(h:EpS S (Yo n xs) (λ_=>False) λd _=>Q d):∃d,Told (J2 np n S) xs d/\Q d:=by
 rcases h with⟨_,_,z⟩|⟨o,δ',e,h⟩
 .exact z.elim
 .exact⟨_,Z2 hl ⟨o,δ',e,rfl⟩,h⟩
def Zrl{g:FG}{t:FT}(xs:List Y)(mk f:Y->Xa)(pr:Y->Bool)(hi:EvI it δ (xs.map mk))(hz:xs.length<=1000000)(hb:blk 2 caps δ=YC::YC::cs)(h:∀x∈xs,∀z0 z1,∃w0 w1,g (mk x) (z0::z1::cs)=YB (w0::w1::cs)/\EvT t (w0::w1::cs) (pr x)/\EvV me (w0::w1::cs) (f x)):EvV (Jq 2 caps it g t me) δ (.list ((xs.filter pr).map f)):=by
 obtain⟨ts,δ',e1,z0,z1,rfl,e2⟩:=Yjf (t:=t) (e:=me) (g:=g) (δ:=YC::YC::cs)
  (λk acc δ=>∃z0 z1,δ=z0::z1::cs/\acc=((xs.take k).filter pr).map f) (xs.map mk) 0 [] ⟨YC,YC,rfl,rfl⟩ (λk d acc δ hd q=>by
   obtain⟨z0,z1,rfl,rfl⟩:=q;rw[Nat.zero_add]at*
   rw[Xq]at hd;cases e:xs[k]? with
   | none=>rw[e]at hd;cases hd
   | some p=>
    rw[e]at hd;cases hd;have et:xs.take (k+1)=xs.take k++[p]:=by rw[Vr,e];rfl
    obtain⟨w0,w1,e1,e2,e3⟩:=h p (Qq e) z0 z1;refine⟨_,e1,Zht e2 ⟨λc=>Zik e3 ⟨_,_,rfl,?_⟩,λc=>⟨_,_,rfl,?_⟩⟩⟩
    .rw[et,List.filter_append,List.filter_cons_of_pos c,List.filter_nil,Qs];rfl
    .rw[et,List.filter_append,List.filter_cons_of_neg (by rw[c];decide),List.filter_nil,JG])
 rw[Nat.zero_add,Xf,VF,List.nil_append]at e2;refine⟨.nd ts,?_,by rw[OT.data_nd,e2]⟩;unfold EvI at hi;unfold Jq;rw[hi];show(if(xs.map mk).length<=Xp then _ else YC)=_;rw[YM (by rw[Xf,Qe];omega),hb,e1];rfl
def Yey{n:Nat}{e j:FE}{d:Xa}{k:Int}(h:EvV e δ d)(hi:δ[i]? =YB (YB (.nd ts)))(hj:EvV j δ (.int k))(hx:ixN ts.length k=YB n):Zy3 i e j δ= .nx (δ.set i (YB (.nd (ts.set n (.fz d))))):=by
 obtain⟨t,e1,e2⟩:=h;obtain⟨u,e3,e4⟩:=hj;rw[Z8a,e1,Wv,hi];show onO (j δ) _=_;rw[e3,Wv,e4];show onX (ixN ts.length k) _=_;rw[hx,e2];rfl
inductive Rch(E:Nat->Nat->Prop)(s:Nat):Nat->Prop
 | refl:Rch E s s
 | step {k m:Nat}:Rch E s k->E k m->Rch E s m
theorem Rch.trans{E:Nat->Nat->Prop}{a b c:Nat}(h:Rch E a b)(k:Rch E b c):Rch E a c:=by
 induction k with
 | refl=>exact h
 | step _ e ih=>exact .step ih e
theorem Rch.symm{E:Nat->Nat->Prop}(hs:∀a b,E a b->E b a){a b:Nat}(h:Rch E a b):Rch E b a:=by
 induction h with
 | refl=>exact .refl
 | step _ e ih=>exact Rch.trans (.step .refl (hs _ _ e)) ih
def Yaw{a b:FE}{x y d:Xa}(ha:EvV a δ x)(hb:EvV b δ y)(h:Z16 x y=YB (.fz d)):EvV (W2 Z16 a b) δ d:=Zkf ha hb h (OT.data_fz _)
def Z61(xs:List Y)(mk f:Y->Xa)(hi:EvI it δ (xs.map mk))(hz:xs.length<=1000000)(hb:blk 1 caps δ=YC::cs)(h:∀x∈xs,EvV me (YB (.fz (mk x))::cs) (f x)):∃rs,Jq 1 caps it Zs8 Zj6 me δ=YB (.nd rs,δ)/\OT.datas rs=xs.map f:=by
 obtain⟨t,e1,e2⟩:=Zdt xs mk f hi hz hb h;cases t with
 | fz d=>
  unfold Jq at e1;unfold EvI at hi;rw[hi,Xh]at e1;split at e1
  .obtain⟨z,h1,h2⟩:=bs e1
   cases h2
  .cases e1
 | tp ts=>rw[OT.data_tp]at e2;cases e2
 | dc _ _ _=>rw[OT.data_dc]at e2;cases e2
 | nd rs=>
  rw[OT.data_nd,<-datas_map]at e2;injection e2 with e2;exact⟨rs,e1,e2⟩
def Z67{e j:FE}{d y:Xa}{t:Bool}{ks:List KY}{k:KY}(he:EvV e δ d)(hi:δ[i]? =YB (YB (.dc t ks ds)))(hj:EvV j δ y)(hk:Zn4 y=YB k)(ht:Z21 k=t)(hl:ks.length<1000000):Z1h i e j δ= .nx (δ.set i (YB (.dc t (Zn7 k ks) (Zmm k d ks ds)))):=by
 obtain⟨t1,e1,d1⟩:=he;obtain⟨t2,e2,d2⟩:=hj;unfold Z1h;rw[Zgl,e1,Wv];rw[hi];dsimp only;rw[Zgl,e2,Wv,d1,d2];rw[hk];dsimp only;rw[YM ⟨ht,by rw[Qe];omega⟩]
def Ygk:QL "/"=mkS [47]:=by rw[Bf];rfl
def s_0:QL "0"=mkS [48]:=by rw[Bf];rfl
def en(i:Int)(s:List Nat)(n:Nat):Zg:=[YB (.fz (.int i)),YB (.fz (.str (mkS s))),YB (.fz (.int n))]
def shw(p:Int×Int):List Nat:=tx p.1++(if p.2=1 then[]else 47::tx p.2)
def Z18{p:Int×Int}(h:p.2≠1):shw p=tx p.1++[47]++tx p.2:=by
 unfold shw;rw[YQ h,Vg];rfl
def Z5j{p:Int×Int}(h1:Bt 400 p.1)(h2:Bt 400 p.2):Told Yw [prD p] (.str (mkS (shw p))):=by
 have l1:=Z19 h1;have l2:=Z19 h2;refine Z2 rfl<|Zo (Zt (Jg (Zb (Wo (d:=.int p.1) Za Zn rfl) Zh) (Zgr h1))) ?_
 by_cases c:p.2=1
 .have:shw p=tx p.1:=by unfold shw;rw[YM c,JG]
  rw[this];exact Yi (Yu (Yv (Zal (Wo (d:=.int p.2) Za Zn rfl) Zn (YS c))) (Z0 Za))
 .rw[Z18 c]
  refine Zo (Zj (Yv (Zal (Wo (d:=.int p.2) Za Zn rfl) Zn (YT c))) rfl) (Z0 ?_);exact Zr (Zr Za Zn (by rw[Ygk];exact Zc0 (by rw[U9];omega))) (Jg (Zb (Wo (d:=.int p.2) Za Zn rfl) Zh) (Zgr h2)) (Zc0 (by rw[Xw,U9];omega))
def Zo8{e:FE}{d:Xa}(h:EvV e δ d)(hf:Zbh d=YD):wE e (Zux i) δ= .nx (δ.set i (YB (.fz d))):=by
 obtain⟨o,e1,rfl⟩:=h;rw[Zgl,e1,Wv,Zzt,YM hf]
def pl(a b c:Int):OT:=.nd [.fz (.int a),.fz (.int b),.fz (.int c)]
def Z0x(f:Y->Xa)(L:List Y)(lo hi:Option Int):cutD (L.map f) lo hi=(Yga L lo hi).map f:=by
 unfold cutD Yga;rw[Xf,List.map_take,List.map_drop]
def Zz9{p:List Int}(h:0<p.length):gIx (Zw p) (.int (-1))=YB (.fz (.int (p.getD (p.length-1) 0))):=by
 unfold Zw;rw[Zy8];have e:p=p.dropLast++[p.getLast (by intro z;rw[z]at h;simp at h)]:=(List.dropLast_concat_getLast _).symm;have g:p.getD (p.length-1) 0=p.getLast (by intro z;rw[z]at h;simp at h):=by
  rw[List.getLast_eq_getElem,Xu,Xi (!0)];rfl
 rw[g]
 conv=>lhs;rw[e,Qs]
 rw[XC,List.map_nil,Zqv];rfl
def Yat(p:List Y):Yga p (YB 1) YC=p.drop 1:=by
 cases p with
 | nil=>rfl
 | cons x p=>
  unfold Yga;have e1:HT.sIx (x::p).length 0 (YB (1:Int))=1:=by unfold HT.sIx;simp
  have e2:HT.sIx (x::p).length (x::p).length YC=(x::p).length:=rfl;rw[e1,e2];exact List.take_of_length_le (by rw[JK];omega)
def Ris(lt:Y->Y->Bool)(p:List Y):Prop:=∀k x y,p[k]? =YB x->p[k+1]? =YB y->lt x y=YD
def scan2{enc:Y->Xa}{lt:Y->Y->Bool}{p:List Y}{S:FS}{g:FG}{R:Xa->Zg->Prop}{E:Option OT->Option OT->Zg}(hp:∀z z',(E z z')[i]? =YB (YB (.fz (.list (p.map enc)))))(hg:∀x y z z',g (.tuple [enc x,enc y]) (E z z')=YB (E (YB (.fz (enc x))) (YB (.fz (enc y)))))
  (hS:∀x y,x∈p->y∈p->∀N:Zg->Prop,(lt x y=YD->N (E (YB (.fz (enc x))) (YB (.fz (enc y)))))->(lt x y=YF->R (.bool YF) (E (YB (.fz (enc x))) (YB (.fz (enc y)))))->EpS S (E (YB (.fz (enc x))) (YB (.fz (enc y)))) N R)
  (no:¬Ris lt p->∀δ,R (.bool YF) δ) (yes:Ris lt p->∀z z',EpS S' (E z z') (λ_=>False) R) (z z':Option OT):EpS (Z3 (Zf7 (Zmu (Ze (Yk i) (Ze (fSl (Yk i) (oI Za5) oN) Yj))) g S) S') (E z z') (λ_=>False) R:=by
 have ez:EvI (Zmu (Ze (Yk i) (Ze (fSl (Yk i) (oI Za5) oN) Yj))) (E z z') ((p.zip (p.drop 1)).map λq=>.tuple [enc q.1,enc q.2]):=by
  refine Z8j (as:=p.map enc) (bs:=(p.drop 1).map enc) (Za (hp z z')) ((Z6h (ds:=p.map enc) (Za (hp z z')) (Zvq (Zn (d:=.int 1))) Z3j).cast (by rw[Z0x,Yat])) ?_;unfold Zpw;rw[List.zip_map,X6];rfl
 refine Zqa (Zuz (ds:=(p.zip (p.drop 1)).map λq:Y×Y=>.tuple [enc q.1,enc q.2]) (λk δ=>(∃z z',δ=E z z')/\∀j x y,j<k->p[j]? =YB x->p[j+1]? =YB y->lt x y=YD) ez ⟨⟨_,_,rfl⟩,λj _ _ hj=>YZ hj (UT j)⟩ (λk d δ hd q=>?_) λδ' q=>?_)
 .obtain⟨⟨z,z',rfl⟩,hq⟩:=q
  rw[Xq]at hd;cases e:(p.zip (p.drop 1))[k]? with
  | none=>rw[e]at hd;cases hd
  | some xy=>
   rw[e]at hd;cases hd;obtain⟨a,b⟩:=List.getElem?_zip_eq_some.mp e;rw[List.getElem?_drop,Nat.add_comm]at b;refine⟨_,hg _ _ _ _,hS xy.1 xy.2 (Qq a) (Qq b) _ (λl=>⟨⟨_,_,rfl⟩,λj x y hj ha hb=>?_⟩) λl=>no (λr=>?_) _⟩
   .by_cases c:j=k
    .subst c
     rw[a]at ha;rw[b]at hb;cases ha;cases hb;exact l
    .exact hq j x y (!0) ha hb
   .rw[r k _ _ a b]at l;cases l
 .obtain⟨⟨z,z',rfl⟩,hq⟩:=q
  refine yes (λk x y ha hb=>hq k x y ?_ ha hb) z z';have:=(Xk.mp hb).1;rw[Xf,List.length_zip,JK];omega
def Zi5{enc:Y->Xa}{lt:Y->Y->Bool}(hl:∀a b,Z84 (enc a) (enc b)=YB (.bool (lt a b)))(p:List Y):∃b:Bool,Told Y5 [.list (p.map enc)] (.bool b)/\(b=YD↔Ris lt p):=by
 have key:∃d,Told Y5 [.list (p.map enc)] d/\∃b,d= .bool b/\(b=YD↔Ris lt p):=by
  refine Zq9 rfl (scan2 (enc:=enc) (lt:=lt) (p:=p) (E:=λz z'=>[YB (.fz (.list (p.map enc))),z,z']) (λ_ _=>rfl) (λ_ _ _ _=>rfl) (λx y _ _ N h1 h2=>?_) (λn _=>⟨YF,rfl,(!12),λz=>YZ z n⟩) (λr z z'=>Zlt (Zik Zn ⟨YD,rfl,λ_=>r,λ_=>rfl⟩)) YC YC);exact Zxl (Zht (Jy (Yv (Zr (!7) (!13) (hl x y)))) ⟨λc=>Zlt (Zik Zn (h2 (by simpa using c))),λc=>Zwi (h1 (by simpa using c))⟩)
 obtain⟨d,h,b,rfl,hb⟩:=key;exact⟨b,h,hb⟩
def Yfr(a b:Int):Z84 (.int a) (.int b)=YB (.bool (decide (a<b))):=rfl
def Yei(a b:List Int):Z84 (Zw a) (Zw b)=YB (.bool (ltI a b)):=by
 show((YC:Option Xa).or ((Zdd (a.map Xo)).bind _))=_;rw[Zaf,Xh,Zaf,Xh];rfl
def Zqp(n:Int)(p:List Int):Prop:=p≠[]/\Ris (λa b=>decide (a<b)) p/\1<=p.getD 0 0/\p.getD (p.length-1) 0<n
theorem Zj3{p:List Int}(h:Ris (λa b=>decide (a<b)) p):∀d i x y,p[i]? =YB x->p[i+d+1]? =YB y->x<y
 | 0,i,x,y,hx,hy=>YX (h i x y hx hy)
 | d+1,i,x,y,hx,hy=>by
  have l:=(Xk.mp hy).1;obtain⟨z,hz⟩:∃z,p[i+d+1]? =YB z:=⟨_,Xi (!0)⟩;have a:=Zj3 h d i x z hx hz;have b:=YX (h (i+d+1) z y hz hy);have b:z<y:=b;omega
def Zu4{p:List Int}{k:Nat}{x:Int}(h:p[k]? =YB x):p.getD k 0=x:=by rw[Xu,h];rfl
def Z1n{n:Int}{p:List Int}(h:Zqp n p):p.Nodup/\∀x∈p,1<=x/\x<n:=by
 obtain⟨h0,h1,h2,h3⟩:=h;have pos:0<p.length:=Qz.mpr h0;obtain⟨u,hu⟩:∃u,p[0]? =YB u:=⟨_,Xi pos⟩;obtain⟨v,hv⟩:∃v,p[p.length-1]? =YB v:=⟨_,Xi (!0)⟩;rw[Zu4 hu]at h2;rw[Zu4 hv]at h3;refine⟨List.nodup_iff_pairwise_ne.mpr (Q3.mpr λi j hi hj hij=>?_),λx hx=>?_⟩
 .have:=Zj3 h1 (j-i-1) i p[i] p[j] (Xi hi) (by rw[show i+(j-i-1)+1=j by omega];exact Xi hj)
  omega
 .obtain⟨k,hk⟩:=List.getElem?_of_mem hx
  have lk:=(Xk.mp hk).1;constructor
  .by_cases c:k=0
   .subst c;rw[hk]at hu;cases hu;exact h2
   .have:=Zj3 h1 (k-1) 0 u x hu (by rw[show 0+(k-1)+1=k by omega];exact hk)
    omega
  .by_cases c:k=p.length-1
   .subst c;rw[hk]at hv;cases hv;exact h3
   .have:=Zj3 h1 (p.length-2-k) k x v hk (by rw[show k+(p.length-2-k)+1=p.length-1 by omega];exact hv)
    omega
def Zn5(n:Int)(p:List Int):∃b:Bool,Told Jf [.int n,Zw p] (.bool b)/\(b=YD↔Zqp n p):=by
 by_cases c:p.length=0
 .refine⟨YF,Z2 rfl<|Yi<|Yu (Zcj (Jy (p:=YD) (Wy (Zdl (Za (i:=1) (d:=Zw p) rfl) rfl))) (Yv (Zal (Zd3 (Za rfl)) Zn (YS (!0))))) (Z0 Zn),(!12),λz=>YZ (U0.mp c) z.1⟩
 have ne:p≠[]:=λz=>c (by rw[z];rfl);obtain⟨r,Tr,hr⟩:=Zi5 Yfr p;have head:∀{d:Xa},(∀z,Zej Yno [YB (.fz (.int n)),YB (.fz (Zw p)),z] d)->Told Jf [.int n,Zw p] d:=fun{d} hd=>Z2 rfl<|Zo (Zj (Zcj (Jy (p:=YD) (Wy (Zdl (Za (i:=1) (d:=Zw p) rfl) rfl))) (Yv (Zal (Zd3 (Za rfl)) Zn (YT (!0))))) rfl)<|Z3g (ds:=p.map Xo) (λi δ=>∃z,δ=[YB (.fz (.int n)),YB (.fz (Zw p)),z]) (Za8 (!7)) ⟨_,rfl⟩ (λi d δ hd q=>by
  obtain⟨z,rfl⟩:=q;obtain⟨x,_,rfl⟩:=Qk.mp (Qq hd);exact⟨_,_,rfl,.inl (Zj (Jy (p:=YD) (Wy (Zq (Zb (!13) Zh) (.of (Zdp x) (OT.data_fz _))))) rfl),_,rfl⟩) λδ' q=>by
  obtain⟨z,rfl⟩:=q;exact hd z
 have er:∀z,EvV (Z7 Y5 Ztk) [YB (.fz (.int n)),YB (.fz (Zw p)),z] (.bool r):=λz=>Zq (Zb (!7) Zh) Tr;cases r with
 | false=>exact⟨YF,head λz=>Z0 (Zcy (er z)),(!12),λz=>hr.mpr z.2.1⟩
 | true=>
  have a0:∀z,EvV Z49 [YB (.fz (.int n)),YB (.fz (Zw p)),z] (.int (p.getD 0 0)):=λz=>Zoi (!7) (Zn (d:=.int 0)) (!1) (!0)
  by_cases c3:1<=p.getD 0 0
  .refine⟨decide (p.getD (p.length-1) 0<n),head λz=>Z0 (W3 (er z) (W3 (Zm2 (a0 z) Zn (YS c3)) (Zcm (Wo (!7) (Zq1 Zn) (Zz9 (!0))) (!4) rfl))),λz=>⟨ne,hr.mp rfl,c3,YX z⟩,λz=>YS z.2.2.2⟩
  .exact⟨YF,head λz=>Z0 (W3 (er z) (Zcy (Zm2 (a0 z) Zn (YT c3)))),(!12),λz=>YZ z.2.2.1 c3⟩
def WL(n:Int)(L:List (!11)):Prop:=(∀p∈L,Zqp n p.1/\0<p.2.num)/\Ris (λa b:List Int×Rat=>ltI a.1 b.1) L
def Zfl(n:Int)(p:List Int×Rat):∃b:Bool,Told Yb [.int n,ctD p] (.bool b)/\(b=YD↔Zqp n p.1/\0<p.2.num):=by
 obtain⟨r,Tr,hr⟩:=Zn5 n p.1;have head:∀{d:Xa},Zej Yhr [YB (.fz (.int n)),YB (.fz (ctD p))] d->Told Yb [.int n,ctD p] d:=λh=>Z2 rfl<|Zo (Zj (Zcj (Jy (p:=YD) (Wy (Zdl (Za (i:=1) (d:=ctD p) rfl) rfl))) (Yv (Zev (Jg (Zb (Za (i:=1) (d:=ctD p) rfl) Zh) (Zkn [Zw p.1,frD p.2])) Zn rfl))) rfl) h;have e1:EvV Ygp [YB (.fz (.int n)),YB (.fz (ctD p))] (frD p.2):=Wo (Za (i:=1) (d:=ctD p) rfl) (Zn (d:=.int 1)) rfl;have er:=Zq (δ:=[YB (.fz (.int n)),YB (.fz (ctD p))]) (Zb (!4) (Zb (Wo (Za (i:=1) (d:=ctD p) rfl) (Zn (d:=.int 0)) rfl) Zh)) Tr;cases r with
 | false=>exact⟨YF,head (Z0 (Zcy er)),(!12),λz=>hr.mpr z.1⟩
 | true=>exact⟨decide (0<p.2.num),head (Z0 (W3 er (W3 (Zq (Zb e1 Zh) (Zca p.2)) (Zed (Wo e1 (Zn (d:=.int 0)) rfl) Zn rfl)))),λz=>⟨hr.mp rfl,YX z⟩,λz=>YS z.2⟩
def Zjw(n:Int)(L:List (!11))(hl:L.length<=1000):∃b:Bool,Told Wa [.int n,Zfx L] (.bool b)/\(b=YD↔WL n L):=by
 obtain⟨r,Tr,hr⟩:=Zi5 Yei (L.map λp=>p.1);have hr2:r=YD↔Ris (λa b:List Int×Rat=>ltI a.1 b.1) L:=hr.trans ⟨λh k x y hx hy=>h k x.1 y.1 (by rw[Xq,hx];rfl) (by rw[Xq,hy];rfl),λh k x y hx hy=>by
  rw[Xq]at hx hy;cases ex:L[k]? with
  | none=>rw[ex]at hx;cases hx
  | some u=>
   cases ey:L[k+1]? with
   | none=>rw[ey]at hy;cases hy
   | some v=>
    rw[ex]at hx;rw[ey]at hy;cases hx;cases hy;exact h k u v ex ey⟩
 have key:∃d,Told Wa [.int n,Zfx L] d/\∃b,d= .bool b/\(b=YD↔WL n L):=by
  refine Zq9 rfl (Zqa (Zxl (Zht (Jy (p:=YD) (Wy (Zdl (Za (i:=1) (d:=Zfx L) rfl) rfl))) ⟨(λc=>nomatch c),λ_=>Zwi (Zqa (Zuz (ds:=L.map ctD) (λk δ=>(∃z,δ=[YB (.fz (.int n)),YB (.fz (Zfx L)),z])/\∀p∈L.take k,Zqp n p.1/\0<p.2.num) (Za8 (!7)) ⟨⟨_,rfl⟩,λ_ m=>nomatch m⟩ (λk d δ hd q=>?_) λδ' q=>?_))⟩)))
  .obtain⟨⟨z,rfl⟩,hq⟩:=q
   rw[Xq]at hd;cases e:L[k]? with
   | none=>rw[e]at hd;cases hd
   | some p=>
    rw[e]at hd;cases hd;obtain⟨b,Tb,hb⟩:=Zfl n p;refine⟨_,rfl,Zxl (Zht (Jy (Wy (Zq (Zb (!4) (Zb (!13) Zh)) Tb))) ⟨λc=>Zlt (Zik Zn ⟨YF,rfl,(!12),λz=>?_⟩),λc=>Zwi ⟨⟨_,rfl⟩,λt ht=>?_⟩⟩)⟩
    .rw[hb.mpr (z.1 p (Qq e))]at c;cases c
    .rw[Vr,e]at ht
     rcases X3.mp ht with m|m
     .exact hq t m
     .rw[Xm.mp m];exact hb.mp (by simpa using c)
  .obtain⟨⟨z,rfl⟩,hq⟩:=q
   rw[Xf,VF]at hq;refine Zlt (Zik (Zq (Zb (EvV.cast (Zdt (cs:=[]) L ctD (λp=>Zw p.1) (Za8 (!7)) (!0) rfl λp _=>Wo (Za (i:=0) (d:=ctD p) rfl) (Zn (d:=.int 0)) rfl) (y:=.list ((L.map λp=>p.1).map Zw)) ?_) Zh) Tr) ⟨r,rfl,λz=>⟨hq,hr2.mp z⟩,λz=>hr2.mpr z.2⟩);rw[X6];rfl
 obtain⟨d,h,b,rfl,hb⟩:=key;exact⟨b,h,hb⟩
def kA(A:List Int):KY:=.inr (A.map λx=>(.inl x:Key))
def kyA(q:List Int×Int):KY:=kA q.1
def Zvp{A B:List Int}(h:kA A=kA B):A=B:=by
 have:A.map (λx=>(.inl x:Key))=B.map λx=>(.inl x:Key):=Sum.inr.inj h;exact(List.map_inj_right λx y e=>Sum.inl.inj e).mp this
def Ymq(A:List Int):kyD (kA A)= .tuple (A.map Xo):=by
 show Q5 ((A.map _).map Z8s)=_;rw[X6];rfl
def Ych(A:List Int):Zn4 (.tuple (A.map Xo))=YB (kA A):=by rw[<-Ymq];exact Z3k _
def Yjc{A:List Int}{D:List (List Int×Int)}:Zy6 (kA A) (D.map kyA)=YD↔A∈D.map Uh:=by
 unfold Zy6;rw[List.any_map,List.any_eq_true];constructor
 .rintro⟨q,hq,h⟩
  have h:kyA q=kA A:=YX h;rw[<-Zvp h];exact List.mem_map_of_mem hq
 .intro h
  obtain⟨q,hq,rfl⟩:=Qk.mp h;exact⟨q,hq,YS rfl⟩
def Zv6{t:FT}(xs:List Y)(mk f:Y->Xa)(pr:Y->Bool)(hi:EvI it δ (xs.map mk))(hz:xs.length<=1000000)(hb:blk 1 caps δ=YC::cs)(ht:∀x∈xs,EvT t (YB (.fz (mk x))::cs) (pr x))(h:∀x∈xs,pr x=YD->EvV me (YB (.fz (mk x))::cs) (f x)):EvV (Jq 1 caps it Zs8 t me) δ (.list ((xs.filter pr).map f)):=by
 have ch:∀x,∃o:OT,x∈xs->pr x=YD->me (YB (.fz (mk x))::cs)=YB (o,YB (.fz (mk x))::cs)/\o.data=f x:=λx=>by
  by_cases c:x∈xs/\pr x=YD
  .obtain⟨o,e1,e2⟩:=h x c.1 c.2
   exact⟨o,λ_ _=>⟨e1,e2⟩⟩
  .exact⟨.fz .none,λa b=>YZ ⟨a,b⟩ c⟩
 obtain⟨g,hg⟩:=Classical.axiomOfChoice ch;unfold EvI at hi;refine⟨_,Zvd (cs:=cs) xs mk pr g hi (by rw[Qe];omega) hb (λx hx=>ht x hx) λx hx hp=>(hg x hx hp).1,?_⟩;rw[OT.data_nd,X6];refine YW V9 (Qy λx hx=>?_);obtain⟨h1,h2⟩:=List.mem_filter.mp hx;exact(hg x h1 h2).2
def Yjx(p:List Int×Rat):Sh 2 (ctD p):=Z3n λd m=>by
 rcases Xl.mp m with rfl|m
 .exact Zos _
 .rw[Xm.mp m];exact Zm1 [p.2.num,(p.2.den:Int)]
def Z14(L:List (!11)):Sh 3 (Zfx L):=Zle λd m=>by
 obtain⟨p,_,rfl⟩:=Qk.mp m;exact Yjx p
def Zze{f:Y->β}{l m:List β}(h:l.Perm m):∀L:List Y,m=L.map f->∃L1:List Y,L1.Perm L/\l=L1.map f:=by
 induction h with
 | nil=>exact λL e=>⟨[],by rw[List.map_eq_nil_iff.mp e.symm],rfl⟩
 | cons x h ih=>
  intro L e;cases L with
  | nil=>cases e
  | cons y L=>
   injection e with e1 e2;obtain⟨L1,p,e3⟩:=ih L e2;exact⟨y::L1,p.cons y,by rw[e1,e3];rfl⟩
 | swap x y l=>
  intro L e;cases L with
  | nil=>cases e
  | cons a L=>
   cases L with
   | nil=>injection e with _ e;cases e
   | cons b L=>
    injection e with e1 e2;injection e2 with e2 e3;exact⟨b::a::L,.swap a b L,by rw[e1,e2,e3];rfl⟩
 | trans _ _ ih1 ih2=>
  intro L e;obtain⟨L1,p1,e1⟩:=ih2 L e;obtain⟨L2,p2,e2⟩:=ih1 L1 e1;exact⟨L2,p2.trans p1,e2⟩
def Z32:∀{a b c:List Int},ltI a b=YD->ltI b c=YD->ltI a c=YD:=by
 intro a
 induction a with
 | nil=>
  intro b c h1 h2;cases b with
  | nil=>cases h1
  | cons y b=>cases c with
   | nil=>cases h2
   | cons z c=>rfl
 | cons x a ih=>
  intro b c h1 h2;cases b with
  | nil=>cases h1
  | cons y b=>cases c with
   | nil=>cases h2
   | cons z c=>
    unfold ltI at h1 h2|-
    by_cases e1:x=y
    .subst e1
     rw[YM rfl]at h1
     by_cases e2:x=z
     .rw[YM e2]at h2|-;exact ih h1 h2
     .rw[YQ e2]at h2|-;exact h2
    .rw[YQ e1]at h1
     have l1:=YX h1
     by_cases e2:y=z
     .subst e2
      rw[YQ e1];exact h1
     .rw[YQ e2]at h2
      have l2:=YX h2;rw[YQ (!0)];exact YS (!0)
def Z65:∀a:List Int,ltI a a=YF:=by
 intro a
 induction a with
 | nil=>rfl
 | cons x a ih=>unfold ltI;rw[YM rfl];exact ih
def Z8b:∀{a b:List Int},a≠b->ltI a b=YF->ltI b a=YD:=by
 intro a
 induction a with
 | nil=>
  intro b ne h;cases b with
  | nil=>exact YZ rfl ne
  | cons y b=>cases h
 | cons x a ih=>
  intro b ne h;cases b with
  | nil=>rfl
  | cons y b=>
   unfold ltI at h|-
   by_cases e:x=y
   .subst e
    rw[YM rfl]at h|-
    exact ih (λz=>ne (z▸rfl)) h
   .rw[YQ e]at h
    rw[YQ (BL e)];have:=of_decide_eq_false h;exact YS (!0)
def jn(c:Nat):List (!6)->List Nat
 | []=>[]
 | [x]=>x
 | x::y::r=>x++c::jn c (y::r)
def Zpf(x:Str):x=mkS x.cps.toList:=by
 unfold mkS;rw[Array.toArray_toList]
theorem Zpi(c:Nat):∀ps:List (!6),Str.join (mkS [c]) (ps.map mkS)=mkS (jn c ps)
 | []=>rfl
 | [x]=>rfl
 | x::y::r=>by
  show mkS x++mkS [c]++Str.join (mkS [c]) ((y::r).map mkS)=_;rw[Zpi c (y::r),Zis,Zis,Vg];rfl
theorem Zx3(c:Nat):∀ps:List (!6),(jn c ps).length<=(ps.map λp=>p.length+1).sum
 | []=>Xx _
 | [x]=>by show x.length<=x.length+1+0;omega
 | x::y::r=>by
  have:=Zx3 c (y::r);show(x++c::jn c (y::r)).length<=_;rw[Xw,XQ,XC,Ux];omega
theorem Zkj(f:Y->Nat)(k:Nat):∀l:List Y,(∀x∈l,f x<=k)->(l.map f).sum<=l.length*k
 | [],_=>Qp _
 | x::l,h=>by
  have:=Zkj f k l λy m=>h y (.tail _ m);have:=h x (!8);rw[XC,Ux,XQ,Nat.succ_mul];omega
theorem Zvx{c d:Nat}:∀{ps:List (!6)},d∈jn c ps->d=c\/∃p∈ps,d∈p
 | [],h=>nomatch h
 | [x],h=>.inr ⟨x,.head _,h⟩
 | x::y::r,h=>by
  rcases X3.mp (show d∈x++c::jn c (y::r)from h)with h|h
  .exact .inr ⟨x,.head _,h⟩
  .rcases Xl.mp h with h|h
   .exact .inl h
   .exact(Zvx h).imp id λ⟨p,m,q⟩=>⟨p,.tail _ m,q⟩
def Zu3{c:Nat}{ps:List (!6)}(h:(ps.map λp=>p.length+1).sum<=1000000):JoinOk (mkS [c]) (ps.map mkS)=YD:=by
 refine PyProof.Rows.joinOk_of ?_;have e:∀ps:List (!6),((ps.map mkS).map (·.length)).sum+ps.length=(ps.map λp=>p.length+1).sum:=λps=>by
  induction ps with
  | nil=>rfl
  | cons p ps ih=>
   rw[XC,XC,XC,Ux,Ux,XQ,<-ih,Jm];omega
 have:=e ps;rw[Xf];show _+ps.length*1<=_;omega
def Z0c{c:Nat}{ps:List (!6)}(h:(ps.map λp=>p.length+1).sum<=1000000):Zh7 (mkS [c]) [.list (ps.map λp=>.str (mkS p))]=YB (.str (mkS (jn c ps))):=by
 show((Zj1 (ps.map λp=>QD (mkS p))).bind λts=>if JoinOk (mkS [c]) ts=YD then YB (QD (Uz (mkS [c]) ts))else YC)=_;have e:Zj1 (ps.map λp=>QD (mkS p))=YB (ps.map mkS):=by
  have:=Zji (ps.map mkS)
  rwa[X6]at this
 rw[e,Xh,YM (Zu3 h)];unfold Uz;rw[StrLaws.glued_eq_join,Zpi]
def Zvu{g:Str->List Xa->Option Xa}{o:FE}{a:FA}{d:Xa}(ho:EvV o δ (.str z))(ha:EvA a δ ds)(h:g z ds=YB d):EvV (Zy1 g o a) δ d:=by
 obtain⟨t,e1,e2⟩:=ho;obtain⟨ts,e3,e4⟩:=ha;refine⟨.fz d,?_,OT.data_fz d⟩;unfold Zy1;rw[e1,Xh];dsimp only;rw[e2];show((a δ).bind λq=>(g z (OT.datas q.1)).bind λd=>YB (OT.fz d,q.2))=_;rw[e3,Xh];dsimp only;rw[e4,h];rfl
def Ya9{g:Str->List Xa->Option OT}{o:FE}{a:FA}{t0:OT}{d:Xa}(ho:EvV o δ (.str z))(ha:EvA a δ ds)(h:g z ds=YB t0)(hd:t0.data=d):EvV (Zse g o a) δ d:=by
 obtain⟨t,e1,e2⟩:=ho;obtain⟨ts,e3,e4⟩:=ha;refine⟨t0,?_,hd⟩;unfold Zse;rw[e1,Xh];dsimp only;rw[e2];show((a δ).bind λq=>(g z (OT.datas q.1)).bind λd=>YB (d,q.2))=_;rw[e3,Xh];dsimp only;rw[e4,h];rfl
def Ztu{c:Nat}{o a:FE}{ps:List (!6)}(ho:EvV o δ (.str (mkS [c])))(ha:EvV a δ (.list (ps.map λp=>.str (mkS p))))(h:(ps.map λp=>p.length+1).sum<=1000000):EvV (Zy1 Zh7 o (Ze a Yj)) δ (.str (mkS (jn c ps))) :=
 Zvu ho (Zb ha Zh) (Z0c h)
def Yf1:QL " "=mkS [32]:=by rw[Bf];rfl
def Zo3{c:Nat}(h:z=mkS [c]):EvV (fC (.str z)) δ (.str (mkS [c])):=h▸Zn
theorem Zlf:∀(k:Nat) {n:Nat},n<10^(k+1)->(dg n).length<=k+1
 | 0,n,h=>by rw[Zeu (by simpa using h)];exact Xx _
 | k+1,n,h=>by
  by_cases c:n<10
  .rw[Zeu c];show 1<=k+1+1;omega
  .rw[Zjl (!0),Xw]
   have:=Zlf k (n:=n/10) (by rw[Nat.pow_succ]at h;omega);show _+1<=_;omega
def Zym{n:Nat}(h:n≠0):∃d r,dg n=d::r/\49<=d/\d<=57:=by
 induction n using Nat.strongRecOn with
 | _ n ih=>
  by_cases c:n<10
  .exact⟨48+n,[],Zeu c,by omega,by omega⟩
  .obtain⟨d,r,e,h1,h2⟩:=ih (n/10) (!0) (!0)
   exact⟨d,r++[48+n%10],by rw[Zjl (!0),e];rfl,h1,h2⟩
def Zg6(n:Nat):tx (n:Int)=dg n:=by
 unfold tx sgn;rw[YQ (!0)];rfl
def Zvl{n:Nat}(h:(dg n).length<=640):Zs6 [.str (mkS (dg n))]=YB (.int n):=by
 show(if(mkS (dg n)).length<=640 then(intText? (mkS (dg n))).bind λn=>YB (Xo n)else YC)=_;rw[YM (by rw[Jm];exact h),intText_digits (x:=mkS (dg n)) (λc m=>Zki m) (Zpe n) (by rw[Jm];omega)];show YB (Xo ((PySem.NumText.digitsVal (dg n):Nat):Int))=_;unfold dg;rw[PySem.W.KIN.val_back]
def Zqj(d:Y)(r:List Y):atI (d::r) 0=YB d:=by
 unfold atI ixN;rw[YM (!1),YM (!5)];rfl
structure DsQ(q:Rat):Prop where
 n0:0<=q.num
 n1:q.num<10^40
 d1:q.den<10^40
set_option exponentiation.threshold 500
def qtx(q:Rat):List Nat:=shw (q.num,(q.den:Int))
def DsQ.top{q:Rat}(h:DsQ q):∃n:Nat,q.num=(n:Int)/\(dg n).length<=40:=by
 obtain⟨n,e⟩:=QW h.n0;refine⟨n,e,Zlf 39 ?_⟩;have:=h.n1;rw[e]at this;exact Int.ofNat_lt.mp (by simpa using this)
def DsQ.bot{q:Rat}(h:DsQ q):(dg q.den).length<=40:=Zlf 39 h.d1
def DsQ.bn{q:Rat}(h:DsQ q):Bt 400 q.num:=Bt.of_lt (Bc (!1) h.n0) (Int.lt_trans h.n1 (!9))
def DsQ.bd{q:Rat}(h:DsQ q):Bt 400 (q.den:Int):=Bt.of_lt (Bc (!1) (U3 _)) (Int.lt_trans (b:=10^40) (by have:=Int.ofNat_lt.mpr h.d1;simpa using this) (!9))
def Yav{q:Rat}(h:DsQ q):Told Yw [frD q] (.str (mkS (qtx q))):=Z5j (p:=(q.num,(q.den:Int))) h.bn h.bd
def Zpp{q:Rat}(h:DsQ q):∀c∈qtx q,47<=c/\c<=57:=λc m=>by
 obtain⟨n,e,_⟩:=h.top;unfold qtx shw at m;rw[e,Zg6]at m;rcases X3.mp m with m|m
 .have:=Zki m;omega
 .split at m
  .exact nomatch m
  .rcases Xl.mp m with m|m
   .omega
   .rw[Zg6]at m;have:=Zki m;omega
def Zmd{q:Rat}(h:DsQ q):(qtx q).length<=81:=by
 obtain⟨n,e,l⟩:=h.top;have l2:=h.bot;unfold qtx shw;rw[e,Zg6,Zg6];split
 .rw[JG];omega
 .rw[Xw,XQ];omega
def Yfk{e:FE}{d:Xa}(h:EvV e δ d)(hd:Zc2 d=YF):EvV (Zd gIs e Zop) δ (.bool YF):=Zr h Zn (by rw[Ybj,hd])
def Zh1(k:Nat)(i:Int):Told (Zx (k+1)) [.int i,.int i] (.bool YD) :=
 show Told (J2 2 4 (Js (Zx k))) [.int i,.int i] (.bool YD)from Z2 rfl<|Zo (Zj (Wy (Zb0 (Za (d:=.int i)) rfl)) rfl)<|Yi<|Yu (Wy (Zb0 (Za (d:=.int i)) rfl))<|
  Z0 (W3 (Zq (Zb (Za (d:=.int i)) Zh) (Z2 rfl (Z0 (W3 (Zb0 (Za (d:=.int i)) rfl) (Z91 (Zb0 (Za (d:=.int i)) rfl) rfl))))) (Zr Za Za ((Ye7 i i).trans (by rw[YS rfl]))))
def Zfp{k:Nat}{x:Xa}(hx:x= .list ds\/x= .tuple ds)(h:∀d∈ds,Told (Zx k) [d,d] (.bool YD)):Told (Zx (k+1)) [x,x] (.bool YD):=by
 have key:Zhf "bool" x=YF->Zhf "int" x=YF->Zhf "str" x=YF->Zc2 x=YF->Zhm x=YF->Zl7 [x]=YB (.int ds.length)->Z8w [x,x]=YB (Zpw ds ds)->Told (Zx (k+1)) [x,x] (.bool YD):=λh0 h1 h2 h3 hf hl hz=>
  show Told (J2 2 4 (Js (Zx k))) [x,x] (.bool YD)from Z2 rfl<|Zo (Zj (Wy (Zdl Za h0 hf)) rfl)<|Zo (Zj (Wy (Zdl Za h1 hf)) rfl)<|Zo (Zj (Wy (Zdl Za h2 hf)) rfl)<|Zo (Zj (Yv (Yfk Za h3)) rfl)<|
   Zo (Zj (Zcj (Yv (Zr (Zb0 Za hf) (Zb0 Za hf) ((Z3a _ _).trans (by rw[bne_self_eq_false])))) (Yv (Zr (Zb0 Za hf) (Zb0 Za hf) ((Z3a _ _).trans (by rw[bne_self_eq_false]))))) rfl)<|
   Zo (Zj (Yv (Zev (Jg (Zb Za Zh) hl) (Jg (Zb Za Zh) hl) (by rw[YS rfl];rfl))) rfl)<|
   Z3g (ds:=Zpw ds ds) (λi δ=>∃z1 z2,δ=[YB (.fz x),YB (.fz x),z1,z2]) (Zts (Zb Za (Zb Za Zh)) hz) ⟨YC,YC,rfl⟩ (λi d δ hd q=>by
    obtain⟨z1,z2,rfl⟩:=q;obtain⟨a,b,ha,hb,rfl⟩:=Zre hd;rw[ha]at hb;cases hb;exact⟨_,_,rfl,.inl (Zj (Jy (p:=YD) (Wy (Zq (Zb Za (Zb Za Zh)) (h a (Qq ha))))) rfl),_,_,rfl⟩) λδ' _=>Z0 Zn
 rcases hx with rfl|rfl
 .exact key rfl rfl rfl rfl rfl (Z3m ds) rfl
 .exact key rfl rfl rfl rfl rfl (Zkn ds) rfl
def Z0f(k:Nat)(q:Rat):Told (Zx (k+2)) [frD q,frD q] (.bool YD):=Zfp (ds:=[.int q.num,.int (q.den:Int)]) (.inr rfl) λd m=>by
 rcases Xl.mp m with rfl|m
 .exact Zh1 k _
 .rw[Xm.mp m];exact Zh1 k _
def Yfc{t b:Int}(ht:0<=t)(hb:0<b):0<=(Qw t b).num/\(Qw t b).num<=t:=by
 have e:(Qw t b).num=t/(Vp b t:Int):=by
  rw[Rat.num_divInt,Int.sign_eq_one_of_pos hb,Int.one_mul]
 rw[e];exact⟨Int.ediv_nonneg ht (U3 _),Int.ediv_le_self _ ht⟩
def Yem{t b:Int}(hb:0<b):((Qw t b).den:Int)<=b:=Int.le_of_dvd hb (Z4f (!0))
def Zue{t b:Int}(ht:0<=t)(h1:t<10^40)(hb:0<b)(h2:b<10^40):DsQ (Qw t b):=by
 obtain⟨a,c⟩:=Yfc ht hb;refine⟨a,Int.lt_of_le_of_lt c h1,?_⟩;have:=Int.lt_of_le_of_lt (Yem (t:=t) hb) h2;exact Int.ofNat_lt.mp (by simpa using this)
def Zvr{t:Int}(ht:0<=t)(h1:t<10^40):DsQ (t:Rat):=⟨ht,h1,by show 1<10^40;decide +kernel⟩
def Z9k{e:FE}{t:Int}(h:EvV e δ (.int t)):EvV (Zjp (Ze e Z37)) δ (frD (t:Rat)):=Zdb (Zb h (Zb Zn Zh)) (show 2<=1000 by decide)
def Ylg:Zmf (.int 10) (.int 40)=YB (.int 10000000000000000000000000000000000000000):=rfl
def Z7y{v:Int}(h0:0<=v)(h1:v<10000000000000):∃q,Told J7 [.int v] (frD q)/\DsQ q:=by
 have n0:0<=v.fdiv 8:=by rw[Int.fdiv_eq_ediv_of_nonneg _ (!1)];omega
 have n1:v.fdiv 8<10000000000000:=by rw[Int.fdiv_eq_ediv_of_nonneg _ (!1)];omega
 have big:(10000000000000000000000000000000000000000:Int)=10^40:=by decide +kernel
 have fin:∀{q:Rat},DsQ q->Zej _ [YB (.fz (.int (v.fdiv 8))),YB (.fz (.int (v.fmod 8)))] (frD q)->∃q,Told J7 [.int v] (frD q)/\DsQ q:=λhd h=>
  ⟨_,Z2 rfl (Zo (Zt (Yp Za Zn (!1))) (Zo (Zt (J0 (!4) Zn)) h)),hd⟩
 have w0:=Yr (i:=v) (j:=8) (!1);have w1:=Yz (i:=v) (j:=8) (!1);generalize v.fdiv 8=u at n0 n1 fin;generalize v.fmod 8=w at w0 w1 fin;have ep:Zmf (.int u) (.int 4)=YB (.int (u^4)):=Ybx (i:=u) (j:=4) (by unfold Yjt;exact YS ⟨by decide,by decide,by omega⟩);have ev4:∀{z:Option OT},EvV (Zd Zmf Wj Zpu) [YB (.fz (.int u)),z] (.int (u^4)):=Zr (!4) Zn ep;have m40:∀{z:Option OT},EvV Yhc [YB (.fz (.int u)),z] (.int ((u^4).fmod 10000000000000000000000000000000000000000)):=Yp ev4 (Zr Zn Zn Ylg) (!1);have t0:=Yr (i:=u^4) (j:=10000000000000000000000000000000000000000) (!1);have t1:=Yz (i:=u^4) (j:=10000000000000000000000000000000000000000) (!1)
 by_cases c0:w=0
 .subst c0
  exact fin (q:=0) ⟨by decide,by decide +kernel,by decide +kernel⟩ (Yi (Yu (Yv (Zal (!7) Zn (YS rfl))) (Z0 (tw (a:=0) (b:=1)))))
 by_cases c1:w<4
 .refine fin (q:=((u.fmod 31:Int):Rat)) (Zvr (Yr (!1)) (Int.lt_trans (Yz (i:=u) (j:=31) (!1)) (!9))) (Zo (Zj (Yv (Zal (!7) Zn (YT c0))) rfl) (Yi (Yu (Yv (Zcm (!7) Zn (YS c1))) (Z0 ?_))))
  exact Z9k (Yp (!4) Zn (!1))
 by_cases c2:w<6
 .have a0:=Yr (i:=u) (j:=41) (!1)
  have a1:=Yz (i:=u) (j:=41) (!1);have b0:=Yr (i:=u.fdiv 41) (j:=12) (!1);have b1:=Yz (i:=u.fdiv 41) (j:=12) (!1);refine fin (Zue (t:=u.fmod 41) (b:=1+(u.fdiv 41).fmod 12) a0 (Int.lt_trans a1 (!9)) (!0) (Int.lt_of_le_of_lt (b:=12) (!0) (!9))) (Zo (Zj (Yv (Zal (!7) Zn (YT c0))) rfl) (Zo (Zj (Yv (Zcm (!7) Zn (YT c1))) rfl) (Yi (Yu (Yv (Zcm (!7) Zn (YS c2))) (Z0 ?_)))));exact Zq (Zb (Yp (!4) Zn (!1)) (Zb (Za7 Zn (Yp (J0 (!4) Zn) Zn (!1))) Zh)) (Zdw (n:=10) (!0) (Bt.of_lt (!0) (!0)))
 by_cases c3:w=6
 .refine fin (q:=(((u^4).fmod 10000000000000000000000000000000000000000:Int):Rat)) (Zvr t0 (big▸t1)) (Zo (Zj (Yv (Zal (!7) Zn (YT c0))) rfl) (Zo (Zj (Yv (Zcm (!7) Zn (YT c1))) rfl) (Zo (Zj (Yv (Zcm (!7) Zn (YT c2))) rfl) (Yi (Yu (Yv (Zal (!7) Zn (YS c3))) (Z0 (Z9k m40)))))))
 .have b0:=Yr (i:=(u^4).fdiv 7) (j:=10000000000000000000000000000000000000000-1) (!1)
  have b1:=Yz (i:=(u^4).fdiv 7) (j:=10000000000000000000000000000000000000000-1) (!1);refine fin (Zue (t:=(u^4).fmod 10000000000000000000000000000000000000000) (b:=1+((u^4).fdiv 7).fmod (10000000000000000000000000000000000000000-1)) t0 (big▸t1) (!0) (Bc (b:=10000000000000000000000000000000000000000) (!0) (Int.le_of_eq big))) (Zo (Zj (Yv (Zal (!7) Zn (YT c0))) rfl) (Zo (Zj (Yv (Zcm (!7) Zn (YT c1))) rfl) (Zo (Zj (Yv (Zcm (!7) Zn (YT c2))) rfl) (Zo (Zj (Yv (Zal (!7) Zn (YT c3))) rfl) (Z0 ?_)))));exact Zq (Zb m40 (Zb (Za7 Zn (Yp (J0 ev4 Zn) (Z3i (Zr Zn Zn Ylg) Zn) (!1))) Zh)) (Zdw (n:=200) (!0) (Bt.of_lt (Bc (b:=0) (!9) (!0)) (Bc (b:=10000000000000000000000000000000000000001) (!0) (!9))))
def Zl6{q:Rat}(h:DsQ q):Told Zbz [frD q] (.str (mkS (qtx q))):=by
 have s:EvV Ygd (Yo 1 [frD q]) (.str (mkS (tx q.num))):=Jg (Zb (at0 rfl) Zh) (Zgr h.bn)
 by_cases c:q.den=1
 .refine Z2 rfl<|Yi<|Yu (Yv (Zal (at1 rfl) Zn (YS (!0)))) (Z0 (s.cast ?_))
  unfold qtx shw;rw[YM (by rw[c];rfl),JG]
 .have c':((q.den:Int))≠1:=λz=>c (Int.ofNat_inj.mp z)
  have l1:=Zmd h;unfold qtx shw at l1;rw[YQ c',Xw,XQ]at l1;dsimp only at l1;refine Z2 rfl<|Zo (Zj (Yv (Zal (at1 rfl) Zn (YT c'))) rfl) (Z0 ((Zr (Zr s (Zo3 Ygk) (Zc0 (by show _+1<=_;omega))) (Jg (Zb (at1 rfl) Zh) (Zgr h.bd)) (Zc0 (by rw[Xw];show _+1+_<=_;omega))).cast ?_));unfold qtx;rw[Z18 c']
def Zmy{f:Int->Int->Bool}{a b c:FE}{i j k:Int}(ha:EvV a δ (.int i))(hb:EvV b δ (.int j))(hc:EvV c δ (.int k)):EvV (Zft f g a b c) δ (.bool (f i j&&g j k)):=by
 cases h:f i j with
 | true=>
  obtain⟨_,e1,d1⟩:=ha;obtain⟨_,e2,d2⟩:=hb;obtain⟨_,e3,d3⟩:=hc;refine⟨.fz (.bool (g j k)),?_,OT.data_fz _⟩;unfold Zft;rw[e1,Xh,e2,Xh];dsimp only;rw[d1,d2];dsimp only;rw[YM h,e3,Xh,d3]
 | false=>
  obtain⟨_,e1,d1⟩:=ha;obtain⟨_,e2,d2⟩:=hb;refine⟨.fz (.bool YF),?_,OT.data_fz _⟩;unfold Zft;rw[e1,Xh,e2,Xh];dsimp only;rw[d1,d2];dsimp only;rw[YQ (by rw[h];exact XJ)]
def Zh4{g:FG}{S:FS}{Q:Xa->Prop}(I:Nat->Zg->Prop)(hi:EvI it δ ds)(h0:I 0 δ)(turn:∀(i:Nat) (d:Xa) (δ:Zg),ds[i]? =YB d->I i δ->(∃δ1 δ2,g d δ=YB δ1/\S δ1= .nx δ2/\I (i+1) δ2)\/∃δ1,g d δ=YB δ1/\Zfc S δ1 Q)(fin:∀δ',I ds.length δ'->Zfc S' δ' Q):Zfc (Z3 (Zf7 it g S) S') δ Q:=by
 have key:(∃δ',forLoop g S ds δ= .nx δ'/\I ds.length δ')\/∃o δ',forLoop g S ds δ= .rt o δ'/\Q o.data:=by
  clear fin hi
  induction ds generalizing δ I with
  | nil=>exact .inl ⟨δ,rfl,h0⟩
  | cons d ds ih=>
   rcases turn 0 d δ rfl h0 with⟨δ1,δ2,e1,e2,h1⟩|⟨δ1,e1,d',⟨o,δ2,e2,hd⟩,hq⟩
   .rcases ih (δ:=δ2) (λi δ=>I (i+1) δ) h1 λi d' δ hd hi=>turn (i+1) d' δ (by simpa using hd) hi with⟨δ',e3,h3⟩|⟨o,δ',e3,h3⟩
    .refine .inl ⟨δ',?_,h3⟩
     rw[Zav,e1];dsimp only;rw[e2];exact e3
    .refine .inr ⟨o,δ',?_,h3⟩
     rw[Zav,e1];dsimp only;rw[e2];exact e3
   .refine .inr ⟨o,δ2,?_,by rw[hd];exact hq⟩
    rw[Zav,e1];dsimp only;rw[e2]
 rcases key with⟨δ',e,h⟩|⟨o,δ',e,h⟩
 .exact Yc (Zqs hi e) (fin δ' h)
 .exact Wd ⟨_,⟨o,δ',Zqs hi e,rfl⟩,h⟩
def Z2z{e:FE}{lo hi:FO}{l h:Option Int}(he:EvV e δ (.str z))(hl:EvO lo δ l)(hh:EvO hi δ h)(hz:z.length<=1000000):EvV (Z22 e lo hi) δ (.str (JN z l h)):=by
 obtain⟨t,e1,d1⟩:=he;unfold EvO at hl hh;refine⟨.fz (.str (JN z l h)),?_,OT.data_fz _⟩;unfold Z22;rw[e1,Xh];dsimp only;rw[hl,Xh];dsimp only;rw[hh,Xh];dsimp only;rw[d1];dsimp only;rw[YM (by rw[Qe];omega)]
def Z30{e:FE}{d:Xa}{g:FG}(h:EvV e δ d)(hg:g d δ=YB δ'):wE e (Yfo g) δ= .nx δ':=by
 obtain⟨t,e1,e2⟩:=h;rw[Zgl,e1,Wv];show(match g t.data δ with|some δ'=>RS.nx δ'|none=>.bad)=_;rw[e2,hg]
def Zyf{S h:FS}{xs:List Str}{D:Str}{k:Nat}(e:S δ= .nx δ'):Z5f xs S D k h δ= .nx δ':=by
 unfold Z5f;rw[e]
def Zui(a b:List Int):Z85 (Zw a) (Zw b)=YB (.bool (!ltI a b)):=by
 show(Zdd (a.map Xo)).bind _=_;rw[Zaf,Xh,Zaf,Xh]
def Zz6(L:List (!11)):gNe (Zfx L) (.list [])=YB (.bool (!decide (L=[]))):=by
 have s:Va (Zfx L)=YD:=((Z14 L).shp).ok;unfold gNe;rw[YM (by rw[s];rfl)];cases L with
 | nil=>rfl
 | cons q r=>rfl
theorem Z4l:∀(k:Nat) (w:List Nat),w.length<=k->w≠[]->(∀c∈w,48<=c/\c<=57)->(w=[48]\/w.head? ≠YB 48)->∃n,dg n=w
 | 0,w,h,hn,_,_=>YZ (QV (Nat.le_zero.mp h)) hn
 | k+1,w,h,hn,hc,hh=>by
  obtain⟨u,c,rfl⟩:∃u c,w=u++[c]:=⟨w.dropLast,w.getLast hn,(List.dropLast_concat_getLast hn).symm⟩;have c0:=hc c (Qi _ (!8))
  by_cases hu:u=[]
  .subst hu
   exact⟨c-48,by rw[Zeu (!0)];show[48+(c-48)]=[c];rw[show 48+(c-48)=c by omega]⟩
  .have hd:u.head? ≠YB 48:=by
    obtain⟨x,r,rfl⟩:=Vs hu;rcases hh with hh|hh
    .have:=YW Ui hh
     rw[Xw,XQ]at this;exact YZ this (by show r.length+1+1≠1;omega)
    .exact hh
   obtain⟨a,ea⟩:=Z4l k u (by rw[Xw]at h;exact Nat.le_of_succ_le_succ h) hu (λx m=>hc x (Bp _ m)) (.inr hd);have a0:a≠0:=λz=>by
    rw[z,Zeu (!1)]at ea;rw[<-ea]at hd;exact hd rfl
   refine⟨10*a+(c-48),?_⟩;rw[Zjl (!0),show(10*a+(c-48))/10=a by omega,show 48+(10*a+(c-48))%10=c by omega,ea]
def Yba{m n:Nat}(h:dg m=dg n):m=n:=by
 have key:∀(k m n:Nat),(dg m).length<=k->dg m=dg n->m=n:=by
  intro k
  induction k with
  | zero=>exact λm n h _=>YZ (QV (Nat.le_zero.mp h)) (Zpe m)
  | succ k ih=>
   intro m n l e;rcases Vo m 10 with a|a
   .rcases Vo n 10 with b|b
    .rw[Zeu a,Zeu b]at e
     have:=(QH e).1;omega
    .rw[Zeu a,Zjl b]at e
     have e:=YW Ui e;rw[Xw]at e;have:=Qz.mpr (Zpe (n/10));exact YZ e (by show 1≠_+1;omega)
   .rcases Vo n 10 with b|b
    .rw[Zeu b,Zjl a]at e
     have e:=YW Ui e;rw[Xw]at e;have:=Qz.mpr (Zpe (m/10));exact YZ e (by show _+1≠1;omega)
    .rw[Zjl a,Xw]at l
     rw[Zjl a,Zjl b]at e;have e1:=List.append_inj' e rfl;have:=ih (m/10) (n/10) (Nat.le_of_succ_le_succ l) e1.1;have:=(QH e1.2).1;omega
 exact key _ m n (Xx _) h
def Ja(w:List Nat):Option Nat:=@dite (Option Nat) (∃n,dg n=w/\w.length<=40) (Classical.propDecidable _) (λh=>YB h.choose) λ_=>YC
def Zx1{n:Nat}(h:(dg n).length<=40):Ja (dg n)=YB n:=by
 have e:∃m,dg m=dg n/\(dg n).length<=40:=⟨n,rfl,h⟩;unfold Ja;rw[dif_pos e];exact YW YB (Yba e.choose_spec.1)
def Zok{w:List Nat}{n:Nat}(h:Ja w=YB n):w=dg n/\w.length<=40:=by
 unfold Ja at h;split at h
 .rename_i e
  cases h;exact⟨e.choose_spec.1.symm,e.choose_spec.2⟩
 .cases h
def Zci{w:List Nat}(h:¬∃n,dg n=w/\w.length<=40):Ja w=YC:=dif_neg h
def Zf4:Option Nat->Xa
 | some n=>.int (n:Int)
 | none=>.none
def nv:Option Nat->Int
 | some n=>n
 | none=>-1
def Z70:∀d:Fin 128,(!(!(Q8 ("0123456789" : Str) ⟨#[(d:Nat)]⟩ 0 ("0123456789" : Str).length 1).isEmpty))= !(decide (48<=(d:Nat))&&decide ((d:Nat)<=57)):=by decide +kernel
def Z3r{c:Nat}(h:c<128):Z8z YD (.str ⟨#[c]⟩) (.str "0123456789")=YB (.bool (!(decide (48<=c)&&decide (c<=57)))):=(show Z8z YD (.str ⟨#[c]⟩) (.str "0123456789")=YB (.bool _)from rfl).trans (YW (λb=>YB (UG b)) (Z70 ⟨c,h⟩))
def Zyj{w:List Nat}(h:δ[i]? =YB (YB (.fz (.str (mkS w))))):EvI (Yfx (Yk i)) δ (w.map λc=>.str ⟨#[c]⟩):=by
 unfold EvI Yfx;show Option.bind (Yk i δ) _=_;rw[show Yk i δ=YB (.fz (.str (mkS w)),δ) by rw[Zt7,h,Zwo],Xh];dsimp only;rw[OT.data_fz];rfl
def Zfb{w:List Nat}{e:FE}(h:EvV e δ (.str (mkS w)))(hl:w.length<=100000):EvV (Zdm Zwj (Ze e Yj)) δ (.int (w.length:Int)):=Jg (Zb h Zh) (by
 show(if(mkS w).length<=Xp then YB (Xo ((mkS w).length:Int))else YC)=_;rw[Jm,YM (by rw[Qe];omega)])
def Zwl{w:List Nat}{c:Nat}{r:List Nat}(e:w=c::r)(hl:w.length<=100000):Z2n (.str (mkS w)) (.int 0)=YB (.fz (.str (mkS [c]))):=by
 show(if(mkS w).length<=Xp then(atI (mkS w).cps.toList 0).map λc=>OT.fz (.str ⟨#[c]⟩)else YC)=_;rw[YM (by rw[Jm,Qe];omega),e,show atI (mkS (c::r)).cps.toList 0=YB c from Zqj c r];rfl
def cp1{c:Nat}(h:c<128):Cp [c]:=λx m=>by rw[Xm.mp m];exact h
def Zws{w:List Nat}{c:Nat}(m:c∈w)(h:¬(48<=c/\c<=57)):Ja w=YC:=Zci λ⟨n,e,_⟩=>h (Zki (e▸m))
def Zlm{w:List Nat}(cp:Cp w)(hl:w.length<=100000):Told Za0 [.str (mkS w)] (.bool (Ja w).isSome):=by
 have key:Zfc Zay (Yo 2 [.str (mkS w)]) λd=>d= .bool (Ja w).isSome:=by
  have t1:EvT (tNo (tV (Zft (λi j=>decide (i<=j)) (λi j=>decide (i<=j)) Za5 Z81 Z3d))) (Yo 2 [.str (mkS w)]) (!(decide ((1:Int)<=w.length)&&decide ((w.length:Int)<=40))):=Jy (Yv (Zmy Zn (Zfb (!4) hl) Zn))
  by_cases c:1<=w.length/\w.length<=40
  .rw[YS (!0),YS (!0)]at t1
   refine Yc (Zj t1 rfl) (Zh4 (ds:=w.map λc=>.str ⟨#[c]⟩) (λk δ=>∃z,δ=[YB (.fz (.str (mkS w))),z]/\∀x∈w.take k,48<=x/\x<=57) (Zyj (i:=0) rfl) ⟨YC,rfl,λx m=>by rw[List.take_zero]at m;exact nomatch m⟩ (λk d δ hd q=>?_) λδ' q=>?_)
   .obtain⟨z,rfl,hz⟩:=q
    rw[Xq]at hd;cases e:w[k]? with
    | none=>rw[e]at hd;cases hd
    | some c=>
     rw[e]at hd;cases hd;have mc:=Qq e;have f:=Z3r (cp c mc)
     by_cases d:48<=c/\c<=57
     .rw[YS d.1,YS d.2]at f
      refine .inl ⟨_,_,rfl,Zj (Yv (Zr (!7) Zn f)) rfl,_,rfl,λx m=>?_⟩;rw[Vr,e,Uw]at m;rcases X3.mp m with m|m
      .exact hz x m
      .rw[Xm.mp m];exact d
     .refine .inr ⟨_,rfl,Wu (Yv (Zr (!7) Zn (f.trans ?_))) (Wl Zn ?_)⟩
      .rw[show(decide (48<=c)&&decide (c<=57))=YF by rw[V4,decide_eq_false_iff_not,decide_eq_false_iff_not];omega];rfl
      .rw[Zws mc d];rfl
   .obtain⟨z,rfl,hz⟩:=q
    rw[Xf,VF]at hz;obtain⟨d,r,e⟩:=Vs (Qz.mp c.1);have hd:=hz d (e▸ .head _)
    by_cases w0:w=[48]
    .have s:(Ja w).isSome=YD:=by rw[w0,<-Zeu (n:=0) (!1),Zx1 (!1)];rfl
     exact Wl (Z69 (Zr (!4) Zn (by rw[s_0,Zey cp (cp1 (!1)),YS w0]))) (by rw[s])
    .have h1:gEq (.str (mkS w)) (.str (QL "0"))=YB (.bool YF):=by rw[s_0,Zey cp (cp1 (!1)),YT w0]
     refine Wl (d:=.bool (!decide (d=48))) (Z4z (Zr (!4) Zn h1) (Zr (Zkf (o:=.fz (.str (mkS [d]))) (!4) Zn (Zwl e hl) (OT.data_fz _)) Zn ?_)) ?_
     .rw[s_0,Z53 (cp1 (!0)) (cp1 (!1))]
      exact YW (λb=>YB (UG (!b))) (decide_eq_decide.mpr ⟨λz=>(QH z).1,λz=>by rw[z]⟩)
     .refine YW UG ?_
      by_cases d0:d=48
      .rw[YS d0,Zci]
       .rfl
       .rintro⟨n,en,_⟩
        by_cases n0:n=0
        .subst n0;rw[Zeu (!1)]at en;exact w0 en.symm
        .obtain⟨x,s,ex,h1,h2⟩:=Zym n0
         rw[ex,e]at en;have:=(QH en).1;omega
      .obtain⟨n,en⟩:=Z4l w.length w (Xx _) (by rw[e];exact Br _ _) hz (.inr (by rw[e];exact λz=>d0 (Qo z)))
       rw[YT d0,<-en,Zx1 (by rw[en];exact c.2)];rfl
  .rw[show(decide ((1:Int)<=w.length)&&decide ((w.length:Int)<=40))=YF by rw[V4,decide_eq_false_iff_not,decide_eq_false_iff_not];omega]at t1
   refine Wd (Wu t1 (Wl Zn ?_))
   .rw[Zci]
    .rfl
    .rintro⟨n,en,l⟩
     have:=Qz.mpr (Zpe n);rw[en]at this;exact c ⟨this,l⟩
 obtain⟨d,h,rfl⟩:=Zmi (np:=1) rfl key;exact h
def Zdv{w:List Nat}(cp:Cp w)(hl:w.length<=100000):Told Y9 [.str (mkS w)] (Zf4 (Ja w)):=by
 have t:=Zlm cp hl;cases e:Ja w with
 | none=>
  rw[e]at t;exact Z2 rfl (Z0 (Zpk (Wy (Zq (Zb (!4) Zh) t)) Zn))
 | some n=>
  rw[e]at t;obtain⟨ew,l⟩:=Zok e;exact Z2 rfl (Z0 (Zxr (Wy (Zq (Zb (!4) Zh) t)) (Jg (Zb (!4) Zh) (by rw[ew];exact Zvl (by rw[<-ew];omega)))))
def s_e:QL ""=mkS []:=by rw[Bf];rfl
def Zel{w:List Nat}(cp:Cp w)(hl:w.length<=100000):Told Yh [.str (mkS w)] (.int (nv (Ja w))):=by
 have neg:∀{δ:Zg},EvV Z88 δ (.int (-1)):=Zq1 Zn;have key:Zfc Zao (Yo 2 [.str (mkS w)]) λd=>d= .int (nv (Ja w)):=by
  have e0:gEq (.str (mkS w)) (.str (QL ""))=YB (.bool (decide (w=[]))):=by rw[s_e,Zey (b:=[]) cp (λc m=>nomatch m)]
  by_cases w0:w=[]
  .rw[YS w0]at e0
   refine Wd (Wu (Zcg (Yv (Zr (!4) Zn e0))) (Wl neg ?_));rw[Zci]
   .rfl
   .rintro⟨n,en,_⟩;exact Zpe n (en.trans w0)
  rw[YT w0]at e0;have tE:=Yv (Zr (Za (i:=0) (δ:=Yo 2 [.str (mkS w)]) rfl) Zn e0);obtain⟨d,r,e⟩:=Vs w0;have l1:1<=w.length:=Qz.mpr w0
  by_cases l40:w.length<=40
  case neg=>
   refine Wd (Wu (Zcj tE (Zcg (Yv (Zed (Zfb (!4) hl) Zn (YS (!0)))))) (Wl neg ?_));rw[Zci]
   .rfl
   .rintro⟨n,en,l⟩;exact l40 l
  have tL:EvT (tV (Zd gGt Z81 Z3d)) (Yo 2 [.str (mkS w)]) YF:=Yv (Zed (Zfb (!4) hl) Zn (YT (!0)));have tI:EvT Ymu (Yo 2 [.str (mkS w)]) (decide (d=48)):=Yv (Zr (Zkf (o:=.fz (.str (mkS [d]))) (!4) Zn (Zwl e hl) (OT.data_fz _)) Zn (by
   rw[s_0,Zey (cp1 (cp d (e▸ .head _))) (cp1 (!1))];exact YW (λb=>YB (UG b)) (decide_eq_decide.mpr ⟨λz=>(QH z).1,λz=>by rw[z]⟩)))
  by_cases bad:1<w.length/\d=48
  .rw[YS bad.2]at tI
   refine Wd (Wu (Zcj tE (Zcj tL (Zkb (Yv (Zed (Zfb (!4) hl) Zn (YS (!0)))) tI))) (Wl neg ?_));rw[Zci]
   .rfl
   .rintro⟨n,en,_⟩
    by_cases n0:n=0
    .subst n0
     rw[Zeu (!1)]at en;rw[<-en]at bad;exact YZ bad.1 (!1)
    .obtain⟨x,s,ex,h1,h2⟩:=Zym n0
     rw[ex,e]at en;have:=(QH en).1;omega
  .have tB:EvT Yl3 (Yo 2 [.str (mkS w)]) YF:=by
    by_cases g:1<w.length
    .rw[YT λz=>bad ⟨g,z⟩]at tI
     exact Zkb (Yv (Zed (Zfb (!4) hl) Zn (YS (!0)))) tI
    .exact Zjc (Yv (Zed (Zfb (!4) hl) Zn (YT (!0))))
   refine Yc (Zj (Zcj tE (Zcj tL tB)) rfl) (Zh4 (ds:=w.map λc=>.str ⟨#[c]⟩) (λk δ=>∃z,δ=[YB (.fz (.str (mkS w))),z]/\∀x∈w.take k,48<=x/\x<=57) (Zyj (i:=0) rfl) ⟨YC,rfl,λx m=>by rw[List.take_zero]at m;exact nomatch m⟩ (λk dd δ hd q=>?_) λδ' q=>?_)
   .obtain⟨z,rfl,hz⟩:=q
    rw[Xq]at hd;cases e:w[k]? with
    | none=>rw[e]at hd;cases hd
    | some c=>
     rw[e]at hd;cases hd;have mc:=Qq e;have f:=Z3r (cp c mc)
     by_cases d:48<=c/\c<=57
     .rw[YS d.1,YS d.2]at f
      refine .inl ⟨_,_,rfl,Zj (Yv (Zr (!7) Zn f)) rfl,_,rfl,λx m=>?_⟩;rw[Vr,e,Uw]at m;rcases X3.mp m with m|m
      .exact hz x m
      .rw[Xm.mp m];exact d
     .refine .inr ⟨_,rfl,Wu (Yv (Zr (!7) Zn (f.trans ?_))) (Wl neg ?_)⟩
      .rw[show(decide (48<=c)&&decide (c<=57))=YF by rw[V4,decide_eq_false_iff_not,decide_eq_false_iff_not];omega];rfl
      .rw[Zws mc d];rfl
   .obtain⟨z,rfl,hz⟩:=q
    rw[Xf,VF]at hz;have ok:w=[48]\/w.head? ≠YB 48:=by
     by_cases g:1<w.length
     .exact .inr (by rw[e];exact λz=>bad ⟨g,Qo z⟩)
     .have:r=[]:=by
       rw[e,XQ]at g;exact QV (!0)
      subst this
      by_cases d0:d=48
      .exact .inl (by rw[e,d0])
      .exact .inr (by rw[e];exact λz=>d0 (Qo z))
    obtain⟨n,en⟩:=Z4l w.length w (Xx _) w0 hz ok;refine Wl (d:=.int n) (Jg (Zb (!4) Zh) (by rw[<-en];exact Zvl (by rw[en];omega))) ?_;rw[<-en,Zx1 (by rw[en];exact l40)];rfl
 obtain⟨d,h,rfl⟩:=Zmi (np:=1) rfl key;exact h
def jn2(c d:Nat):List (!6)->List Nat
 | []=>[]
 | [x]=>x
 | x::y::r=>x++c::d::jn2 c d (y::r)
theorem Zl4(c d:Nat):∀ps:List (!6),Str.join (mkS [c,d]) (ps.map mkS)=mkS (jn2 c d ps)
 | []=>rfl
 | [x]=>rfl
 | x::y::r=>by
  show mkS x++mkS [c,d]++Str.join (mkS [c,d]) ((y::r).map mkS)=_;rw[Zl4 c d (y::r),Zis,Zis,Vg];rfl
def Occ(w:List Nat)(c d:Nat):Prop:=∃u v,w=u++c::d::v
theorem Zqb(c d:Nat):∀ps:List (!6),(jn2 c d ps).length<=(ps.map λp=>p.length+2).sum
 | []=>Xx _
 | [x]=>by show x.length<=x.length+2+0;omega
 | x::y::r=>by
  have:=Zqb c d (y::r);show(x++c::d::jn2 c d (y::r)).length<=_;rw[Xw,XQ,XQ,XC,Ux];omega
theorem Zo7{c d z:Nat}:∀{ps:List (!6)},z∈jn2 c d ps->z=c\/z=d\/∃p∈ps,z∈p
 | [],h=>nomatch h
 | [x],h=>.inr (.inr ⟨x,.head _,h⟩)
 | x::y::r,h=>by
  rcases X3.mp (show z∈x++c::d::jn2 c d (y::r)from h)with h|h
  .exact .inr (.inr ⟨x,.head _,h⟩)
  .rcases Xl.mp h with h|h
   .exact .inl h
   .rcases Xl.mp h with h|h
    .exact .inr (.inl h)
    .exact(Zo7 h).imp id (·.imp id λ⟨p,m,q⟩=>⟨p,.tail _ m,q⟩)
def Znw{c d:Nat}{ps:List (!6)}(h:(ps.map λp=>p.length+2).sum<=1000000):Zh7 (mkS [c,d]) [.list (ps.map λp=>.str (mkS p))]=YB (.str (mkS (jn2 c d ps))):=by
 have ok:JoinOk (mkS [c,d]) (ps.map mkS)=YD:=by
  refine PyProof.Rows.joinOk_of ?_;have e:∀ps:List (!6),((ps.map mkS).map (·.length)).sum+ps.length*2=(ps.map λp=>p.length+2).sum:=λps=>by
   induction ps with
   | nil=>rfl
   | cons p ps ih=>
    rw[XC,XC,XC,Ux,Ux,XQ,<-ih,Jm];omega
  have:=e ps;rw[Xf];show _+ps.length*2<=_;omega
 show((Zj1 (ps.map λp=>QD (mkS p))).bind λts=>if JoinOk (mkS [c,d]) ts=YD then YB (QD (Uz (mkS [c,d]) ts))else YC)=_;have e:Zj1 (ps.map λp=>QD (mkS p))=YB (ps.map mkS):=by
  have:=Zji (ps.map mkS)
  rwa[X6]at this
 rw[e,Xh,YM ok];unfold Uz;rw[StrLaws.glued_eq_join,Zl4]
def Ygy:QL "; "=mkS [59,32]:=by rw[Bf];rfl
def Yil:QL ": "=mkS [58,32]:=by rw[Bf];rfl
def Zid{c d:Nat}(h:z=mkS [c,d]):EvV (fC (.str z)) δ (.str (mkS [c,d])):=h▸Zn
def spl(sep l:List Nat):List (!6):=(Ve (mkS l) (mkS sep)).map λz=>z.cps.toList
def Zqn(sep l:List Nat):Ve (mkS l) (mkS sep)=(spl sep l).map mkS:=by
 unfold spl;rw[X6];exact((Qy λx _=>(Zpf x).symm).trans (List.map_id _)).symm
def Zuv(sep l:List Nat):spl sep l≠[]:=λz=>by
 have:=PyProof.Rows.split_pos (mkS l) (mkS sep);unfold spl at z;rw[List.map_eq_nil_iff.mp z]at this;exact YZ this (!1)
def Zqm(c:Nat)(l:List Nat):jn c (spl [c] l)=l:=by
 have e1:=StrLaws.join_split (mkS l) (mkS [c]);rw[Zqn,Zpi]at e1;exact Zk6 e1
def Zly(c d:Nat)(l:List Nat):jn2 c d (spl [c,d] l)=l:=by
 have e1:=StrLaws.join_split (mkS l) (mkS [c,d]);rw[Zqn,Zl4]at e1;exact Zk6 e1
theorem Z17(c:Nat):∀{ps:List (!6)} {p:List Nat},p∈ps->p.Sublist (jn c ps)
 | [x],p,m=>by rw[Xm.mp m];exact List.Sublist.refl _
 | x::y::r,p,m=>by
  show p.Sublist (x++c::jn c (y::r));rcases Xl.mp m with rfl|m
  .exact List.sublist_append_left ..
  .exact((Z17 c m).trans (List.sublist_cons_self ..)).trans (List.sublist_append_right ..)
theorem Zl9(c d:Nat):∀{ps:List (!6)} {p:List Nat},p∈ps->p.Sublist (jn2 c d ps)
 | [x],p,m=>by rw[Xm.mp m];exact List.Sublist.refl _
 | x::y::r,p,m=>by
  show p.Sublist (x++c::d::jn2 c d (y::r));rcases Xl.mp m with rfl|m
  .exact List.sublist_append_left ..
  .exact(((Zl9 c d m).trans (List.sublist_cons_self ..)).trans (List.sublist_cons_self ..)).trans (List.sublist_append_right ..)
theorem Zur(c:Nat):∀ps:List (!6),ps.length<=(jn c ps).length+1
 | []=>Qp _
 | [x]=>by show 1<=_+1;omega
 | x::y::r=>by
  have:=Zur c (y::r);show(y::r).length+1<=(x++c::jn c (y::r)).length+1;simp only[Xw,XQ]at this|-
  omega
theorem Zuc(c d:Nat):∀ps:List (!6),ps.length<=(jn2 c d ps).length+1
 | []=>Qp _
 | [x]=>by show 1<=_+1;omega
 | x::y::r=>by
  have:=Zuc c d (y::r);show(y::r).length+1<=(x++c::d::jn2 c d (y::r)).length+1;simp only[Xw,XQ]at this|-
  omega
structure Tx(N:Nat)(l:List Nat):Prop where
 cp:Cp l
 ln:l.length<=N
theorem Tx.sub{N:Nat}{l p:List Nat}(h:Tx N l)(s:p.Sublist l):Tx N p:=⟨λc m=>h.cp c (s.subset m),XD s.length_le h.ln⟩
def Yf8{N:Nat}{c:Nat}{l:List Nat}(h:Tx N l):(∀p∈spl [c] l,Tx N p)/\(spl [c] l).length<=N+1:=by
 refine⟨λp m=>h.sub (by have:=Z17 c m;rwa[Zqm]at this),?_⟩;have:=Zur c (spl [c] l);rw[Zqm]at this;exact XD this (Uq h.ln)
def Yee{N:Nat}{c d:Nat}{l:List Nat}(h:Tx N l):(∀p∈spl [c,d] l,Tx N p)/\(spl [c,d] l).length<=N+1:=by
 refine⟨λp m=>h.sub (by have:=Zl9 c d m;rwa[Zly]at this),?_⟩;have:=Zuc c d (spl [c,d] l);rw[Zly]at this;exact XD this (Uq h.ln)
def Zg3{sep l:List Nat}{N:Nat}(hs:sep≠[]){o a:FE}(ho:EvV o δ (.str (mkS l)))(ha:EvV a δ (.str (mkS sep)))(h:Tx N l)(hc:(spl sep l).length<=N+1)(hN:N<=100000):EvV (Zse Zda o (Ze a Yj)) δ (.list ((spl sep l).map λp=>.str (mkS p))):=by
 refine Ya9 (t0:=.nd (((spl sep l).map λp=>QD (mkS p)).map OT.fz)) ho (Zb ha Zh) ?_ (by rw[OT.data_nd,OT.map_fz]);show(if Zi4 (mkS l) (mkS sep)=YD then YB (OT.nd (((Ve (mkS l) (mkS sep)).map QD).map OT.fz))else YC)=_;have l0:(sep.length==0)=YF:=by
  have:=Qz.mpr hs;exact beq_eq_false_iff_ne.mpr (!0)
 rw[YM (by
  have:=h.ln;unfold Zi4;rw[Zqn,Jm,Jm,Xf,Qe,l0,YS (!0),YS (!0)];rfl),Zqn,X6,X6,X6]
 rfl
def rd2:Option Nat->Option Nat->Option Rat
 | some n,YB m=>if 2<=m/\Ur n m=1 then YB (Qw n m)else YC
 | _,_=>YC
def rdP:List (!6)->Option Rat
 | [a]=>(Ja a).map λ(n:Nat)=>((n:Int):Rat)
 | [a,b]=>rd2 (Ja a) (Ja b)
 | _=>YC
def rdO(w:List Nat):Option Rat:=rdP (spl [47] w)
def oqD:Option Rat->Xa
 | some q=>frD q
 | none=>.none
def Zp3{d0 d1:Xa}(e:ds=[d0,d1]):Y4 Ymh Zrc fNx (Yo 1 [.tuple ds])= .nx (Yo 1 [.tuple ds]):=by
 subst e;exact Zj (Zcj (Jy (p:=YD) (Wy (Zdl (!4) rfl))) (Yv (Zev (Jg (Zb (Za (i:=0) (d:=.tuple [d0,d1]) rfl) Zh) (Zkn _)) Zn rfl))) rfl
def Z4j(h:ds.length≠2):Told Zy [.tuple ds] (.bool YF) :=
 Z2 rfl<|Yi<|Yu (Zcj (Jy (p:=YD) (Wy (Zdl (!4) rfl))) (Yv (Zev (Jg (Zb (Za (i:=0) (d:=.tuple ds) rfl) Zh) (Zkn _)) Zn (by rw[YT (!0)];rfl)))) (Z0 Zn)
def Zgg:Told Ye [.none] (.bool YF):=Z2 rfl (Z0 (Zcy (Zb0 (Za (i:=0) (d:=.none) rfl) rfl)))
def Zfi(i:Int):Told Ye [.int i] (.bool YD):=.of (Zdp _) (OT.data_fz _)
def Zl3{d0 d1:Xa}:EvV Yfv (Yo 1 [.tuple [d0,d1]]) d0:=Wo (!4) Zn rfl
def Zim{d0 d1:Xa}:EvV Z3o (Yo 1 [.tuple [d0,d1]]) d1:=Wo (!4) Zn rfl
def Znk(d:Xa):Told Zy [.tuple [.none,d]] (.bool YF) :=
 Z2 rfl<|Zo (Zp3 rfl)<|Yi<|Yu (Zcg (Jy (p:=YF) (Wy (Zq (Zb Zl3 Zh) Zgg)))) (Z0 Zn)
def Zu6(n:Int):Told Zy [.tuple [.int n,.none]] (.bool YF) :=
 Z2 rfl<|Zo (Zp3 rfl)<|Yi<|Yu (Zcj (Jy (p:=YD) (Wy (Zq (Zb Zl3 Zh) (Zfi n)))) (Jy (p:=YF) (Wy (Zq (Zb Zim Zh) Zgg)))) (Z0 Zn)
def Z42(n m:Int):Told Zy [.tuple [.int n,.int m]] (.bool (decide (1<=m)&&decide ((Vp n m:Int)=1))):=by
 refine Z2 rfl<|Zo (Zp3 rfl)<|Zo (Zj (Zcj (Jy (p:=YD) (Wy (Zq (Zb Zl3 Zh) (Zfi n)))) (Jy (p:=YD) (Wy (Zq (Zb Zim Zh) (Zfi m))))) rfl) (Z0 ?_)
 by_cases c:1<=m
 .rw[YS c,Bool.true_and]
  exact W3 (Zm2 Zim Zn (YS c)) (Zal (Zq (Zb Zl3 (Zb Zim Zh)) (.of (Zbj _ _) (OT.data_fz _))) Zn rfl)
 .rw[YT c,Bool.false_and]
  exact Zcy (Zm2 Zim Zn (YT c))
theorem Zlv:∀(k n:Nat),(dg n).length<=k->n<10^k
 | 0,n,h=>YZ (QV (Nat.le_zero.mp h)) (Zpe n)
 | k+1,n,h=>by
  rcases Vo n 10 with a|a
  .exact X8 a (XD (!1) (Nat.pow_le_pow_right (!1) (Uq (Qp k))))
  .rw[Zjl a,Xw]at h
   have:=Zlv k (n/10) (Nat.le_of_succ_le_succ h);rw[Nat.pow_succ];omega
def Zxm{n m:Nat}(hm:1<=m)(g:Ur n m=1):(Qw n m).num=(n:Int)/\(Qw n m).den=m:=by
 have e:Qw n m=⟨(n:Int),m,by omega,by rw[V0];exact g⟩:=by
  rw[<-Rat.mk_eq_divInt (num:=(n:Int)) (den:=m) (nz:=by omega) (c:=by rw[V0];exact g)]
 rw[e];exact⟨rfl,rfl⟩
def Z51{n:Nat}(h:(dg n).length<=40):DsQ (((n:Int):Rat)):=by
 have:=Zlv 40 n h;exact⟨U3 n,by have:=Int.ofNat_lt.mpr this;simpa using this,by show 1<10^40;decide +kernel⟩
def Z62{n m:Nat}(hm:1<=m)(g:Ur n m=1)(h:(dg n).length<=40)(k:(dg m).length<=40):DsQ (Qw n m):=by
 obtain⟨e1,e2⟩:=Zxm hm g;have:=Zlv 40 n h;exact⟨by rw[e1];exact U3 n,by rw[e1];have:=Int.ofNat_lt.mpr this;simpa using this,by rw[e2];exact Zlv 40 m k⟩
def rE(w:List Nat)(o:OT):Zg:=[YB (.fz (.str (mkS w))),YB o,YC]
abbrev rS:FS:=Z3 Ylj
  Yl1
def Yd0{w:List Nat}{o:OT}(ho:o.data= .list ds)(hf:Zhc ds=YD)(h:Told Zy [.tuple ds] (.bool YF)):Zej rS (rE w o) .none :=
 Zo (Zo8 (d:=.tuple ds) (Ztf (o:=.fz (.tuple ds)) (Zb (Za6 (i:=1) rfl ho) Zh) rfl (OT.data_fz _)) (by rw[Zbh];exact hf))<|
  Z0 (Zpk (Zjc (Wy (Zq (Zb (!13) Zh) h))) Zn)
def Yl2{w:List Nat}{o:OT}{q:Rat}(cp:Cp w)(ho:o.data= .list [.int q.num,.int (q.den:Int)])(hq:DsQ q):Zej rS (rE w o) (if qtx q=w then frD q else .none):=by
 have cpq:Cp (qtx q):=λc m=>by have:=Zpp hq c m;omega
 refine Zo (Zo8 (d:=frD q) (Ztf (o:=.fz (frD q)) (Zb (Za6 (i:=1) rfl ho) Zh) rfl (OT.data_fz _)) rfl) ?_;have tE:EvT (tV (Zd gEq (Z7 Yw Z2y) Wj)) [YB (.fz (.str (mkS w))),YB o,YB (.fz (frD q))] (decide (qtx q=w)):=Yv (Zr (Zq (Zb (!13) Zh) (Yav hq)) (!4) (Zey cpq cp));have tF:EvT (tD (Z7 Zy Z2y)) [YB (.fz (.str (mkS w))),YB o,YB (.fz (frD q))] YD:=Wy (Zq (Zb (!13) Zh) (Zca q))
 by_cases c:qtx q=w
 .rw[YS c]at tE
  rw[YM c];exact Z0 (Zxr (Zkb tF tE) (!13))
 .rw[YT c]at tE
  rw[YQ c];exact Z0 (Zpk (Zkb tF tE) Zn)
def Z0r(o:Option Nat):Zbh (Zf4 o)=YD:=by cases o<;>rfl
theorem Zm0:∀ps:List (!6),Zhc (ps.map λp=>Zf4 (Ja p))=YD
 | []=>rfl
 | p::ps=>by
  rw[XC,Zhc,Z0r,Zm0 ps];rfl
def Zgn{w:List Nat}(h:Tx 50000 w):Told We [.str (mkS w)] (oqD (rdO w)):=by
 obtain⟨sp,sl⟩:=Yf8 (c:=47) h;have hj:=Zqm 47 w;have hn:=Zuv [47] w;have es:EvV Yg4 [YB (.fz (.str (mkS w))),YC,YC] (.list ((spl [47] w).map λp=>.str (mkS p))):=Zg3 (N:=50000) (Br _ _) (!4) (Zo3 Ygk) h sl (!1);obtain⟨rs,e4,e5⟩:=Z61 (δ:=[YB (.fz (.str (mkS w))),YC,YC]) (caps:=[]) (cs:=[]) (me:=Z7 Y9 Zmj) (spl [47] w) (λp=>.str (mkS p)) (λp=>Zf4 (Ja p)) (Za8 es) (!0) rfl λp m=>Zq (Zb (!4) Zh) (Zdv (sp p m).cp (XD (sp p m).ln (!1)));have nb:∀p∈spl [47] w,∀n,Ja p=YB n->p=dg n/\(dg n).length<=40:=λp _ n e=>by
  obtain⟨e1,e2⟩:=Zok e;exact⟨e1,e1▸e2⟩
 have fin:∀{o:OT} {d:Xa},Y4 Yg5 (Jp 1 Za5) fNx (rE w (.nd rs))= .nx (rE w o)->Zej rS (rE w o) d->Told We [.str (mkS w)] d:=λe k=>Z2 rfl (Zo (Ze1 e4) (Zo e k));unfold rdO;clear es e4;generalize spl [47] w=P at*
 have dl:(OT.nd rs).data= .list (P.map λp=>Zf4 (Ja p)):=by rw[OT.data_nd,<-datas_map,e5]
 have lr:rs.length=P.length:=by have:=YW Ui e5;rwa[Zd1,Xf]at this
 have tl:EvT Yg5 (rE w (.nd rs)) (decide ((P.length:Int)=1)):=Yv (Zal ((Zff (Za6 (i:=1) rfl dl)).cast (by rw[Xf])) Zn rfl)
 match P,hn with
 | [a],_=>
  have ea:Y4 Yg5 (Jp 1 Za5) fNx (rE w (.nd rs))= .nx (rE w (.nd (rs++[.fz (.int 1)]))):=Jx tl (Zv1 (δ:=rE w (.nd rs)) Zn rfl (by rw[lr];exact Qa rfl));have d1:(OT.nd (rs++[.fz (.int 1)])).data= .list [Zf4 (Ja a),.int 1]:=by
   rw[OT.data_nd,Qs,<-datas_map,e5];show V9 ([Zf4 (Ja a)]++[(OT.fz (.int 1)).data])=_;rw[OT.data_fz];rfl
  cases en:Ja a with
  | none=>
   rw[en]at d1;rw[show rdP [a]=YC by show(Ja a).map _=YC;rw[en];rfl];exact fin ea (Yd0 d1 rfl (Znk _))
  | some n=>
   rw[en]at d1;rw[show rdP [a]=YB ((n:Int):Rat) by show(Ja a).map _=_;rw[en];rfl];obtain⟨e1,e2⟩:=nb a (!8) n en;have:=Yl2 (w:=w) (q:=((n:Int):Rat)) h.cp d1 (Z51 e2);rw[YM (by
    have hj:a=w:=hj;rw[<-hj,e1];unfold qtx shw;rw[YM (!2),JG];exact Zg6 n)]at this
   exact fin ea this
 | [a,b],_=>
  have ea:=Zj (S:=Jp 1 Za5) (S':=fNx) (r:=.nx (rE w (.nd rs))) tl rfl;have d1:(OT.nd rs).data= .list [Zf4 (Ja a),Zf4 (Ja b)]:=dl;have hj:a++47::b=w:=hj;show Told _ _ (oqD (rd2 (Ja a) (Ja b)));cases en:Ja a with
  | none=>
   rw[en]at d1;rw[show rd2 YC (Ja b)=YC by cases Ja b<;>rfl];exact fin ea (Yd0 d1 (by cases Ja b<;>rfl) (Znk _))
  | some n=>
   cases em:Ja b with
   | none=>
    rw[en,em]at d1;exact fin ea (Yd0 d1 rfl (Zu6 _))
   | some m=>
    rw[en,em]at d1;obtain⟨e1,e2⟩:=nb a (!8) n en;obtain⟨e3,e6⟩:=nb b (!15) m em;show Told _ _ (oqD (if 2<=m/\Ur n m=1 then YB (Qw n m)else YC))
    by_cases c:1<=m/\Ur n m=1
    .obtain⟨q1,q2⟩:=Zxm c.1 c.2
     have:=Yl2 (w:=w) (q:=Qw n m) h.cp (d1.trans (by rw[q1,q2];rfl)) (Z62 c.1 c.2 e2 e6);have qt:qtx (Qw n m)=if m=1 then dg n else w:=by
      unfold qtx shw;rw[q1,q2,Zg6,Zg6]
      by_cases m1:m=1
      .rw[YM (!0),YM m1,JG]
      .rw[YQ (!0),YQ m1,<-hj,e1,e3]
     by_cases m1:m=1
     .rw[qt,YM m1,YQ (by
       rw[<-hj,e1];intro z;have:=YW Ui z;rw[Xw,XQ]at this;omega)]at this
      rw[show(if 2<=m/\Ur n m=1 then YB (Qw n m)else YC)=YC from YQ (!0)];exact fin ea this
     .rw[qt,YQ m1,YM rfl]at this
      rw[show(if 2<=m/\Ur n m=1 then YB (Qw n m)else YC)=YB (Qw n m)from YM ⟨by omega,c.2⟩];exact fin ea this
    .rw[show(if 2<=m/\Ur n m=1 then YB (Qw n m)else YC)=YC from YQ λz=>c ⟨by omega,z.2⟩]
     have t:=Z42 n m;rw[show(decide (1<=(m:Int))&&decide ((Vp n m:Int)=1))=YF by
      rw[V4,decide_eq_false_iff_not,decide_eq_false_iff_not]
      by_cases z:1<=m
      .refine .inr λg=>c ⟨z,?_⟩
       have g:((Ur n m:Nat):Int)=1:=g;omega
      .exact .inl (!0)]at t
     exact fin ea (Yd0 d1 rfl t)
 | a::b::c::r,_=>
  have ea:=Zj (S:=Jp 1 Za5) (S':=fNx) (r:=.nx (rE w (.nd rs))) (tl.trans (by rw[YT (by simp only[XQ];omega)])) rfl;exact fin ea (Yd0 dl (Zm0 _) (Z4j (by rw[Xf];simp only[XQ];omega)))
abbrev qS2:FS:=Z3 (Y4 Yly
 Zyb
 fNx)
 (wE (Zjp Z3v) W7)
abbrev qS1:FS:=Z3 (Y4 Yiw (Z3 (wE (Z7 Yh Yeu) (Ju 3)) (Y4 (tV (Zd gLt Zoq Zpa)) Zyb fNx)) fNx) qS2
def Zj9{w:List Nat}(h:Tx 50000 w):Told Jc [.str (mkS w)] (oqD (rdO w)):=by
 obtain⟨sp,sl⟩:=Yf8 (c:=47) h;have hn:=Zuv [47] w;have es:EvV Yg4 (Yo 4 [.str (mkS w)]) (.list ((spl [47] w).map λp=>.str (mkS p))):=Zg3 (N:=50000) (Br _ _) (!4) (Zo3 Ygk) h sl (!1);have ln:∀p∈spl [47] w,Told Yh [.str (mkS p)] (.int (nv (Ja p))):=λp m=>Zel (sp p m).cp (XD (sp p m).ln (!1));unfold rdO;generalize spl [47] w=P at*
 have tl:∀{z2 z3:Option OT} {k:Int},EvV Z1d [YB (.fz (.str (mkS w))),YB (.fz (.list (P.map λp=>.str (mkS p)))),z2,z3] (.int (P.length:Int)):=fun{_ _ _}=>(Zff (!7)).cast (by rw[Xf])
 match P,hn with
 | [a],_=>
  have la:=ln a (!8);refine Z2 rfl<|Zo (Zt es)<|Zo (Zt (Zq (Zb (Wo (d:=.str (mkS a)) (!7) Zn rfl) Zh) la))<|Zo (Zt Zn)<|Zo (Zj (Yv (Zal (tl (k:=0)) Zn rfl)) rfl) ?_;cases en:Ja a with
  | none=>
   rw[show rdP [a]=YC by show(Ja a).map _=YC;rw[en];rfl];exact Yi (Yu (Zcj (Yv (Zed (tl (k:=0)) Zn rfl)) (Zcg (Yv (Zcm (i:=-1) ((!13).cast rfl) Zn rfl)))) (Z0 Zn))
  | some n=>
   rw[show rdP [a]=YB ((n:Int):Rat) by show(Ja a).map _=_;rw[en];rfl];exact Zo (Zj (Zcj (Yv (Zed (tl (k:=0)) Zn rfl)) (Zcj (Yv (Zcm (i:=(n:Int)) ((!13).cast rfl) Zn (YT (!0)))) (Yv (Zev (Zq (Zb ((!13).cast (show _=Xo (n:Int)from rfl)) (Zb (!16) Zh)) (Ziu (b:=1) (!1))) Zn (by rw[Int.gcd_one];rfl))))) rfl) (Z0 (Zdb (Zb ((!13).cast (show _=Xo (n:Int)from rfl)) (Zb (!16) Zh)) (Qa rfl)))
 | [a,b],_=>
  have la:=ln a (!8);have lb:=ln b (!15);have pre:∀{d:Xa},Zej qS1 [YB (.fz (.str (mkS w))),YB (.fz (.list [.str (mkS a),.str (mkS b)])),YB (.fz (.int (nv (Ja a)))),YB (.fz (.int 1))] d->Told Jc [.str (mkS w)] d:=λk=>Z2 rfl (Zo (Zt es) (Zo (Zt (Zq (Zb (Wo (d:=.str (mkS a)) (!7) Zn rfl) Zh) la)) (Zo (Zt Zn) k)));refine pre ?_;show Zej _ _ (oqD (rd2 (Ja a) (Ja b)));have t2:EvT Yiw [YB (.fz (.str (mkS w))),YB (.fz (.list [.str (mkS a),.str (mkS b)])),YB (.fz (.int (nv (Ja a)))),YB (.fz (.int 1))] YD:=Yv (Zal (tl (k:=0)) Zn rfl);have s3:wE (Z7 Yh Yeu) (Ju 3) [YB (.fz (.str (mkS w))),YB (.fz (.list [.str (mkS a),.str (mkS b)])),YB (.fz (.int (nv (Ja a)))),YB (.fz (.int 1))]= .nx [YB (.fz (.str (mkS w))),YB (.fz (.list [.str (mkS a),.str (mkS b)])),YB (.fz (.int (nv (Ja a)))),YB (.fz (.int (nv (Ja b))))]:=Zt (Zq (Zb (Wo (d:=.str (mkS b)) (!7) Zn rfl) Zh) lb);have bad:nv (Ja b)<2->Zej qS1 [YB (.fz (.str (mkS w))),YB (.fz (.list [.str (mkS a),.str (mkS b)])),YB (.fz (.int (nv (Ja a)))),YB (.fz (.int 1))] .none:=λz=>Yi (Yu t2 (Zo s3 (Yu (Yv (Zcm (!16) Zn (YS z))) (Z0 Zn))));cases em:Ja b with
  | none=>
   rw[show rd2 (Ja a) YC=YC by cases Ja a<;>rfl];exact bad (by rw[em];decide)
  | some m=>
   rw[em]at s3;have good:2<=m->∀{d:Xa},Zej qS2 [YB (.fz (.str (mkS w))),YB (.fz (.list [.str (mkS a),.str (mkS b)])),YB (.fz (.int (nv (Ja a)))),YB (.fz (.int (m:Int)))] d->Zej qS1 [YB (.fz (.str (mkS w))),YB (.fz (.list [.str (mkS a),.str (mkS b)])),YB (.fz (.int (nv (Ja a)))),YB (.fz (.int 1))] d:=λz=>λk=>Zo (Jx t2 (Yt (s3.trans (rfl:RS.nx _=RS.nx [YB (.fz (.str (mkS w))),YB (.fz (.list [.str (mkS a),.str (mkS b)])),YB (.fz (.int (nv (Ja a)))),YB (.fz (.int (m:Int)))])) (Zj (Yv (Zcm (i:=(m:Int)) (!16) Zn (YT (!0)))) rfl))) k;cases en:Ja a with
   | none=>
    show Zej _ _ PyData.none
    by_cases z:2<=m
    .rw[en]at good
     exact good z (Yi (Yu (Zcj (Yv (Zed (tl (k:=0)) Zn rfl)) (Zcg (Yv (Zcm (i:=-1) (!13) Zn rfl)))) (Z0 Zn)))
    .have:=bad (by rw[em];show(m:Int)<2;omega)
     rwa[en]at this
   | some n=>
    by_cases z:2<=m
    .rw[en]at good
     refine good z ?_;have tg:EvT (tV (Zd gNe (Z7 Wg Z3v) Za5)) [YB (.fz (.str (mkS w))),YB (.fz (.list [.str (mkS a),.str (mkS b)])),YB (.fz (.int (n:Int))),YB (.fz (.int (m:Int)))] (!decide ((Vp n m:Int)=1)):=Yv (Zev (Zq (Zb (!13) (Zb (!16) Zh)) (Ziu (!0))) Zn rfl);have gi:((Vp n m:Int)=1)↔Ur n m=1:=by
      show((Ur n m:Nat):Int)=1↔_;omega
     by_cases g:Ur n m=1
     .rw[YS (gi.mpr g)]at tg
      show Zej _ _ (oqD (if 2<=m/\Ur n m=1 then YB (Qw n m)else YC));rw[YM ⟨z,g⟩];obtain⟨q1,q2⟩:=Zxm (n:=n) (m:=m) (!0) g;refine Zo (Zj (Zcj (Yv (Zed (tl (k:=0)) Zn rfl)) (Zcj (Yv (Zcm (i:=(n:Int)) (!13) Zn (YT (!0)))) tg)) rfl) (Z0 ((Zdb (Zb (!13) (Zb (!16) Zh)) (Qa rfl)).cast ?_));show _=Q5 [.int (Qw n m).num,.int ((Qw n m).den:Int)];rw[q1,q2];rfl
     .rw[YT λy=>g (gi.mp y)]at tg
      show Zej _ _ (oqD (if 2<=m/\Ur n m=1 then YB (Qw n m)else YC));rw[YQ λy=>g y.2];exact Yi (Yu (Zcj (Yv (Zed (tl (k:=0)) Zn rfl)) (Zcj (Yv (Zcm (i:=(n:Int)) (!13) Zn (YT (!0)))) tg)) (Z0 Zn))
    .show Zej _ _ (oqD (if 2<=m/\Ur n m=1 then YB (Qw n m)else YC))
     rw[YQ λy=>z y.1];have:=bad (by rw[em];show(m:Int)<2;omega)
     rwa[en]at this
 | a::b::c::r,_=>
  have la:=ln a (!8);exact Z2 rfl (Zo (Zt es) (Zo (Zt (Zq (Zb (Zix (d:=.str (mkS a)) (!7) Zn (by rw[XC];exact Zqj _ _)) Zh) la)) (Zo (Zt Zn) (Zo (Zj (Yv (Zal (tl (k:=0)) Zn (YT (by simp only[XQ];omega)))) rfl) (Yi (Yu (Zcg (Yv (Zed (tl (k:=0)) Zn (YS (by simp only[XQ];omega))))) (Z0 Zn)))))))
def Zxb:QL "none"=mkS [110,111,110,101]:=by rw[Bf];rfl
def ctx(A:List Int):List Nat:=jn 32 (A.map tx)
def wtx(q:List Int×Rat):List Nat:=jn2 58 32 [ctx q.1,qtx q.2]
def ltx(L:List (!11)):List Nat:=if L=[]then[110,111,110,101]else jn2 59 32 (L.map wtx)
structure Wq(q:List Int×Rat):Prop where
 ne:q.1≠[]
 pt:∀x∈q.1,1<=x/\x<10
 ln:q.1.length<=9
 ds:DsQ q.2
def Z8h{x:Int}(h:1<=x/\x<10):∃m:Nat,x=(m:Int)/\tx x=dg m/\(dg m).length=1:=by
 obtain⟨m,rfl⟩:=QW (show 0<=x by omega);exact⟨m,rfl,Zg6 m,by rw[Zeu (!0)];rfl⟩
def Z5c{A:List Int}(h:∀x∈A,1<=x/\x<10):∀c∈ctx A,c=32\/(48<=c/\c<=57):=λc m=>by
 rcases Zvx m with m|⟨p,hp,m⟩
 .exact .inl m
 .obtain⟨x,hx,rfl⟩:=Qk.mp hp
  obtain⟨k,_,e,_⟩:=Z8h (h x hx);rw[e]at m;exact .inr (Zki m)
def Zvg{A:List Int}(h:∀x∈A,1<=x/\x<10)(hl:A.length<=9):((A.map tx).map λp=>p.length+1).sum<=18:=by
 refine XD (Zkj _ 2 _ λp hp=>?_) (by rw[Xf];omega);obtain⟨x,hx,rfl⟩:=Qk.mp hp;obtain⟨k,_,e,l⟩:=Z8h (h x hx);rw[e,l];exact Xx _
def Ztn{A:List Int}(h:∀x∈A,1<=x/\x<10)(hl:A.length<=9):(ctx A).length<=18:=XD (Zx3 ..) (Zvg h hl)
def Zua(q:List Int×Rat):wtx q=ctx q.1++[58,32]++qtx q.2:=by
 show ctx q.1++58::32::qtx q.2=_;rw[Vg];rfl
def Z4a{q:List Int×Rat}(h:Wq q):∀c∈wtx q,c=32\/(47<=c/\c<=58):=λc m=>by
 rw[Zua]at m;rcases X3.mp m with m|m
 .rcases X3.mp m with m|m
  .have:=Z5c h.pt c m;omega
  .rcases Xl.mp m with m|m
   .omega
   .have:=Xm.mp m;omega
 .have:=Zpp h.ds c m;omega
def Zpn{q:List Int×Rat}(h:Wq q):(wtx q).length<=101:=by
 have h1:=Ztn h.pt h.ln;have h2:=Zmd h.ds;rw[Zua,Xw,Xw];show _+2+_<=_;omega
def Z2t{q:List Int×Rat}(h:Wq q):Cp (wtx q):=λc m=>by have:=Z4a h c m;omega
def Z7u{L:List (!11)}(h:∀q∈L,Wq q)(hl:L.length<64):((L.map wtx).map λp=>p.length+2).sum<=7000:=by
 refine XD (Zkj _ 103 _ λp hp=>?_) (by rw[Xf];omega);obtain⟨q,hq,rfl⟩:=Qk.mp hp;have:=Zpn (h q hq);omega
def Yfg{L:List (!11)}(h:∀q∈L,Wq q):Cp (ltx L):=λc m=>by
 unfold ltx at m;split at m
 .simp only[Xl,JV,or_false]at m
  omega
 .rcases Zo7 m with m|m|⟨p,hp,m⟩
  .omega
  .omega
  .obtain⟨q,hq,rfl⟩:=Qk.mp hp
   exact Z2t (h q hq) c m
def Zrx{A:List Int}(h:∀x∈A,1<=x/\x<10)(hl:A.length<=9){e:FE}(he:EvV e δ (Zw A)) :
  EvV (Zy1 Zh7 Z28 (Ze (Jq 1 [] (Zg8 e) Zs8 Zj6 (Zdm Zzu Zmj)) Yj)) δ (.str (mkS (ctx A))):=by
 refine Ztu (ps:=A.map tx) (Zo3 Yf1) ((Zdt (cs:=[]) A Xo (λx=>.str (mkS (tx x))) (Za8 he) (!0) rfl λx hx=>Jg (Zb (!4) Zh) (Zgr (Bt.of_lt (Bc (b:=0) (!9) (by have:=h x hx;omega)) (Bc (h x hx).2 (!9))))).cast ?_) (XD (Zvg h hl) (!1));rw[X6];rfl
def Z3e{q:List Int×Rat}(h:Wq q){a b:FE}(ha:EvV a δ (.str (mkS (ctx q.1))))(hb:EvV b δ (.str (mkS (qtx q.2)))):EvV (Zd Jd (Zd Jd a Z23) b) δ (.str (mkS (wtx q))):=by
 have h1:=Ztn h.pt h.ln;have h2:=Zmd h.ds;rw[Zua];exact Zr (Zr ha (Zid Yil) (Zc0 (by show _+2<=_;omega))) hb (Zc0 (by rw[Xw];show _+2+_<=_;omega))
def Z9r{L:List (!11)}(h:∀q∈L,Wq q)(hn:L≠[])(hl:L.length<64)(hm:∀q∈L,EvV me [YB (.fz (Zw q.1)),YB (.fz (frD q.2))] (.str (mkS (wtx q)))){e:FE}(he:EvV e δ (Zfx L)) :
  EvV (Zy1 Zh7 Z6c (Ze (Jq 2 [] (Zg8 e) Yg8 Zj6 me) Yj)) δ (.str (mkS (ltx L))):=by
 unfold ltx;rw[YQ hn];refine Zvu (Zid Ygy) (Zb ?_ Zh) (Znw (ps:=L.map wtx) (XD (Z7u h hl) (!1)));refine(Zrl (t:=Zj6) (cs:=[]) L ctD (λq=>.str (mkS (wtx q))) (λ_=>YD) (Za8 he) (!0) rfl λq hq z0 z1=>⟨YB (.fz (Zw q.1)),YB (.fz (frD q.2)),rfl,rfl,hm q hq⟩).cast ?_;rw[List.filter_eq_self.mpr λ_ _=>rfl,X6];rfl
def Zv3{L:List (!11)}:gEq (Zfx L) (.list [])=YB (.bool (decide (L=[]))):=by
 have s:Va (Zfx L)=YD:=((Z14 L).shp (!0)).ok;unfold gEq;rw[YM (by rw[s];rfl)];cases L<;>rfl
def Zr8{L:List (!11)}(h:∀q∈L,Wq q)(hl:L.length<64):Told Ws [Zfx L] (.str (mkS (ltx L))):=by
 by_cases hn:L=[]
 .subst hn
  refine Z2 rfl<|Yi<|Yu (Yv (Zr (!4) (Zbo Zh (!1)) (Zv3 (L:=[])))) (Z0 (Zn.cast ?_));exact YW QD Zxb
 .refine Z2 rfl<|Zo (Zj (Yv (Zr (!4) (Zbo Zh (!1)) (by rw[Zv3,YT hn]))) rfl) (Z0 (Z9r h hn hl (λq hq=>Z3e (h q hq) (Zrx (h q hq).pt (h q hq).ln (!4)) (Zq (Zb (!7) Zh) (Zl6 (h q hq).ds))) (!4)))
def dtP:List (!6)->Xa
 | [a,b]=>.tuple [.list ((spl [32] a).map λw=>Zf4 (Ja w)),oqD (rdO b)]
 | _=>.none
def Zbm(p:List Nat):Xa:=dtP (spl [58,32] p)
def Z6e{as:FA}(h:EvA as δ ds)(hl:ds.length<=1000):EvV (Zr0 as) δ (.tuple ds):=by
 obtain⟨ts,e1,e2⟩:=h;refine⟨.tp ts,?_,by rw[OT.data_tp,<-datas_map,e2]⟩;rw[Z0p,e1,Xh];rw[<-e2,Zd1]at hl;exact YM (show ts.length<=Xp by rw[Qe];omega)
def Zgw{p:List Nat}(h:Tx 50000 p):Told Jj [.str (mkS p)] (Zbm p):=by
 obtain⟨sp,sl⟩:=Yee (c:=58) (d:=32) h;have es:EvV (Zse Zda Wj (Ze Z23 Yj)) (Yo 2 [.str (mkS p)]) (.list ((spl [58,32] p).map λp=>.str (mkS p))):=Zg3 (N:=50000) (Br _ _) (!4) (Zid Yil) h sl (!1);unfold Zbm;generalize spl [58,32] p=P at*
 have tl:EvV Z1d [YB (.fz (.str (mkS p))),YB (.fz (.list (P.map λp=>.str (mkS p))))] (.int (P.length:Int)):=(Zff (!7)).cast (by rw[Xf])
 by_cases c:P.length=2
 .match P,c with
  | [a,b],_=>
   have ta:=sp a (!8);have tb:=sp b (!15);obtain⟨sa,la⟩:=Yf8 (c:=32) ta;refine Z2 rfl<|Zo (Zt es)<|Zo (Zj (Yv (Zev tl Zn rfl)) rfl) (Z0 (Z6e (Zb (Zdt (cs:=[]) (spl [32] a) (λw=>.str (mkS w)) (λw=>Zf4 (Ja w)) (Za8 (Zg3 (N:=50000) (Br _ _) (Wo (d:=.str (mkS a)) (!7) Zn rfl) (Zo3 Yf1) ta la (!1))) (!0) rfl λw m=>Zq (Zb (!4) Zh) (Zdv (sa w m).cp (XD (sa w m).ln (!1)))) (Zb (Zq (Zb (Wo (d:=.str (mkS b)) (!7) Zn rfl) Zh) (Zgn tb)) Zh)) (Qa rfl)))
 .rw[show dtP P= .none by
   match P,c with
   | [],_=>rfl
   | [a],_=>rfl
   | [a,b],c=>exact YZ rfl c
   | a::b::d::r,_=>rfl]
  exact Z2 rfl<|Zo (Zt es)<|Yi<|Yu (Yv (Zev tl Zn (by rw[YT (!0)];rfl))) (Z0 Zn)
def Z1g{o:Option Nat}{x:Int}(h:Zf4 o= .int x):∃n:Nat,o=YB n/\x=n:=by
 cases o with
 | none=>cases h
 | some n=>cases h;exact⟨n,rfl,rfl⟩
theorem Zjk:∀{os:List (Option Nat)} {A:List Int},os.map Zf4=A.map Xo->∃M:List Nat,os=M.map YB/\A=M.map λn:Nat=>(n:Int)
 | [],A,h=>⟨[],rfl,by
  cases A with
  | nil=>rfl
  | cons x A=>cases h⟩
 | o::os,A,h=>by
  cases A with
  | nil=>cases h
  | cons x A=>
   rw[XC,XC]at h;obtain⟨h1,h2⟩:=QH h;obtain⟨n,rfl,rfl⟩:=Z1g h1;obtain⟨M,rfl,rfl⟩:=Zjk h2;exact⟨n::M,rfl,rfl⟩
theorem all_some:∀{os:List (Option Nat)},(∀o∈os,o≠YC)->∃M:List Nat,os=M.map YB
 | [],_=>⟨[],rfl⟩
 | o::os,h=>by
  obtain⟨M,rfl⟩:=all_some λx m=>h x (.tail _ m);cases o with
  | none=>exact YZ rfl (h YC (!8))
  | some n=>exact⟨n::M,rfl⟩
def Zpm(M:List Nat):(M.map YB).map Zf4=(M.map λn:Nat=>(n:Int)).map Xo:=by rw[X6,X6];rfl
def Zsw(n:Int)(os:List (Option Nat)):∃b:Bool,Told Jf [.int n,.list (os.map Zf4)] (.bool b)/\(b=YD↔∃A:List Int,os.map Zf4=A.map Xo/\Zqp n A):=by
 by_cases c:∀o∈os,o≠YC
 .obtain⟨M,rfl⟩:=all_some c
  obtain⟨b,T,h⟩:=Zn5 n (M.map λn:Nat=>(n:Int));refine⟨b,by rw[Zpm];exact T,h.trans ⟨λz=>⟨_,Zpm M,z⟩,λ⟨A,e,z⟩=>?_⟩⟩;rw[Zpm]at e;have:(M.map λn:Nat=>(n:Int))=A:=Zk7 (YW V9 e);rw[this];exact z
 .obtain⟨o,m,e⟩:∃o∈os,o=YC:=Classical.byContradiction λz=>c λo m e=>z ⟨o,m,e⟩
  subst e;refine⟨YF,?_,⟨(!12),λ⟨A,e,_⟩=>?_⟩⟩
  .have key:Zfc Zcx (Yo 3 [.int n,.list (os.map Zf4)]) λd=>d= .bool YF:=by
    have pos:0<os.length:=List.length_pos_of_mem m;refine Yc (Zj (Zcj (Jy (p:=YD) (Wy (Zb0 (Za (i:=1) (d:=.list (os.map Zf4)) rfl) rfl))) (Yv (Zal ((Zff (!7)).cast (by rw[Xf])) Zn (YT (!0))))) rfl) (Zh4 (ds:=os.map Zf4) (λk δ=>(∃z,δ=[YB (.fz (.int n)),YB (.fz (.list (os.map Zf4))),z])/\∀x∈os.take k,x≠YC) (Za8 (!7)) ⟨⟨YC,rfl⟩,λx m=>by rw[List.take_zero]at m;exact nomatch m⟩ (λk d δ hd q=>?_) λδ' q=>?_)
    .obtain⟨⟨z,rfl⟩,hz⟩:=q
     rw[Xq]at hd;cases e:os[k]? with
     | none=>rw[e]at hd;cases hd
     | some o=>
      rw[e]at hd;cases hd;cases o with
      | none=>exact .inr ⟨_,rfl,Wu (Jy (p:=YF) (Wy (Zq (Zb (!13) Zh) Zgg))) (Wl Zn rfl)⟩
      | some x=>
       refine .inl ⟨_,_,rfl,Zj (Jy (p:=YD) (Wy (Zq (Zb (!13) Zh) (Zfi (x:Int))))) rfl,⟨_,rfl⟩,λy m=>?_⟩;rw[Vr,e,Uw]at m;rcases X3.mp m with m|m
       .exact hz y m
       .rw[Xm.mp m];exact Option.some_ne_none x
    .obtain⟨_,hz⟩:=q
     rw[Xf,VF]at hz;exact YZ rfl (hz YC m)
   obtain⟨d,h,rfl⟩:=Zmi (np:=2) rfl key;exact h
  .obtain⟨M,e,_⟩:=Zjk e
   rw[e]at m;obtain⟨x,_,hx⟩:=Qk.mp m;cases hx
def Zd9(n:Int)(p:List Nat)(q:List Int×Rat):Prop:=Zbm p=ctD q/\Zqp n q.1/\0<q.2.num
def Zx9{p q:List Int×Rat}(h:ctD p=ctD q):p=q:=by
 have h:=UL h;obtain⟨h1,h2⟩:=QH h;exact Prod.ext (Zk7 h1) (Zp6.mp (QH h2).1)
def Z5q:Told Zy [.none] (.bool YF) :=
 Z2 rfl<|Yi<|Yu (Zcg (Jy (p:=YF) (Wy (Zb0 (Za (i:=0) (d:=.none) rfl) rfl)))) (Z0 Zn)
def Zo6(n:Int)(p:List Nat):∃b:Bool,Told Yb [.int n,Zbm p] (.bool b)/\(b=YD↔∃q,Zd9 n p q):=by
 unfold Zd9 Zbm;generalize spl [58,32] p=P
 by_cases c:P.length=2
 case neg=>
  have e:dtP P= .none:=by
   match P,c with
   | [],_=>rfl
   | [a],_=>rfl
   | [a,b],c=>exact YZ rfl c
   | a::b::d::r,_=>rfl
  rw[e];refine⟨YF,?_,(!12),λ⟨q,z,_⟩=>nomatch z⟩;exact Z2 rfl<|Yi<|Yu (Zcg (Jy (p:=YF) (Wy (Zb0 (Za (i:=1) (d:=.none) rfl) rfl)))) (Z0 Zn)
 match P,c with
 | [a,b],_=>
  rw[show dtP [a,b]= .tuple [.list ((spl [32] a).map λw=>Zf4 (Ja w)),oqD (rdO b)]from rfl];have em:((spl [32] a).map λw=>Zf4 (Ja w))=((spl [32] a).map Ja).map Zf4:=by rw[X6];rfl
  obtain⟨b1,T1,h1⟩:=Zsw n ((spl [32] a).map Ja);rw[<-em]at T1 h1;clear em;generalize((spl [32] a).map λw=>Zf4 (Ja w))=ds at*
  generalize rdO b=ro at*
  have pre:∀{d:Xa},Zej Yhr (Yo 2 [.int n,.tuple [.list ds,oqD ro]]) d->Told Yb [.int n,.tuple [.list ds,oqD ro]] d:=λk=>Z2 rfl (Zo (Zj (Zcj (Jy (p:=YD) (Wy (Zdl (!7) rfl))) (Yv (Zev (Jg (Zb (Za (i:=1) (d:=.tuple [.list ds,oqD ro]) rfl) Zh) (Zkn _)) Zn rfl))) rfl) k);have e0:EvV Z49 (Yo 2 [.int n,.tuple [.list ds,oqD ro]]) (.list ds):=Wo (!7) Zn rfl;have e1:EvV Ygp (Yo 2 [.int n,.tuple [.list ds,oqD ro]]) (oqD ro):=Wo (!7) Zn rfl;have ec:EvV (Z7 Jf (Ze Wj (Ze Z49 Yj))) (Yo 2 [.int n,.tuple [.list ds,oqD ro]]) (.bool b1):=Zq (Zb (!4) (Zb e0 Zh)) T1;cases b1 with
  | false=>
   refine⟨YF,pre (Z0 (Zcy ec)),(!12),λ⟨q,z,z1,_⟩=>?_⟩;exact h1.mpr ⟨q.1,PyData.list.inj (QH (UL z)).1,z1⟩
  | true=>
   obtain⟨A,eA,hA⟩:=h1.mp rfl;cases ro with
   | none=>
    refine⟨YF,pre (Z0 (W3 ec (Zcy (Zq (Zb e1 Zh) Z5q)))),(!12),λ⟨q,z,_⟩=>?_⟩;have z:=(QH (QH (UL z)).2).1;cases z
   | some r=>
    refine⟨decide (0<r.num),pre (Z0 (W3 ec (W3 (Zq (Zb e1 Zh) (Zca r)) (Zed (Wo e1 Zn (d:=.int r.num) rfl) Zn rfl)))),decide_eq_true_iff.trans ⟨λz=>⟨(A,r),by rw[eA];rfl,hA,z⟩,λ⟨q,z,_,z2⟩=>?_⟩⟩;have z:=(QH (QH (UL z)).2).1;rw[Zp6.mp (show frD r=frD q.2 from z)];exact z2
theorem Zkt{n:Int}:∀{ps:List (!6)},(∀p∈ps,∃q,Zd9 n p q)->∃L:List (!11),ps.map Zbm=L.map ctD/\∀q∈L,Zqp n q.1/\0<q.2.num
 | [],_=>⟨[],rfl,λ_ m=>nomatch m⟩
 | p::ps,h=>by
  obtain⟨q,e,h1,h2⟩:=h p (!8);obtain⟨L,e2,h3⟩:=Zkt λx m=>h x (.tail _ m);refine⟨q::L,by rw[XC,XC,e,e2],λx m=>?_⟩;rcases Xl.mp m with rfl|m
  .exact⟨h1,h2⟩
  .exact h3 x m
theorem Zk0:∀{L M:List (!11)},L.map ctD=M.map ctD->L=M
 | [],[],_=>rfl
 | [],_::_,h=>nomatch h
 | _::_,[],h=>nomatch h
 | p::L,q::M,h=>by
  obtain⟨h1,h2⟩:=QH h;rw[Zx9 h1,Zk0 h2]
theorem Znl{n:Int}:∀{ps:List (!6)} {L:List (!11)},ps.map Zbm=L.map ctD->(∀q∈L,Zqp n q.1/\0<q.2.num)->∀p∈ps,∃q,Zd9 n p q
 | p::ps,L,h,hL,x,m=>by
  cases L with
  | nil=>cases h
  | cons q L=>
   obtain⟨h1,h2⟩:=QH h;rcases Xl.mp m with rfl|m
   .exact⟨q,h1,hL q (!8)⟩
   .exact Znl h2 (λy my=>hL y (.tail _ my)) x m
def Zia(n:Int)(ps:List (!6))(hl:ps.length<=1000):∃b:Bool,Told Wa [.int n,.list (ps.map Zbm)] (.bool b)/\(b=YD↔∃L,ps.map Zbm=L.map ctD/\WL n L):=by
 by_cases c:∀p∈ps,∃q,Zd9 n p q
 .obtain⟨L,e,h⟩:=Zkt c
  obtain⟨b,T,hb⟩:=Zjw n L (by
   have:=YW Ui e;rw[Xf,Xf]at this;omega)
  refine⟨b,by rw[e];exact T,hb.trans ⟨λz=>⟨L,e,z⟩,λ⟨M,e2,z⟩=>?_⟩⟩;rw[Zk0 (e.symm.trans e2)];exact z
 .obtain⟨p,m,hp⟩:∃p∈ps,¬∃q,Zd9 n p q:=Classical.byContradiction λz=>c λp m=>Classical.byContradiction λy=>z ⟨p,m,y⟩
  refine⟨YF,?_,(!12),λ⟨L,e,z⟩=>YZ (Znl e z.1 p m) hp⟩;have key:Zfc Zaa (Yo 3 [.int n,.list (ps.map Zbm)]) λd=>d= .bool YF:=by
   refine Yc (Zj (Jy (p:=YD) (Wy (Zb0 (Za (i:=1) (d:=.list (ps.map Zbm)) rfl) rfl))) rfl) (Zh4 (ds:=ps.map Zbm) (λk δ=>(∃z,δ=[YB (.fz (.int n)),YB (.fz (.list (ps.map Zbm))),z])/\∀x∈ps.take k,∃q,Zd9 n x q) (Za8 (!7)) ⟨⟨YC,rfl⟩,λx m=>by rw[List.take_zero]at m;exact nomatch m⟩ (λk d δ hd q=>?_) λδ' q=>?_)
   .obtain⟨⟨z,rfl⟩,hz⟩:=q
    rw[Xq]at hd;cases e:ps[k]? with
    | none=>rw[e]at hd;cases hd
    | some x=>
     rw[e]at hd;cases hd;obtain⟨b,T,hb⟩:=Zo6 n x;cases b with
     | false=>exact .inr ⟨_,rfl,Wu (Jy (p:=YF) (Wy (Zq (Zb (!4) (Zb (!13) Zh)) T))) (Wl Zn rfl)⟩
     | true=>
      refine .inl ⟨_,_,rfl,Zj (Jy (p:=YD) (Wy (Zq (Zb (!4) (Zb (!13) Zh)) T))) rfl,⟨_,rfl⟩,λy my=>?_⟩;rw[Vr,e,Uw]at my;rcases X3.mp my with my|my
      .exact hz y my
      .rw[Xm.mp my];exact hb.mp rfl
   .obtain⟨_,hz⟩:=q
    rw[Xf,VF]at hz;exact YZ (hz p m) hp
  obtain⟨d,h,rfl⟩:=Zmi (np:=2) rfl key;exact h
abbrev isNone(l:List Nat):Prop:=l=[110,111,110,101]
def psN(l:List Nat):List (!6):=@ite (List (!6)) (isNone l) (Classical.propDecidable _) [] (spl [59,32] l)
structure Good(m:Int)(l:List Nat)(L:List (!11)):Prop where
 m1:1<=m
 m10:m<=10
 eq:(psN l).map Zbm=L.map ctD
 wl:WL m L
def Ydf{l:List Nat}(h:isNone l):psN l=[]:=YM h
def Z6x{l:List Nat}(h:¬isNone l):psN l=spl [59,32] l:=YQ h
def Zyt{l:List Nat}(h:Tx 990 l):(∀p∈psN l,Tx 50000 p)/\(psN l).length<=1000:=by
 unfold psN;split
 .exact⟨(λp m=>nomatch m),Qp _⟩
 .obtain⟨a,b⟩:=Yee (c:=59) (d:=32) h
  exact⟨λp m=>⟨(a p m).cp,XD (a p m).ln (!1)⟩,by omega⟩
def Zno{l:List Nat}(h:Tx 990 l):Told Wi [.str (mkS l)] (.list ((psN l).map Zbm)):=by
 have tE:EvT (tV (Zd gEq Wj Z89)) (Yo 1 [.str (mkS l)]) (decide (l=[110,111,110,101])):=Yv (Zr (!4) Zn (by rw[Zxb,Zey h.cp (λc m=>by
  simp only[Xl,JV,or_false]at m;omega)]))
 obtain⟨t1,t2⟩:=Zyt h
 by_cases c:isNone l
 .rw[YS c]at tE
  rw[Ydf c];exact Z2 rfl<|Yi<|Yu tE (Z0 (Zbo Zh (!1)))
 .rw[YT c]at tE
  rw[Z6x c]at t1 t2|-
  obtain⟨a,b⟩:=Yee (c:=59) (d:=32) h;exact Z2 rfl<|Zo (Zj tE rfl)<|Z0 (Zdt (cs:=[]) (spl [59,32] l) (λp=>.str (mkS p)) Zbm (Za8 (Zg3 (N:=990) (Br _ _) (!4) (Zid Ygy) h b (!1))) (!0) rfl λp m=>Zq (Zb (!4) Zh) (Zgw (t1 p m)))
def Zwh{e:FE}{x:Xa}{T:String}(ha:EvV e δ x)(hf:Zog x=YF:=by rfl):EvV (Z03 T e) δ (.bool (Zhf T x)):=by
 obtain⟨t,e1,e2⟩:=ha;refine⟨.fz (.bool (Zhf T t.data)),?_,by rw[OT.data_fz,e2]⟩;unfold Z03;rw[e1,Xh];dsimp only;rw[e2,hf];exact YQ (!1)
def Zj7(z:Str):Told Wf [.str z] .none:=Zvj rfl (Zj (Jy (p:=YD) (Wy (Zwh (Za (i:=0) (d:=.str z) rfl) rfl))) rfl)
def Zio(m:Int):Told W8 [.int m] (.bool (decide (1<=m)&&decide (m<=10))):=Z2 rfl (Z0 (Zmy Zn (!4) Zn))
def Zlr{m:Int}{l:List Nat}(h:Tx 990 l):(∃L,Good m l L/\Told Z5 [.int m,.str (mkS l)] (Zfx L))\/((∀L,¬Good m l L)/\Z5 [.int m,.str (mkS l)]= .exn "NoText"):=by
 obtain⟨t1,t2⟩:=Zyt h;obtain⟨b,T,hb⟩:=Zia m (psN l) t2;obtain⟨o,e2,d2⟩:=Z4o (k:=2) (Zq (δ:=[YB (.fz (.int m)),YB (.fz (.str (mkS l))),YC]) (Zb (!7) Zh) (Zno h));have e1:wX Wf Ztk Zwe (Yo 3 [.int m,.str (mkS l)])= .nx [YB (.fz (.int m)),YB (.fz (.str (mkS l))),YC]:=Yk1 (Zb (!7) Zh) (Zj7 _) λo _=>rfl;have tP:EvT Yhp [YB (.fz (.int m)),YB (.fz (.str (mkS l))),YB o] (!(decide (1<=m)&&decide (m<=10))):=Jy (Wy (Zq (Zb (!4) Zh) (Zio m)));have tW:EvT Yiy [YB (.fz (.int m)),YB (.fz (.str (mkS l))),YB o] (!b):=Jy (Wy (Zq (Zb (!4) (Zb (Za6 (i:=2) rfl d2) Zh)) T));have bad:EvT (tO Yhp Yiy) [YB (.fz (.int m)),YB (.fz (.str (mkS l))),YB o] YD->Z5 [.int m,.str (mkS l)]= .exn "NoText" := λt=>Zl0 rfl (Yt e1 (Yt e2 (Zna (Jx t rfl))))
 by_cases c:1<=m/\m<=10
 .rw[YS c.1,YS c.2]at tP
  cases b with
  | false=>exact .inr ⟨λL g=>YZ (hb.mpr ⟨L,g.eq,g.wl⟩) (!1),bad (Zcj tP tW)⟩
  | true=>
   obtain⟨L,e,z⟩:=hb.mp rfl;refine .inl ⟨L,⟨c.1,c.2,e,z⟩,Z2 rfl (Zo e1 (Zo e2 (Zo (Zj (Zcj tP tW) rfl) (Ymf (i:=2) rfl ?_))))⟩;rw[d2,e];rfl
 .rw[show(decide (1<=m)&&decide (m<=10))=YF by rw[V4,decide_eq_false_iff_not,decide_eq_false_iff_not];omega]at tP
  exact .inr ⟨λL g=>c ⟨g.m1,g.m10⟩,bad (Zcg tP)⟩
def Zqu{A:List Int}(h:A.Pairwise (·<=·))(nd:A.Nodup):A.Pairwise (·<·):=by
 refine Q3.mpr λi j hi hj ij=>?_;have h1:=Q3.mp h i j hi hj ij;have h2:=Q3.mp nd i j hi hj ij;omega
def Zra{A:List Int}:Zch (dnc A)=A↔A.Pairwise (·<·):=by
 constructor
 .intro h
  have pm:=J3 (dnc A);have nd:A.Nodup:=by rw[<-h];exact pm.nodup_iff.mpr (Zfd A).1
  exact Zqu (by rw[<-h];exact W9 _) nd
 .intro h
  have nd:A.Nodup:=h.imp λz=>Int.ne_of_lt z;have pm:(dnc A).Perm A:=(List.perm_ext_iff_of_nodup (Zfd A).1 nd).mpr λx=>(Zfd A).2 x;exact Zbg ((J3 _).trans pm) (W9 _) (h.imp λz=>Int.le_of_lt z)
theorem Zvm{n:Int}:∀{A:List Int} (lo:Int),A.Pairwise (·<·)->(∀x∈A,lo<=x/\x<n)->(A.length:Int)<=max 0 (n-lo)
 | [],lo,_,_=>by show(0:Int)<=_;omega
 | x::A,lo,hp,h=>by
  have hp:=List.pairwise_cons.mp hp;have:=Zvm (n:=n) (A:=A) (x+1) hp.2 λy hy=>⟨by have:=hp.1 y hy;omega,(h y (.tail _ hy)).2⟩;have hx:=h x (!8);rw[XQ];omega
def Z4w{A:List Int}(h:∀x∈A,1<=x/\x<10):(dnc A).length<64:=by
 have pm:=J3 (dnc A);have:=Zvm (n:=10) (A:=Zch (dnc A)) 1 (Zqu (W9 _) (pm.nodup_iff.mpr (Zfd A).1)) λx hx=>h x ((Zfd A).2 x|>.mp (pm.mem_iff.mp hx));rw[pm.length_eq]at this;omega
def Ziy{m:Int}{A:List Int}:Zqp m A↔A≠[]/\A.Pairwise (·<·)/\∀x∈A,1<=x/\x<m:=by
 constructor
 .intro h
  refine⟨h.1,Q3.mpr λi j hi hj ij=>?_,(Z1n h).2⟩;obtain⟨d,rfl⟩:∃d,j=i+d+1:=⟨j-i-1,by omega⟩;exact Zj3 h.2.1 d i _ _ (Xi hi) (Xi hj)
 .rintro⟨ne,up,pt⟩
  have pos:=Qz.mpr ne;refine⟨ne,λk x y hx hy=>?_,?_,?_⟩
  .obtain⟨lx,rfl⟩:=Xk.mp hx
   obtain⟨ly,rfl⟩:=Xk.mp hy;exact YS (Q3.mp up k (k+1) lx ly (Qx k))
  .rw[Xu,Xi pos]
   exact(pt _ (Q6 pos)).1
  .rw[Xu,Xi (show A.length-1<A.length by omega)]
   exact(pt _ (Q6 (show A.length-1<A.length by omega))).2
def nvs(a:List Nat):List Int:=(spl [32] a).map λw=>nv (Ja w)
def Yc5{ws:List (!6)}(h:∀w∈ws,0<=nv (Ja w)):(ws.map λw=>Zf4 (Ja w))=(ws.map λw=>nv (Ja w)).map Xo:=by
 rw[X6];refine Qy λw m=>?_;have:=h w m;show Zf4 (Ja w)= .int (nv (Ja w));cases e:Ja w with
 | none=>rw[e]at this;exact YZ this (!1)
 | some n=>rfl
def Zqq{m:Int}{p a b:List Nat}(hp:spl [58,32] p=[a,b])(q:List Int×Rat):Zd9 m p q↔rdO b=YB q.2/\0<q.2.num/\q.1=nvs a/\Zqp m (nvs a):=by
 have e:Zbm p= .tuple [.list ((spl [32] a).map λw=>Zf4 (Ja w)),oqD (rdO b)]:=by
  unfold Zbm;rw[hp];rfl
 unfold Zd9;rw[e];constructor
 .rintro⟨z,h1,h2⟩
  have z:=UL z;obtain⟨z1,z2⟩:=QH z;have z2:=(QH z2).1;have z1:=PyData.list.inj z1;have hq:rdO b=YB q.2:=by
   cases er:rdO b with
   | none=>rw[er]at z2;cases z2
   | some r=>rw[er]at z2;rw[Zp6.mp (show frD r=frD q.2 from z2)]
  have ea:q.1=nvs a:=by
   have z1:((spl [32] a).map Ja).map Zf4=q.1.map Xo:=by rw[X6];exact z1
   obtain⟨M,e1,e2⟩:=Zjk z1;rw[e2];have:=YW (List.map nv) e1;rw[X6,X6]at this;exact this.symm
  exact⟨hq,h2,ea,ea▸h1⟩
 .rintro⟨hq,h2,ea,hc⟩
  refine⟨?_,by rw[ea];exact hc,h2⟩;have pt:=(Ziy.mp hc).2.2;rw[Yc5 (ws:=spl [32] a) λw m=>by have:=(pt _ (Qk.mpr ⟨w,m,rfl⟩)).1;omega,hq];show _=Q5 [Zw q.1,frD q.2];rw[ea];rfl
def Zrk{m:Int}{p:List Nat}(h:(spl [58,32] p).length≠2)(q:List Int×Rat):¬Zd9 m p q:=λ⟨z,_⟩=>by
 unfold Zbm at z;generalize spl [58,32] p=P at*
 match P,h with
 | [],_=>cases z
 | [a],_=>cases z
 | [a,b],h=>exact h rfl
 | a::b::d::r,_=>cases z
abbrev Ykz:FT:=tO Yjj Ykv
def Yac{A:List Int}(h:A≠[])(hi:δ[i]? =YB (YB (.fz (Zw A)))):EvV (Zdm Zys (Ze (Yk i) Yj)) δ (.int (Zy5 A)):=Jg (Zb (Za hi) Zh) (by
 show((Zdd (A.map Xo)).bind λns=>if 0<ns.length then YB (Xo (Zy5 ns))else YC)=_;rw[Zaf,Xh,YM (Qz.mpr h)])
def Z95{A:List Int}(h:A≠[])(hi:δ[i]? =YB (YB (.fz (Zw A)))):EvV (Zdm Zv4 (Ze (Yk i) Yj)) δ (.int (Ztq A)):=Jg (Zb (Za hi) Zh) (by
 show((Zdd (A.map Xo)).bind λns=>if 0<ns.length then YB (Xo (Ztq ns))else YC)=_;rw[Zaf,Xh,YM (Qz.mpr h)])
def Z5r{A:List Int}(h1:A.length<2000)(h2:(dnc A).length<64)(hi:δ[i]? =YB (YB (.fz (Zw A)))):EvV (Zdj (Ze (Yk i) Yj)) δ (Zw (Zch (dnc A))):=by
 obtain⟨ts,e1,e2⟩:=Zb (Za (d:=Zw A) hi) Zh;refine⟨.nd (((Zch (dnc A)).map Xo).map OT.fz),?_,by rw[OT.data_nd,OT.map_fz];rfl⟩;unfold Zdj;rw[e1,Xh];dsimp only;rw[e2];show((Zdd (A.map Xo)).bind λns=>if ns.length<2000/\(dnc ns).length<64 then _ else _)=_;rw[Zaf,Xh,YM ⟨h1,h2⟩]
def Zyo(a b:List Int):gNe (Zw a) (Zw b)=YB (.bool (!decide (a=b))):=Zru a b
def Z9f{m:Int}(hm:m<=10){A:List Int}(ha:A≠[])(hl:A.length<2000)(o:Option Rat)(h0:δ[0]? =YB (YB (.fz (.int m))))(h5:δ[5]? =YB (YB (.fz (Zw A))))(h6:δ[6]? =YB (YB (.fz (oqD o)))) :
  (EvT Ykz δ YD/\¬(Zqp m A/\∃r,o=YB r/\0<r.num))\/∃r,o=YB r/\0<r.num/\Zqp m A/\EvT Ykz δ YF:=by
 have lp:=Qz.mpr ha;cases o with
 | none=>exact .inl ⟨Zcg (Yv (Zr (Za (d:=.none) h6) Zn rfl)),λ⟨_,r,e,_⟩=>nomatch e⟩
 | some r=>
  have t1:EvT Yjj δ YF:=Yv (Zr (Za (d:=frD r) h6) Zn rfl);have t2:EvT Yk8 δ (decide (r.num<1)):=Yv (Zcm (Wo (Za (d:=frD r) h6) Zn (d:=.int r.num) rfl) Zn rfl)
  by_cases c2:r.num<1
  .rw[YS c2]at t2
   exact .inl ⟨Zcj t1 (Zcg t2),λ⟨_,s,e,z⟩=>by cases e;omega⟩
  rw[YT c2]at t2;have t3:EvT (tV (Zd gLt (Zdm Zys Z6m) Za5)) δ (decide (Zy5 A<1)):=Yv (Zcm (Yac ha h5) Zn rfl);have mn:=Zob lp;have mx:=Znu lp
  by_cases c3:Zy5 A<1
  .rw[YS c3]at t3
   exact .inl ⟨Zcj t1 (Zcj t2 (Zcg t3)),λ⟨z,_⟩=>by have:=((Ziy.mp z).2.2 _ mn.1).1;omega⟩
  rw[YT c3]at t3;have t4:EvT (tV (Zd gGe (Zdm Zv4 Z6m) Wj)) δ (decide (m<=Ztq A)):=Yv (Zm2 (Z95 ha h5) (Za h0) rfl)
  by_cases c4:m<=Ztq A
  .rw[YS c4]at t4
   exact .inl ⟨Zcj t1 (Zcj t2 (Zcj t3 (Zcg t4))),λ⟨z,_⟩=>by have:=((Ziy.mp z).2.2 _ mx.1).2;omega⟩
  rw[YT c4]at t4;have pt:∀x∈A,1<=x/\x<m:=λx hx=>⟨by have:=mn.2 x hx;omega,by have:=mx.2 x hx;omega⟩;have t5:EvT (tV (Zd gNe Zhv (Zdj Z6m))) δ (!decide (A=Zch (dnc A))):=Yv (Zr (Za h5) (Z5r hl (Z4w λx hx=>⟨(pt x hx).1,by have:=(pt x hx).2;omega⟩) h5) (Zyo _ _))
  by_cases c5:A=Zch (dnc A)
  .rw[YS c5]at t5
   exact .inr ⟨r,rfl,by omega,Ziy.mpr ⟨ha,Zra.mp c5.symm,pt⟩,Zcj t1 (Zcj t2 (Zcj t3 (Zcj t4 t5)))⟩
  .rw[YT c5]at t5
   exact .inl ⟨Zcj t1 (Zcj t2 (Zcj t3 (Zcj t4 t5))),λ⟨z,_⟩=>c5 (Zra.mpr (Ziy.mp z).2.1).symm⟩
def Z2h(m:Int):WL m []:=⟨(λ_ z=>nomatch z),λk x y hx _=>by rw[U4]at hx;cases hx⟩
def Zus{d:Xa}(h:ds.getLast? =YB d):gIx (.list ds) (.int (-1))=YB (.fz d):=by
 have ne:ds≠[]:=by rintro rfl;cases h
 have e:ds=ds.dropLast++[d]:=by
  have:=List.dropLast_concat_getLast ne;rw[List.getLast?_eq_some_getLast ne]at h;rw[Qo h]at this;exact this.symm
 rw[e,Zy8,Zqv];rfl
def Zwd{m:Int}{L:List (!11)}{q:List Int×Rat}:WL m (L++[q])↔WL m L/\(Zqp m q.1/\0<q.2.num)/\∀p,L.getLast? =YB p->ltI p.1 q.1=YD:=by
 constructor
 .rintro⟨h1,h2⟩
  refine⟨⟨λp hp=>h1 p (Bp _ hp),λk x y hx hy=>h2 k x y ?_ ?_⟩,h1 q (Qi _ (!8)),λp hp=>?_⟩
  .rw[Qt (Xk.mp hx).1];exact hx
  .rw[Qt (Xk.mp hy).1];exact hy
  .rw[List.getLast?_eq_getElem?]at hp
   have l:=(Xk.mp hp).1;refine h2 (L.length-1) p q ?_ ?_
   .rw[Qt l];exact hp
   .rw[show L.length-1+1=L.length by omega,JZ (Xx _),Nat.sub_self];rfl
 .rintro⟨⟨h1,h2⟩,h3,h4⟩
  refine⟨λp hp=>?_,λk x y hx hy=>?_⟩
  .rcases X3.mp hp with hp|hp
   .exact h1 p hp
   .rw[Xm.mp hp];exact h3
  .have ly:=(Xk.mp hy).1
   rw[Xw]at ly;have ly:k+1<L.length+1:=ly
   by_cases c:k+1<L.length
   .rw[Qt (!0)]at hx
    rw[Qt c]at hy;exact h2 k x y hx hy
   .have e:k+1=L.length:=by omega
    rw[e,JZ (Xx _),Nat.sub_self]at hy;cases hy;rw[Qt (!0)]at hx;exact h4 x (by rw[List.getLast?_eq_getElem?,show L.length-1=k by omega];exact hx)
def Yc3{m:Int}{L M:List (!11)}(h:WL m (L++M)):WL m L:=⟨λp hp=>h.1 p (Bp _ hp),λk x y hx hy=>h.2 k x y (by rw[Qt (Xk.mp hx).1];exact hx) (by rw[Qt (Xk.mp hy).1];exact hy)⟩
def xE(m:Int)(l:List Nat)(o:Option OT)(z3 z4 z5 z6:Option OT):Zg:=[YB (.fz (.int m)),YB (.fz (.str (mkS l))),o,z3,z4,z5,z6]
abbrev xG(m:Int)(l p a b:(!6))(L:List (!11)):Zg:=xE m l (YB (Zmg L)) (YB (.fz (.str (mkS p)))) (YB (.fz (.list ([a,b].map λp=>.str (mkS p))))) (YB (.fz (Zw (nvs a)))) (YB (.fz (oqD (rdO b))))
def Zon{m:Int}(m1:1<=m){l:List Nat}(h:Tx 990 l):∃d,Told Zbu [.int m,.str (mkS l)] d/\((∃L,Good m l L/\d=Zfx L)\/((∀L,¬Good m l L)/\d= .none)):=by
 have key:Zfc Zbs (Yo 7 [.int m,.str (mkS l)]) λd=>(∃L,Good m l L/\d=Zfx L)\/((∀L,¬Good m l L)/\d= .none):=by
  by_cases m10:m<=10
  case neg=>exact Wd (Wu (Yv (Zed (!4) Zn (YS (!0)))) (Wl Zn (.inr ⟨λL g=>m10 g.m10,rfl⟩)))
  refine Yc (Zj (Yv (Zed (!4) Zn (YT (!0)))) rfl) ?_;have tE:EvT (tV (Zd gEq Zax Z89)) (Yo 7 [.int m,.str (mkS l)]) (decide (l=[110,111,110,101])):=Yv (Zr (!7) Zn (by rw[Zxb,Zey h.cp (λc m=>by
   simp only[Xl,JV,or_false]at m;omega)]))
  obtain⟨tx,t2⟩:=Zyt h
  by_cases c:isNone l
  .rw[YS c]at tE
   exact Wd (Wu tE (Wl (Zbo Zh (!1)) (.inl ⟨[],⟨m1,m10,by rw[Ydf c];rfl,Z2h m⟩,rfl⟩)))
  rw[YT c]at tE;obtain⟨sa,sb⟩:=Yee (c:=59) (d:=32) h;have no:∀{k:Nat} {p:List Nat} {L:List (!11)},(psN l)[k]? =YB p->((psN l).take k).map Zbm=L.map ctD->(∀q,Zd9 m p q->∀u,L.getLast? =YB u->ltI u.1 q.1=YD->False)->((∀q,¬Zd9 m p q)\/∃u,L.getLast? =YB u)->∀M,¬Good m l M:=fun{k p L} hk hL hb hz M g=>by
   have el:(psN l).length=M.length:=by have:=YW Ui g.eq;rwa[Xf,Xf]at this
   have lk:=(Xk.mp hk).1;have e1:L=M.take k:=Zk0 (hL.symm.trans (by rw[List.map_take,g.eq,List.map_take]));obtain⟨q,hq⟩:∃q,M[k]? =YB q:=⟨_,Xi (el▸lk)⟩;have e2:Zbm p=ctD q:=by
    have:=YW (·[k]?) g.eq;simp only[Xq,hk,hq,Option.map_some]at this;exact Qo this
   have e3:M.take k++[q]++M.drop (k+1)=M:=by
    rw[show M.take k++[q]=M.take (k+1) by rw[Vr,hq];rfl,List.take_append_drop]
   have w:=Yc3 (L:=M.take k++[q]) (M:=M.drop (k+1)) (by rw[e3];exact g.wl);obtain⟨_,w2,w3⟩:=Zwd.mp w;have pq:Zd9 m p q:=⟨e2,w2.1,w2.2⟩;rcases hz with hz|⟨u,hu⟩
   .exact hz q pq
   .exact hb q pq u hu (w3 u (e1▸hu))
  refine Yc (Zj tE rfl) (Yc Z3w (Zh4 (ds:=(psN l).map λp=>.str (mkS p)) (λk δ=>∃L z3 z4 z5 z6,δ=xE m l (YB (Zmg L)) z3 z4 z5 z6/\((psN l).take k).map Zbm=L.map ctD/\WL m L) (Za8 ?_) ⟨[],YC,YC,YC,YC,rfl,rfl,Z2h m⟩ (λk d δ hd q=>?_) λδ' q=>?_))
  .rw[Z6x c]
   exact Zg3 (N:=990) (Br _ _) (!7) (Zid Ygy) h sb (!1)
  .obtain⟨L,z3,z4,z5,z6,rfl,eL,wL⟩:=q
   rw[Xq]at hd;cases ek:(psN l)[k]? with
   | none=>rw[ek]at hd;cases hd
   | some p=>
    rw[ek]at hd;cases hd;have tp:=tx p (Qq ek);obtain⟨sp,sl⟩:=Yee (c:=58) (d:=32) tp;have es:EvV (Zse Zda Zoq (Ze Z23 Yj)) (xE m l (YB (Zmg L)) (YB (.fz (.str (mkS p)))) z4 z5 z6) (.list ((spl [58,32] p).map λp=>.str (mkS p))):=Zg3 (N:=50000) (Br _ _) (!16) (Zid Yil) tp sl (!1);have tl:EvV (Zdm Zl7 Yc8) (xE m l (YB (Zmg L)) (YB (.fz (.str (mkS p)))) (YB (.fz (.list ((spl [58,32] p).map λp=>.str (mkS p))))) z5 z6) (.int ((spl [58,32] p).length:Int)):=(Zff (!19)).cast (by rw[Xf])
    by_cases c2:(spl [58,32] p).length=2
    case neg=>exact .inr ⟨_,rfl,Yc (Zt es) (Wd (Wu (Yv (Zev tl Zn (by rw[YT (!0)];rfl))) (Wl Zn (.inr ⟨no ek eL (λq z=>YZ z (Zrk c2 q)) (.inl (Zrk c2)),rfl⟩))))⟩
    obtain⟨a,b,hab⟩:∃a b,spl [58,32] p=[a,b]:=by
     generalize spl [58,32] p=P at c2
     match P,c2 with
     | [a,b],_=>exact⟨a,b,rfl⟩
    have ta:=sp a (by rw[hab];exact .head _);have tb:=sp b (by rw[hab];exact .tail _ (!8));rw[hab]at es tl;obtain⟨s1,s2⟩:=Yf8 (c:=32) ta;have la:(spl [32] a).length<2000:=by
     have h1:=Zly 59 32 l;have h2:p∈spl [59,32] l:=by rw[<-Z6x c];exact Qq ek
     have h3:=(Zl9 59 32 h2).length_le;have h4:=(Zl9 58 32 (show a∈spl [58,32] p by rw[hab];exact .head _)).length_le;have h5:=Zur 32 (spl [32] a);rw[h1]at h3;rw[Zly]at h4;rw[Zqm]at h5;have:=h.ln;omega
    have e5:EvV Ygt (xE m l (YB (Zmg L)) (YB (.fz (.str (mkS p)))) (YB (.fz (.list ([a,b].map λp=>.str (mkS p))))) z5 z6) (Zw (nvs a)):=(Zdt (cs:=[]) (spl [32] a) (λw=>.str (mkS w)) (λw=>.int (nv (Ja w))) (Za8 (Zg3 (N:=50000) (Br _ _) (Wo (d:=.str (mkS a)) (!19) Zn rfl) (Zo3 Yf1) ta s2 (!1))) (!0) rfl λw mw=>Zq (Zb (!4) Zh) (Zel (s1 w mw).cp (XD (s1 w mw).ln (!1)))).cast (by unfold nvs Zw;rw[X6];rfl);have e6:EvV Ygx (xE m l (YB (Zmg L)) (YB (.fz (.str (mkS p)))) (YB (.fz (.list ([a,b].map λp=>.str (mkS p))))) (YB (.fz (Zw (nvs a)))) z6) (oqD (rdO b)):=Zq (Zb (Wo (d:=.str (mkS b)) (!19) Zn rfl) Zh) (Zj9 tb);have pre:∀{S:FS} {Q:Xa->Prop},Zfc S (xG m l p a b L) Q->Zfc (Z3 Ykg (Z3 (Y4 Yhv Zyb fNx) (Z3 (wE Ygt (Ju 5)) (Z3 (wE Ygx Zss) S)))) (xE m l (YB (Zmg L)) (YB (.fz (.str (mkS p)))) z4 z5 z6) Q:=λk=>Yc (Zt es) (Yc (Zj (Yv (Zev tl Zn rfl)) rfl) (Yc (Zt e5) (Yc (Zt e6) k)));have nx:∀{S:FS} {δ2:Zg},S (xG m l p a b L)= .nx δ2->(Z3 Ykg (Z3 (Y4 Yhv Zyb fNx) (Z3 (wE Ygt (Ju 5)) (Z3 (wE Ygx Zss) S)))) (xE m l (YB (Zmg L)) (YB (.fz (.str (mkS p)))) z4 z5 z6)= .nx δ2:=λk=>Yt (Zt es) (Yt (Zj (Yv (Zev tl Zn rfl)) rfl) (Yt (Zt e5) (Yt (Zt e6) k)));have na:nvs a≠[]:=λz=>Zuv [32] a (List.map_eq_nil_iff.mp z);rcases Z9f m10 na (by unfold nvs;rw[Xf];exact la) (rdO b) (δ:=xE m l (YB (Zmg L)) (YB (.fz (.str (mkS p)))) (YB (.fz (.list ([a,b].map λp=>.str (mkS p))))) (YB (.fz (Zw (nvs a)))) (YB (.fz (oqD (rdO b))))) rfl rfl rfl with⟨t,z⟩|⟨r,er,r0,hc,t⟩
    .have np:∀q,¬Zd9 m p q:=λq hq=>by
      obtain⟨h1,h2,h3,h4⟩:=(Zqq hab q).mp hq;exact z ⟨h4,q.2,h1,h2⟩
     exact .inr ⟨_,rfl,pre (Wd (Wu t (Wl Zn (.inr ⟨no ek eL (λq z=>YZ z (np q)) (.inl np),rfl⟩))))⟩
    .have pq:Zd9 m p (nvs a,r):=(Zqq hab _).mpr ⟨er,r0,rfl,hc⟩
     have uq:∀q,Zd9 m p q->q=(nvs a,r):=λq z=>Zx9 (z.1.symm.trans pq.1);have tN:EvT (tV (Zd gNe (Zjv 2) Zxo)) (xG m l p a b L) (!decide (L=[])):=Yv (Zr (Za6 (i:=2) rfl (Zi8 L)) (Zbo Zh (!1)) (Zz6 L));have lL:L.length<=1000:=by
      have:=YW Ui eL;rw[Xf,Xf,Bq]at this;omega
     have app:∀{δ:Zg},δ=xE m l (YB (Zmg L)) (YB (.fz (.str (mkS p)))) (YB (.fz (.list ([a,b].map λp=>.str (mkS p))))) (YB (.fz (Zw (nvs a)))) (YB (.fz (oqD (rdO b))))->Jp 2 (Zjp (Ze Zhv (Ze Znb Yj))) δ= .nx (xE m l (YB (Zmg (L++[(nvs a,r)]))) (YB (.fz (.str (mkS p)))) (YB (.fz (.list ([a,b].map λp=>.str (mkS p))))) (YB (.fz (Zw (nvs a)))) (YB (.fz (oqD (rdO b))))):=fun{δ} hδ=>by
      subst hδ;refine(Zv1 (d:=ctD (nvs a,r)) (ts:=(L.map ctD).map OT.fz) ((Zdb (Zb (!18) (Zb (Za (i:=6) rfl) Zh)) (Qa rfl)).cast (by rw[er];rfl)) rfl (by rw[Xf,Xf];omega)).trans ?_;unfold Zmg;rw[Qs,Qs];rfl
     have go:(∀u,L.getLast? =YB u->ltI u.1 (nvs a)=YD)->((psN l).take (k+1)).map Zbm=(L++[(nvs a,r)]).map ctD/\WL m (L++[(nvs a,r)]):=λhu=>⟨by
      rw[Vr,ek,Uw,Qs,Qs,eL,List.map_singleton,List.map_singleton,pq.1],Zwd.mpr ⟨wL,⟨hc,r0⟩,hu⟩⟩
     by_cases l0:L=[]
     .rw[YS l0]at tN
      obtain⟨g1,g2⟩:=go λu hu=>by rw[l0]at hu;cases hu
      exact .inl ⟨_,_,rfl,nx (Yt (Zj t rfl) (Yt (Zj (Zjc tN) rfl) (app rfl))),_,_,_,_,_,rfl,g1,g2⟩
     .rw[YT l0]at tN
      have ll:=Qz.mpr l0;obtain⟨u,hu⟩:∃u,L.getLast? =YB u:=⟨_,List.getLast?_eq_some_getLast l0⟩;have eu:EvV Ykh (xG m l p a b L) (Zw u.1):=Wo (d:=Zw u.1) (x:=ctD u) (Wo (d:=ctD u) (Za6 (i:=2) rfl (Zi8 L)) (Zq1 Zn) (Zus (ds:=L.map ctD) (by rw[List.getLast?_map,hu];rfl))) Zn rfl;have tG:EvT (tV (Zd Z85 Ykh Zhv)) (xG m l p a b L) (!ltI u.1 (nvs a)):=Yv (Zr eu (!18) (Zui _ _));cases el:ltI u.1 (nvs a)with
      | true=>
       rw[el]at tG;obtain⟨g1,g2⟩:=go λv hv=>by rw[hu]at hv;cases hv;exact el
       exact .inl ⟨_,_,rfl,nx (Yt (Zj t rfl) (Yt (Zj (Zkb tN tG) rfl) (app rfl))),_,_,_,_,_,rfl,g1,g2⟩
      | false=>
       rw[el]at tG;refine .inr ⟨_,rfl,pre (Yc (Zj t rfl) (Wd (Wu (Zkb tN tG) (Wl Zn (.inr ⟨no ek eL (λq z v hv lt=>?_) (.inr ⟨u,hu⟩),rfl⟩)))))⟩;rw[uq q z]at lt;rw[hu]at hv;cases hv;rw[el]at lt;cases lt
  .obtain⟨L,z3,z4,z5,z6,rfl,eL,wL⟩:=q
   rw[Xf,VF]at eL;exact Yng rfl (.inl ⟨L,⟨m1,m10,eL,wL⟩,Zi8 L⟩)
 exact Zmi (np:=2) rfl key
def TxD(N:Nat)(d:Xa):Prop:=∃l,d= .str (mkS l)/\Tx N l
def EX(N:Nat)(e:FE)(δ:Zg):Prop:=∃d,EvV e δ d/\TxD N d
def okZ(N:Nat)(z:Str):Bool:=z.cps.toList.all (λc=>decide (c<128))&&decide (z.cps.toList.length<=N)
theorem Tx.up{M N:Nat}{l:List Nat}(h:Tx M l)(k:M<=N):Tx N l:=⟨h.cp,XD h.ln k⟩
theorem TxD.up{M N:Nat}{d:Xa}(h:TxD M d)(k:M<=N):TxD N d:=by
 obtain⟨l,e,t⟩:=h;exact⟨l,e,t.up k⟩
def Yae{N:Nat}(h:okZ N z=YD):TxD N (.str z):=by
 unfold okZ at h;rw[XR,Ul,decide_eq_true_eq]at h;exact⟨z.cps.toList,YW QD (Zpf z),λc m=>YX (h.1 c m),h.2⟩
def W6{N:Nat}(h:okZ N z=YD):EX N (fC (.str z)) δ:=⟨_,Zn,Yae h⟩
theorem EX.up{M N:Nat}{e:FE}(h:EX M e δ)(k:M<=N):EX N e δ:=by
 obtain⟨d,e,t⟩:=h;exact⟨d,e,t.up k⟩
def Tx.app{a b:Nat}{x y:List Nat}(h:Tx a x)(k:Tx b y):Tx (a+b) (x++y):=⟨λc m=>(X3.mp m).elim (h.cp c) (k.cp c),by
 have:=h.ln;have:=k.ln;rw[Xw];omega⟩
def Jr{a b:Nat}{e f:FE}(h:EX a e δ)(k:EX b f δ)(hab:a+b<=100000:=by decide):EX (a+b) (Zd Jd e f) δ:=by
 obtain⟨_,h1,x,rfl,tx⟩:=h;obtain⟨_,k1,y,rfl,ty⟩:=k;exact⟨_,Zr h1 k1 (Zc0 (by have:=tx.ln;have:=ty.ln;omega)),x++y,rfl,tx.app ty⟩
def Zq5{N:Nat}{l:List Nat}(lo hi:Option Int)(h:Tx N l):TxD N (.str (JN (mkS l) lo hi)):=by
 refine⟨(JN (mkS l) lo hi).cps.toList,YW QD (Zpf _),λc hc=>?_,?_⟩
 .unfold JN at hc
  split at hc
  .exact h.cp c hc
  .obtain⟨i,_,hi⟩:=List.mem_filterMap.mp hc
   exact h.cp c (Qq (i:=i) (by
    have:(mkS l).cps[i]? =YB c:=hi;rw[<-Qc]at this;exact this))
 .have:=Uo (mkS l) lo hi
  rw[Jm]at this;have:=h.ln;rw[XM];exact XD ‹_› this
def Yjo{i:Int}{N:Nat}(h:okZ N z=YD)(hN:N<=1000)(h0:0<=i)(h1:i<z.cps.toList.length):∃c,Z2n (.str z) (.int i)=YB (.fz (.str (mkS [c])))/\Tx 1 [c]:=by
 unfold okZ at h;rw[XR,Ul,decide_eq_true_eq]at h;obtain⟨k,rfl⟩:=QW h0;have hk:k<z.cps.toList.length:=by omega
 refine⟨z.cps.toList[k],?_,cp1 (YX (h.1 _ (Q6 hk))),Xx _⟩;show(if z.length<=Xp then(atI z.cps.toList (k:Int)).map λc=>OT.fz (.str ⟨#[c]⟩)else YC)=_;have e:z.length=z.cps.toList.length:=(XM ..).symm;rw[YM (by rw[e,Qe];omega),Zrv,Xi hk];rfl
def EXA(N:Nat)(as:FA)(δ:Zg)(n:Nat):Prop:=∃ds,EvA as δ ds/\ds.length=n/\∀d∈ds,TxD N d
def Zcs{N:Nat}:EXA N Yj δ 0:=⟨[],Zh,rfl,λ_ m=>nomatch m⟩
def Zi{N n:Nat}{e:FE}{as:FA}(h:EX N e δ)(k:EXA N as δ n):EXA N (Ze e as) δ (n+1):=by
 obtain⟨d,h1,t⟩:=h;obtain⟨ds,k1,l,ts⟩:=k;refine⟨d::ds,Zb h1 k1,by rw[XQ,l],λx m=>?_⟩;rcases Xl.mp m with rfl|m
 .exact t
 .exact ts x m
def LsT(N:Nat)(d:Xa)(n:Nat):Prop:=∃ds,d= .list ds/\ds.length=n/\∀x∈ds,TxD N x
def Zcu{N n:Nat}{as:FA}(h:EXA N as δ n)(hn:n<=1000):∃d,EvV (Zgv as) δ d/\LsT N d n:=by
 obtain⟨ds,h1,l,t⟩:=h;exact⟨_,Zbo h1 (!0),ds,rfl,l,t⟩
def Zxp{N m n:Nat}{a b:FE}{d e:Xa}(ha:EvV a δ d)(hd:LsT N d m)(hb:EvV b δ e)(he:LsT N e n)(h:m+n<=1000):∃r,EvV (W2 Zp1 a b) δ r/\LsT N r (m+n):=by
 obtain⟨ds,rfl,l1,t1⟩:=hd;obtain⟨es,rfl,l2,t2⟩:=he;exact⟨_,Yd1 ha hb (!0),ds++es,rfl,by rw[Xw,l1,l2],λx m=>(X3.mp m).elim (t1 x) (t2 x)⟩
def Zr1{N n:Nat}{a b:FE}{d:Xa}{i:Int}(ha:EvV a δ d)(hd:LsT N d n)(hb:EvV b δ (.int i))(h0:0<=i)(h1:i<n):EX N (W2 gIx a b) δ:=by
 obtain⟨ds,rfl,l,t⟩:=hd;obtain⟨k,rfl⟩:=QW h0;have hk:k<ds.length:=by omega
 exact⟨ds[k],Zix ha hb (by rw[Zrv,Xi hk]),t _ (Q6 hk)⟩
def Ybu{N n:Nat}{a:FE}{d:Xa}(ha:EvV a δ d)(hd:LsT N d n):EvV (Zdm Zl7 (Ze a Yj)) δ (.int (n:Int)):=by
 obtain⟨ds,rfl,l,t⟩:=hd;exact(Zff ha).cast (by rw[l])
def Zqf{N:Nat}{n:Nat}{S:FS}{xs:List Xa}(hF:F=J2 np n S)(hl:xs.length=np)(h:Zfc S (Yo n xs) λd=>TxD N d):∃l,Told F xs (.str (mkS l))/\Tx N l:=by
 subst hF;obtain⟨d,T,l,rfl,t⟩:=Zmi hl h;exact⟨l,T,t⟩
def Ydd{N:Nat}{n:Int}(h:Z01 z n=YD)(k:okZ N (Zy7 z n)=YD):EX N (Zd Zpl (fC (.str z)) (fC (.int n))) δ:=⟨_,Zr Zn Zn (show Zpl (.str z) (.int n)=YB (.str (Zy7 z n))from YM h),Yae k⟩
def Zst(x:Int):∃l,Told Zap [.int x] (.str (mkS l))/\Tx 100 l:=by
 refine Zqf rfl rfl ?_;have v:∀{d:Xa},EvV Zax [YB (.fz (.int x)),YB (.fz d)] d:=fun{d}=>Za (i:=1) rfl;obtain⟨d1,e1,l1⟩:=Zcu (N:=100) (n:=13) (δ:=Yo 2 [.int x]) (as:=Yl4) (!20) (!1);refine Yc (Zt e1) ?_;obtain⟨_,e2,l2⟩:=Zcu (N:=100) (n:=10) (δ:=[YB (.fz (.int x)),YB (.fz d1)]) (as:=Ync) (!20) (!1);obtain⟨d2,e3,l3⟩:=Zxp v l1 e2 l2 (!1);refine Yc (Zt e3) ?_;obtain⟨_,e4,l4⟩:=Zcu (N:=100) (n:=8) (δ:=[YB (.fz (.int x)),YB (.fz d2)]) (as:=Yn9) (!20) (!1);obtain⟨d3,e5,l5⟩:=Zxp v l3 e4 l4 (!1);refine Yc (Zt e5) ?_;obtain⟨_,e6,l6⟩:=Zcu (N:=100) (n:=5) (δ:=[YB (.fz (.int x)),YB (.fz d3)]) (as:=Ylb) (Zi (!3) (Zi (Jr (a:=50) (b:=50) (!3) (Ydd (!9) (!9))) (Zi (Jr (a:=50) (b:=50) (!3) (Ydd (!9) (!9))) (!20)))) (!1);obtain⟨d4,e7,l7⟩:=Zxp v l5 e6 l6 (!1);refine Yc (Zt e7) ?_;obtain⟨d,e8,t⟩:=Zr1 v l7 (Yp (Za (i:=0) (d:=.int x) rfl) (Ybu v l7) (!1)) (Yr (!1)) (Yz (!1));exact Wl e8 t
theorem Zni:∀ts:List OT,(∀t∈ts,∃z,t= .fz (.str z))->Zh5 ts=YD
 | [],_=>rfl
 | t::ts,h=>by
  obtain⟨z,rfl⟩:=h t (!8);rw[Zh5,Zga,Zbh,Zni ts λx m=>h x (.tail _ m)];rfl
def stO(ps:List (!6)):OT:=.nd ((ps.map λp=>QD (mkS p)).map OT.fz)
def stD(ps:List (!6)):Xa:=.list (ps.map λp=>.str (mkS p))
def Zah(ps:List (!6)):(stO ps).data=stD ps:=by unfold stO stD;rw[OT.data_nd,OT.map_fz]
def Z1a(ps:List (!6)):Zga (stO ps)=YD:=by
 unfold stO;rw[Zga];refine Zni _ λt m=>?_;obtain⟨d,hd,rfl⟩:=Qk.mp m;obtain⟨p,_,rfl⟩:=Qk.mp hd;exact⟨_,rfl⟩
def Zlu{e:FE}{ps:List (!6)}(h:e δ=YB (stO ps,δ)):wE (Zgz e) (Zbf i) δ= .nx (δ.set i (YB (stO ps))):=Ze1 (by
 unfold Zgz;rw[h,Xh,YM (Z1a ps)])
def Zrw{a b:FE}{ps qs:List (!6)}(ha:EvV a δ (stD ps))(hb:EvV b δ (stD qs))(h:ps.length+qs.length<=1000):W2 Zp1 a b δ=YB (stO (ps++qs),δ):=by
 obtain⟨s,e1,d1⟩:=ha;obtain⟨t,e2,d2⟩:=hb;rw[Zxt,e1,Xh];dsimp only;rw[e2,Xh,d1,d2];show(if(ps.map λp=>QD (mkS p)).length+(qs.map λp=>QD (mkS p)).length<=Xp then YB (OT.nd (((ps.map λp=>QD (mkS p))++(qs.map λp=>QD (mkS p))).map OT.fz))else YC).bind _=_;rw[YM (by rw[Xf,Xf,Qe];omega),Xh];unfold stO;rw[Qs,Qs,Qs]
def Zto{e:FE}{lo hi:FO}{l h:Option Int}{ps:List (!6)}(he:EvV e δ (stD ps))(hl:EvO lo δ l)(hh:EvO hi δ h):∃qs,EvV (fSl e lo hi) δ (stD qs)/\(∀q∈qs,q∈ps)/\qs=((ps.drop (HT.sIx ps.length 0 l)).take (HT.sIx ps.length ps.length h-HT.sIx ps.length 0 l)):=by
 refine⟨_,(Z6h he hl hh).cast ?_,λq m=>List.mem_of_mem_drop (List.mem_of_mem_take m),rfl⟩;unfold stD cutD;rw[Xf,List.map_take,List.map_drop]
def Z9m{e:FE}{st:FO}{ps:List (!6)}(he:EvV e δ (stD ps))(hs:EvO st δ (YB (-1))):Z1k e oN oN st δ=YB (stO ps.reverse,δ):=by
 obtain⟨t,e1,d1⟩:=he;unfold Z1k;rw[e1,Xh];show(st δ).bind _=_;rw[hs,Xh];show(stepOf t.data YC YC (YB (-1))).bind _=_;rw[d1];unfold stD stO;rw[Zsq,Xh,List.map_reverse,List.map_reverse,List.map_reverse]
def Z09{t:FT}{S:FS}{b:Bool}{P:Zg->Prop}(h:EvT t δ b)(h1:b=YD->∃δ',S δ= .nx δ'/\P δ')(h2:b=YF->P δ):∃δ',Y4 t S fNx δ= .nx δ'/\P δ':=by
 cases b with
 | true=>
  obtain⟨δ',e,p⟩:=h1 rfl;exact⟨δ',Jx h e,p⟩
 | false=>exact⟨δ,Zj h rfl,h2 rfl⟩
def Zq7{e j:FE}{ps:List (!6)}{k:Int}{p:List Nat}(he:EvV e δ (.str (mkS p)))(hi:δ[i]? =YB (YB (stO ps)))(hj:EvV j δ (.int k))(h0:0<=k)(h1:k<ps.length):Zy3 i e j δ= .nx (δ.set i (YB (stO (ps.set k.toNat p)))):=by
 obtain⟨n,rfl⟩:=QW h0;have lo:((ps.map λp=>QD (mkS p)).map OT.fz).length=ps.length:=by rw[Xf,Xf]
 refine(Yey (n:=n) (ts:=(ps.map λp=>QD (mkS p)).map OT.fz) (k:=(n:Int)) he hi hj (by rw[lo];exact Yfq (!0))).trans ?_;unfold stO;rw[show((n:Int)).toNat=n from rfl,List.map_set,List.map_set]
def cE(A:List Int)(q:Rat)(way num:Int)(ps:List (!6))(at5:Int)(z6:Option OT):Zg:=[YB (.fz (Zw A)),YB (.fz (frD q)),YB (.fz (.int way)),YB (.fz (.int num)),YB (stO ps),YB (.fz (.int at5)),z6]
def Zlg{ps:List (!6)}{k:Nat}{p:List Nat}{P:List Nat->Prop}(h:∀x∈ps,P x)(hp:P p):∀x∈ps.set k p,P x:=λx m=>by
 rcases List.mem_or_eq_of_mem_set m with m|rfl
 .exact h x m
 .exact hp
def Yoa{k:Nat}{ps:List (!6)}(h:∀p∈ps,Tx k p):(ps.map λp=>p.length+1).sum<=ps.length*(k+1):=Zkj _ _ ps λp m=>Uq (h p m).ln
def Yj2{k:Nat}{ps:List (!6)}(h:∀p∈ps,Tx k p):Tx (ps.length*(k+1)) (jn 32 ps):=⟨λc m=>by
 rcases Zvx m with rfl|⟨p,hp,m⟩
 .decide
 .exact(h p hp).cp c m,XD (Zx3 ..) (Yoa h)⟩
theorem Zvz:∀{rs:List OT} {ps:List (!6)},OT.datas rs=(ps.map λp=>QD (mkS p))->rs=(ps.map λp=>QD (mkS p)).map OT.fz
 | [],[],_=>rfl
 | [],_::_,h=>nomatch h
 | _::_,[],h=>nomatch h
 | r::rs,p::ps,h=>by
  obtain⟨h1,h2⟩:=QH (show r.data::OT.datas rs=QD (mkS p)::ps.map (λp=>QD (mkS p))from h);rw[XC,XC,<-Zvz h2];cases r with
  | fz d=>rw[OT.data_fz]at h1;rw[h1]
  | nd ts=>rw[OT.data_nd]at h1;cases h1
  | tp ts=>rw[OT.data_tp]at h1;cases h1
  | dc _ _ _=>rw[OT.data_dc]at h1;cases h1
def Zxd{n:Nat}{g:FG}{t:FT}{ps:List (!6)}(hi:EvI it δ ds)(h:EvV (Jq n caps it g t me) δ (stD ps)):Jq n caps it g t me δ=YB (stO ps,δ):=by
 obtain⟨t,e1,e2⟩:=h;cases t with
 | fz d=>
  unfold Jq at e1;unfold EvI at hi;rw[hi,Xh]at e1;split at e1
  .obtain⟨z,h1,h2⟩:=bs e1
   cases h2
  .cases e1
 | tp ts=>rw[OT.data_tp]at e2;cases e2
 | dc _ _ _=>rw[OT.data_dc]at e2;cases e2
 | nd rs=>
  rw[OT.data_nd,<-datas_map]at e2;injection e2 with e2;rw[e1,Zvz e2];rfl
def Zo2{q:List Int×Rat}(hq:Wq q)(way num:Int):∃l,Told Ww [Zw q.1,frD q.2,.int way,.int num] (.str (mkS l))/\Tx 140 l:=by
 refine Zqf rfl rfl ?_;have pt:∀x∈q.1,Tx 3 (tx x):=λx hx=>by
  obtain⟨m,e1,e,l⟩:=Z8h (hq.pt x hx);rw[e];exact⟨λc m=>by have:=Zki m;omega,by omega⟩
 have l9:=hq.ln;have l0:=Qz.mpr hq.ne;have i0:EvI (Zg8 Wj) (Yo 7 [Zw q.1,frD q.2,.int way,.int num]) (q.1.map Xo):=Za8 (!4);have e0:Ykd (Yo 7 [Zw q.1,frD q.2,.int way,.int num])=YB (stO (q.1.map tx),Yo 7 [Zw q.1,frD q.2,.int way,.int num]):=Zxd i0 ((Zdt (cs:=[]) q.1 Xo (λx=>.str (mkS (tx x))) i0 (!0) rfl λx hx=>Jg (Zb (!4) Zh) (Zgr (Bt.of_lt (Bc (b:=0) (!9) (by have:=hq.pt x hx;omega)) (Bc (hq.pt x hx).2 (!9))))).cast (by unfold stD;rw[X6];rfl));refine Yc (Ze1 e0) ?_;have len4:∀{δ:Zg} {ps:List (!6)},δ[4]? =YB (YB (stO ps))->EvV (Zdm Zl7 (Ze (Zjv 4) Yj)) δ (.int (ps.length:Int)):=λh=>(Zff (Za6 h (Zah _))).cast (by rw[Xf]);have a0:=Yr (i:=num) (j:=(q.1.length:Int)) (!0);have a1:=Yz (i:=num) (j:=(q.1.length:Int)) (!0);refine Yc (Zt (Yp (!16) ((len4 rfl).cast (by rw[Xf])) (!0))) ?_;generalize num.fmod (q.1.length:Int)=a at a0 a1;show Zfc _ (cE q.1 q.2 way num (q.1.map tx) a YC) _;let P:Zg->Prop:=λδ=>∃ps,δ=cE q.1 q.2 way num ps a YC/\(∀p∈ps,Tx 3 p)/\ps.length=q.1.length;let P2:Zg->Prop:=λδ=>∃ps,δ=cE q.1 q.2 way num ps a YC/\(∀p∈ps,Tx 3 p)/\ps.length<=10;have tw:∀{δ:Zg} {k:Int},δ[2]? =YB (YB (.fz (.int way)))->EvT (tV (Zd gEq Zhs (fC (.int k)))) δ (decide (way=k)):=λh=>Yv (Zal (Za h) Zn rfl);have P0:P (cE q.1 q.2 way num (q.1.map tx) a YC):=⟨_,rfl,λp m=>by
  obtain⟨x,hx,rfl⟩:=Qk.mp m;exact pt x hx,by rw[Xf]⟩
 obtain⟨δ1,s1,ps1,rfl,h1,k1⟩:=Z09 (P:=P) (S:=Zy3 4 Ylf Zhv) (tw (k:=0) (δ:=cE q.1 q.2 way num (q.1.map tx) a YC) rfl) (λ_=>by
  obtain⟨d1,e1,l1⟩:=Zcu (N:=3) (n:=8) (δ:=cE q.1 q.2 way num (q.1.map tx) a YC) (as:=Ym6) (!20) (!1);obtain⟨_,e2,p,rfl,t⟩:=Zr1 e1 l1 (Yp (J0 (Za (i:=3) (d:=.int num) rfl) (Zn (d:=.int 16))) Zn (!1)) (Yr (!1)) (Yz (!1));exact⟨_,Zq7 e2 rfl (!18) a0 (by rw[Xf];exact a1),_,rfl,Zlg (λp m=>by
   obtain⟨x,hx,rfl⟩:=Qk.mp m;exact pt x hx) t,by rw[Bb,Xf]⟩) λ_=>P0
 refine Yc s1 ?_;clear P0 s1;obtain⟨δ2,s2,ps2,rfl,h2,k2⟩:=Z09 (P:=P2) (S:=wE Yn4 (Zbf 4)) (tw (k:=1) (δ:=cE q.1 q.2 way num ps1 a YC) rfl) (λz=>by
  obtain⟨qs,e1,i1,j1⟩:=Zto (δ:=cE q.1 q.2 way num ps1 a YC) (e:=Zjv 4) (Za6 (i:=4) rfl (Zah _)) Z3j (Zvq (Za7 (!18) Zn));obtain⟨rs,e2,i2,j2⟩:=Zto (δ:=cE q.1 q.2 way num ps1 a YC) (e:=Zjv 4) (Za6 (i:=4) rfl (Zah _)) (Zvq (!18)) Z3j;obtain⟨b,rfl⟩:=QW a0;have q1:qs.length=b+1:=by
   rw[j1,Bq,JK];have:HT.sIx ps1.length ps1.length (YB ((b:Int)+1))=b+1:=by unfold HT.sIx;dsimp only;split<;>omega
   rw[this];show min (b+1-0) (ps1.length-0)=_;omega
  have q2:rs.length=ps1.length-b:=by
   rw[j2,Bq,JK];have:HT.sIx ps1.length 0 (YB (b:Int))=b:=by unfold HT.sIx;dsimp only;split<;>omega
   rw[this];show min (ps1.length-b) (ps1.length-b)=_;omega
  exact⟨_,Zlu (Zrw e1 e2 (!0)),qs++rs,rfl,λp m=>(X3.mp m).elim (λm=>h1 p (i1 p m)) λm=>h1 p (i2 p m),by rw[Xw];omega⟩) λ_=>⟨ps1,rfl,h1,by omega⟩
 refine Yc s2 ?_;clear s2 h1;obtain⟨δ3,s3,ps,rfl,h3,k3⟩:=Z09 (P:=P2) (S:=wE Yl9 (Zbf 4)) (tw (k:=2) (δ:=cE q.1 q.2 way num ps2 a YC) rfl) (λz=>⟨_,Zlu (Z9m (Za6 (i:=4) rfl (Zah _)) (Zvq (Zq1 Zn))),ps2.reverse,rfl,λp m=>h2 p (List.mem_reverse.mp m),by rw[List.length_reverse];omega⟩) λ_=>⟨ps2,rfl,h2,k2⟩;refine Yc s3 ?_;clear s3 h2;refine Yc (Zt (d:=.str (mkS (qtx q.2))) (Zq (Zb (!7) Zh) (Zl6 hq.ds))) ?_;let P3:Zg->Prop:=λδ=>∃w,δ=cE q.1 q.2 way num ps a (YB (.fz (.str (mkS w))))/\Tx 81 w;obtain⟨δ4,s4,w,rfl,tw'⟩:=Z09 (P:=P3) (S:=wE Ymb Zss) (tw (k:=3) (δ:=cE q.1 q.2 way num ps a (YB (.fz (.str (mkS (qtx q.2)))))) rfl) (λ_=>by
  obtain⟨d1,e1,l1⟩:=Zcu (N:=81) (n:=12) (δ:=cE q.1 q.2 way num ps a (YB (.fz (.str (mkS (qtx q.2)))))) (as:=Yl7) (!20) (!1);obtain⟨_,e2,p,rfl,t⟩:=Zr1 e1 l1 (Yp (J0 (Za (i:=3) (d:=.int num) rfl) (Zn (d:=.int 16))) Zn (!1)) (Yr (!1)) (Yz (!1));exact⟨_,Zt e2,p,rfl,t⟩) λ_=>⟨_,rfl,λc m=>by have:=Zpp hq.ds c m;omega,Zmd hq.ds⟩
 refine Yc s4 ?_;clear s4;have ej:EX 40 Ygr (cE q.1 q.2 way num ps a (YB (.fz (.str (mkS w))))):=⟨_,Ztu (ps:=ps) (Zo3 Yf1) (Za6 (i:=4) rfl (Zah _)) (XD (Yoa h3) (!0)),_,rfl,(Yj2 h3).up (!0)⟩;have ew:EX 81 Znb (cE q.1 q.2 way num ps a (YB (.fz (.str (mkS w))))):=⟨_,Za (i:=6) rfl,w,rfl,tw'⟩;have t4:=tw (k:=4) (δ:=cE q.1 q.2 way num ps a (YB (.fz (.str (mkS w))))) rfl
 by_cases c:way=4
 .rw[YS c]at t4
  obtain⟨d1,e1,l1⟩:=Zcu (N:=140) (n:=4) (δ:=cE q.1 q.2 way num ps a (YB (.fz (.str (mkS w))))) (as:=Ymi) (Zi ((Jr (Jr (b:=3) ej (!3)) ew).up (!1)) (Zi ((Jr (Jr (b:=3) ej (!3)) ew).up (!1)) (Zi (ew.up (!1)) (Zi ((Jr (a:=3) (!3) ew).up (!1)) Zcs)))) (!1);obtain⟨d,e2,t⟩:=Zr1 e1 l1 (Yp (Za (i:=3) (d:=.int num) rfl) Zn (!1)) (Yr (!1)) (Yz (!1));exact Wd (Wu t4 (Wl e2 t))
 .rw[YT c]at t4
  obtain⟨d,e2,t⟩:=Jr (Jr (b:=3) ej (W6 (z :=": ") (!9))) ew;exact Yc (Zj t4 rfl) (Wl e2 (t.up (!1)))
def Z71{n:Nat}{a:Int}(h:0<=a):(Bl YC (YB a) 1 n).length<=a.toNat:=by
 unfold Bl sliceRange;simp only[show(1:Int)>0 by decide,if_true,Xf,JW];split<;>(try split)<;>(try simp only[Int.ediv_one])<;>omega
def Z43{n:Nat}{a:Int}(h:0<=a):(Bl (YB a) YC 1 n).length<=n-a.toNat:=by
 unfold Bl sliceRange;simp only[show(1:Int)>0 by decide,if_true,Xf,JW];split<;>(try split)<;>(try simp only[Int.ediv_one])<;>omega
def Z2u{lo hi:Option Int}{k:Nat}(h:(Bl lo hi 1 z.length).length<=k):(JN z lo hi).length<=k:=by
 unfold JN;split
 .next c=>
  simp at c;exact c▸h
 .show(List.filterMap _ (Bl lo hi 1 z.length)).toArray.size<=_
  rw[XF];exact XD (List.length_filterMap_le _ _) h
def Z68{a:Int}(h:0<=a):(JN z YC (YB a)).length<=a.toNat:=Z2u (Z71 h)
def Z4k{a:Int}(h:0<=a):(JN z (YB a) YC).length<=z.length-a.toNat:=Z2u (Z43 h)
def Zqz{t:FT}{P:Prop}[Decidable P](h:EvT t δ (decide P))(p:P):EvT t δ YD:=by rw[YS p]at h;exact h
def Zsa{t:FT}{P:Prop}[Decidable P](h:EvT t δ (decide P))(p:¬P):EvT t δ YF:=by rw[YT p]at h;exact h
def Z9b{e:FE}{o:FE}{l:List Nat}{a:Int}(hl:Tx 900 l)(he:EvV e δ (.str (mkS l)))(ho:EvV o δ (.int a))(h:0<=a):EX a.toNat (Z22 e oN (oI o)) δ:=by
 obtain⟨x,e1,t⟩:=Zq5 YC (YB a) hl;refine⟨_,Z2z he Z3j (Zvq ho) (by rw[Jm];have:=hl.ln;omega),x,e1,t.cp,?_⟩;have:=Z68 (z:=mkS l) h;rw[PyData.str.inj e1,Jm]at this;exact this
def Z2d{e:FE}{o:FE}{l:List Nat}{a:Int}(hl:Tx 900 l)(he:EvV e δ (.str (mkS l)))(ho:EvV o δ (.int a))(h:0<=a):EX (l.length-a.toNat) (Z22 e (oI o) oN) δ:=by
 obtain⟨x,e1,t⟩:=Zq5 (YB a) YC hl;refine⟨_,Z2z he (Zvq ho) Z3j (by rw[Jm];have:=hl.ln;omega),x,e1,t.cp,?_⟩;have:=Z4k (z:=mkS l) h;rw[PyData.str.inj e1,Jm,Jm]at this;exact this
def s2(ps:List (!6)):Nat:=(ps.map λp=>p.length+2).sum
structure Pl(ps:List (!6)):Prop where
 cp:∀p∈ps,Cp p
 sm:s2 ps<=990
def Yjh{ps:List (!6)}(h:Pl ps):Tx 990 (jn2 59 32 ps):=⟨λc m=>by
 rcases Zo7 m with m|m|⟨p,hp,m⟩
 .omega
 .omega
 .exact h.cp p hp c m,XD (Zqb ..) h.sm⟩
def Z90{ps:List (!6)}(h:∀p∈ps,Tx 101 p):s2 ps<=ps.length*103:=Zkj _ _ ps λp m=>Nat.add_le_add_right (h p m).ln 2
def Zwv{ps:List (!6)}(h:∀p∈ps,Tx 101 p)(k:ps.length<=9):Pl ps:=⟨λp m=>(h p m).cp,XD (Z90 h) (!0)⟩
theorem Z2j{p:List Nat}:∀{ps:List (!6)} {k:Nat},s2 (ps.set k p)<=s2 ps+(p.length+2)
 | [],_=>Qp _
 | q::ps,0=>by
  show p.length+2+s2 ps<=q.length+2+s2 ps+_;omega
 | q::ps,k+1=>by
  have:=Z2j (p:=p) (ps:=ps) (k:=k);show q.length+2+s2 (ps.set k p)<=q.length+2+s2 ps+_;omega
def Z6u{e:FE}(h:EvV e δ (.str z)):EvV (Zxg e) δ (.str z):=by
 obtain⟨t,e1,d⟩:=h;exact⟨_,by unfold Zxg;rw[e1,Xh];dsimp only;rw[d];exact YM rfl,OT.data_fz _⟩
def Yic{ps:List (!6)}(h:∀p∈ps,Cp p)(l:ps.length<=1000):Va (stD ps)=YD:=by
 have:Sh 1 (stD ps):=Zle λd m=>by
  obtain⟨p,hp,rfl⟩:=Qk.mp m;exact⟨VL (Zns (h p hp)),Nat.le_of_eq (by rw[PyData.depth])⟩
 exact(this.shp (!0)).ok
def Z8m{ps:List (!6)}(h:∀p∈ps,Cp p)(l:ps.length<=1000):gEq (stD ps) (.list [])=YB (.bool (decide (ps=[]))):=by
 unfold gEq;rw[YM (by rw[Yic h l];rfl)];cases ps<;>rfl
def Z7p{a b:FE}{ps:List (!6)}{i:Int}(ha:EvV a δ (stD ps))(hb:EvV b δ (.int i))(h0:0<=i)(h1:i<ps.length):∃p∈ps,EvV (W2 gIx a b) δ (.str (mkS p)):=by
 obtain⟨k,rfl⟩:=QW h0;have hk:k<ps.length:=by omega
 exact⟨ps[k],Q6 hk,Zix ha hb (by rw[Zrv,Xq,Xi hk];rfl)⟩
def Yjd{a b:FE}{L:List (!11)}{i:Int}(ha:EvV a δ (Zfx L))(hb:EvV b δ (.int i))(h0:0<=i)(h1:i<L.length):∃q∈L,EvV (W2 gIx a b) δ (ctD q):=by
 obtain⟨k,rfl⟩:=QW h0;have hk:k<L.length:=by omega
 exact⟨L[k],Q6 hk,Zix ha hb (by rw[Zrv,Xq,Xi hk];rfl)⟩
def hE(l:List Nat)(L:List (!11))(N:List Int)(a:Int)(s:List Nat)(w:Int)(z6 z7 z8 z9 z10:Option OT):Zg:=[YB (.fz (.str (mkS l))),YB (.fz (Zfx L)),YB (.fz (Zw N)),YB (.fz (.int a)),YB (.fz (.str (mkS s))),YB (.fz (.int w)),z6,z7,z8,z9,z10]
def Zj5{l:List Nat}{L:List (!11)}(hl:Tx 824 l)(h:∀q∈L,Wq q)(h8:L.length<=8)(n0 n1 n2 n3 n4 n5 n6 n7 n8:Int):∃r,Told W5 [.str (mkS l),Zfx L,Zw [n0,n1,n2,n3,n4,n5,n6,n7,n8]] (.str (mkS r))/\Tx 990 r:=by
 refine Zqf rfl rfl ?_;have hln:=hl.ln;have hl9:=hl.up (N:=900) (!1);refine Yc (Zt (Yp (Wo (d:=.int n0) (!13) Zn rfl) (Za7 (Zfb (w:=l) (!4) (!0)) Zn) (!0))) ?_;have a0:=Yr (i:=n0) (j:=(l.length:Int)+1) (!0);have a1:=Yz (i:=n0) (j:=(l.length:Int)+1) (!0);generalize n0.fmod ((l.length:Int)+1)=a at a0 a1;obtain⟨c,ec,tc⟩:=Yjo (z :=" 0123456789/-+.\n\t_a;:") (i:=n1.fmod 21) (N:=21) (!9) (!1) (Yr (!1)) (Bc (Yz (!1)) (!9));refine Yc (Zt (Zkf Zn (Yp (Wo (d:=.int n1) (!13) Zn rfl) Zn (!1)) ec (OT.data_fz _))) ?_;refine Yc (Zt (Yp (Wo (d:=.int n2) (!13) Zn rfl) Zn (!1))) ?_;generalize n2.fmod 10=w;generalize hN:[n0,n1,n2,n3,n4,n5,n6,n7,n8]=N;have i3:∀{δ:Zg},δ[2]? =YB (YB (.fz (Zw N)))->EvV Yf3 δ (.int n3):=λh=>Wo (Za h) Zn (by rw[<-hN];rfl);have i4:∀{δ:Zg},δ[2]? =YB (YB (.fz (Zw N)))->EvV (W2 gIx Zhs Zpu) δ (.int n4):=λh=>Wo (Za h) Zn (by rw[<-hN];rfl);have i5:∀{δ:Zg},δ[2]? =YB (YB (.fz (Zw N)))->EvV (W2 gIx Zhs Z5k) δ (.int n5):=λh=>Wo (Za h) Zn (by rw[<-hN];rfl);show Zfc _ (hE l L N a [c] w YC YC YC YC YC) _;have tw:∀{δ:Zg} (k:Int),δ[5]? =YB (YB (.fz (.int w)))->EvT (tV (Zd gEq Zhv (fC (.int k)))) δ (decide (w=k)):=λk h=>Yv (Zal (Za h) Zn rfl);have pr:=Z9b (e:=Yk 0) (o:=Yk 3) (δ:=hE l L N a [c] w YC YC YC YC YC) hl9 (!4) (!16) a0;have su:=Z2d (e:=Yk 0) (o:=Yk 3) (δ:=hE l L N a [c] w YC YC YC YC YC) hl9 (!4) (!16) a0;have su1:=Z2d (e:=Yk 0) (δ:=hE l L N a [c] w YC YC YC YC YC) hl9 (!4) (Za7 (!16) (Zn (d:=.int 1))) (show 0<=a+1 by omega);have sg:EX 1 Zpy (hE l L N a [c] w YC YC YC YC YC):=⟨_,Za (i:=4) rfl,_,rfl,tc⟩;have tx0:EX 824 Wj (hE l L N a [c] w YC YC YC YC YC):=⟨_,Za (i:=0) rfl,_,rfl,hl⟩
 by_cases c0:w=0
 .obtain⟨d,e,t⟩:=Jr pr su1 (!0)
  exact Wd (Wu (Zqz (tw 0 rfl) c0) (Wl e (t.up (!0))))
 refine Yc (Zj (Zsa (tw 0 rfl) c0) rfl) ?_
 by_cases c1:w=1
 .obtain⟨d,e,t⟩:=Jr (Jr pr sg (!0)) su (!0)
  exact Wd (Wu (Zqz (tw 1 rfl) c1) (Wl e (t.up (!0))))
 refine Yc (Zj (Zsa (tw 1 rfl) c1) rfl) ?_
 by_cases c2:w=2
 .obtain⟨d,e,t⟩:=Jr (Jr pr sg (!0)) su1 (!0)
  exact Wd (Wu (Zqz (tw 2 rfl) c2) (Wl e (t.up (!0))))
 refine Yc (Zj (Zsa (tw 2 rfl) c2) rfl) ?_
 by_cases c3:w=3
 .obtain⟨d6,e6,l6⟩:=Zcu (N:=830) (n:=7) (δ:=hE l L N a [c] w YC YC YC YC YC) (as:=Ynm) (Zi (Jr (b:=6) tx0 (!3)) (Zi (Jr (a:=6) (!3) tx0) (Zi (Jr (b:=6) tx0 (!3)) (Zi (Jr (a:=6) (!3) tx0) (Zi (Jr (b:=6) tx0 (!3)) (Zi (Jr (b:=6) tx0 (!3)) (Zi (Jr (b:=6) tx0 (!3)) Zcs))))))) (!1)
  obtain⟨d,e,t⟩:=Zr1 (a:=Yk 6) (δ:=hE l L N a [c] w (YB (.fz d6)) YC YC YC YC) (Za (i:=6) rfl) l6 (Yp (i3 rfl) Zn (!1)) (Yr (!1)) (Yz (!1));exact Wd (Wu (Zqz (tw 3 rfl) c3) (Yc (Zt e6) (Wl e (t.up (!1)))))
 refine Yc (Zj (Zsa (tw 3 rfl) c3) rfl) ?_;clear pr su su1 sg tx0;have i1:EvI (Zg8 Zax) (hE l L N a [c] w YC YC YC YC YC) (L.map ctD):=Za8 (!7);refine Yc (Ze1 (Zxd (ps:=L.map wtx) i1 ((Zrl (t:=Zj6) (cs:=[]) L ctD (λq=>.str (mkS (wtx q))) (λ_=>YD) i1 (!0) rfl λq hq z0 z1=>⟨YB (.fz (Zw q.1)),YB (.fz (frD q.2)),rfl,rfl,Z3e (h q hq) (Zrx (h q hq).pt (h q hq).ln (!4)) (Zq (Zb (!7) Zh) (Zl6 (h q hq).ds))⟩).cast (by
  rw[List.filter_eq_self.mpr λ_ _=>rfl];unfold stD;rw[X6];rfl)))) ?_
 have ht:∀p∈L.map wtx,Tx 101 p:=λp m=>by
  obtain⟨q,hq,rfl⟩:=Qk.mp m;exact⟨Z2t (h q hq),Zpn (h q hq)⟩
 have hm:(L.map wtx).length=L.length:=Xf ..;generalize hps:L.map wtx=ps at ht hm;show Zfc _ (hE l L N a [c] w YC (YB (stO ps)) YC YC YC) _;have t7:EvT (tV (Zd gEq Ztm Zxo)) (hE l L N a [c] w YC (YB (stO ps)) YC YC YC) (decide (ps=[])):=Yv (Zr (Za6 (i:=7) rfl (Zah _)) (Zbo Zh (!1)) (Z8m (λp m=>(ht p m).cp) (!0)))
 by_cases c7:ps=[]
 .obtain⟨d6,e6,l6⟩:=Zcu (N:=30) (n:=5) (δ:=hE l L N a [c] w YC (YB (stO ps)) YC YC YC) (as:=Ynv) (!20) (!1)
  obtain⟨d,e,t⟩:=Zr1 e6 l6 (Yp (i3 rfl) Zn (!1)) (Yr (!1)) (Yz (!1));exact Wd (Wu (Zqz t7 c7) (Wl e (t.up (!1))))
 refine Yc (Zj (Zsa t7 c7) rfl) ?_;have p0:=Qz.mpr c7;have len7:∀{δ:Zg} {ps:List (!6)},δ[7]? =YB (YB (stO ps))->EvV Yjz δ (.int (ps.length:Int)):=λh=>(Zff (Za6 h (Zah _))).cast (by rw[Xf]);refine Yc (Zt (Yp (i3 rfl) (len7 rfl) (!0))) ?_;have x0:=Yr (i:=n3) (j:=(ps.length:Int)) (!0);have x1:=Yz (i:=n3) (j:=(ps.length:Int)) (!0);generalize n3.fmod (ps.length:Int)=x at x0 x1;refine Yc (Zt (Yp (i4 rfl) (len7 rfl) (!0))) ?_;have y0:=Yr (i:=n4) (j:=(ps.length:Int)) (!0);have y1:=Yz (i:=n4) (j:=(ps.length:Int)) (!0);generalize n4.fmod (ps.length:Int)=y at y0 y1;show Zfc _ (hE l L N a [c] w YC (YB (stO ps)) (YB (.fz (.int x))) (YB (.fz (.int y))) YC) _;generalize hδ:hE l L N a [c] w YC (YB (stO ps)) (YB (.fz (.int x))) (YB (.fz (.int y))) YC=δ;have o7:EvV Ztm δ (stD ps):=by rw[<-hδ];exact Za6 (i:=7) rfl (Zah _)
 have v8:EvV Zr5 δ (.int x):=by rw[<-hδ];exact Za (i:=8) rfl
 have v9:EvV (Yk 9) δ (.int y):=by rw[<-hδ];exact Za (i:=9) rfl
 have fin:∀{ps':List (!6)} {z10:Option OT} {S:FS},S δ= .nx (hE l L N a [c] w YC (YB (stO ps')) (YB (.fz (.int x))) (YB (.fz (.int y))) z10)->Pl ps'->Zfc (Z3 S Yk4) δ λd=>TxD 990 d:=fun{ps' z10 S} e pl=>Yc e (Wl (Zvu (Zid Ygy) (Zb (Za6 (i:=7) rfl (Zah _)) Zh) (Znw (ps:=ps') (XD pl.sm (!1)))) ⟨_,rfl,Yjh pl⟩);have g5:δ[5]? =YB (YB (.fz (.int w))):=by rw[<-hδ];rfl
 have g7:δ[7]? =YB (YB (stO ps)):=by rw[<-hδ];rfl
 obtain⟨p,hp,ep⟩:=Z7p o7 v9 y0 y1;obtain⟨p',hp',ep'⟩:=Z7p o7 v8 x0 x1
 by_cases c4:w=4
 .obtain⟨u,hu,eu⟩:=Z7p (a:=Zjv 7) (b:=Yk 9) (ps:=ps) (δ:=hE l L N a [c] w YC (YB (stO ps)) (YB (.fz (.int x))) (YB (.fz (.int y))) (YB (.fz (.str (mkS p'))))) (Za6 (i:=7) rfl (Zah _)) (Za (i:=9) rfl) y0 y1
  refine fin (z10:=YB (.fz (.str (mkS p')))) (ps':=(ps.set x.toNat u).set y.toNat p') (Jx (Zqz (tw 4 g5) c4) (Yt (Zo8 ep' rfl) ?_)) (Zwv (Zlg (Zlg ht (ht u hu)) (ht p' hp')) (by rw[Bb,Bb];omega));rw[<-hδ];exact Yt (Zq7 (ps:=ps) (p:=u) (k:=x) (Z6u eu) rfl (Za (i:=8) rfl) x0 x1) (Zq7 (ps:=ps.set x.toNat u) (p:=p') (k:=y) (Za (i:=10) rfl) rfl (Za (i:=9) rfl) y0 (by rw[Bb];exact y1))
 have f4:=Zsa (tw 4 g5) c4;obtain⟨qs,e1,m1,k1⟩:=Zto o7 Z3j (Zvq v8);obtain⟨rs,e2,m2,k2⟩:=Zto o7 (Zvq v8) Z3j;obtain⟨us,e3,m3,k3⟩:=Zto o7 (Zvq (Za7 v8 (Zn (d:=.int 1)))) Z3j;obtain⟨b,rfl⟩:=QW x0;have q1:qs.length=b:=by
  rw[k1,Bq,JK];have:HT.sIx ps.length ps.length (YB (b:Int))=b:=by unfold HT.sIx;dsimp only;split<;>omega
  rw[this];show min (b-0) (ps.length-0)=_;omega
 have q2:rs.length=ps.length-b:=by
  rw[k2,Bq,JK];have:HT.sIx ps.length 0 (YB (b:Int))=b:=by unfold HT.sIx;dsimp only;split<;>omega
  rw[this];show min (ps.length-b) (ps.length-b)=_;omega
 have q3:us.length<=ps.length-b:=by
  rw[k3,Bq,JK];have:HT.sIx ps.length 0 (YB ((b:Int)+1))=b+1:=by unfold HT.sIx;dsimp only;split<;>omega
  rw[this];omega
 by_cases c5:w=5
 .have e4:=Zrw (a:=fSl Ztm oN (oI Zr5)) (b:=Zgv (Ze Yhn Yj)) (ps:=qs) (qs:=[p]) e1 (Zbo (Zb ep Zh) (Qa rfl)) (by rw[q1];show b+1<=_;omega)
  refine fin (z10:=YC) (ps':=qs++[p]++rs) (Zj f4 (Jx (Zqz (tw 5 g5) c5) ((Zlu (i:=7) (Zrw ⟨_,e4,Zah _⟩ e2 (by rw[Xw,q1,q2];show b+1+_<=_;omega))).trans ?_))) (Zwv (λu m=>?_) (by rw[Xw,Xw,q1,q2];show b+1+_<=_;omega))
  .rw[<-hδ];rfl
  .rcases X3.mp m with m|m
   .rcases X3.mp m with m|m
    .exact ht u (m1 u m)
    .rw[Xm.mp m];exact ht p hp
   .exact ht u (m2 u m)
 have f5:=Zsa (tw 5 g5) c5
 by_cases c6:w=6
 .refine fin (z10:=YC) (ps':=qs++us) (Zj f4 (Zj f5 (Jx (Zqz (tw 6 g5) c6) ((Zlu (i:=7) (Zrw e1 e3 (!0))).trans ?_)))) (Zwv (λu m=>?_) (by rw[Xw];omega))
  .rw[<-hδ];rfl
  .rcases X3.mp m with m|m
   .exact ht u (m1 u m)
   .exact ht u (m3 u m)
 have f6:=Zsa (tw 6 g5) c6;have vL:EvV Zax δ (Zfx L):=by rw[<-hδ];exact Za (i:=1) rfl
 obtain⟨q,hq,eq⟩:=Yjd vL v8 x0 (!0);obtain⟨r,T,tr⟩:=Zo2 (h q hq) (n4.fmod 5) n5;have g2:δ[2]? =YB (YB (.fz (Zw N))):=by rw[<-hδ];rfl
 refine fin (z10:=YC) (ps':=ps.set b r) (Zj f4 (Zj f5 (Zj f6 ((Zq7 (i:=7) (ps:=ps) (p:=r) (k:=(b:Int)) (Zq (Zb (Wo (d:=Zw q.1) eq Zn rfl) (Zb (Wo (d:=frD q.2) eq Zn rfl) (Zb (Yp (i4 g2) Zn (!1)) (Zb (i5 g2) Zh)))) T) g7 v8 x0 x1).trans ?_)))) ⟨Zlg (λp m=>(ht p m).cp) tr.cp,?_⟩
 .rw[<-hδ];rfl
 .have h1:=Z2j (p:=r) (ps:=ps) (k:=b)
  have h2:=Z90 ht;have:=tr.ln;omega
structure Ct(n:Nat)(A:List Int):Prop where
 ne:A≠[]
 up:A.Pairwise (·<·)
 pt:∀x∈A,1<=x/\x<n
def kyQ(q:List Int×Rat):KY:=kA q.1
def vlQ(q:List Int×Rat):Xa:=frD q.2
structure Kp(n:Nat)(D:List (!11)):Prop where
 nd:(D.map Uh).Nodup
 ok:∀q∈D,Ct n q.1/\DsQ q.2/\0<q.2.num
end My
variable {D:List (!11)}{ps:List (!6)}{q:List Int×Rat}{l:List Nat}{N:Nat}
namespace My
open PySem L2 PySem.Spec
def Yl5{A:List Int}:Zy6 (kA A) (D.map kyQ)=YD↔A∈D.map Uh:=by
 have e:D.map kyQ=(D.map λq=>(q.1,(0:Int))).map kyA:=by rw[X6];rfl
 rw[e,Yjc,X6];rfl
theorem Yk2{A:List Int}{d:Xa}:∀D:List (!11),Ybn (kA A) d (D.map kyQ) (D.map vlQ)=D.map λq=>if q.1=A then d else vlQ q
 | []=>rfl
 | q::D=>by
  rw[XC,XC,XC,Ybn];rw[Yk2 D]
  by_cases c:q.1=A
  .rw[YM (show kyQ q=kA A by rw[<-c];rfl),YM c]
  .rw[YQ (show¬kyQ q=kA A from λz=>c (Zvp z)),YQ c]
theorem Yoe{A:List Int}:∀{D:List (!11)},A∈D.map Uh->∃q∈D,q.1=A/\Z5b (kA A) (D.map kyQ) (D.map vlQ)=YB (vlQ q)
 | q::D,h=>by
  rw[XC,XC,Z5b]
  by_cases c:q.1=A
  .exact⟨q,.head _,c,by rw[YM (show kyQ q=kA A by rw[<-c];rfl)]⟩
  .rw[YQ (show¬kyQ q=kA A from λz=>c (Zvp z))]
   obtain⟨r,hr,e1,e2⟩:=Yoe (D:=D) ((Xl.mp h).resolve_left λz=>c z.symm);exact⟨r,.tail _ hr,e1,e2⟩
def Yo3{n:Nat}{A:List Int}{w:Rat}(K:Kp n D)(hA:Ct n A)(hw:DsQ w)(h0:0<w.num):∃D',Zn7 (kA A) (D.map kyQ)=D'.map kyQ/\Zmm (kA A) (frD w) (D.map kyQ) (D.map vlQ)=D'.map vlQ/\Kp n D'/\D'.length<=D.length+1:=by
 by_cases h:A∈D.map Uh
 .have hh:=Yl5.mpr h
  refine⟨D.map λq=>if q.1=A then(q.1,w)else q,?_,?_,⟨?_,λq m=>?_⟩,by rw[Xf];omega⟩
  .unfold Zn7
   rw[YM hh,X6];refine Qy λr _=>?_;show kyQ r=kyQ (if r.1=A then(r.1,w)else r);split<;>rfl
  .unfold Zmm
   rw[YM hh,Yk2,X6];refine Qy λr hr=>?_;show(if r.1=A then frD w else vlQ r)=vlQ (if r.1=A then(r.1,w)else r);split<;>rfl
  .rw[X6,show(D.map (Uh∘ λq=>if q.1=A then(q.1,w)else q))=D.map Uh from Qy λq _=>by
    show(if q.1=A then(q.1,w)else q).1=q.1;split<;>rfl]
   exact K.nd
  .obtain⟨r,hr,rfl⟩:=Qk.mp m
   by_cases c:r.1=A
   .rw[YM c];exact⟨(K.ok r hr).1,hw,h0⟩
   .rw[YQ c];exact K.ok r hr
 .have hh:¬Zy6 (kA A) (D.map kyQ)=YD:=λz=>h (Yl5.mp z)
  refine⟨D++[(A,w)],?_,?_,⟨?_,λq m=>?_⟩,by rw[Xw];exact Xx _⟩
  .unfold Zn7
   rw[YQ hh,Qs];rfl
  .unfold Zmm
   rw[YQ hh,Qs];rfl
  .rw[Qs,List.nodup_append]
   exact⟨K.nd,JF.mpr ⟨(!12),.nil⟩,λa ha b hb e=>by
    rw[Xm.mp hb]at e;exact h ((show a=A from e)▸ha)⟩
  .rcases X3.mp m with m|m
   .exact K.ok q m
   .rw[Xm.mp m];exact⟨hA,hw,h0⟩
def Yid:∀k:Fin 9,atI [Xo 1,.int 2,.int 4,.int 8,.int 16,.int 32,.int 64,.int 128,.int 256] ((k:Nat):Int)=YB (.int (2^(k:Nat))):=by
 intro k
 match k with
 | ⟨0,_⟩=>rfl
 | ⟨1,_⟩=>rfl
 | ⟨2,_⟩=>rfl
 | ⟨3,_⟩=>rfl
 | ⟨4,_⟩=>rfl
 | ⟨5,_⟩=>rfl
 | ⟨6,_⟩=>rfl
 | ⟨7,_⟩=>rfl
 | ⟨8,_⟩=>rfl
abbrev Yoj:FE:=Jq 1 [3] (iRa (Ze (Zd gSb Wj Za5) Yj)) Zs8 Yl8 (Zd Zgy Wj Za5)
def Yda{n:Nat}(h0:1<=n)(hn:n<=10){c:Int}(h1:δ[0]? =YB (YB (.fz (.int n))))(hb:blk 1 [3] δ=[YC,YB (.fz (.int c))]):∃A:List Int,EvV Yoj δ (Zw A)/\(A=[]\/Ct n A)/\A.length<=9:=by
 let pr:Nat->Bool:=λk=>decide ((c.fdiv (2^k)).fmod 2=1);refine⟨((QJ (n-1)).filter pr).map λk:Nat=>(k:Int)+1,?_,?_,?_⟩
 .refine(Zv6 (cs:=[YB (.fz (.int c))]) (QJ (n-1)) (λk:Nat=>Xo (0+(k:Int))) (λk=>.int ((k:Int)+1)) pr (Ydr (n:=n-1) (Zb ((Z3i (Za h1) Zn).cast (YW Xo (show(n:Int)-1=((n-1:Nat):Int) by omega))) Zh) (!0)) (by rw[JW];omega) hb (λk hk=>?_) λk hk _=>?_).cast (by unfold Zw;rw[X6];rfl)
  .have hk:=VG.mp hk
   rw[Int.zero_add];have e:=Yid ⟨k,by omega⟩;have p0:(0:Int)<2^k:=Int.pow_pos (show(0:Int)<2 by decide);have p1:(2:Int)^k<=256:=by
    have h:=Nat.pow_le_pow_right (n:=2) (!1) (show k<=8 by omega);have e:((2^k:Nat):Int)=(2:Int)^k:=Int.natCast_pow 2 k;rw[<-e];omega
   exact Yv (Zal (Yp (J0 (!7) (Wo (d:=.int (2^k)) (Zbo (Zb Zn (Zb Zn (Zb Zn (Zb Zn (Zb Zn (Zb Zn (Zb Zn (Zb Zn (Zb Zn Zh))))))))) (show 9<=1000 by decide)) (!4) (by rw[Zy8,e];rfl)) (by rw[YS p0,YS (Int.lt_of_le_of_lt p1 (!1))];rfl)) Zn (!1)) Zn rfl)
  .rw[Int.zero_add]
   exact Za7 (!4) Zn
 .by_cases e:((QJ (n-1)).filter pr)=[]
  .exact .inl (by rw[e];rfl)
  .refine .inr ⟨λz=>e (List.map_eq_nil_iff.mp z),?_,λx hx=>?_⟩
   .rw[List.pairwise_map]
    exact((List.pairwise_lt_range (n:=n-1)).sublist List.filter_sublist).imp λh=>by omega
   .obtain⟨k,hk,rfl⟩:=Qk.mp hx
    have:=VG.mp (List.mem_filter.mp hk).1;omega
 .rw[Xf]
  refine XD (List.length_filter_le ..) ?_;rw[JW];omega
def Zgj{A:List Int}(h:A≠[]):kdV (.tuple (A.map Xo))=YB A:=by
 obtain⟨x,r,rfl⟩:=Vs h;unfold kdV;exact Zaf (x::r)
def Z2e{L:List (!14)}(hL:∀A∈L,A≠[])(hi:i<L.length)(hj:j<L.length):lk kdV ltI (L.map λA=>.tuple (A.map Xo)) i j=ltI (L.getD i []) (L.getD j []):=by
 have e:∀k,k<L.length->kdV ((L.map λA=>Q5 (A.map Xo)).getD k .none)=YB (L.getD k []):=λk hk=>by
  rw[Xu,Xq,Xi hk,Xu,Xi hk];exact Zgj (hL _ (Q6 hk))
 unfold lk;rw[e i hi,e j hj];rfl
def Z08{L:List (!14)}(nd:L.Nodup)(hL:∀A∈L,A≠[])(h:L.length<64):∃M:List (!14),Zn6 kdV ltI [.list (L.map λA=>.tuple (A.map Xo))]=YB (.nd ((M.map λA=>Q5 (A.map Xo)).map OT.fz))/\M.Perm L/\M.Pairwise (λa b=>ltI a b=YD):=by
 have lm:(L.map λA=>Q5 (A.map Xo)).length=L.length:=Xf ..;have gne:∀{i j:Nat},i<L.length->j<L.length->i≠j->L.getD i []≠L.getD j []:=fun{i j} hi hj ne=>by
  rw[Xu,Xu,Xi hi,Xi hj];exact λe=>ne ((List.getElem_inj nd).mp e)
 obtain⟨M,pM,eM⟩:=Zze (Znp PyData.none (lk kdV ltI (L.map λA=>Q5 (A.map Xo))) (L.map λA=>Q5 (A.map Xo))) L rfl;refine⟨M,?_,pM,?_⟩
 .show(if(decide ((L.map λA=>Q5 (A.map Xo)).length<64)&&(L.map λA=>Q5 (A.map Xo)).all λd=>(kdV d).isSome)=YD then YB (OT.nd ((sLay PyData.none (lk kdV ltI _) (L.map λA=>Q5 (A.map Xo))).map OT.fz))else YC)=_
  rw[YM,eM];rw[XR,decide_eq_true_eq,lm,Ul];refine⟨h,λd m=>?_⟩;obtain⟨p,hp,rfl⟩:=Qk.mp m;rw[Zgj (hL p hp)];rfl
 .have up:=Z8d (β:=Nat) (d:=PyData.none) (vs:=L.map λA=>Q5 (A.map Xo)) (lt:=lk kdV ltI (L.map λA=>Q5 (A.map Xo))) (R:=λa b=>∃x y,kdV a=YB x/\kdV b=YB y/\ltI x y=YD) ⟨λi j k hi hj hk h1 h2=>?_,λi j hi hj c q=>?_,λi j hi hj q=>?_⟩ λi j hi hj q=>?_
  .rw[eM,List.pairwise_map]at up
   refine(up.imp_of_mem fun{a b} ha hb h=>?_);obtain⟨x,y,h1,h2,h3⟩:=h;rw[Zgj (hL a (pM.mem_iff.mp ha))]at h1;rw[Zgj (hL b (pM.mem_iff.mp hb))]at h2;cases h1;cases h2;exact h3
  all_goals (try rw[lm]at hi hj)
  .rw[lm]at hk
   rw[Z2e hL hi hj]at h1;rw[Z2e hL hj hk]at h2;rw[Z2e hL hi hk];exact Z32 h1 h2
  .rw[Z2e hL hi hj]at q
   rw[Z2e hL hj hi];exact Z8b (gne hi hj c) q
  .rw[Z2e hL hi hj]at q
   rw[Z2e hL hj hi];cases z:ltI (L.getD j []) (L.getD i [])with
   | false=>rfl
   | true=>have:=Z32 q z;rw[Z65]at this;cases this
  .rw[Z2e hL hi hj]at q
   refine⟨_,_,?_,?_,q⟩
   .rw[Xu,Xq,Xi hi,Xu,Xi hi]
    exact Zgj (hL _ (Q6 hi))
   .rw[Xu,Xq,Xi hj,Xu,Xi hj]
    exact Zgj (hL _ (Q6 hj))
structure Wc(n:Nat)(L:List (!11)):Prop where
 ok:∀q∈L,Ct n q.1/\DsQ q.2/\0<q.2.num
 up:(L.map Uh).Pairwise λa b=>ltI a b=YD
 len:L.length<64
def sE(n:Nat)(cs:List Int)(D:List (!11))(z3 z4 z5:Option OT):Zg:=[YB (.fz (.int n)),YB (.fz (Zw cs)),YB (.dc YD (D.map kyQ) (D.map vlQ)),z3,z4,z5]
def Yco(D:List (!11)):Zkm [dcD YD (D.map kyQ) (D.map vlQ)]=if D.length<=Xp then YB (.nd (((D.map Uh).map λA=>Q5 (A.map Xo)).map OT.fz))else YC:=by
 show(if(((D.map kyQ).map kyD).zip (D.map vlQ)).length<=Xp then YB (OT.nd (((((D.map kyQ).map kyD).zip (D.map vlQ)).map (·.1)).map OT.fz))else YC)=_;rw[List.map_fst_zip (by rw[Xf,Xf,Xf];exact Xx _),List.length_zip,Xf,Xf,Xf,Nat.min_self];rw[show(D.map kyQ).map kyD=(D.map Uh).map λA=>Q5 (A.map Xo) by rw[X6,X6];exact Qy λq _=>Ymq q.1]
def Yfa{A:List Int}(h:A∈D.map Uh):∃q∈D,q.1=A/\Z16 (dcD YD (D.map kyQ) (D.map vlQ)) (.tuple (A.map Xo))=YB (.fz (frD q.2)):=by
 obtain⟨q,hq,e1,e2⟩:=Yoe h;refine⟨q,hq,e1,?_⟩;show((Zn4 (.tuple (A.map Xo))).bind λk=>if Z21 k=YD then(Zso k (((D.map kyQ).map kyD).zip (D.map vlQ))).map OT.fz else YC)=_;rw[Ych,Xh];refine(YM (show Z21 (kA A)=YD from rfl)).trans ?_;rw[Zmo,e2];rfl
def Zne{n:Nat}(h0:1<=n)(hn:n<=10)(cs:List Int)(hc:cs.length<=60):∃L,Told Jo [.int n,Zw cs] (Zfx L)/\Wc n L/\L.length<=cs.length:=by
 have key:Zfc Jk (Yo 6 [.int n,Zw cs]) λr=>∃L,r=Zfx L/\Wc n L/\L.length<=cs.length:=by
  refine Yc (δ':=sE n cs [] YC YC YC) (Ze1 (o:=.dc YD [] []) rfl) (Z2o (ds:=cs.map Xo) (λk δ=>∃D z3 z4 z5,δ=sE n cs D z3 z4 z5/\Kp n D/\D.length<=k) (Za8 (!7)) ⟨[],YC,YC,YC,rfl,⟨.nil,λq m=>nomatch m⟩,Xx _⟩ (λk d δ hd q=>?_) λδ' q=>?_)
  .obtain⟨D,z3,z4,z5,rfl,K,lD⟩:=q
   have hk:k<cs.length:=by have:=(Xk.mp hd).1;rwa[Xf]at this
   obtain⟨c,hcm,rfl⟩:=Qk.mp (Qq hd);obtain⟨A,eA,cA,lA⟩:=Yda h0 hn (c:=c) (δ:=sE n cs D (YB (.fz (.int c))) z4 z5) rfl rfl;obtain⟨w,ew,hw⟩:=Z7y (v:=(c.fdiv 512).fmod 10000000000000) (Yr (!1)) (Yz (!1));have e2:wE Ynb (Ju 5) (sE n cs D (YB (.fz (.int c))) (YB (.fz (Zw A))) z5)= .nx (sE n cs D (YB (.fz (.int c))) (YB (.fz (Zw A))) (YB (.fz (frD w)))) :=
    Zt (Zq (Zb (Yp (J0 (!16) Zn) (Zr Zn Zn (show Zmf (.int 10) (.int 13)=YB (.int 10000000000000)from rfl)) (!1)) Zh) ew)
   have tN:EvT (tV (Zd gNe Zpy Zxo)) (sE n cs D (YB (.fz (.int c))) (YB (.fz (Zw A))) (YB (.fz (frD w)))) (!decide (A=[])):=Yv (Zr (!19) (Zbo Zh (!1)) (Zru A []));have tG:EvT Ymg (sE n cs D (YB (.fz (.int c))) (YB (.fz (Zw A))) (YB (.fz (frD w)))) (decide (0<w.num)):=Yv (Zed (at0 rfl) Zn rfl)
   by_cases hA:A=[]
   .rw[YS hA]at tN
    exact⟨_,_,rfl,.inl (Yt (Zt eA) (Yt e2 (Zj (Zjc tN) rfl))),D,_,_,_,rfl,K,by omega⟩
   .rw[YT hA]at tN
    by_cases hg:0<w.num
    .rw[YS hg]at tG
     obtain⟨D',p1,p2,K',l'⟩:=Yo3 (w:=w) K (cA.resolve_left hA) hw hg;refine⟨_,_,rfl,.inl (Yt (Zt eA) (Yt e2 (Jx (Zkb tN tG) (Z67 (k:=kA A) (!18) rfl (Ztf (o:=.fz (.tuple (A.map Xo))) (Zb (!19) Zh) rfl (OT.data_fz _)) (Ych A) rfl (by rw[Xf];omega))))),D',YB (.fz (.int c)),YB (.fz (Zw A)),YB (.fz (frD w)),?_,K',by omega⟩;rw[p1,p2];rfl
    .rw[YT hg]at tG
     exact⟨_,_,rfl,.inl (Yt (Zt eA) (Yt e2 (Zj (Zkb tN tG) rfl))),D,_,_,_,rfl,K,by omega⟩
  .obtain⟨D,z3,z4,z5,rfl,K,lD⟩:=q
   rw[Xf]at lD;obtain⟨M,eM,pM,uM⟩:=Z08 (L:=D.map Uh) K.nd (λA m=>by
    obtain⟨q,hq,rfl⟩:=Qk.mp m;exact(K.ok q hq).1.ne) (by rw[Xf];omega)
   have ch:∀A:List Int,∃q:List Int×Rat,A∈M->q∈D/\q.1=A/\Z16 (dcD YD (D.map kyQ) (D.map vlQ)) (.tuple (A.map Xo))=YB (.fz (frD q.2)):=λA=>by
    by_cases m:A∈M
    .obtain⟨q,h1,h2,h3⟩:=Yfa (pM.mem_iff.mp m)
     exact⟨q,λ_=>⟨h1,h2,h3⟩⟩
    .exact⟨([],0),λz=>YZ z m⟩
   obtain⟨f,hf⟩:=Classical.axiomOfChoice ch;have lM:M.length=D.length:=by rw[pM.length_eq,Xf]
   refine Zwn (o:=.dc YD (D.map kyQ) (D.map vlQ)) rfl (Wl (d:=Zfx (M.map f)) ?_ ⟨M.map f,rfl,⟨λq m=>?_,?_,by rw[Xf];omega⟩,by rw[Xf];omega⟩)
   .refine(Zdt (cs:=[YB (.fz (OT.dc YD (D.map kyQ) (D.map vlQ)).data)]) M (λA=>.tuple (A.map Xo)) (λA=>ctD (f A)) (Za8 (Ztf (Zb (Ztf (Zb (!13) Zh) ((YW (λx=>Zkm [x]) (OT.data_dc ..)).trans ((Yco D).trans (YM (by rw[Qe];omega)))) (by rw[OT.data_nd,OT.map_fz])) Zh) eM (by rw[OT.data_nd,OT.map_fz]))) (!0) rfl λA hA=>?_).cast ?_
    .obtain⟨h1,h2,h3⟩:=hf A hA
     refine(Z6e (Zb (Ztf (Zb (!4) Zh) (Z4h _) (by rw[OT.data_nd,OT.map_fz])) (Zb (Yaw (Za (i:=1) (d:=dcD YD (D.map kyQ) (D.map vlQ)) (by rw[OT.data_dc];rfl)) (!4) h3) Zh)) (Qa rfl)).cast ?_;show Q5 [Zw A,frD (f A).2]= .tuple [Zw (f A).1,frD (f A).2];rw[h2]
    .unfold Zfx;rw[X6];rfl
   .obtain⟨A,hA,rfl⟩:=Qk.mp m
    exact K.ok _ (hf A hA).1
   .rw[X6,show M.map (Uh∘f)=M from(Qy λA hA=>(hf A hA).2.1).trans (List.map_id _)]
    exact uM
 obtain⟨r,h,L,rfl,W⟩:=Zmi (np:=2) rfl key;exact⟨L,h,W⟩
def Wc.wq{n:Nat}(hn:n<=10){L:List (!11)}(h:Wc n L):∀q∈L,Wq q:=λq hq=>by
 obtain⟨c,d,_⟩:=h.ok q hq;refine⟨c.ne,λx hx=>?_,?_,d⟩
 .have:=c.pt x hx;omega
 .have:=Zvm (n:=n) (A:=q.1) 1 c.up c.pt;omega
def Zx5(L:List (!11)):Told (Zx 6) [Zfx L,Zfx L] (.bool YD):=Zfp (k:=5) (ds:=L.map ctD) (.inl rfl) λd m=>by
 obtain⟨q,_,rfl⟩:=Qk.mp m;refine Zfp (k:=4) (ds:=[Zw q.1,frD q.2]) (.inr rfl) λd m=>?_;rcases Xl.mp m with rfl|m
 .refine Zfp (k:=3) (ds:=q.1.map Xo) (.inl rfl) λd m=>?_
  obtain⟨i,_,rfl⟩:=Qk.mp m;exact Zh1 2 i
 .rw[Xm.mp m];exact Z0f 2 _
def Zk8{e:FE}{d:Xa}(h:EvV e δ d){b:Bool}(hd:Zc2 d=b):EvV (Zd gIs e Zop) δ (.bool b):=Zr h Zn (by rw[Ybj,hd])
def Z4r{m:Int}{x d:Xa}(h:Told Z5 [.int m,x] d):Told Jt [.int m,x] (.tuple [d,.none]) :=
 Z2 rfl<|Zo (Zt Zn)<|Zo (Zt Zn)<|Zo (Zyf (δ':=[YB (.fz (.int m)),YB (.fz x),YB (.fz d),YB (.fz .none),YC,YC]) (Yk1 (Zb (!4) (Zb (!7) Zh)) h λo ho=>by rw[Zyv,ho];rfl)) (Z0 (Zdb (Zb (!13) (Zb (!16) Zh)) (Qa rfl)))
def ttf:Xa:=.tuple [.bool YD,.bool YD,.bool YF]
def Z6w{m:Int}{x:Xa}(h:Z5 [.int m,x]= .exn "NoText"):Told Jt [.int m,x] (.tuple [.none,ttf]) :=
 Z2 rfl<|Zo (Zt Zn)<|Zo (Zt Zn)<|Zo (Yam (c :="NoText") (Zxj (Zb (!4) (Zb (!7) Zh)) h) (!9) (Yt (Zt (Z4t (p:=YF) (Za (i:=4) (d:=exD "NoText") rfl) (!9) (!9))) (Zt (Zdb (Zb (Z2r (p:=YD) (Za (i:=4) (d:=exD "NoText") rfl) (!9) (!9)) (Zb (Z2r (p:=YD) (Za (i:=4) (d:=exD "NoText") rfl) (!9) (!9)) (Zb (!18) Zh))) (Qa rfl))))) (Z0 (Zdb (Zb (!13) (Zb (!16) Zh)) (Qa rfl)))
def Zzp{x:Xa}(h1:Zhf "str" x=YF)(h2:Zog x=YF)(m:Int):Z5 [.int m,x]= .exn "NoText" :=Zl0 rfl (Zna (Zxj (Zb (!7) Zh) (Zl0 rfl (Jx (Jy (p:=YF) (Wy ((Zwh (!4) h2).cast (by rw[h1])))) rfl))))
def Z2a{L:List (!11)}(h:∀q∈L,Wq q)(h8:L.length<=8):Tx 824 (ltx L):=⟨Yfg h,by
 unfold ltx;split
 .decide
 .refine XD (Zqb ..) (XD (Zkj _ 103 _ λp hp=>?_) (by rw[Xf];omega))
  obtain⟨q,hq,rfl⟩:=Qk.mp hp;have:=Zpn (h q hq);omega⟩
def lwE(ns:List Int)(n:Nat)(L:List (!11))(N:List Int)(z4 z5 z6 z7 z8 z9:Option OT):Zg:=[YB (.fz (Zw ns)),YB (.fz (.int n)),YB (.fz (Zfx L)),YB (.fz (Zw N)),z4,z5,z6,z7,z8,z9]
def Zy9:EvV (Zzv YF) δ (dcD YF [] []):=⟨_,rfl,OT.data_dc ..⟩
def Z0w(ns:List Int)(hl:ns.length<=63):Zgm [.list (ns.map Xo)]= .ok (.fz (.bool YD)):=by
 show Zgm [Zw ns]=_;obtain⟨c0,e0⟩:=Zkp ns (k:=0) (!1);obtain⟨c1,e1⟩:=Zkp ns (k:=1) (!1);have a0:=Yr (i:=c0) (j:=9) (!1);have a1:=Yz (i:=c0) (j:=9) (!1);obtain⟨n,en⟩:=QW (show 0<=2+c0.fmod 9 by omega);have h0:1<=n:=by omega
 have hn:n<=10:=by omega
 have l8:=Z1u ns 2 8;obtain⟨L,eL,W,lL⟩:=Zne h0 hn (Z80 ns (YB 2) (YB 10)) (XD l8 (!1));have h8:L.length<=8:=XD lL l8;have wq:=W.wq hn;obtain⟨vs,eD,vl,vb⟩:=Zxx c1 9 (!1) (top:=1000000) (!1) (!1);obtain⟨n0,n1,n2,n3,n4,n5,n6,n7,n8,rfl⟩:∃n0 n1 n2 n3 n4 n5 n6 n7 n8,vs=[n0,n1,n2,n3,n4,n5,n6,n7,n8]:=match vs,vl with
  | [_,_,_,_,_,_,_,_,_],_=>⟨_,_,_,_,_,_,_,_,_,rfl⟩
 obtain⟨l1,T1,t1⟩:=Zj5 (Z2a wq h8) wq h8 n0 n1 n2 n3 n4 n5 n6 n7 n8;obtain⟨l2,T2,t2⟩:=Zst n7;generalize hN:[n0,n1,n2,n3,n4,n5,n6,n7,n8]=N at eD T1;have i6:∀{δ:Zg},δ[3]? =YB (YB (.fz (Zw N)))->EvV (W2 gIx Zoq Z87) δ (.int n6):=λh=>Wo (Za h) Zn (by rw[<-hN];rfl);have i7:∀{δ:Zg},δ[3]? =YB (YB (.fz (Zw N)))->EvV Ybo δ (.int n7):=λh=>Wo (Za h) Zn (by rw[<-hN];rfl);have i8:∀{δ:Zg},δ[3]? =YB (YB (.fz (Zw N)))->EvV Yag δ (.int n8):=λh=>Wo (Za h) Zn (by rw[<-hN];rfl);refine Told.ok (Z2 rfl ?_);refine Zo (Zt ((Za7 Zn (Yp (Zw7 (i:=0) rfl e0) Zn (!1))).cast (YW Xo en))) ?_;refine Zo (Zt (Zq (Zb (!7) (Zb (Yjp (!4) (Zvq Zn) (Zvq Zn) rfl) Zh)) eL)) ?_;refine Zo (Zt (Zq (Zb (Zw7 (i:=0) rfl e1) (Zb Zn (Zb (Zr Zn Zn (show Zmf (.int 10) (.int 6)=YB (.int 1000000)from rfl)) Zh))) eD)) ?_;refine Zo (Zt (Zq (Zb (!13) Zh) (Zr8 wq W.len))) ?_;refine Zo (Zt (Yp (i6 rfl) Zn (!1))) ?_;generalize n6.fmod 8=w;show Zej _ (lwE ns n L N (YB (.fz (.str (mkS (ltx L))))) (YB (.fz (.int w))) YC YC YC YC) _;obtain⟨l3,s3,t3⟩:∃l,Y4 Yh5 (wE (Z7 W5 (Ze Zpy Z3v)) Zx8) fNx (lwE ns n L N (YB (.fz (.str (mkS (ltx L))))) (YB (.fz (.int w))) YC YC YC YC)= .nx (lwE ns n L N (YB (.fz (.str (mkS l)))) (YB (.fz (.int w))) YC YC YC YC)/\Tx 990 l:=by
  have t:EvT Yh5 (lwE ns n L N (YB (.fz (.str (mkS (ltx L))))) (YB (.fz (.int w))) YC YC YC YC) (decide (w<5)):=Yv (Zcm (!18) Zn rfl)
  by_cases c:w<5
  .exact⟨l1,Jx (Zqz t c) (Zt (Zq (Zb (!19) (Zb (!13) (Zb (!16) Zh))) T1)),t1⟩
  .exact⟨ltx L,Zj (Zsa t c) rfl,(Z2a wq h8).up (!1)⟩
 refine Zo s3 ?_;clear s3;obtain⟨l,s4,t4⟩:∃l,Y4 Ygu (wE (Z7 Zap (Ze Ybo Yj)) Zx8) fNx (lwE ns n L N (YB (.fz (.str (mkS l3)))) (YB (.fz (.int w))) YC YC YC YC)= .nx (lwE ns n L N (YB (.fz (.str (mkS l)))) (YB (.fz (.int w))) YC YC YC YC)/\Tx 990 l:=by
  have t:EvT Ygu (lwE ns n L N (YB (.fz (.str (mkS l3)))) (YB (.fz (.int w))) YC YC YC YC) (decide (w=5)):=Yv (Zal (!18) Zn rfl)
  by_cases c:w=5
  .exact⟨l2,Jx (Zqz t c) (Zt (Zq (Zb (i7 rfl) Zh) T2)),t2.up (!1)⟩
  .exact⟨l3,Zj (Zsa t c) rfl,t3⟩
 refine Zo s4 ?_;clear s4 t3;have k0:=Yr (i:=n8) (j:=4) (!1);have k1:=Yz (i:=n8) (j:=4) (!1);have b0:=Yr (i:=n8.fdiv 4) (j:=10) (!1);obtain⟨m0,em,m1⟩:∃m:Int,atI [Xo n,.int n,.int n,.int (1+(n8.fdiv 4).fmod 10)] (n8.fmod 4)=YB (.int m)/\1<=m:=by
  rcases(show n8.fmod 4=0\/n8.fmod 4=1\/n8.fmod 4=2\/n8.fmod 4=3 by omega)with e|e|e|e
  .rw[e];exact⟨n,rfl,by omega⟩
  .rw[e];exact⟨n,rfl,by omega⟩
  .rw[e];exact⟨n,rfl,by omega⟩
  .rw[e];exact⟨_,rfl,by omega⟩
 refine Zo (Zt (Zix (Zbo (Zb (!7) (Zb (!7) (Zb (!7) (Zb (Za7 Zn (Yp (J0 (i8 rfl) Zn) Zn (!1))) Zh)))) (Qa rfl)) (Yp (i8 rfl) Zn (!1)) em)) ?_;show Zej _ (lwE ns n L N (YB (.fz (.str (mkS l)))) (YB (.fz (.int w))) (YB (.fz (.int m0))) YC YC YC) _;obtain⟨m,s6,m2⟩:∃m:Int,Y4 Yjk Yme fNx (lwE ns n L N (YB (.fz (.str (mkS l)))) (YB (.fz (.int w))) (YB (.fz (.int m0))) YC YC YC)= .nx (lwE ns n L N (YB (.fz (.str (mkS l)))) (YB (.fz (.int w))) (YB (.fz (.int m))) YC YC YC)/\1<=m:=by
  have t:EvT Yjk (lwE ns n L N (YB (.fz (.str (mkS l)))) (YB (.fz (.int w))) (YB (.fz (.int m0))) YC YC YC) (decide ((n8.fdiv 64).fmod 8=5)):=Yv (Zal (Yp (J0 (i8 rfl) Zn) Zn (!1)) Zn rfl);have q0:=Yr (i:=n8.fdiv 512) (j:=30) (!1)
  by_cases c:(n8.fdiv 64).fmod 8=5
  .exact⟨_,Jx (Zqz t c) (Zt (Za7 Zn (Yp (J0 (i8 rfl) Zn) Zn (!1)))),by omega⟩
  .exact⟨m0,Zj (Zsa t c) rfl,m1⟩
 refine Zo s6 ?_;clear s6 m1 em;obtain⟨d,Td,hd⟩:=Zon m2 t4;refine Zo (Zt (Zq (Zb (Za (i:=6) rfl) (Zb (!19) Zh)) Td)) ?_;show Zej _ (lwE ns n L N (YB (.fz (.str (mkS l)))) (YB (.fz (.int w))) (YB (.fz (.int m))) (YB (.fz d)) YC YC) _;have bad:∀{x:Xa},Z5 [.int m,x]= .exn "NoText" ->Zej (Z3 Yn6 (Z3 (Y4 (tV (Zd gIs (Yk 7) Zop)) Ymx fNx) Yk0)) (lwE ns n L N (YB (.fz x)) (YB (.fz (.int w))) (YB (.fz (.int m))) (YB (.fz .none)) YC YC) (.bool YD):=fun{x} h=>
  Zo (δ':=lwE ns n L N (YB (.fz x)) (YB (.fz (.int w))) (YB (.fz (.int m))) (YB (.fz .none)) (YB (.fz .none)) (YB (.fz ttf))) (Z30 (Zq (Zb (Za (i:=6) rfl) (Zb (!19) Zh)) (Z6w h)) rfl) (Yi (Yu (Yv (Zk8 (Za (i:=7) rfl) rfl)) (Z0 (W3 (Zk8 (Za (i:=8) rfl) rfl) (Zr (Za (i:=9) (d:=ttf) rfl) (Zdb (Zb Zn (Zb Zn (Zb Zn Zh))) (Qa rfl)) (by
   unfold gEq;rw[YM (!9)];rfl))))))
 have tA:EvT Ygf (lwE ns n L N (YB (.fz (.str (mkS l)))) (YB (.fz (.int w))) (YB (.fz (.int m))) (YB (.fz d)) YC YC) (decide (w=6)):=Yv (Zal (!18) Zn rfl);have tB:EvT Yki (lwE ns n L N (YB (.fz (.str (mkS l)))) (YB (.fz (.int w))) (YB (.fz (.int m))) (YB (.fz d)) YC YC) (decide (n7.fmod 4=0)):=Yv (Zal (Yp (i7 rfl) Zn (!1)) Zn rfl)
 by_cases c:w=6/\n7.fmod 4=0
 .have p0:=Yr (i:=n7.fdiv 4) (j:=8) (!1)
  have p1:=Yz (i:=n7.fdiv 4) (j:=8) (!1);obtain⟨x,ex,bx⟩:∃x,atI [PyData.none,.int 7,.list [.tuple [.list [.int 1],.tuple [.int 1,.int 1]]],.list [.str "none"],.bool YD,.tuple [.str "1: 1"],dcD YF [] [],.int 0] ((n7.fdiv 4).fmod 8)=YB x/\Z5 [.int m,x]= .exn "NoText" :=by
   rcases(show(n7.fdiv 4).fmod 8=0\/(n7.fdiv 4).fmod 8=1\/(n7.fdiv 4).fmod 8=2\/(n7.fdiv 4).fmod 8=3\/(n7.fdiv 4).fmod 8=4\/(n7.fdiv 4).fmod 8=5\/(n7.fdiv 4).fmod 8=6\/(n7.fdiv 4).fmod 8=7 by omega)with e|e|e|e|e|e|e|e
   all_goals (rw[e];exact⟨_,rfl,Zzp rfl rfl m⟩)
  refine Zo (δ':=lwE ns n L N (YB (.fz x)) (YB (.fz (.int w))) (YB (.fz (.int m))) (YB (.fz .none)) YC YC) (Jx (Zkb (Zqz tA c.1) (Zqz tB c.2)) (Yt (Zt (Zix (Zbo (Zb Zn (Zb Zn (Zb (Zbo (Zb (Z6e (Zb (Zbo (Zb Zn Zh) (Qa rfl)) (Zb (Zdb (Zb Zn (Zb Zn Zh)) (Qa rfl)) Zh)) (Qa rfl)) Zh) (Qa rfl)) (Zb (Zbo (Zb Zn Zh) (Qa rfl)) (Zb Zn (Zb (Zdb (Zb Zn Zh) (Qa rfl)) (Zb Zy9 (Zb Zn Zh)))))))) (Qa rfl)) (Yp (J0 (i7 rfl) Zn) Zn (!1)) ex)) (Zt Zn))) (bad bx)
 .have tC:EvT (tAn Ygf Yki) (lwE ns n L N (YB (.fz (.str (mkS l)))) (YB (.fz (.int w))) (YB (.fz (.int m))) (YB (.fz d)) YC YC) YF:=by
   by_cases cw:w=6
   .exact Zkb (Zqz tA cw) (Zsa tB λz=>c ⟨cw,z⟩)
   .exact Zjc (Zsa tA cw)
  refine Zo (Zj tC rfl) ?_;rcases Zlr (m:=m) t4 with⟨M,g,T⟩|⟨g,T⟩
  .rcases hd with⟨M',g',rfl⟩|⟨z,_⟩
   .have:M=M':=Zk0 (g.eq.symm.trans g'.eq)
    subst this;exact Zo (δ':=lwE ns n L N (YB (.fz (.str (mkS l)))) (YB (.fz (.int w))) (YB (.fz (.int m))) (YB (.fz (Zfx M))) (YB (.fz (Zfx M))) (YB (.fz .none))) (Z30 (Zq (Zb (Za (i:=6) rfl) (Zb (!19) Zh)) (Z4r T)) rfl) (Zo (Zj (Yv (Zk8 (Za (i:=7) rfl) rfl)) rfl) (Z0 (W3 (Zk8 (Za (i:=9) rfl) rfl) (Zq (Zb (Za (i:=8) rfl) (Zb (Za (i:=7) rfl) Zh)) (Zx5 M)))))
   .exact YZ g (z M)
  .rcases hd with⟨M',g',rfl⟩|⟨_,rfl⟩
   .exact YZ g' (g M')
   .exact bad T
end My
namespace L2
open PySem PySem.Spec PyProof.Rows
structure Ei(K:Xc)(x:Str)(st:YK)(f:YG)(fd:X5):Prop where
 a:Qh K XN x=YB (YB (.ref f))
 F:Fun K x x st f fd
structure En(K:Xc)(mg:Str->Option Xd)(x:Str)(st:YK)(ps:List Str)(f:YG)(fd:X5):Prop where
 F:Fun K x x st f fd
 b:Binds K fd ps []
 m:mg x=YB (.ref f)
structure Ec(K:Xc)(mg:Str->Option Xd)(x:Str)(f:YG):Prop where
 m:mg x=YB (.ref f)
 a:ClsAt K x f
section
variable {f:YG}{fd:X5}
def en0(X:K.In h)(G:h.Ns XN mg)(q:Ei K x st f fd){ps:List Str}(hb:∀(kV doc pm:Xd) (an:Option YG) (cdv ct:Xd) (us:List Xd),us.length=ps.length->bindArgs (Ub x x (Zgh st) (Za3 st) (Zm st) .none kV doc pm an cdv ct) ⟨us,[]⟩=pure (ps.zip us)):En K mg x st ps f fd:=⟨q.F,q.F.binds hb,Um X G q.a⟩
abbrev Bd(x:Str)(st:YK)(ps:List Str)(us:List Xd):Prop:=∀(kV doc pm:Xd) (an:Option YG) (cdv ct:Xd),bindArgs (Ub x x (Zgh st) (Za3 st) (Zm st) .none kV doc pm an cdv ct) ⟨us,[]⟩=pure (ps.zip us)
def l_c{n:Nat}(h:us.length=n+1):∃u vs,us=u::vs/\vs.length=n:=by
 cases us with
 | nil=>cases h
 | cons u vs=>exact⟨u,vs,rfl,Nat.succ.inj h⟩
def en1(X:K.In h)(G:h.Ns XN mg)(q:Ei K x st f fd){p0:Str}(hb:∀v0,Bd x st [p0] [v0]:=by exact λ_ _ _ _ _ _ _=>rfl):En K mg x st [p0] f fd:=en0 X G q λa b c d e g us hl=>by
 have h0:us.length=1:=hl;obtain⟨u0,us0,e0,h1⟩:=l_c h0;cases QV h1;subst e0;exact hb u0 a b c d e g
def en2(X:K.In h)(G:h.Ns XN mg)(q:Ei K x st f fd){p0 p1:Str}(hb:∀v0 v1,Bd x st [p0,p1] [v0,v1]:=by exact λ_ _ _ _ _ _ _ _=>rfl):En K mg x st [p0,p1] f fd:=en0 X G q λa b c d e g us hl=>by
 have h0:us.length=2:=hl;obtain⟨u0,us0,e0,h1⟩:=l_c h0;obtain⟨u1,us1,e1,h2⟩:=l_c h1;cases QV h2;subst e1;subst e0;exact hb u0 u1 a b c d e g
def en3(X:K.In h)(G:h.Ns XN mg)(q:Ei K x st f fd){p0 p1 p2:Str}(hb:∀v0 v1 v2,Bd x st [p0,p1,p2] [v0,v1,v2]:=by exact λ_ _ _ _ _ _ _ _ _=>rfl):En K mg x st [p0,p1,p2] f fd:=en0 X G q λa b c d e g us hl=>by
 have h0:us.length=3:=hl;obtain⟨u0,us0,e0,h1⟩:=l_c h0;obtain⟨u1,us1,e1,h2⟩:=l_c h1;obtain⟨u2,us2,e2,h3⟩:=l_c h2;cases QV h3;subst e2;subst e1;subst e0;exact hb u0 u1 u2 a b c d e g
def en4(X:K.In h)(G:h.Ns XN mg)(q:Ei K x st f fd){p0 p1 p2 p3:Str}(hb:∀v0 v1 v2 v3,Bd x st [p0,p1,p2,p3] [v0,v1,v2,v3]:=by exact λ_ _ _ _ _ _ _ _ _ _=>rfl):En K mg x st [p0,p1,p2,p3] f fd:=en0 X G q λa b c d e g us hl=>by
 have h0:us.length=4:=hl;obtain⟨u0,us0,e0,h1⟩:=l_c h0;obtain⟨u1,us1,e1,h2⟩:=l_c h1;obtain⟨u2,us2,e2,h3⟩:=l_c h2;obtain⟨u3,us3,e3,h4⟩:=l_c h3;cases QV h4;subst e3;subst e2;subst e1;subst e0;exact hb u0 u1 u2 u3 a b c d e g
def ec(X:K.In h)(G:h.Ns XN mg)(a:Qh K XN x=YB (YB (.ref f))):Ec K mg x f:=⟨Um X G a,a⟩
end
def fsc{N P:List Str}(h1:sc.kind= .function:=by rfl)(h2:sc.isCoroutine=YF:=by rfl)(h3:sc.isGenerator=YF:=by rfl)(h4:N.Nodup:=by decide +kernel)(h5:N.take P.length=P:=by rfl)(h6:∀x∈P,sc.names.lookup x=YB .local\/sc.names.lookup x=YB .cell:=by decide +kernel)(h7:∀y∈sc.names,y.2≠ .free:=by decide +kernel):Z1 N P sc:=⟨h1,h2,h3,h4,h5,h6,h7⟩
section
variable {f g:FS}{ta:FT}
abbrev BS(X:Cx)(io:List Nat)(st:YK)(f:FS):Prop:=MS X io st (oS f)/\XS X io st (xS X.K f)
abbrev BSs(X:Cx)(io:List Nat)(sts:List YK)(f:FS):Prop:=MSs X io sts (oS f)/\XSs X io sts (xS X.K f)
def Yo9(m:MS X io st (oS f))[NoEx f]:BS X io st f:=⟨m,Yh8 f⟩
def Z41(m:MSs X io sts (oS f))[NoEx f]:BSs X io sts f:=⟨m,Ycu f⟩
def Z72(a:BS X io st f)(b:BSs X io sts g)(hx:X.xe= λ_ _=>False:=by rfl):BSs X io (st::sts) (Z3 f g):=⟨xsq a.1 b.1,Ydl a.2 a.1 b.2 hx⟩
def Zzg(a:BS X io st f):BSs X io [st] f:=⟨Zf a.1,Z55 a.2⟩
def Yle(h:MT X io p e (o2 ta))(a:BSs X io ss f)(b:BSs X io ss' g)(hx:X.xe= λ_ _=>False:=by rfl):BS X io (.If e ss ss' pos) (Y4 ta f g):=⟨xif h a.1 b.1,Ykk (Yjv h a.2 b.2 hx)⟩
def b_x(m:MA X io p c es (o2 ra)->MS X io st (oS f))(x:MA X io p c es (o2 ra)->XS X io st (xS X.K f))(a:MA X io p c es (o2 ra)):BS X io st f:=⟨m a,x a⟩
def Yo8(h:BSs X io sts f):XSs X io sts (xS X.K f):=h.2
end
section
variable {k k':Nat}{f:YG}{fd:X5}{ps:List Str}
def xce(G:FnOk X.prog X.w X.K X.mg X.base CX0 k f fd ps (spD X.K (sD F)))(hr:Room k' X.A)(E:En X.K X.mg x st ps f fd)(ha:MA X io p c (e::es) (o2 ra))(hle:k<=k':=by decide)(hg:Gl X x:=by rfl)(h1:(x==(!10))=YF:=by decide)(h2:Xr (e::es) X.env=(YF,eval e X.env)::Xr es X.env:=by rfl)(h3:((Ba pos (Xr es X.env)).any λx=>x.fst)=YF:=by rfl):ME X io p c (.Call (.Name x pp) (e::es) [] pos) (o2 (Z7 F ra)):=xcl G (hr.mono hle) E.m E.F.kp E.b ha hg h1 h2 h3
def xee{S}(G:FnOk X.prog X.w X.K X.mg X.base (CX1 X.prog X.w) k f fd ps (spX X.K S))(hr:Room k' X.A)(E:En X.K X.mg x st ps f fd)(ha:MA X io p c (e::es) mr)(hle:k<=k':=by decide)(hg:Gl X x:=by rfl)(hex:X.ex=[]:=by rfl)(hx:X.xe= λ_ _=>False:=by rfl)(h1:(x==(!10))=YF:=by decide)(h2:Xr (e::es) X.env=(YF,eval e X.env)::Xr es X.env:=by rfl)(h3:(Ba pos (Xr es X.env)).any (·.1)=YF:=by rfl):XE X io (.Call (.Name x pp) (e::es) [] pos) (Zvy S mr):=Z5y G (hr.mono hle) hg E.m E.F.kp E.b ha hex hx h1 h2 h3
end
section
variable {pt:Bool}{g:MGt}{mt:MTt}{me:MEt}
def Zp9(own:List Str)(caps:List Nat)(N':List Str)(hi:MI X io p ci tg iter mi)
  (hg:∀C cells s₂ H₂ fp,MG (Wx X N' sc C cells s₂ H₂ fp) (Zcn own.length caps) ci tg g) (ht:∀C cells s₂ H₂ fp,MIfs (Wx X N' sc C cells s₂ H₂ fp) (Zcn own.length caps) pt ifs mt) (he:∀C cells s₂ H₂ fp,ME (Wx X N' sc C cells s₂ H₂ fp) (Zcn own.length caps) pe YD elt me)
  (S:CompScope X own caps N' sc:=by exact⟨rfl,by decide +kernel,rfl,by decide +kernel,rfl,rfl⟩) (hc:X.calm=YD:=by rfl) (nd:caps.Nodup:=by decide) (hp:(pt&&pe)=YD:=by rfl) (hs:∀x,Vl iter X.env x=pure x:=by intro _;rfl):ME X io p YD (.ListComp elt [⟨tg,iter,ifs,0⟩] sc pos) (Zjb own.length caps mi g mt me):=Z9p S hc nd hi hg ht he hp hs
end
def Z3y{base:YH}{f:YG}{fd:X5}{N ps:List Str}{n nn:Nat}{S:FS}(F:Fun K x qual st f fd)(Sc:Z1 N ps (Zm st))(hN:N.length=nn)(hp:np=ps.length)
  (hb:∀(CX:CXT) (cdv:Xd) (A:Qj) (outer:List Env) (s:Xg) (H:Hp) (E:XK),Room n (A.deeper (envOfC qual (Zm st) s.heap.objs.size f cdv))->BSs (Zty CX P w K mg base N qual (Zm st) f cdv A outer s H E).nox [] (Za3 st) S) :
  FnOk P w K mg base CX0 (n+1) f fd ps (spD K (sD (J2 np nn S)))/\FnOk P w K mg base (CX1 P w) (n+1) f fd ps (spX K (sX K (J2 np nn S))) :=
 ⟨Yx F Sc hN hp λcdv A outer s H E hr=>(hb CX0 cdv A outer s H E hr).1,Ycw F Sc hN hp λcdv A outer s H E hr=>(hb (CX1 P w) cdv A outer s H E hr).2⟩
end L2
namespace My
open PySem L2 PySem.Spec
def top(i:Nat):YK:=PySem.Challenge.pw_farcuts_k81_texts_of_no_cuts.main.body.getD i (.Pass ⟨0,0,0,0⟩)
abbrev Zez:YK:=top 39
abbrev Zep:YK:=top 49
abbrev Zdn:YK:=top 32
abbrev Za2:YK:=top 19
abbrev Zer:YK:=top 21
abbrev Zgo:YK:=top 13
abbrev Zld:YK:=top 22
abbrev Zab:YK:=top 14
abbrev Zc1:YK:=top 15
abbrev Zan:YK:=top 23
abbrev Zcv:YK:=top 24
abbrev Zes:YK:=top 29
abbrev Zcr:YK:=top 30
abbrev Zbt:YK:=top 16
abbrev Zbr:YK:=top 31
abbrev Zbn:YK:=top 33
abbrev Jw:YK:=top 34
abbrev Zew:YK:=top 35
abbrev Ze5:YK:=top 54
abbrev Zcz:YK:=top 37
abbrev Zp2:YK:=top 43
abbrev J8:YK:=top 51
abbrev Zcw:YK:=top 52
abbrev Zag:YK:=top 45
abbrev Zds:YK:=top 38
abbrev Zil:YK:=top 53
abbrev Zdf:YK:=top 46
abbrev Zdy:YK:=top 40
abbrev Zdh:YK:=top 47
abbrev Zf6:YK:=top 50
abbrev Zb9:YK:=top 41
abbrev Zgp:YK:=top 42
abbrev Zbp:YK:=top 48
abbrev Z6g:YK:=top 55
set_option genInjectivity false in
set_option genSizeOfSpec false in
structure Txt(K:Xc)(mg:Str->Option Xd)(f:Nat->YG)(fd:Nat->X5)(cls:Nat->YG):Prop where
 e_law_whole:En K mg "_law_whole" Zez ["found"] (f 0) (fd 0)
 e_law_alike:En K mg "_law_alike" Zep ["found","due"] (f 1) (fd 1)
 e_check_text:En K mg "check_text" Zdn ["text"] (f 2) (fd 2)
 e_is_point_count:En K mg "is_point_count" Za2 ["n"] (f 3) (fd 3)
 e_is_rising:En K mg "is_rising" Zer ["things"] (f 4) (fd 4)
 e_is_whole:En K mg "is_whole" Zgo ["thing"] (f 5) (fd 5)
 e_is_cut:En K mg "is_cut" Zld ["n","thing"] (f 6) (fd 6)
 e_greatest_divisor:En K mg "greatest_divisor" Zab ["a","b"] (f 7) (fd 7)
 e_is_fraction:En K mg "is_fraction" Zc1 ["thing"] (f 8) (fd 8)
 e_is_weighted_cut:En K mg "is_weighted_cut" Zan ["n","thing"] (f 9) (fd 9)
 e_is_weighted:En K mg "is_weighted" Zcv ["n","thing"] (f 10) (fd 10)
 e_is_number:En K mg "is_number" Zes ["word"] (f 11) (fd 11)
 e_read_number:En K mg "read_number" Zcr ["word"] (f 12) (fd 12)
 e_show_fraction:En K mg "show_fraction" Zbt ["q"] (f 13) (fd 13)
 e_read_fraction:En K mg "read_fraction" Zbr ["word"] (f 14) (fd 14)
 e_read_weighted:En K mg "read_weighted" Zbn ["text"] (f 15) (fd 15)
 e_read_all_weighted:En K mg "read_all_weighted" Jw ["text"] (f 16) (fd 16)
 e_read_cuts:En K mg "read_cuts" Zew ["n","text"] (f 17) (fd 17)
 e_law_asked:En K mg "_law_asked" Ze5 ["n","thing"] (f 18) (fd 18)
 e_law_cell_at:En K mg "_law_cell_at" Zcz ["script","k"] (f 19) (fd 19)
 e_law_q:En K mg "_law_q" Zp2 ["q"] (f 20) (fd 20)
 e_law_part_changed:En K mg "_law_part_changed" J8 ["cut","q","way","number"] (f 21) (fd 21)
 e_law_changed:En K mg "_law_changed" Zcw ["text","weighted","numbers"] (f 22) (fd 22)
 e_law_cuts_written:En K mg "_law_cuts_written" Zag ["weighted"] (f 23) (fd 23)
 e_law_digits:En K mg "_law_digits" Zds ["cell","many","top"] (f 24) (fd 24)
 e_law_odd:En K mg "_law_odd" Zil ["number"] (f 25) (fd 25)
 e_law_number:En K mg "_law_number" Zdf ["word"] (f 26) (fd 26)
 e_law_common:En K mg "_law_common" Zdy ["one","other"] (f 27) (fd 27)
 e_law_q_read:En K mg "_law_q_read" Zdh ["word"] (f 28) (fd 28)
 e_law_read:En K mg "_law_read" Zf6 ["n","text"] (f 29) (fd 29)
 e_law_fraction:En K mg "_law_fraction" Zb9 ["top","bottom"] (f 30) (fd 30)
 e_law_wide:En K mg "_law_wide" Zgp ["number"] (f 31) (fd 31)
 e_law_some_cuts:En K mg "_law_some_cuts" Zbp ["n","cells"] (f 32) (fd 32)
 e_law:En K mg "law" Z6g ["script"] (f 33) (fd 33)
 g_FIGURES:∃t,mg "FIGURES"=YB (.str "0123456789" t)
 g_MOST_FIGURES:∃t,mg "MOST_FIGURES"=YB (.int 40 t)
 g_MOST_POINTS:∃t,mg "MOST_POINTS"=YB (.int 10 t)
 g_NO_CUTS:∃t,mg "NO_CUTS"=YB (.str "none" t)
 z_ValueError:mg "ValueError"=YC
 z_abs:mg "abs"=YC
 z_bool:mg "bool"=YC
 z_int:mg "int"=YC
 z_isinstance:mg "isinstance"=YC
 z_len:mg "len"=YC
 z_list:mg "list"=YC
 z_max:mg "max"=YC
 z_min:mg "min"=YC
 z_range:mg "range"=YC
 z_set:mg "set"=YC
 z_sorted:mg "sorted"=YC
 z_str:mg "str"=YC
 z_tuple:mg "tuple"=YC
 z_zip:mg "zip"=YC
 c_CutError:Ec K mg "CutError" (cls 0)
 c_NoCut:Ec K mg "NoCut" (cls 1)
 c_NoName:Ec K mg "NoName" (cls 2)
 c_NoNumber:Ec K mg "NoNumber" (cls 3)
 c_NoOrder:Ec K mg "NoOrder" (cls 4)
 c_NoPoint:Ec K mg "NoPoint" (cls 5)
 c_NoRow:Ec K mg "NoRow" (cls 6)
 c_NoTable:Ec K mg "NoTable" (cls 7)
 c_NoText:Ec K mg "NoText" (cls 8)
 c_NoWeb:Ec K mg "NoWeb" (cls 9)
 c_TooMany:Ec K mg "TooMany" (cls 10)
 x_NoText:Zdr K (cls 8)
 r_NoText:Ztr K (cls 8)
 u_NoText_NoText:VN K (.ref (cls 8)) (.ref (cls 8))=YB YD
 kt_NoText_CutError:QB K (.ref (cls 8)) (.ref (cls 0))=YB YD
 kt_NoText_ValueError:QB K (.ref (cls 8)) (.type "ValueError")=YB YD
 ka_NoText_0:UW K (.ref (cls 8)) [.ref (cls 1),.ref (cls 2),.ref (cls 3),.ref (cls 4),.ref (cls 5),.ref (cls 6),.ref (cls 7),.ref (cls 9),.ref (cls 10)]=YB YF
end My
variable {f cls:Nat->YG}{fd:Nat->X5}{p0 p1:Str}
namespace My
open PySem L2 PySem.Spec
def Txt.kx_CutError(T:Txt K mg f fd cls):∀x∈xsL,∃C,ClsAt K x C/\QB K (.ref C) (.ref (cls 0))=YB (Zsd x "CutError"):=λx hx=>by
 simp only[xsL,Xl,JV,or_false]at hx;rcases hx with rfl
 .exact⟨_,T.c_NoText.a,T.kt_NoText_CutError.trans (YW YB (!9))⟩
def Txt.kx_ValueError(T:Txt K mg f fd cls):∀x∈xsL,∃C,ClsAt K x C/\QB K (.ref C) (.type "ValueError")=YB (Zsd x "ValueError"):=λx hx=>by
 simp only[xsL,Xl,JV,or_false]at hx;rcases hx with rfl
 .exact⟨_,T.c_NoText.a,T.kt_NoText_ValueError.trans (YW YB (!9))⟩
def Txt.kxt_0(T:Txt K mg f fd cls):∀x∈xsL,∃C,ClsAt K x C/\UW K (.ref C) [.ref (cls 1),.ref (cls 2),.ref (cls 3),.ref (cls 4),.ref (cls 5),.ref (cls 6),.ref (cls 7),.ref (cls 9),.ref (cls 10)]=YB ((["NoCut","NoName","NoNumber","NoOrder","NoPoint","NoRow","NoTable","NoWeb","TooMany"]:List Str).any (Zsd x)):=λx hx=>by
 simp only[xsL,Xl,JV,or_false]at hx;rcases hx with rfl
 .exact⟨_,T.c_NoText.a,T.ka_NoText_0.trans (YW YB (!9))⟩
def Txt.ku_NoText(T:Txt K mg f fd cls):∀x∈xsL,Zsd x "NoText"=YD->∃C,ClsAt K x C/\Zdr K C/\VN K (.ref C) (.ref (cls 8))=YB YD:=λx hx=>by
 simp only[xsL,Xl,JV,or_false]at hx;rcases hx with rfl
 .exact λ_=>⟨_,T.c_NoText.a,T.x_NoText,T.u_NoText_NoText⟩
section
variable {base:YH}
def Zmx:Z1 ["found"] ["found"] (Zm Zez):=fsc
def Znf(T:Txt K mg f fd cls):FnOk P w K mg base CX0 1 (f 0) (fd 0) ["found"] (spD K (sD Zc9)):=by
 refine Yx T.e_law_whole.F Zmx (S:=Zc5) rfl rfl (λcdv A outer s H E hr=>?_);exact(Zf (xrt (Zaw (Zho (Zas (Zdk (!1) (!2) T.z_isinstance L2.B.boot_isinstance (!2) T.z_int L2.B.boot_int (xv 0))) (Zja (Zum (Ybb (Zas (Zdk (!1) (!2) T.z_isinstance L2.B.boot_isinstance (!2) T.z_bool L2.B.boot_bool (xv 0))))))))))
def Zdg:Z1 ["found","due","one","other"] ["found","due"] (Zm Zep):=fsc
theorem Zdi(T:Txt K mg f fd cls):∀k,FnOk P w K mg base CX0 (2+k) (f 1) (fd 1) ["found","due"] (spD K (sD (Zx k)))
 | 0=>Z4x λds k h=>by obtain⟨r,h,_⟩:=h;cases h
 | k+1=>by
  have G_rec:=Zdi T k;have G_law_whole:=Znf (P:=P) (w:=w) (base:=base) T;refine Yx T.e_law_alike.F Zdg (S:=Js (Zx k)) rfl rfl (λcdv A outer s H E hr=>?_);have hu:=hr.units;exact(Zg9 (Zb3 (Zml (Znc (Zat (Zar (Zas (Zdk (!1) (!2) T.z_isinstance L2.B.boot_isinstance (!2) T.z_bool L2.B.boot_bool (Y0 (mv 1)))) (λ_=>rfl))) (Zf (Zfw (Zfq (Zaw (Zho (Zas (Zdk (!1) (!2) T.z_isinstance L2.B.boot_isinstance (!2) T.z_bool L2.B.boot_bool (Y0 (mv 0)))) (Zja (Zv Z6s (Zf1 (Ziv hu) Zp7 (Y0 (mv 0)) (Y0 (mv 1)) (hm:=(Wh _)))))))))) (Zcb Zb8)))
   (Zg9 (Zb3 (Zml (Znc (Zat (Zar (Zas (Zdk (!1) (!2) T.z_isinstance L2.B.boot_isinstance (!2) T.z_int L2.B.boot_int (Y0 (mv 1)))) (λ_=>rfl))) (Zf (Zfw (Zfq (Zaw (Zho (Ze6 (Zje G_law_whole (hr.mono (XD (!1) (Vb 2 k))) (!2) T.e_law_whole.m T.e_law_whole.F.kp T.e_law_whole.b Zor (Zc (Y0 (mv 0)) (Zeo Zen)))) (Zja (Zv Z6s (Zf1 (Ziv hu) Zp7 (Y0 (mv 0)) (Y0 (mv 1)) (hm:=(Wh _)))))))))) (Zcb Zb8)))
   (Zg9 (Zb3 (Zml (Znc (Zat (Zar (Zas (Zdk (!1) (!2) T.z_isinstance L2.B.boot_isinstance (!2) T.z_str L2.B.boot_str (Y0 (mv 1)))) (λ_=>rfl))) (Zf (Zfw (Zfq (Zaw (Zho (Zas (Zdk (!1) (!2) T.z_isinstance L2.B.boot_isinstance (!2) T.z_str L2.B.boot_str (Y0 (mv 0)))) (Zja (Zv Z6s (Zf1 (Ziv hu) Zp7 (Y0 (mv 0)) (Y0 (mv 1)) (hm:=(Wh _)))))))))) (Zcb Zb8)))
   (Zg9 (Zb3 (Zml (Znc (Zbw Z8x (Zbi Zkh Zkg (Y0 (mv 1)) (Z6 J6) (hm:=(Wh _)))) (Zf (Zfw (Zfq (Zv Z8x (Zf1 Zkh Zkg (Y0 (mv 0)) (Z6 J6) (hm:=(Wh _))))))) (Zcb Zb8)))
   (Zg9 (Zb3 (Zml (Znc (MW.mt (Zfh (Zf3 (Zbw Z9v (Zbi (Zof hu) Zvi (Zas (Zdk (!1) (!2) T.z_isinstance L2.B.boot_isinstance (!2) T.z_tuple L2.B.boot_tuple (Y0 (mv 1)))) (Zas (Zdk (!1) (!2) T.z_isinstance L2.B.boot_isinstance (!2) T.z_tuple L2.B.boot_tuple (Y0 (mv 0)))) (hm:=(Wh _)))) (Zfr (Zbw Z9v (Zbi (Zof hu) Zvi (Zas (Zdk (!1) (!2) T.z_isinstance L2.B.boot_isinstance (!2) T.z_list L2.B.boot_list (Y0 (mv 1)))) (Zas (Zdk (!1) (!2) T.z_isinstance L2.B.boot_isinstance (!2) T.z_list L2.B.boot_list (Y0 (mv 0)))) (hm:=(Wh _)))))))) (Zf (Zfw (Zfq (Z6 Zct)))) (Zcb Zb8)))
   (Zg9 (Zb3 (Zml (Znc (Zbw Z9v (Zbi (Zof hu) Zvi (Jh Z6j (Zhi Zwu (Ziz rfl) (!2) T.z_len L2.B.boot_len (Zc (Y0 (mv 0)) (Zeo Zen)))) (Jh Z6j (Zhi Zwu (Ziz rfl) (!2) T.z_len L2.B.boot_len (Zc (Y0 (mv 1)) (Zeo Zen)))) (hm:=(Wh _)))) (Zf (Zfw (Zfq (Z6 Zct)))) (Zcb Zb8)))
   (Zg9 (Zb3 (Z2f (Z3c Bh rfl (Zuk (Zw8 (!2) T.z_zip L2.B.boot_zip (Zc (Y0 (mv 0)) (Zc (Y0 (mv 1)) (Zeo Zen))))) (Z2l (Z34 (n:=2) (!2) (Zhu (Zhz (Zo0 (Zpo (i:=2) Zdg.nd)) (Zhu (Zhz (Zo0 (Zpo (i:=3) Zdg.nd)) (Zw4 Zvn)))))))
   (Zf (Zml (Znc (Zmt (Zm6 (Zat (Zar (Ze6 (Zje G_rec hr (!2) T.e_law_alike.m T.e_law_alike.F.kp T.e_law_alike.b Zor (Zc (Y0 (mv 2)) (Zc (Y0 (mv 3)) (Zeo Zen))))) (λ_=>rfl))))) (Zf (Zfw (Zfq (Z6 Zct)))) (Zcb Zb8))))))
   (Zf (Zfw (Zfq (Z6 Zct))))))))))))))))))
def Znj(T:Txt K mg f fd cls):FnOk P w K mg base CX0 8 (f 1) (fd 1) ["found","due"] (spD K (sD (Zx 6))):=Zdi T 6
def Zlz:Z1 ["text"] ["text"] (Zm Zdn):=fsc
def Zjs(T:Txt K mg f fd cls):FnOk P w K mg base CX0 1 (f 2) (fd 2) ["text"] (spD K (sD Wf))/\FnOk P w K mg base (CX1 P w) 1 (f 2) (fd 2) ["text"] (spX K (sX K Wf)):=by
 refine Z3y T.e_check_text.F Zlz (S:=Zcl) rfl rfl (λCX cdv A outer s H E hr=>?_);exact(Zzg (Yle (Zmt (Zm6 (Zat (Zar (Z5x (Ycp (!1) (!2) T.z_isinstance L2.B.boot_isinstance (!2) T.z_str L2.B.boot_str (Y0 (mv 0)))) (λ_=>rfl))))) (Zzg ⟨Zqy,Zqo T.c_NoText.a (Zq4 rfl hr.hd (!2) T.c_NoText.m T.r_NoText)⟩) (Z41 (Zcb Zb8))))
def Zge:Z1 ["n"] ["n"] (Zm Za2):=fsc
def Zf5(T:Txt K mg f fd cls):FnOk P w K mg base CX0 1 (f 3) (fd 3) ["n"] (spD K (sD W8)):=by
 refine Yx T.e_is_point_count.F Zge (S:=Zau) rfl rfl (λcdv A outer s H E hr=>?_);exact(Zf (xrt (Zz4 (Z6n Z1z Z1z xci (xv 0) (Z6 (Ztw (!2) T.g_MOST_POINTS))))))
def Zd0:Z1 ["things","one","behind"] ["things"] (Zm Zer):=fsc
def Zg7(T:Txt K mg f fd cls):FnOk P w K mg base CX0 1 (f 4) (fd 4) ["things"] (spD K (sD Y5)):=by
 refine Yx T.e_is_rising.F Zd0 (S:=Zc8) rfl rfl (λcdv A outer s H E hr=>?_);have hu:=hr.units;exact(xsq (xfr Bh rfl (Zuk (Zw8 (!2) T.z_zip L2.B.boot_zip (Zc (xv 0) (xa1 (Zn9 (Zn0 (xv 0) (Ji (Jl xci)) (Jz Jv))))))) (xg2 rfl (xg 1 Zd0.nd) (xg 2 Zd0.nd)) (Zf (xif (xno (Zbw Yhq (Zbi (Yct hu) Ybp (xv 1) (xv 2) (hm:=(Wh _))))) (Zf (xrt (Z6 Zct))) xnl))) (Zf (xrt (Z6 Zct))))
def Zpr:Z1 ["thing"] ["thing"] (Zm Zgo):=fsc
def Zif(T:Txt K mg f fd cls):FnOk P w K mg base CX0 1 (f 5) (fd 5) ["thing"] (spD K (sD Ye)):=by
 refine Yx T.e_is_whole.F Zpr (S:=Zdz) rfl rfl (λcdv A outer s H E hr=>?_);exact(Zf (xrt (Zaw (Zho (Zas (Zdk (!1) (!2) T.z_isinstance L2.B.boot_isinstance (!2) T.z_int L2.B.boot_int (xv 0))) (Zja (Zum (Ybb (Zas (Zdk (!1) (!2) T.z_isinstance L2.B.boot_isinstance (!2) T.z_bool L2.B.boot_bool (xv 0))))))))))
def Zoo:Z1 ["n","thing","point"] ["n","thing"] (Zm Zld):=fsc
def Zyq(T:Txt K mg f fd cls):FnOk P w K mg base CX0 2 (f 6) (fd 6) ["n","thing"] (spD K (sD Jf)):=by
 have G_is_rising:=Zg7 (P:=P) (w:=w) (base:=base) T;have G_is_whole:=Zif (P:=P) (w:=w) (base:=base) T;refine Yx T.e_is_cut.F Zoo (S:=Zcx) rfl rfl (λcdv A outer s H E hr=>?_);have hu:=hr.units;exact(xsq (xif (MW.mt (Zfh (Zf3 (xno (Zat (Zar (Zas (Zdk (!1) (!2) T.z_isinstance L2.B.boot_isinstance (!2) T.z_list L2.B.boot_list (xv 1))) (λ_=>rfl)))) (Zfr (xeq hu (xln T.z_len (xa1 (xv 1))) xci))))) (Zf (xrt (Z6 Zct))) xnl) (xsq (xfr Bh rfl (xil (xv 1)) (xg 2 Zoo.nd) (Zf (xif (xno (Zat (Zar (xce G_is_whole hr T.e_is_whole (xa1 (xv 2))) (λ_=>rfl)))) (Zf (xrt (Z6 Zct))) xnl))) (Zf (xrt (Zaw (Zho (xce G_is_rising hr T.e_is_rising (xa1 (xv 1))) (Zaw (Zho (Zv Yia (Zf1 Z7w Zg0 (xix (xv 1) xci) xci (hm:=(Wh _)))) (Zja (Zv Yi5 (Zf1 Z6d Zg0 (xix (xv 1) (Zoc (Zuj xci))) (xv 0) (hm:=(Wh _)))))))))))))
def Yq:Z1 ["a","b","left"] ["a","b"] (Zm Zab):=fsc
def Ze4(T:Txt K mg f fd cls):FnOk P w K mg base CX0 1 (f 7) (fd 7) ["a","b"] (spD K (sD Yn)):=by
 refine Yx T.e_greatest_divisor.F Yq (S:=Zad) rfl rfl (λcdv A outer s H E hr=>?_);have hu:=hr.units;exact(xsq (xst 0 Yq.nd (Jh Z79 (Zhi Zv5 Zk5 (!2) T.z_abs L2.B.boot_abs (xa1 (xv 0))))) (xsq (xst 1 Yq.nd (Jh Z79 (Zhi Zv5 Zk5 (!2) T.z_abs L2.B.boot_abs (xa1 (xv 1))))) (xsq (Zrh (Zqt Bh (xne hu (xv 1) xci) (xsq (xst 2 Yq.nd (Zde (xv 0) (xv 1))) (xsq (xst 0 Yq.nd (xv 1)) (Zf (xst 1 Yq.nd (xv 2))))))) (Zf (xrt (xv 0))))))
def Zju:Z1 ["thing"] ["thing"] (Zm Zc1):=fsc
def Zei(T:Txt K mg f fd cls):FnOk P w K mg base CX0 2 (f 8) (fd 8) ["thing"] (spD K (sD Zy)):=by
 have G_greatest_divisor:=Ze4 (P:=P) (w:=w) (base:=base) T;have G_is_whole:=Zif (P:=P) (w:=w) (base:=base) T;refine Yx T.e_is_fraction.F Zju (S:=Zby) rfl rfl (λcdv A outer s H E hr=>?_);have hu:=hr.units;exact(xsq (xif (MW.mt (Zfh (Zf3 (xno (Zat (Zar (Zas (Zdk (!1) (!2) T.z_isinstance L2.B.boot_isinstance (!2) T.z_tuple L2.B.boot_tuple (xv 0))) (λ_=>rfl)))) (Zfr (xne hu (xln T.z_len (xa1 (xv 0))) xci))))) (Zf (xrt (Z6 Zct))) xnl) (xsq (xif (MW.mt (Zfh (Zf3 (xno (Zat (Zar (xce G_is_whole hr T.e_is_whole (xa1 (xix (xv 0) xci))) (λ_=>rfl)))) (Zfr (xno (Zat (Zar (xce G_is_whole hr T.e_is_whole (xa1 (xix (xv 0) xci))) (λ_=>rfl)))))))) (Zf (xrt (Z6 Zct))) xnl) (Zf (xrt (Zaw (Zho (Zv Yia (Zf1 Z7w Zg0 (xix (xv 0) xci) xci (hm:=(Wh _)))) (Zja (Zv Z6s (Zf1 (Ziv hu) Zp7 (xce G_greatest_divisor hr T.e_greatest_divisor (Zc (xix (xv 0) xci) (xa1 (xix (xv 0) xci)))) xci (hm:=(Wh _)))))))))))
def Zf2:Z1 ["n","thing"] ["n","thing"] (Zm Zan):=fsc
def Zfy(T:Txt K mg f fd cls):FnOk P w K mg base CX0 3 (f 9) (fd 9) ["n","thing"] (spD K (sD Yb)):=by
 have G_is_cut:=Zyq (P:=P) (w:=w) (base:=base) T;have G_is_fraction:=Zei (P:=P) (w:=w) (base:=base) T;refine Yx T.e_is_weighted_cut.F Zf2 (S:=Zak) rfl rfl (λcdv A outer s H E hr=>?_);have hu:=hr.units;exact(xsq (xif (MW.mt (Zfh (Zf3 (xno (Zat (Zar (Zas (Zdk (!1) (!2) T.z_isinstance L2.B.boot_isinstance (!2) T.z_tuple L2.B.boot_tuple (xv 1))) (λ_=>rfl)))) (Zfr (xne hu (xln T.z_len (xa1 (xv 1))) xci))))) (Zf (xrt (Z6 Zct))) xnl) (Zf (xrt (Zaw (Zho (xce G_is_cut hr T.e_is_cut (Zc (xv 0) (xa1 (xix (xv 1) xci)))) (Zaw (Zho (xce G_is_fraction hr T.e_is_fraction (xa1 (xix (xv 1) xci))) (Zja (Zv Ynq (Zf1 Ybq Zg0 (xix (xix (xv 1) xci) xci) xci (hm:=(Wh _))))))))))))
def Zek:Z1 ["n","thing","weighted"] ["n","thing"] (Zm Zcv):=fsc
def Zjr(T:Txt K mg f fd cls):FnOk P w K mg base CX0 4 (f 10) (fd 10) ["n","thing"] (spD K (sD Wa)):=by
 have G_is_rising:=Zg7 (P:=P) (w:=w) (base:=base) T;have G_is_weighted_cut:=Zfy (P:=P) (w:=w) (base:=base) T;refine Yx T.e_is_weighted.F Zek (S:=Zaa) rfl rfl (λcdv A outer s H E hr=>?_);exact(xsq (xif (xno (Zat (Zar (Zas (Zdk (!1) (!2) T.z_isinstance L2.B.boot_isinstance (!2) T.z_list L2.B.boot_list (xv 1))) (λ_=>rfl)))) (Zf (xrt (Z6 Zct))) xnl) (xsq (xfr Bh rfl (xil (xv 1)) (xg 2 Zek.nd) (Zf (xif (xno (Zat (Zar (xce G_is_weighted_cut hr T.e_is_weighted_cut (Zc (xv 0) (xa1 (xv 2)))) (λ_=>rfl)))) (Zf (xrt (Z6 Zct))) xnl))) (Zf (xrt (xce G_is_rising hr T.e_is_rising (xa1 (Zfa (Zp9 ["weighted"] [] ["weighted"] (xil (xv 1)) (λ_ _ _ _ _=>(xg 0 (by show Vh (["weighted"]:List Str);decide +kernel))) (λ_ _ _ _ _=>(Zbx Zbq)) (λ_ _ _ _ _=>(xix (xv 0) xci))))))))))
def Zhb:Z1 ["word","sign"] ["word"] (Zm Zes):=fsc
def Znn(T:Txt K mg f fd cls):FnOk P w K mg base CX0 1 (f 11) (fd 11) ["word"] (spD K (sD Za0)):=by
 refine Yx T.e_is_number.F Zhb (S:=Zay) rfl rfl (λcdv A outer s H E hr=>?_);have hu:=hr.units;exact(xsq (xif (xno (Z11 (Zzz Z1z Z1z xci (Jh Zq8 (Zhi Zln Zb7 (!2) T.z_len L2.B.boot_len (xa1 (xv 0)))) (Z6 (Ztw (!2) T.g_MOST_FIGURES))))) (Zf (xrt (Z6 Zct))) xnl) (xsq (xfr Bh rfl (Z2b (Z2q (xv 0))) (xg 1 Zhb.nd) (Zf (xif (Zbw Yd6 (Zbi Znx Z2s (xv 1) (Z6 (Zxk (!2) T.g_FIGURES)) (hm:=(by with_unfolding_all rfl)))) (Zf (xrt (Z6 Zct))) xnl))) (Zf (xrt (Yfd (Yoq (Zv Z6s (Zf1 (Ziv hu) Zp7 (xv 0) (Z6 Zk) (hm:=(Wh _)))) (Zja (Zv Z9v (Zf1 (Zof hu) Zvi (Zgd (Zc4 Z5e (Ygc (Zll rfl) Zvf (xv 0) xci (hs:=λ_ _=>rfl)))) (Z6 Zk) (hm:=(Wh _)))))))))))
def Zka:Z1 ["word"] ["word"] (Zm Zcr):=fsc
def Zeh(T:Txt K mg f fd cls):FnOk P w K mg base CX0 2 (f 12) (fd 12) ["word"] (spD K (sD Y9)):=by
 have G_is_number:=Znn (P:=P) (w:=w) (base:=base) T;refine Yx T.e_read_number.F Zka (S:=Zb4) rfl rfl (λcdv A outer s H E hr=>?_);exact(Zf (xrt (Zgd (Ycy (Yml (Zat (Zar (xce G_is_number hr T.e_is_number (xa1 (xv 0))) (λ_=>rfl))) (Jh Z31 (Zj8 Zuq Zm8 (!2) T.z_int L2.B.boot_int (xa1 (xv 0)))) (Z6 J6))))))
def Zc7:Z1 ["q","top"] ["q"] (Zm Zbt):=fsc
def Zhg(T:Txt K mg f fd cls):FnOk P w K mg base CX0 1 (f 13) (fd 13) ["q"] (spD K (sD Yw)):=by
 refine Yx T.e_show_fraction.F Zc7 (S:=Zbb) rfl rfl (λcdv A outer s H E hr=>?_);have hu:=hr.units;exact(xsq (xst 1 Zc7.nd (Jh Zoh (Zj8 Zha Wm (!2) T.z_str L2.B.boot_str (xa1 (xix (xv 0) xci))))) (xsq (xif (xeq hu (xix (xv 0) xci) xci) (Zf (xrt (xv 1))) xnl) (Zf (xrt (Zv Wb (W0 Zu Yl (Zv Wb (W0 Zu Yl (xv 1) (Z6 Zk))) (Jh Zoh (Zj8 Zha Wm (!2) T.z_str L2.B.boot_str (xa1 (xix (xv 0) xci))))))))))
def Zaz:Z1 ["word","numbers","q"] ["word"] (Zm Zbr):=fsc
def Zhk(T:Txt K mg f fd cls):FnOk P w K mg base CX0 3 (f 14) (fd 14) ["word"] (spD K (sD We)):=by
 have G_is_fraction:=Zei (P:=P) (w:=w) (base:=base) T;have G_read_number:=Zeh (P:=P) (w:=w) (base:=base) T;have G_show_fraction:=Zhg (P:=P) (w:=w) (base:=base) T;refine Yx T.e_read_fraction.F Zaz (S:=Zba) rfl rfl (λcdv A outer s H E hr=>?_);have hu:=hr.units;exact(xsq (Zma (Zcf (i:=1) (own:=["part"]) (caps:=[]) (N':=["part"]) YD Zaz.nd rfl (QT rfl) (by exact⟨rfl,by decide +kernel,rfl,by decide +kernel,rfl,rfl⟩) (!2) (!1) (xil (Zg5 (Znz Zb2 Bg Vu Zb5 (xv 0) (xa1 (Z6 Zk))))) (λ_ _ _ _ _=>(xg 0 (by show Vh (["part"]:List Str);decide +kernel))) (λ_ _ _ _ _=>(Zbx Zbq)) (λ_ _ _ _ _=>(xce G_read_number hr T.e_read_number (xa1 (xv 0)))))) (xsq (xif (xeq hu (xln T.z_len (xa1 (xo 1))) xci) (Zf (Zij (Zig 1 xci))) xnl) (xsq (Zwa (Zwm (i:=2) Zaz.nd rfl (QT rfl) (Zt2 Z2p (Ygo Zyx (Zi1 rfl) (!2) T.z_tuple L2.B.boot_tuple (xa1 (xo 1)))))) (Zf (xrt (Zgd (Ycy (Yml (MW.mt (Zmq (Zn8 (Zat (Zar (xce G_is_fraction hr T.e_is_fraction (xa1 (xv 2))) (λ_=>rfl))) (Ziw (xeq hu (xce G_show_fraction hr T.e_show_fraction (xa1 (xv 2))) (xv 0)))))) (xv 2) (Z6 J6)))))))))
def Zc3:Z1 ["text","parts"] ["text"] (Zm Zbn):=fsc
def Zhl(T:Txt K mg f fd cls):FnOk P w K mg base CX0 4 (f 15) (fd 15) ["text"] (spD K (sD Jj)):=by
 have G_read_fraction:=Zhk (P:=P) (w:=w) (base:=base) T;have G_read_number:=Zeh (P:=P) (w:=w) (base:=base) T;refine Yx T.e_read_weighted.F Zc3 (S:=Zbc) rfl rfl (λcdv A outer s H E hr=>?_);have hu:=hr.units;exact(xsq (xst 1 Zc3.nd (Zg5 (Znz Zb2 Bg Vu Zb5 (xv 0) (xa1 (Z6 Zk))))) (xsq (xif (xne hu (xln T.z_len (xa1 (xv 1))) xci) (Zf (xrt (Z6 J6))) xnl) (Zf (xrt (Zps (Zx2 (Zc (Zfa (Zp9 ["word"] [] ["word"] (xil (Zg5 (Znz Zb2 Bg Vu Zb5 (xix (xv 1) xci) (xa1 (Z6 Zk))))) (λ_ _ _ _ _=>(xg 0 (by show Vh (["word"]:List Str);decide +kernel))) (λ_ _ _ _ _=>(Zbx Zbq)) (λ_ _ _ _ _=>(xce G_read_number hr T.e_read_number (xa1 (xv 0)))))) (xa1 (xce G_read_fraction hr T.e_read_fraction (xa1 (xix (xv 1) xci)))))))))))
def Zeb:Z1 ["text"] ["text"] (Zm Jw):=fsc
def Zec(T:Txt K mg f fd cls):FnOk P w K mg base CX0 5 (f 16) (fd 16) ["text"] (spD K (sD Wi)):=by
 have G_read_weighted:=Zhl (P:=P) (w:=w) (base:=base) T;refine Yx T.e_read_all_weighted.F Zeb (S:=J1) rfl rfl (λcdv A outer s H E hr=>?_);have hu:=hr.units;exact(xsq (xif (xeq hu (xv 0) (Z6 (Zxk (!2) T.g_NO_CUTS))) (Zf (xrt (xls xa0))) xnl) (Zf (xrt (Zfa (Zp9 ["part"] [] ["part"] (xil (Zg5 (Znz Zb2 Bg Vu Zb5 (xv 0) (xa1 (Z6 Zk))))) (λ_ _ _ _ _=>(xg 0 (by show Vh (["part"]:List Str);decide +kernel))) (λ_ _ _ _ _=>(Zbx Zbq)) (λ_ _ _ _ _=>(xce G_read_weighted hr T.e_read_weighted (xa1 (xv 0)))))))))
def Zg4:Z1 ["n","text","cuts"] ["n","text"] (Zm Zew):=fsc
def Zlp(T:Txt K mg f fd cls):FnOk P w K mg base CX0 6 (f 17) (fd 17) ["n","text"] (spD K (sD Z5))/\FnOk P w K mg base (CX1 P w) 6 (f 17) (fd 17) ["n","text"] (spX K (sX K Z5)):=by
 obtain⟨G_check_text,GX_check_text⟩:=Zjs (P:=P) (w:=w) (base:=base) T;have G_is_point_count:=Zf5 (P:=P) (w:=w) (base:=base) T;have G_is_weighted:=Zjr (P:=P) (w:=w) (base:=base) T;have G_read_all_weighted:=Zec (P:=P) (w:=w) (base:=base) T;refine Z3y T.e_read_cuts.F Zg4 (S:=Zc6) rfl rfl (λCX cdv A outer s H E hr=>?_);exact(Z72 (b_x (λq=>(Yi8 (Z7g (Z7j (Ze6 (Zje G_check_text (hr.mono (!1)) (!2) T.e_check_text.m T.e_check_text.F.kp T.e_check_text.b Zor q)))))) (λq=>Z4v (Zu1 (xee GX_check_text hr T.e_check_text q))) (Zc (Y0 (mv 1)) (Zeo Zen)))
   (Z72 (Yo9 (Zpc (Zoz (i:=2) Zg4.nd rfl (QT rfl) (Ze6 (Zje G_read_all_weighted (hr.mono (!1)) (!2) T.e_read_all_weighted.m T.e_read_all_weighted.F.kp T.e_read_all_weighted.b Zor (Zc (Y0 (mv 1)) (Zeo Zen)))))))
   (Z72 (Yle (MW.mt (Zfh (Zf3 (Zmt (Zm6 (Zat (Zar (Ze6 (Zje G_is_point_count (hr.mono (!1)) (!2) T.e_is_point_count.m T.e_is_point_count.F.kp T.e_is_point_count.b Zor (Zc (Y0 (mv 0)) (Zeo Zen)))) (λ_=>rfl))))) (Zfr (Zmt (Zm6 (Zat (Zar (Ze6 (Zje G_is_weighted (hr.mono (!1)) (!2) T.e_is_weighted.m T.e_is_weighted.F.kp T.e_is_weighted.b Zor (Zc (Y0 (mv 0)) (Zc (Z35 (mo 2)) (Zeo Zen))))) (λ_=>rfl))))))))) (Zzg ⟨Zqy,Zqo T.c_NoText.a (Zq4 rfl hr.hd (!2) T.c_NoText.m T.r_NoText)⟩) (Z41 (Zcb Zb8)))
   (Z41 (Zf (Zp4 (Zpt 2)))))))
def Wk:Z1 ["n","thing","found","classes","e","others"] ["n","thing"] (Zm Ze5):=fsc
def Zmr(T:Txt K mg f fd cls):FnOk P w K mg base CX0 7 (f 18) (fd 18) ["n","thing"] (spD K (sD Jt)):=by
 obtain⟨G_read_cuts,GX_read_cuts⟩:=Zlp (P:=P) (w:=w) (base:=base) T;refine Yx T.e_law_asked.F Wk (S:=Zdc) rfl rfl (λcdv A outer s H E hr=>?_);exact(xsq (xst 2 Wk.nd (Z6 J6)) (xsq (xst 3 Wk.nd (Z6 J6)) (xsq (Yby T.ku_NoText (Yc6 (i:=4) Wk.nd rfl rfl (!2) T.c_NoText.m T.r_NoText (Zf (Yi8 (xst 2 Wk.nd (xce G_read_cuts hr T.e_read_cuts (Zc (xv 0) (xa1 (xv 1))))))) (Yo8 (Zzg (b_x (λq=>(Yi8 (xst 2 Wk.nd (xce G_read_cuts hr T.e_read_cuts q)))) (λq=>Ybe (Zu1 (xee GX_read_cuts hr T.e_read_cuts q))) (Zc (xv 0) (xa1 (xv 1)))))) (λ_=>(xsq (xst 5 Wk.nd (Z1x T.kxt_0 (Z6v (Wr (Za1 (v:=.ref (cls 1)) (!2) T.c_NoCut.m rfl) (Wr (Za1 (v:=.ref (cls 2)) (!2) T.c_NoName.m rfl) (Wr (Za1 (v:=.ref (cls 3)) (!2) T.c_NoNumber.m rfl) (Wr (Za1 (v:=.ref (cls 4)) (!2) T.c_NoOrder.m rfl) (Wr (Za1 (v:=.ref (cls 5)) (!2) T.c_NoPoint.m rfl) (Wr (Za1 (v:=.ref (cls 6)) (!2) T.c_NoRow.m rfl) (Wr (Za1 (v:=.ref (cls 7)) (!2) T.c_NoTable.m rfl) (Wr (Za1 (v:=.ref (cls 9)) (!2) T.c_NoWeb.m rfl) (Wr (Za1 (v:=.ref (cls 10)) (!2) T.c_TooMany.m rfl) Zi9))))))))) (λ_ _ _ h=>h) (.cons (.own _) (.cons (.own _) (.cons (.own _) (.cons (.own _) (.cons (.own _) (.cons (.own _) (.cons (.own _) (.cons (.own _) (.cons (.own _) .nil))))))))) (by show 9<=Xp;decide) (!2) T.z_isinstance L2.B.boot_isinstance (xv 4)))) (Zf (xst 3 Wk.nd (xtp (Zc (Zvh T.kx_CutError (Z27 (Za1 (v:=.ref (cls 0)) (!2) T.c_CutError.m rfl) (.own _) (!2) T.z_isinstance L2.B.boot_isinstance (xv 4))) (Zc (Zvh T.kx_ValueError (Z27 (Zov (v:=.ty "ValueError") (!2) T.z_ValueError PyProof.Rows.Boot.«ValueError» rfl) (.ty _) (!2) T.z_isinstance L2.B.boot_isinstance (xv 4))) (xa1 (xv 5))))))))))) (Zf (xrt (xtp (Zc (xv 2) (xa1 (xv 3)))))))))
def Zj4:Z1 ["script","k"] ["script","k"] (Zm Zcz):=fsc
def Zjz(T:Txt K mg f fd cls):FnOk P w K mg base CX0 1 (f 19) (fd 19) ["script","k"] (spD K (sD Ys)):=by
 refine Yx T.e_law_cell_at.F Zj4 (S:=Zb1) rfl rfl (λcdv A outer s H E hr=>?_);exact(xsq (xif (xlt (xv 1) (xln T.z_len (xa1 (xv 0)))) (Zf (xrt (xix (xv 0) (xv 1)))) xnl) (Zf (xrt xci)))
def Z1m:Z1 ["q"] ["q"] (Zm Zp2):=fsc
def Zlb(T:Txt K mg f fd cls):FnOk P w K mg base CX0 1 (f 20) (fd 20) ["q"] (spD K (sD Zbz)):=by
 refine Yx T.e_law_q.F Z1m (S:=Zg2) rfl rfl (λcdv A outer s H E hr=>?_);have hu:=hr.units;exact(xsq (xif (xeq hu (xix (xv 0) xci) xci) (Zf (xrt (Jh Zoh (Zj8 Zha Wm (!2) T.z_str L2.B.boot_str (xa1 (xix (xv 0) xci)))))) xnl) (Zf (xrt (Zv Wb (W0 Zu Yl (Zv Wb (W0 Zu Yl (Jh Zoh (Zj8 Zha Wm (!2) T.z_str L2.B.boot_str (xa1 (xix (xv 0) xci)))) (Z6 Zk))) (Jh Zoh (Zj8 Zha Wm (!2) T.z_str L2.B.boot_str (xa1 (xix (xv 0) xci)))))))))
def Yg:Z1 ["cut","q","way","number","words","at","weight"] ["cut","q","way","number"] (Zm J8):=fsc
def Zet(T:Txt K mg f fd cls):FnOk P w K mg base CX0 2 (f 21) (fd 21) ["cut","q","way","number"] (spD K (sD Ww)):=by
 have G_law_q:=Zlb (P:=P) (w:=w) (base:=base) T;refine Yx T.e_law_part_changed.F Yg (S:=Zai) rfl rfl (λcdv A outer s H E hr=>?_);have hu:=hr.units;exact(xsq (Zma (Zcf (i:=4) (own:=["point"]) (caps:=[]) (N':=["point"]) YD Yg.nd rfl (QT rfl) (by exact⟨rfl,by decide +kernel,rfl,by decide +kernel,rfl,rfl⟩) (!2) (!1) (xil (xv 0)) (λ_ _ _ _ _=>(xg 0 (by show Vh (["point"]:List Str);decide +kernel))) (λ_ _ _ _ _=>(Zbx Zbq)) (λ_ _ _ _ _=>(Jh Zoh (Zj8 Zha Wm (!2) T.z_str L2.B.boot_str (xa1 (xv 0))))))) (xsq (xst 5 Yg.nd (Zde (xv 3) (xln T.z_len (xa1 (xo 4))))) (xsq (xif (xeq hu (xv 2) xci) (Zf (Zrg (Zry 4 (xix (xls (Zc (Z6 Zk) (Zc (Z6 Zk) (Zc (Z6 Zk) (Zc (Z6 Zk) (Zc (Z6 Zk) (Zc (Z6 Zk) (Zc (Z6 Zk) (xa1 (Z6 Zk)))))))))) (Zde (Zox (xv 3) xci) xci)) (xv 5)))) xnl) (xsq (xif (xeq hu (xv 2) xci) (Zf (xso 4 Yg.nd (Zhw (Zmc (Zgd (Zc4 Zpj (Z47 (Ze0 rfl) Zjh (Zn9 (Zn0 (xo 4) (Jz Jv) (Ji (Jl (Zpb (xv 5) xci))))) (Zn9 (Zn0 (xo 4) (Ji (Jl (xv 5))) (Jz Jv)))))))))) xnl) (xsq (xif (xeq hu (xv 2) xci) (Zf (xso 4 Yg.nd (Zhw (Zmc (Z7x (Yfy (xo 4) (Jz Jv) (Jz Jv) (Ji (Jl (Zoc (Zuj xci)))))))))) xnl) (xsq (xst 6 Yg.nd (xce G_law_q hr T.e_law_q (xa1 (xv 1)))) (xsq (xif (xeq hu (xv 2) xci) (Zf (xst 6 Yg.nd (xix (xls (Zc (Z6 Zk) (Zc (Z6 Zk) (Zc (Z6 Zk) (Zc (Z6 Zk) (Zc (Z6 Zk) (Zc (Z6 Zk) (Zc (Z6 Zk) (Zc (Z6 Zk) (Zc (Z6 Zk) (Zc (Z6 Zk) (Zc (Z6 Zk) (xa1 (Z6 Zk)))))))))))))) (Zde (Zox (xv 3) xci) xci)))) xnl) (xsq (xif (xeq hu (xv 2) xci) (Zf (xrt (xix (xls (Zc (Zv Wb (W0 Zu Yl (Zv Wb (W0 Zu Yl (Zjd (Zo9 Ze8 V8 V7 (Zex rfl) (Z6 Zk) (xa1 (xo 4)))) (Z6 Zk))) (xv 6))) (Zc (Zv Wb (W0 Zu Yl (Zv Wb (W0 Zu Yl (Zjd (Zo9 Ze8 V8 V7 (Zex rfl) (Z6 Zk) (xa1 (xo 4)))) (Z6 Zk))) (xv 6))) (Zc (xv 6) (xa1 (Zv Wb (W0 Zu Yl (Z6 Zk) (xv 6)))))))) (Zde (xv 3) xci)))) xnl) (Zf (xrt (Zv Wb (W0 Zu Yl (Zv Wb (W0 Zu Yl (Zjd (Zo9 Ze8 V8 V7 (Zex rfl) (Z6 Zk) (xa1 (xo 4)))) (Z6 Zk))) (xv 6)))))))))))))
def Yd:Z1 ["text","weighted","numbers","at","sign","way","ends","parts","line","other","first"] ["text","weighted","numbers"] (Zm Zcw):=fsc
def Zjt(T:Txt K mg f fd cls):FnOk P w K mg base CX0 3 (f 22) (fd 22) ["text","weighted","numbers"] (spD K (sD W5)):=by
 have G_law_part_changed:=Zet (P:=P) (w:=w) (base:=base) T;have G_law_q:=Zlb (P:=P) (w:=w) (base:=base) T;refine Yx T.e_law_changed.F Yd (S:=Zb6) rfl rfl (λcdv A outer s H E hr=>?_);have hu:=hr.units;exact(xsq (xst 3 Yd.nd (Zde (xix (xv 2) xci) (Zpb (Jh Zq8 (Zhi Zln Zb7 (!2) T.z_len L2.B.boot_len (xa1 (xv 0)))) xci))) (xsq (xst 4 Yd.nd (Zgd (Zc4 Z5e (Ygc (Zll rfl) Zvf (Z6 Zk) (Zde (xix (xv 2) xci) xci) (hs:=λ_ _=>rfl))))) (xsq (xst 5 Yd.nd (Zde (xix (xv 2) xci) xci)) (xsq (xif (xeq hu (xv 5) xci) (Zf (xrt (Zv Wb (W0 Zu Yl (Zkv (Zsx (xv 0) (Jz Jv) (Ji (Jl (xv 3))))) (Zkv (Zsx (xv 0) (Ji (Jl (Zpb (xv 3) xci))) (Jz Jv))))))) xnl) (xsq (xif (xeq hu (xv 5) xci) (Zf (xrt (Zv Wb (W0 Zu Yl (Zv Wb (W0 Zu Yl (Zkv (Zsx (xv 0) (Jz Jv) (Ji (Jl (xv 3))))) (xv 4))) (Zkv (Zsx (xv 0) (Ji (Jl (xv 3))) (Jz Jv))))))) xnl) (xsq (xif (xeq hu (xv 5) xci) (Zf (xrt (Zv Wb (W0 Zu Yl (Zv Wb (W0 Zu Yl (Zkv (Zsx (xv 0) (Jz Jv) (Ji (Jl (xv 3))))) (xv 4))) (Zkv (Zsx (xv 0) (Ji (Jl (Zpb (xv 3) xci))) (Jz Jv))))))) xnl) (xsq (xif (xeq hu (xv 5) xci) (xsq (xst 6 Yd.nd (xls (Zc (Zv Wb (W0 Zu Yl (xv 0) (Z6 Zk))) (Zc (Zv Wb (W0 Zu Yl (Z6 Zk) (xv 0))) (Zc (Zv Wb (W0 Zu Yl (xv 0) (Z6 Zk))) (Zc (Zv Wb (W0 Zu Yl (Z6 Zk) (xv 0))) (Zc (Zv Wb (W0 Zu Yl (xv 0) (Z6 Zk))) (Zc (Zv Wb (W0 Zu Yl (xv 0) (Z6 Zk))) (xa1 (Zv Wb (W0 Zu Yl (xv 0) (Z6 Zk)))))))))))) (Zf (xrt (xix (xv 6) (Zde (xix (xv 2) xci) xci))))) xnl) (xsq (Zma (Zcf (i:=7) (own:=["cut","q"]) (caps:=[]) (N':=["cut","q"]) YD Yd.nd rfl (QT rfl) (by exact⟨rfl,by decide +kernel,rfl,by decide +kernel,rfl,rfl⟩) (!2) (!1) (xil (xv 1)) (λ_ _ _ _ _=>(xg2 rfl (xg 0 (by show Vh (["cut","q"]:List Str);decide +kernel)) (xg 1 (by show Vh (["cut","q"]:List Str);decide +kernel)))) (λ_ _ _ _ _=>(Zbx Zbq)) (λ_ _ _ _ _=>(Zv Wb (W0 Zu Yl (Zv Wb (W0 Zu Yl (Zjd (Zo9 Ze8 V8 V7 (Zex rfl) (Z6 Zk) (xa1 (Zfa (Zp9 ["point"] [] ["point"] (xil (xv 0)) (λ_ _ _ _ _=>(xg 0 (by show Vh (["point"]:List Str);decide +kernel))) (λ_ _ _ _ _=>(Zbx Zbq)) (λ_ _ _ _ _=>(Jh Zoh (Zj8 Zha Wm (!2) T.z_str L2.B.boot_str (xa1 (xv 0)))))))))) (Z6 Zk))) (xce G_law_q hr T.e_law_q (xa1 (xv 1)))))))) (xsq (xif (xeq hu (xo 7) (xls xa0)) (Zf (xrt (xix (xls (Zc (Z6 Zk) (Zc (Z6 Zk) (Zc (Z6 Zk) (Zc (Z6 Zk) (xa1 (Z6 Zk))))))) (Zde (xix (xv 2) xci) xci)))) xnl) (xsq (xst 8 Yd.nd (Zde (xix (xv 2) xci) (xln T.z_len (xa1 (xo 7))))) (xsq (xst 9 Yd.nd (Zde (xix (xv 2) xci) (xln T.z_len (xa1 (xo 7))))) (xsq (xif (xeq hu (xv 5) xci) (xsq (Zwa (Zwm (i:=10) Yd.nd rfl (QT rfl) (xix (xo 7) (xv 8)))) (xsq (Zrg (Zry 7 (Z4y (Yej (xix (xo 7) (xv 9)))) (xv 8))) (Zf (Zrg (Zry 7 (xv 10) (xv 9)))))) (Zf (xif (xeq hu (xv 5) xci) (Zf (xso 7 Yd.nd (Zhw (Zmc (Zgd (Zc4 Zpj (Z47 (Ze0 rfl) Zjh (Zgd (Zc4 Zpj (Z47 (Ze0 rfl) Zjh (Zn9 (Zn0 (xo 7) (Jz Jv) (Ji (Jl (xv 8))))) (xls (xa1 (xix (xo 7) (xv 9))))))) (Zn9 (Zn0 (xo 7) (Ji (Jl (xv 8))) (Jz Jv)))))))))) (Zf (xif (xeq hu (xv 5) xci) (Zf (xso 7 Yd.nd (Zhw (Zmc (Zgd (Zc4 Zpj (Z47 (Ze0 rfl) Zjh (Zn9 (Zn0 (xo 7) (Jz Jv) (Ji (Jl (xv 8))))) (Zn9 (Zn0 (xo 7) (Ji (Jl (Zpb (xv 8) xci))) (Jz Jv)))))))))) (Zf (Zrg (Zry 7 (xce G_law_part_changed hr T.e_law_part_changed (Zc (xix (xix (xv 1) (xv 8)) xci) (Zc (xix (xix (xv 1) (xv 8)) xci) (Zc (Zde (xix (xv 2) xci) xci) (xa1 (xix (xv 2) xci)))))) (xv 8))))))))) (Zf (xrt (Zjd (Zo9 Ze8 V8 V7 (Zex rfl) (Z6 Zk) (xa1 (xo 7))))))))))))))))))
def Ze9:Z1 ["weighted"] ["weighted"] (Zm Zag):=fsc
def Ze3(T:Txt K mg f fd cls):FnOk P w K mg base CX0 2 (f 23) (fd 23) ["weighted"] (spD K (sD Ws)):=by
 have G_law_q:=Zlb (P:=P) (w:=w) (base:=base) T;refine Yx T.e_law_cuts_written.F Ze9 (S:=Zae) rfl rfl (λcdv A outer s H E hr=>?_);have hu:=hr.units;exact(xsq (xif (xeq hu (xv 0) (xls xa0)) (Zf (xrt (Z6 Zk))) xnl) (Zf (xrt (Zjd (Zo9 Ze8 V8 V7 (Zex rfl) (Z6 Zk) (xa1 (Zfa (Zp9 ["cut","q"] [] ["cut","q"] (xil (xv 0)) (λ_ _ _ _ _=>(xg2 rfl (xg 0 (by show Vh (["cut","q"]:List Str);decide +kernel)) (xg 1 (by show Vh (["cut","q"]:List Str);decide +kernel)))) (λ_ _ _ _ _=>(Zbx Zbq)) (λ_ _ _ _ _=>(Zv Wb (W0 Zu Yl (Zv Wb (W0 Zu Yl (Zjd (Zo9 Ze8 V8 V7 (Zex rfl) (Z6 Zk) (xa1 (Zfa (Zp9 ["point"] [] ["point"] (xil (xv 0)) (λ_ _ _ _ _=>(xg 0 (by show Vh (["point"]:List Str);decide +kernel))) (λ_ _ _ _ _=>(Zbx Zbq)) (λ_ _ _ _ _=>(Jh Zoh (Zj8 Zha Wm (!2) T.z_str L2.B.boot_str (xa1 (xv 0)))))))))) (Z6 Zk))) (xce G_law_q hr T.e_law_q (xa1 (xv 1))))))))))))))
def Yy:Z1 ["cell","many","top","found","rest","k","stir"] ["cell","many","top"] (Zm Zds):=fsc
def Zli(T:Txt K mg f fd cls):FnOk P w K mg base CX0 1 (f 24) (fd 24) ["cell","many","top"] (spD K (sD Jb)):=by
 refine Yx T.e_law_digits.F Yy (S:=Zce) rfl rfl (λcdv A outer s H E hr=>?_);exact(xsq (xso 3 Yy.nd (xls xa0)) (xsq (xst 4 Yy.nd (xv 0)) (xsq (xfr Bh rfl (Ye2 (Zmk (!2) T.z_range (xa1 (xv 1)))) (xg 5 Yy.nd) (xsq (xst 6 Yy.nd (Zde (Ybs (Zpb (Zpb (xv 0) (Ybs xci (xv 5))) xci) xci) xci)) (xsq (xst 6 Yy.nd (Zde (Ybs (xv 6) (xv 6)) xci)) (xsq (xst 6 Yy.nd (Zox (Zde (Ybs (Zpb (xv 6) (Ybs xci (Zpb (xv 5) xci))) xci) xci) xci)) (xsq (xif (xge (xv 0) (Z0e xci xci)) (Zf (xst 6 Yy.nd (xv 4))) xnl) (xsq (Zij (Zig 3 (Zde (xv 6) (xv 2)))) (Zf (xst 4 Yy.nd (Zox (xv 4) (xv 2)))))))))) (Zf (Zp4 (Zpt 3))))))
def Zck:Z1 ["number","some"] ["number"] (Zm Zil):=fsc
def Zsv(T:Txt K mg f fd cls):FnOk P w K mg base CX0 1 (f 25) (fd 25) ["number"] (spD K (sD Zap)):=by
 refine Yx T.e_law_odd.F Zck (S:=Zee) rfl rfl (λcdv A outer s H E hr=>?_);exact(xsq (xst 1 Zck.nd (xls (Zc (Z6 Zk) (Zc (Z6 Zk) (Zc (Z6 Zk) (Zc (Z6 Zk) (Zc (Z6 Zk) (Zc (Z6 Zk) (Zc (Z6 Zk) (Zc (Z6 Zk) (Zc (Z6 Zk) (Zc (Z6 Zk) (Zc (Z6 Zk) (Zc (Z6 Zk) (xa1 (Z6 Zk)))))))))))))))) (xsq (xst 1 Zck.nd (Zgd (Zc4 Zpj (Z47 (Ze0 rfl) Zjh (xv 1) (xls (Zc (Z6 Zk) (Zc (Z6 Zk) (Zc (Z6 Zk) (Zc (Z6 Zk) (Zc (Z6 Zk) (Zc (Z6 Zk) (Zc (Z6 Zk) (Zc (Z6 Zk) (Zc (Z6 Zk) (xa1 (Z6 Zk)))))))))))))))) (xsq (xst 1 Zck.nd (Zgd (Zc4 Zpj (Z47 (Ze0 rfl) Zjh (xv 1) (xls (Zc (Z6 Zk) (Zc (Z6 Zk) (Zc (Z6 Zk) (Zc (Z6 Zk) (Zc (Z6 Zk) (Zc (Z6 Zk) (Zc (Z6 Zk) (xa1 (Z6 Zk)))))))))))))) (xsq (xst 1 Zck.nd (Zgd (Zc4 Zpj (Z47 (Ze0 rfl) Zjh (xv 1) (xls (Zc (Z6 Zk) (Zc (Zv Wb (W0 Zu Yl (Z6 Zk) (Zv Z24 (W0 Zvk Zx0 (Z6 Zk) xci)))) (Zc (Zv Wb (W0 Zu Yl (Z6 Zk) (Zv Z24 (W0 Zvk Zx0 (Z6 Zk) xci)))) (Zc (Z6 Zk) (xa1 (Z6 Zk))))))))))) (Zf (xrt (xix (xv 1) (Zde (xv 0) (xln T.z_len (xa1 (xv 1)))))))))))
def Zfj:Z1 ["word","sign"] ["word"] (Zm Zdf):=fsc
def Zfk(T:Txt K mg f fd cls):FnOk P w K mg base CX0 1 (f 26) (fd 26) ["word"] (spD K (sD Yh)):=by
 refine Yx T.e_law_number.F Zfj (S:=Zao) rfl rfl (λcdv A outer s H E hr=>?_);have hu:=hr.units;exact(xsq (xif (MW.mt (Zfh (Zf3 (xeq hu (xv 0) (Z6 Zk)) (Zfh (Zf3 (xgt (Jh Zq8 (Zhi Zln Zb7 (!2) T.z_len L2.B.boot_len (xa1 (xv 0)))) xci) (Zfr (MW.mt (Zmq (Zn8 (xgt (Jh Zq8 (Zhi Zln Zb7 (!2) T.z_len L2.B.boot_len (xa1 (xv 0)))) xci) (Ziw (xeq hu (Zgd (Zc4 Z5e (Ygc (Zll rfl) Zvf (xv 0) xci (hs:=λ_ _=>rfl)))) (Z6 Zk)))))))))))) (Zf (xrt (Zoc (Zuj xci)))) xnl) (xsq (xfr Bh rfl (Z2b (Z2q (xv 0))) (xg 1 Zfj.nd) (Zf (xif (Zbw Yd6 (Zbi Znx Z2s (xv 1) (Z6 Zk) (hm:=(by with_unfolding_all rfl)))) (Zf (xrt (Zoc (Zuj xci)))) xnl))) (Zf (xrt (Jh Z31 (Zj8 Zuq Zm8 (!2) T.z_int L2.B.boot_int (xa1 (xv 0))))))))
def Zfo:Z1 ["one","other"] ["one","other"] (Zm Zdy):=fsc
def Zfv(T:Txt K mg f fd cls):FnOk P w K mg base CX0 1 (f 27) (fd 27) ["one","other"] (spD K (sD Wg)):=by
 refine Yx T.e_law_common.F Zfo (S:=Zco) rfl rfl (λcdv A outer s H E hr=>?_);have hu:=hr.units;exact(xsq (Zrh (Zqt Bh (xne hu (xv 1) xci) (Zf (Z9l (Yak rfl Zfo.nd rfl rfl (!1) rfl rfl (Zc (xv 1) (xa1 (Zde (xv 0) (xv 1))))))))) (Zf (xrt (Jh Z79 (Zhi Zv5 Zk5 (!2) T.z_abs L2.B.boot_abs (xa1 (xv 0)))))))
def Zac:Z1 ["word","parts","top","bottom"] ["word"] (Zm Zdh):=fsc
def Zlo(T:Txt K mg f fd cls):FnOk P w K mg base CX0 2 (f 28) (fd 28) ["word"] (spD K (sD Jc)):=by
 have G_law_common:=Zfv (P:=P) (w:=w) (base:=base) T;have G_law_number:=Zfk (P:=P) (w:=w) (base:=base) T;refine Yx T.e_law_q_read.F Zac (S:=Zcd) rfl rfl (λcdv A outer s H E hr=>?_);have hu:=hr.units;exact(xsq (xst 1 Zac.nd (Zg5 (Znz Zb2 Bg Vu Zb5 (xv 0) (xa1 (Z6 Zk))))) (xsq (xst 2 Zac.nd (xce G_law_number hr T.e_law_number (xa1 (xix (xv 1) xci)))) (xsq (xst 3 Zac.nd xci) (xsq (xif (xeq hu (xln T.z_len (xa1 (xv 1))) xci) (xsq (xst 3 Zac.nd (xce G_law_number hr T.e_law_number (xa1 (xix (xv 1) xci)))) (Zf (xif (xlt (xv 3) xci) (Zf (xrt (Z6 J6))) xnl))) xnl) (xsq (xif (MW.mt (Zfh (Zf3 (xgt (xln T.z_len (xa1 (xv 1))) xci) (Zfh (Zf3 (xlt (xv 2) xci) (Zfr (xne hu (xce G_law_common hr T.e_law_common (Zc (xv 2) (xa1 (xv 3)))) xci))))))) (Zf (xrt (Z6 J6))) xnl) (Zf (xrt (xtp (Zc (xv 2) (xa1 (xv 3)))))))))))
def Zam:Z1 ["n","text","found","part","sides","cut","weight"] ["n","text"] (Zm Zf6):=fsc
def Zpg(T:Txt K mg f fd cls):FnOk P w K mg base CX0 3 (f 29) (fd 29) ["n","text"] (spD K (sD Zbu)):=by
 have G_law_number:=Zfk (P:=P) (w:=w) (base:=base) T;have G_law_q_read:=Zlo (P:=P) (w:=w) (base:=base) T;refine Yx T.e_law_read.F Zam (S:=Zbs) rfl rfl (λcdv A outer s H E hr=>?_);have hu:=hr.units;exact(xsq (xif (xgt (xv 0) xci) (Zf (xrt (Z6 J6))) xnl) (xsq (xif (xeq hu (xv 1) (Z6 Zk)) (Zf (xrt (xls xa0))) xnl) (xsq (xso 2 Zam.nd (xls xa0)) (xsq (xfr Bh rfl (xil (Zg5 (Znz Zb2 Bg Vu Zb5 (xv 1) (xa1 (Z6 Zk))))) (xg 3 Zam.nd) (xsq (xst 4 Zam.nd (Zg5 (Znz Zb2 Bg Vu Zb5 (xv 3) (xa1 (Z6 Zk))))) (xsq (xif (xne hu (xln T.z_len (xa1 (xv 4))) xci) (Zf (xrt (Z6 J6))) xnl) (xsq (Zud (Zcf (i:=5) (own:=["word"]) (caps:=[]) (N':=["word"]) YF Zam.nd rfl (QT rfl) (by exact⟨rfl,by decide +kernel,rfl,by decide +kernel,rfl,rfl⟩) (!2) (!1) (xil (Zg5 (Znz Zb2 Bg Vu Zb5 (xix (xv 4) xci) (xa1 (Z6 Zk))))) (λ_ _ _ _ _=>(xg 0 (by show Vh (["word"]:List Str);decide +kernel))) (λ_ _ _ _ _=>(Zbx Zbq)) (λ_ _ _ _ _=>(xce G_law_number hr T.e_law_number (xa1 (xv 0)))))) (xsq (xst 6 Zam.nd (xce G_law_q_read hr T.e_law_q_read (xa1 (xix (xv 4) xci)))) (xsq (xif (MW.mt (Zfh (Zf3 (Zbw Z8x (Zbi Zkh Zkg (xv 6) (Z6 J6) (hm:=(Wh _)))) (Zfh (Zf3 (xlt (xix (xv 6) xci) xci) (Zfh (Zf3 (xlt (Jh Yff (Zhi Z7f (Zu2 rfl (!2)) (!2) T.z_min L2.B.boot_min (xa1 (xv 5)))) xci) (Zfh (Zf3 (xge (Jh Z9e (Zhi Z8f (Zul rfl (!2)) (!2) T.z_max L2.B.boot_max (xa1 (xv 5)))) (xv 0)) (Zfr (xne hu (xv 5) (Zou (Zsc (!2) (!2) T.z_sorted L2.B.boot_sorted (!2) T.z_set L2.B.boot_set (xa1 (xv 5))))))))))))))) (Zf (xrt (Z6 J6))) xnl) (xsq (xif (MW.mt (Zmq (Zn8 (xne hu (xo 2) (xls xa0)) (Ziw (Zbw Yiv (Zbi (Yb2 hu) Ye5 (xix (xix (xo 2) (Zoc (Zuj xci))) xci) (xv 5) (hm:=(Wh _)))))))) (Zf (xrt (Z6 J6))) xnl) (Zf (Zij (Zig 2 (xtp (Zc (xv 5) (xa1 (xv 6)))))))))))))) (Zf (Zp4 (Zpt 2)))))))
def Zdu:Z1 ["top","bottom","by"] ["top","bottom"] (Zm Zb9):=fsc
def Zjj(T:Txt K mg f fd cls):FnOk P w K mg base CX0 2 (f 30) (fd 30) ["top","bottom"] (spD K (sD Wn)):=by
 have G_law_common:=Zfv (P:=P) (w:=w) (base:=base) T;refine Yx T.e_law_fraction.F Zdu (S:=Zbl) rfl rfl (λcdv A outer s H E hr=>?_);exact(xsq (xst 2 Zdu.nd (xce G_law_common hr T.e_law_common (Zc (xv 0) (xa1 (xv 1))))) (Zf (xrt (xtp (Zc (Zox (xv 0) (xv 2)) (xa1 (Zox (xv 1) (xv 2))))))))
def Zeq:Z1 ["number","way"] ["number"] (Zm Zgp):=fsc
def Zpx(T:Txt K mg f fd cls):FnOk P w K mg base CX0 3 (f 31) (fd 31) ["number"] (spD K (sD J7)):=by
 have G_law_fraction:=Zjj (P:=P) (w:=w) (base:=base) T;refine Yx T.e_law_wide.F Zeq (S:=Zdx) rfl rfl (λcdv A outer s H E hr=>?_);have hu:=hr.units;exact(xsq (xst 1 Zeq.nd (Zde (xv 0) xci)) (xsq (xst 0 Zeq.nd (Zox (xv 0) xci)) (xsq (xif (xeq hu (xv 1) xci) (Zf (xrt (xtp (Zc xci (xa1 xci))))) xnl) (xsq (xif (xlt (xv 1) xci) (Zf (xrt (xtp (Zc (Zde (xv 0) xci) (xa1 xci))))) xnl) (xsq (xif (xlt (xv 1) xci) (Zf (xrt (xce G_law_fraction hr T.e_law_fraction (Zc (Zde (xv 0) xci) (xa1 (Zpb xci (Zde (Zox (xv 0) xci) xci))))))) xnl) (xsq (xif (xeq hu (xv 1) xci) (Zf (xrt (xtp (Zc (Zde (Z0e (xv 0) xci) (Z0e xci xci)) (xa1 xci))))) xnl) (Zf (xrt (xce G_law_fraction hr T.e_law_fraction (Zc (Zde (Z0e (xv 0) xci) (Z0e xci xci)) (xa1 (Zpb xci (Zde (Zox (Z0e (xv 0) xci) xci) (Ym8 (Z0e xci xci) xci))))))))))))))
def Wz:Z1 ["n","cells","kept","cell","cut","weight"] ["n","cells"] (Zm Zbp):=fsc
def Zhd(T:Txt K mg f fd cls):FnOk P w K mg base CX0 4 (f 32) (fd 32) ["n","cells"] (spD K (sD Jo)):=by
 have G_law_wide:=Zpx (P:=P) (w:=w) (base:=base) T;refine Yx T.e_law_some_cuts.F Wz (S:=Jk) rfl rfl (λcdv A outer s H E hr=>?_);have hu:=hr.units;exact(xsq (Zpc (Zoz (i:=2) Wz.nd rfl (QM rfl) (Zv8 Z8q))) (xsq (xfr Bh rfl (xil (xv 1)) (xg 3 Wz.nd) (xsq (Zud (Zcf (i:=4) (own:=["k"]) (caps:=[3]) (N':=["k","cell"]) YF Wz.nd rfl (QT rfl) (by exact⟨rfl,by decide +kernel,rfl,by decide +kernel,rfl,rfl⟩) (!2) (!1) (Ye2 (Zmk (!2) T.z_range (xa1 (Ym8 (xv 0) xci)))) (λ_ _ _ _ _=>(xg 0 (by show Vh (["k","cell"]:List Str);decide +kernel))) (λ_ _ _ _ _=>(Z54 (xeq hu (Zde (Zox (xv 1) (xix (xls (Zc xci (Zc xci (Zc xci (Zc xci (Zc xci (Zc xci (Zc xci (Zc xci (xa1 xci)))))))))) (xv 0))) xci) xci))) (λ_ _ _ _ _=>(Zpb (xv 0) xci)))) (xsq (xst 5 Wz.nd (xce G_law_wide hr T.e_law_wide (xa1 (Zde (Zox (xv 3) xci) (Z0e xci xci))))) (Zf (xif (MW.mt (Zmq (Zn8 (xne hu (xv 4) (xls xa0)) (Ziw (xgt (xix (xv 5) xci) xci))))) (Zf (Z5m (Z66 2 hu (xv 5) (Zt2 Z2p (Ygo Zyx (Zi1 rfl) (!2) T.z_tuple L2.B.boot_tuple (xa1 (xv 4))))))) xnl))))) (Zf (Zu5 (Zt3 2 (xrt (Zfa (Zp9 ["cut"] [2] ["cut","kept"] (xil (Zt2 Z6p (Yov Z0t (Zsj Yaf rfl hu) (!2) T.z_sorted L2.B.boot_sorted (xa1 (Zt2 Z50 (Ygo Z07 (Zte rfl) (!2) T.z_list L2.B.boot_list (xa1 (xv 2)))))))) (λ_ _ _ _ _=>(xg 0 (by show Vh (["cut","kept"]:List Str);decide +kernel))) (λ_ _ _ _ _=>(Zbx Zbq)) (λ_ _ _ _ _=>(Zps (Zx2 (Zc (Zt2 Yet (Ygo Z58 (Ztg rfl) (!2) T.z_list L2.B.boot_list (xa1 (xv 0)))) (xa1 (Zgd (Zc4 Yjw (Yif hu (xv 1) (xv 0) (hs:=λ_ _=>rfl)))))))))))))))))
def Zbk:Z1 ["script","n","weighted","numbers","thing","way","many","due","found","classes"] ["script"] (Zm Z6g):=fsc
def Z9g(T:Txt K mg f fd cls):FnOk P w K mg base CX0 9 (f 33) (fd 33) ["script"] (spD K (sD Zgm)):=by
 have G_law_alike:=Znj (P:=P) (w:=w) (base:=base) T;have G_law_asked:=Zmr (P:=P) (w:=w) (base:=base) T;have G_law_cell_at:=Zjz (P:=P) (w:=w) (base:=base) T;have G_law_changed:=Zjt (P:=P) (w:=w) (base:=base) T;have G_law_cuts_written:=Ze3 (P:=P) (w:=w) (base:=base) T;have G_law_digits:=Zli (P:=P) (w:=w) (base:=base) T;have G_law_odd:=Zsv (P:=P) (w:=w) (base:=base) T;have G_law_read:=Zpg (P:=P) (w:=w) (base:=base) T;have G_law_some_cuts:=Zhd (P:=P) (w:=w) (base:=base) T;refine Yx T.e_law.F Zbk (S:=Zkk) rfl rfl (λcdv A outer s H E hr=>?_);have hu:=hr.units;exact(xsq (xst 1 Zbk.nd (Zpb xci (Zde (xce G_law_cell_at hr T.e_law_cell_at (Zc (xv 0) (xa1 xci))) xci))) (xsq (xst 2 Zbk.nd (xce G_law_some_cuts hr T.e_law_some_cuts (Zc (xv 1) (xa1 (Zn9 (Zn0 (xv 0) (Ji (Jl xci)) (Ji (Jl xci)))))))) (xsq (xst 3 Zbk.nd (xce G_law_digits hr T.e_law_digits (Zc (xce G_law_cell_at hr T.e_law_cell_at (Zc (xv 0) (xa1 xci))) (Zc xci (xa1 (Z0e xci xci)))))) (xsq (xst 4 Zbk.nd (xce G_law_cuts_written hr T.e_law_cuts_written (xa1 (xv 2)))) (xsq (xst 5 Zbk.nd (Zde (xix (xv 3) xci) xci)) (xsq (xif (xlt (xv 5) xci) (Zf (xst 4 Zbk.nd (xce G_law_changed hr T.e_law_changed (Zc (xv 4) (Zc (xv 2) (xa1 (xv 3))))))) xnl) (xsq (xif (xeq hu (xv 5) xci) (Zf (xst 4 Zbk.nd (xce G_law_odd hr T.e_law_odd (xa1 (xix (xv 3) xci))))) xnl) (xsq (xst 6 Zbk.nd (xix (xls (Zc (xv 1) (Zc (xv 1) (Zc (xv 1) (xa1 (Zpb xci (Zde (Zox (xix (xv 3) xci) xci) xci))))))) (Zde (xix (xv 3) xci) xci))) (xsq (xif (xeq hu (Zde (Zox (xix (xv 3) xci) xci) xci) xci) (Zf (xst 6 Zbk.nd (Zpb xci (Zde (Zox (xix (xv 3) xci) xci) xci)))) xnl) (xsq (xst 7 Zbk.nd (xce G_law_read hr T.e_law_read (Zc (xv 6) (xa1 (xv 4))))) (xsq (xif (MW.mt (Zmq (Zn8 (xeq hu (xv 5) xci) (Ziw (xeq hu (Zde (xix (xv 3) xci) xci) xci))))) (xsq (xst 4 Zbk.nd (xix (xls (Zc (Z6 J6) (Zc xci (Zc (xls (xa1 (Zps (Zx2 (Zc (xls (xa1 xci)) (xa1 (xtp (Zc xci (xa1 xci))))))))) (Zc (xls (xa1 (Z6 Zk))) (Zc (Z6 Zct) (Zc (xtp (xa1 (Z6 Zk))) (Zc (Zv8 Z6b) (xa1 xci))))))))) (Zde (Zox (xix (xv 3) xci) xci) xci))) (Zf (xst 7 Zbk.nd (Z6 J6)))) xnl) (xsq (Yev (Ybc (xce G_law_asked hr T.e_law_asked (Zc (xv 6) (xa1 (xv 4)))) (xg2 rfl (xg 8 Zbk.nd) (xg 9 Zbk.nd)))) (xsq (xif (Zbw Z8x (Zbi Zkh Zkg (xv 7) (Z6 J6) (hm:=(Wh _)))) (Zf (xrt (Zaw (Zho (Zv Z8x (Zf1 Zkh Zkg (xv 8) (Z6 J6) (hm:=(Wh _)))) (Zja (Zv Z6s (Zf1 (Ziv hu) Zp7 (xv 9) (xtp (Zc (Z6 Zct) (Zc (Z6 Zct) (xa1 (Z6 Zct))))) (hm:=(Wh _))))))))) xnl) (Zf (xrt (Zaw (Zho (Zv Z8x (Zf1 Zkh Zkg (xv 9) (Z6 J6) (hm:=(Wh _)))) (Zja (xce G_law_alike hr T.e_law_alike (Zc (xv 8) (xa1 (xv 7))))))))))))))))))))))
def Z7b(T:Txt K mg f fd cls):FnOk P w K mg base CX0 9 (f 33) (fd 33) ["script"] (spD K Yea):=(Z9g T).imp λvs H Q E q=>by
 obtain⟨L,ds,k,h1,⟨ns,e,hl,hk⟩,h3⟩:=q;exact⟨L,ds,k,h1,⟨_,by rw[e];exact Z0w ns hl,hk⟩,h3⟩
end
def Yal{l:PySem.W.OpenLaw}{fa:YG}(X:K.In h)(G:h.Ns XN mg)(hfa:mg "law"=YB (.ref fa))
  (q1:Ei K "_law_whole" Zez f1 d1)
  (q2:Ei K "_law_alike" Zep f2 d2)
  (q3:Ei K "check_text" Zdn f3 d3)
  (q4:Ei K "is_point_count" Za2 f4 d4)
  (q5:Ei K "is_rising" Zer f5 d5)
  (q6:Ei K "is_whole" Zgo f6 d6)
  (q7:Ei K "is_cut" Zld f7 d7)
  (q8:Ei K "greatest_divisor" Zab f8 d8)
  (q9:Ei K "is_fraction" Zc1 f9 d9)
  (q10:Ei K "is_weighted_cut" Zan f10 d10)
  (q11:Ei K "is_weighted" Zcv f11 d11)
  (q12:Ei K "is_number" Zes f12 d12)
  (q13:Ei K "read_number" Zcr f13 d13)
  (q14:Ei K "show_fraction" Zbt f14 d14)
  (q15:Ei K "read_fraction" Zbr f15 d15)
  (q16:Ei K "read_weighted" Zbn f16 d16)
  (q17:Ei K "read_all_weighted" Jw f17 d17)
  (q18:Ei K "read_cuts" Zew f18 d18)
  (q19:Ei K "_law_asked" Ze5 f19 d19)
  (q20:Ei K "_law_cell_at" Zcz f20 d20)
  (q21:Ei K "_law_q" Zp2 f21 d21)
  (q22:Ei K "_law_part_changed" J8 f22 d22)
  (q23:Ei K "_law_changed" Zcw f23 d23)
  (q24:Ei K "_law_cuts_written" Zag f24 d24)
  (q25:Ei K "_law_digits" Zds f25 d25)
  (q26:Ei K "_law_odd" Zil f26 d26)
  (q27:Ei K "_law_number" Zdf f27 d27)
  (q28:Ei K "_law_common" Zdy f28 d28)
  (q29:Ei K "_law_q_read" Zdh f29 d29)
  (q30:Ei K "_law_read" Zf6 f30 d30)
  (q31:Ei K "_law_fraction" Zb9 f31 d31)
  (q32:Ei K "_law_wide" Zgp f32 d32)
  (q33:Ei K "_law_some_cuts" Zbp f33 d33)
  (q34:Ei K "law" Z6g f34 d34)
  (z0:Qh K XN "ValueError"=YB YC)
  (z1:Qh K XN "abs"=YB YC)
  (z2:Qh K XN "bool"=YB YC)
  (z3:Qh K XN "int"=YB YC)
  (z4:Qh K XN "isinstance"=YB YC)
  (z5:Qh K XN "len"=YB YC)
  (z6:Qh K XN "list"=YB YC)
  (z7:Qh K XN "max"=YB YC)
  (z8:Qh K XN "min"=YB YC)
  (z9:Qh K XN "range"=YB YC)
  (z10:Qh K XN "set"=YB YC)
  (z11:Qh K XN "sorted"=YB YC)
  (z12:Qh K XN "str"=YB YC)
  (z13:Qh K XN "tuple"=YB YC)
  (z14:Qh K XN "zip"=YB YC)
  (gc_FIGURES:Qh K XN "FIGURES"=YB (YB (.str "0123456789" t_FIGURES)))
  (gc_MOST_FIGURES:Qh K XN "MOST_FIGURES"=YB (YB (.int 40 t_MOST_FIGURES)))
  (gc_MOST_POINTS:Qh K XN "MOST_POINTS"=YB (YB (.int 10 t_MOST_POINTS)))
  (gc_NO_CUTS:Qh K XN "NO_CUTS"=YB (YB (.str "none" t_NO_CUTS)))
  (cc_CutError:Qh K XN "CutError"=YB (YB (.ref C_CutError)))
  (cc_NoCut:Qh K XN "NoCut"=YB (YB (.ref C_NoCut)))
  (cc_NoName:Qh K XN "NoName"=YB (YB (.ref C_NoName)))
  (cc_NoNumber:Qh K XN "NoNumber"=YB (YB (.ref C_NoNumber)))
  (cc_NoOrder:Qh K XN "NoOrder"=YB (YB (.ref C_NoOrder)))
  (cc_NoPoint:Qh K XN "NoPoint"=YB (YB (.ref C_NoPoint)))
  (cc_NoRow:Qh K XN "NoRow"=YB (YB (.ref C_NoRow)))
  (cc_NoTable:Qh K XN "NoTable"=YB (YB (.ref C_NoTable)))
  (cc_NoText:Qh K XN "NoText"=YB (YB (.ref C_NoText)))
  (cc_NoWeb:Qh K XN "NoWeb"=YB (YB (.ref C_NoWeb)))
  (cc_TooMany:Qh K XN "TooMany"=YB (YB (.ref C_TooMany)))
  (x_NoText:Zdr K C_NoText)
  (r_NoText:Ztr K C_NoText)
  (u_NoText_NoText:VN K (.ref C_NoText) (.ref C_NoText)=YB YD)
  (kt_NoText_CutError:QB K (.ref C_NoText) (.ref C_CutError)=YB YD)
  (kt_NoText_ValueError:QB K (.ref C_NoText) (.type "ValueError")=YB YD)
  (ka_NoText_0:UW K (.ref C_NoText) [.ref C_NoCut,.ref C_NoName,.ref C_NoNumber,.ref C_NoOrder,.ref C_NoPoint,.ref C_NoRow,.ref C_NoTable,.ref C_NoWeb,.ref C_TooMany]=YB YF)
  :∃fd:X5,(∀(s:Xg) (v:Xd),BindsTo s fd ⟨[v],[]⟩ [("script",v)])/\∀base:YH,K.In base->base.Ns XN mg->FnOk l.prog w K mg base CX0 9 fa fd ["script"] (spD K Yea):=by
 have e:=hfa.symm.trans (Um X G q34.a);cases e;have T:Txt K mg (λk=>[f1,f2,f3,f4,f5,f6,f7,f8,f9,f10,f11,f12,f13,f14,f15,f16,f17,f18,f19,f20,f21,f22,f23,f24,f25,f26,f27,f28,f29,f30,f31,f32,f33,f34].getD k 0) (λk=>[d1,d2,d3,d4,d5,d6,d7,d8,d9,d10,d11,d12,d13,d14,d15,d16,d17,d18,d19,d20,d21,d22,d23,d24,d25,d26,d27,d28,d29,d30,d31,d32,d33,d34].getD k d34) (λk=>[C_CutError,C_NoCut,C_NoName,C_NoNumber,C_NoOrder,C_NoPoint,C_NoRow,C_NoTable,C_NoText,C_NoWeb,C_TooMany].getD k 0):=⟨en1 X G q1,en2 X G q2,en1 X G q3,en1 X G q4,en1 X G q5,en1 X G q6,en2 X G q7,en2 X G q8,en1 X G q9,en2 X G q10,en2 X G q11,en1 X G q12,en1 X G q13,en1 X G q14,en1 X G q15,en1 X G q16,en1 X G q17,en2 X G q18,en2 X G q19,en2 X G q20,en1 X G q21,en4 X G q22,en3 X G q23,en1 X G q24,en3 X G q25,en1 X G q26,en1 X G q27,en2 X G q28,en1 X G q29,en2 X G q30,en2 X G q31,en1 X G q32,en2 X G q33,en1 X G q34,⟨_,Um X G gc_FIGURES⟩,⟨_,Um X G gc_MOST_FIGURES⟩,⟨_,Um X G gc_MOST_POINTS⟩,⟨_,Um X G gc_NO_CUTS⟩,Qu X G z0,Qu X G z1,Qu X G z2,Qu X G z3,Qu X G z4,Qu X G z5,Qu X G z6,Qu X G z7,Qu X G z8,Qu X G z9,Qu X G z10,Qu X G z11,Qu X G z12,Qu X G z13,Qu X G z14,ec X G cc_CutError,ec X G cc_NoCut,ec X G cc_NoName,ec X G cc_NoNumber,ec X G cc_NoOrder,ec X G cc_NoPoint,ec X G cc_NoRow,ec X G cc_NoTable,ec X G cc_NoText,ec X G cc_NoWeb,ec X G cc_TooMany,x_NoText,r_NoText,u_NoText_NoText,kt_NoText_CutError,kt_NoText_ValueError,ka_NoText_0⟩;refine⟨d34,λs v=>?_,λbase _ _=>Z7b (P:=l.prog) (w:=w) (base:=base) T⟩;obtain⟨_,_,_,_,_,_,_,_,_,rfl,_,_⟩:=q34.F.ex;exact .of_eq rfl
def walk{l:PySem.W.OpenLaw}{q:XH}{d:DefRec}{K:Params->Xc}(hn:l.most=YB 63)(hdf:d.params.defaults=[])
  (hY:∀(w:Ql) (h:YH),YP w h->(K w.params).In h)
  (F:∀(w:Ql) (mg:Str->Option Xd) (fa:YG) (h:YH),(K w.params).In h->h.Ns XN mg->mg d.name=YB (.ref fa) ->
   ∃fd:X5,(∀(s:Xg) (u:Xd),BindsTo s fd ⟨[u],[]⟩ [("script",u)])/\∀base:YH,(K w.params).In base->base.Ns XN mg->FnOk l.prog w (K w.params) mg base CX0 9 fa fd ["script"] (spD (K w.params) Yea)) :
  PySem.W.WalkO q loose XP YP l.row.toRowW d [] (λf vs=>PySem.call f vs) :=
 L2.Z6z (n:=63) (k:=9) (x :="script") (CX:=λ_=>CX0) (sp:=λw=>spD (K w.params) Yea) hn (!1) hdf ⟨rfl,by decide,by decide⟩ hY F (λ_ _ a ns hl _ hS=>Yfw hl hS) λ_ _ _ _ _ z=>z
end My
open PySem PySem.W PyProof.Rows
theorem PySem.W.Fast.tw10284658190161315938:True:=trivial
theorem PySem.W.Fast.tw214949534425727384:True:=trivial
theorem PySem.W.Fast.tw277671849531007739:True:=trivial
theorem PySem.W.Fast.tw7064084130123726892:True:=trivial
theorem PySem.W.Fast.tw1444937599370674237:True:=trivial
theorem PySem.W.Fast.tw3861748668813747247:True:=trivial
theorem PySem.W.Fast.tw12968413056259531044:True:=trivial
theorem PySem.W.Fast.tw7026900649554093241:True:=trivial
theorem PySem.W.Fast.tw8222102522477865351:True:=trivial
theorem PySem.W.Fast.tw16078531583968050290:True:=trivial
theorem PySem.W.Fast.tw7682949315916031594:True:=trivial
theorem PySem.W.Fast.tw11775927971387591395:True:=trivial
theorem PySem.W.Fast.tw7682681781878402114:True:=trivial
theorem PySem.W.Fast.tw17956815572763111371:True:=trivial
theorem PySem.W.Fast.tw6722260942052101046:True:=trivial
theorem PySem.W.Fast.tw2028869311441652010:True:=trivial
theorem PySem.W.Fast.tw5341145612017628263:True:=trivial
theorem PySem.W.Fast.tw12890661687452079462:True:=trivial
theorem PySem.W.Fast.tw15424942846815752165:True:=trivial
theorem PySem.W.Fast.tw2113146711561930452:True:=trivial
set_option maxRecDepth 100000 in
set_option maxHeartbeats 0 in
theorem PySem.Challenge.cw_farcuts_k81_texts_of_no_cuts_holds : PySem.Challenge.rw_farcuts_k81_texts_of_no_cuts.Holds := by
 w_on;o_law;k_head;(case hw=>w_witness2)
 k_fill
 refine My.walk (l:=PySem.Challenge.rw_farcuts_k81_texts_of_no_cuts) rfl rfl (λw h Y_a=>PySem.W.kIn_of Y_a) ?F
 case F=>
  intro w mg fa h KX G hmg;refine' My.Yal KX G hmg ?_ ?_ ?_ ?_ ?_ ?_ ?_ ?_ ?_ ?_ ?_ ?_ ?_ ?_ ?_ ?_ ?_ ?_ ?_ ?_ ?_ ?_ ?_ ?_ ?_ ?_ ?_ ?_ ?_ ?_ ?_ ?_ ?_ ?_ ?_ ?_ ?_ ?_ ?_ ?_ ?_ ?_ ?_ ?_ ?_ ?_ ?_ ?_ ?_ ?_ ?_ ?_ ?_ ?_ ?_ ?_ ?_ ?_ ?_ ?_ ?_ ?_ ?_ ?_ ?_ ?_ ?_ ?_ ?_ ?_
  all_goals try (first|(refine' ⟨?a,L2.Yaq ?l ?c ?k⟩;(case a=>k_is);(case l=>k_is);(case c=>k_is);(case k=>k_is))|k_is|kit_is|(show PySem.W.excIn _ _ _ _=YD;k_exc)|(refine' ⟨?_,?_,?_,?_,?_,?_,?_,?_,?_,?_,?_⟩<;>first|k_is|kit_is|(show PySem.W.isClsIn _ _=YD;k_is)))
#print axioms PySem.Challenge.cw_farcuts_k81_texts_of_no_cuts_holds
