import PyProof.Rows.All
import Wide.All
import OpenK.AllK
import Wide.FinOn
import PyProof.EqAt
import PyProof.EqKinds
import PyProof.TupleCall
import PyProof.P3In
import PyProof.ZipIter
import PyProof.ListRange
import PyProof.SetRoads
import PyProof.Rows.SetFrom
import PyProof.Rows.SeqMore2
import KE.RegKIsAll
import PySem.Challenge.RW_farcuts_k55_cuts_of_lines
set_option Elab.async false
set_option linter.all false
set_option maxRecDepth 100000
set_option genSizeOfSpec false
set_option genInjectivity false
open Array renaming length_toList->X5,getElem?_toList->Qv,getElem?_eq_some_iff->VG,getElem?_eq_getElem->VN
open Bool renaming false_ne_true->XC,and_eq_true->XM,false_eq_true->Qg,not_true->V3,and_true->V4,eq_false_iff->Ud
open False renaming elim->Vc
open ForInStep renaming yield->Bg
open Int renaming toNat_natCast->XX,zero_add->Q8,le_trans->JQ,gcd->Bm,natAbs_of_nonneg->Vl,gcd_eq_natAbs_gcd_natAbs->Vu,natAbs_ediv_le_natAbs->V1,mul_nonpos_of_nonneg_of_nonpos->V8
open List renaming length_map->Xg,mem_cons->Xi,getD_eq_getElem?_getD->Xj,length_range->Xk,getElem?_eq_getElem->Xm,getElem?_eq_some_iff->Xn,getElem?_map->Xp,range->Xu,mem_singleton->Xv,map_congr_left->XH,mem_append_right->XJ,size_toArray->Qa,getElem?_set_ne->Qc,mem_range->Qd,mem_map->Qe,nodup_cons->Qh,getElem?_set_self->Qo,map_cons->Qq,mem_append->Qt,map_map->Qu,getElem?_range->Qy,getElem?_eq_none->QB,mem_of_getElem?->QF,length_append->QL,append_nil->QW,lookup_cons->QX,length_cons->QZ,getElem?_append_right->Q0,eq_nil_of_length_eq_zero->Q5,getElem?_eq_none_iff->Q6,Nodup->JC,mem_append_left->JL,nodup_append->JS,map_append->JZ,length_set->Bo,not_mem_nil->Bs,replicate->By,length_drop->BZ,all_eq_true->Va,getElem?_append_left->Vg,drop_eq_getElem_cons->Vh,length_nil->Vi,filter_cons->Vq,length_singleton->Vw,append_assoc->Vz,getElem?_of_mem->VH,toArray->VL,getElem_map->VM,pairwise_iff_getElem->VR,filterMap_cons->V0,pairwise_cons->V5,ext_getElem?->Ub,drop_eq_nil_of_le->Uc,length_replicate->Ui,getElem?_toArray->Uj,length_take->Um,isEmpty_nil->Uo,getElem_mem->Uq,mem_cons_of_mem->Uv,range_succ->Uw,take_succ->U4,perm_ext_iff_of_nodup->U5,mem_cons_self->U6,forIn_nil->U7
open List.Sublist renaming append_left->Ux
open Nat renaming ne_of_lt->Xq,ne_of_gt->XD,le_refl->XQ,lt_of_lt_of_le->X8,zero_le->QG,lt_succ_self->QH,lt_or_ge->QT,le_trans->Q7,lt_succ_of_lt->Bl,lt_irrefl->BX,le_add_right->Vb,not_lt_zero->Vj,zero_add->Vk,lt_trans->Vr,le_of_lt->Vs,lt_trichotomy->VB,le_of_ble_eq_true->Ul
open Ne renaming symm->JW
open Option renaming bind_some->Xh,some->Qn
open Option.some renaming inj->QK
open Or renaming inr->Qm,inl->Qx
open PyProof.Rows renaming callWith_type1->JV,IntsAre->Bw,seqObj->BR,ClsAt->Uy,envOfC->Uz
open PySem renaming PyData->Xa,wpAny_bind->Xb,Value->Xd,Shared->Xe,wpAny_pure->Xo,starEach->Xr,sizeLine->Xw,wpAny->Xy,FuncData->XF,mainGlobals->XN,model->XR,bootBuiltins->X4,Program->X6,sizeLine_eq->X7,Around->Qk,World->Qp,wpAny_mono->Qw,wpAny_setField_rec->QS,wpAny_loadPart'->Q3,SetTable->Q4,rawInt->JD,wpAny_call_entry->JF,backTo->JG,assignEach->JH,wpAny_newObj_type->JK,wpAny_callSpecial?_slot->JN,wpAny_field->JP,wpAny_passesOwn->JR,foldedSetIterable->JX,compareOp->Bb,mem_of_lookup->Bj,cellsFrom->Bp,wpAny_Call_Name_kw->BJ,wpAny_holding->BK,wpAny_seqItems->BL,NameKind->BP,codeAny_builtin->BV,IsPair->Vd,Builtin->Ve,pushCells->Vf,swapsWith->Vn,wpAny_truthy_bool->Vo,wpAny_loadPart_at->Vp,intKind->Vx,binaryOp->VD,wpAny_setEntries_of->V6,pyNext->V7,plainId_quiet->V9,wpAny_rule->Ue,scanBound->Ug,Apart->Uh,wpAny_setState_of->Ur,firstArgMember->Us,assign->Ut,Keyword->Uu,wpAny_attempt->UL,codeAny->UT,behindInMarks->UV,attributeBase->UW,sliceBounds->U0,Scope->U3,wpAny_execs_nil->U9
open PySem.Around renaming under_plainId->Bx
open PySem.Builtin.Int renaming intBits->Bc
open PySem.Builtin.SmallTypes renaming nextOf->QM,ownedTupleIsFree->Br,ownedTupleHandOut->U8
open PySem.F renaming called_set->V2,excBase_ValueError->UJ
open PySem.Heap renaming get?_push_of_some->Xf,get?_push_size->Xx,lt_size->Xz,size_push->QC,SameBut->Ba,get?_update_self->Uk
open PySem.Heap.SameBut renaming update->JM
open PySem.NameKind renaming free->QV,cell->Bq
open PySem.Obj renaming mapSeq->Bk
open PySem.PassesOwn renaming never->X3
open PySem.PyData renaming int->Xl,eqv->QJ,list->JB,canLayAll0->Bf,canLay0->Bv
open PySem.SeqAt renaming EqAt->Bh,shaped->VJ,canLay_of_shaped->Ua
open PySem.SetTable renaming below->QQ,grown->Vv
open PySem.Str renaming ofString->VP
open PySem.Value renaming ref->Qj,none->QD,int->Vt
open PySem.W renaming Frag->Xc,kitOne->Qi,nsIn->Ql,mg_none_of->Qz,kia_one->QR,Looks->Q9,hideAll->JT,subIn->Be,kitAny->Bu,keepIn->BW,findIn->Vm,hideAll_none->Vy,fnOf->VF,of_hideAll->UG
open Rat renaming divInt->Qs
noncomputable section
open PySem renaming Addr->YG,Heap->YH,Expr->YJ,Stmt->YK
open Bool renaming true->YD,false->YF
open Option renaming some->YB,none->YC
abbrev YL:=@if_pos
abbrev YM:=@if_neg
abbrev YQ:=@decide_eq_true
abbrev YS:=@decide_eq_false
abbrev YT:=@congrArg
abbrev YW:=@of_decide_eq_true
abbrev YX:=@absurd
abbrev YZ:=@beq_iff_eq
namespace L2
open PySem PySem.Spec PyProof.Rows
abbrev Key:=Sum Int Str
def Z7m:Key->Xd->Bool
 | .inl k,v=>Xd.isInt k v
 | .inr x,v=>Xd.isStrOf x v
def Yer(w:Qp):Key->Int
 | .inl k=>hashInt k
 | .inr x=>hashStr w x
theorem We:∀{k:Key} {v:Xd},Z7m k v=YD->(∃i t,k=Sum.inl i/\v=Vt i t)\/(∃x t,k=Sum.inr x/\v=Value.str x t)
 | .inl i,v,h=>by
  obtain⟨t,e⟩:=Value.isInt_shape (k:=i) (v:=v) h;exact .inl ⟨i,t,rfl,e⟩
 | .inr x,v,h=>by
  obtain⟨t,e⟩:=Xd.isStrOf_shape (x:=x) (v:=v) h;exact .inr ⟨x,t,rfl,e⟩
theorem Z6k(a b:Int):decide ((Sum.inl a:Key)=Sum.inl b)=(a==b):=by
 by_cases e:a=b
 .subst e;simp
 .have h:¬(Sum.inl a:Key)=Sum.inl b:=λq=>e (Sum.inl.inj q)
  rw[YS h];exact(beq_eq_false_iff_ne.mpr e).symm
theorem Z5n(a b:Str):decide ((Sum.inr a:Key)=Sum.inr b)=decide (a=b):=by
 by_cases e:a=b
 .subst e;simp
 .have h:¬(Sum.inr a:Key)=Sum.inr b:=λq=>e (Sum.inr.inj q)
  rw[YS h,YS e]
theorem Z5d(a:Int)(b:Str):decide ((Sum.inl a:Key)=Sum.inr b)=YF:=YS (λq=>nomatch q)
theorem Z47(a:Str)(b:Int):decide ((Sum.inr a:Key)=Sum.inl b)=YF:=YS (λq=>nomatch q)
def Zmz(prog:X6)(w:Qp):PySem.KeyKind prog w Key where
 is:=Z7m
 hash:=Yer w
 inj:=λv a b ha hb=>by
  rcases We ha with⟨i,t,rfl,rfl⟩|⟨x,t,rfl,rfl⟩
  .rcases We hb with⟨j,u,rfl,e⟩|⟨y,u,rfl,e⟩
   .injection e with e1 _;rw[e1]
   .exact nomatch e
  .rcases We hb with⟨j,u,rfl,e⟩|⟨y,u,rfl,e⟩
   .exact nomatch e
   .injection e with e1 _;rw[e1]
 byValue:=λk v h=>by
  rcases We h with⟨i,t,rfl,rfl⟩|⟨x,t,rfl,rfl⟩<;>rfl
 pyHash:=λhv h=>by
  rcases We hv with⟨i,t,rfl,rfl⟩|⟨x,t,rfl,rfl⟩
  .exact wpAny_pyHash_int h
  .exact wpAny_pyHash_str h
 eqBool:=λhu hv h=>by
  rcases We hu with⟨i,t,rfl,rfl⟩|⟨x,t,rfl,rfl⟩
  .rcases We hv with⟨j,u,rfl,rfl⟩|⟨y,u,rfl,rfl⟩
   .rw[Z6k]at h;exact wpAny_eqBool_int h
   .rw[Z5d]at h;exact SeqAt.EqAt.int_str i t y u _ _ _ _ h
  .rcases We hv with⟨j,u,rfl,rfl⟩|⟨y,u,rfl,rfl⟩
   .rw[Z47]at h;exact SeqAt.EqAt.str_int x t j u _ _ _ _ h
   .rw[Z5n]at h;exact wpAny_eqBool_str h
 «strs»:=λk x t v h=>by
  rcases We h with⟨i,u,rfl,e⟩|⟨y,u,rfl,e⟩
  .exact nomatch e
  .injection e with e1 _
   subst e1;cases v<;>rfl
inductive V where
 | non|bl (b:Bool)|int (i:Int)|str (x:Str)|byt (b:Array UInt8)|flt (b:UInt64)|ref (a:YG)|ty (n:String)
 deriving DecidableEq
def RelV:V->Xd->Prop
 | .non,u=>u=QD
 | .bl b,u=>u=Value.bool b
 | .int i,u=>∃t,u=Vt i t
 | .str x,u=>∃t,u=Value.str x t
 | .byt b,u=>∃t,u=Xd.bytes b t
 | .flt b,u=>∃t,u=Xd.float b t
 | .ref a,u=>u=Qj a
 | .ty n,u=>u=Value.type n
abbrev Vals:List V->List Xd->Prop:=Paired RelV
theorem Vals.length{xs:List V}{us:List Xd}(r:Vals xs us):xs.length=us.length:=Paired.length r
theorem Vals.get{xs:List V}{us:List Xd}{i:Nat}{x:V}(h:Vals xs us)(e:xs[i]? =YB x):∃u,us[i]? =YB u/\RelV x u:=by
 induction h generalizing i with
 | nil=>exact(Option.some_ne_none _ (e.symm.trans List.getElem?_nil)).elim
 | cons r t ih=>
  cases i with
  | zero=>exact⟨_,rfl,QK e▸r⟩
  | succ i=>exact ih e
theorem Vals.set{x:V}{u:Xd}(r:RelV x u){xs:List V}{us:List Xd}(i:Nat)(h:Vals xs us):Vals (xs.set i x) (us.set i u):=by
 induction h generalizing i with
 | nil=>exact .nil
 | cons q t ih=>
  cases i with
  | zero=>exact .cons r t
  | succ i=>exact .cons q (ih i)
theorem Vals.append{xs ys:List V}{us ws:List Xd}(h:Vals xs us)(s:Vals ys ws):Vals (xs++ys) (us++ws):=by
 induction h with
 | nil=>exact s
 | cons r t ih=>exact .cons r ih
theorem Vals.take{xs:List V}{us:List Xd}(n:Nat)(h:Vals xs us):Vals (xs.take n) (us.take n):=by
 induction h generalizing n with
 | nil=>rw[List.take_nil,List.take_nil];exact .nil
 | cons r t ih=>
  cases n with
  | zero=>exact .nil
  | succ n=>exact .cons r (ih n)
theorem Vals.drop{xs:List V}{us:List Xd}(n:Nat)(h:Vals xs us):Vals (xs.drop n) (us.drop n):=by
 induction h generalizing n with
 | nil=>rw[List.drop_nil,List.drop_nil];exact .nil
 | cons r t ih=>
  cases n with
  | zero=>exact .cons r t
  | succ n=>exact ih n
def RelO:Option V->Option Xd->Prop
 | some v,YB u=>RelV v u
 | none,YC=>True
 | _,_=>False
def KV{κ:Type}:List (κ×V)->List (κ×Xd)->Prop:=Paired λ(p:κ×V) (q:κ×Xd)=>p.1=q.1/\RelV p.2 q.2
def kV:Key->V
 | .inl i=>.int i
 | .inr x=>.str x
inductive HO where
  | lst (xs:List V)
  | tup (xs:List V)
  | dK (kvs:List (Key×V))|dT (kvs:List (List Key×V))
  | set (S:Int->Bool) (n:Nat)
  | ins (C dx:YG) (fs:List (Str×V))
  | own (x:YG)
  | xd (fs:List (Str×V))
  | met (f x:YG)
  | rng (lo hi:Int)
  | frz (o:Obj) (u:HO)
  | tbl (ps:Array Xd)
  | ext (φ:YH->Prop)
abbrev Hp:=YG->Option HO
def upd(H:Hp)(a:YG)(o:HO):Hp:=λb=>if b=a then YB o else H b
theorem Zu{H:Hp}{a:YG}{o:HO}:upd H a o a=YB o:=by unfold upd;rw[YL rfl]
theorem Zo{H:Hp}{a b:YG}{o:HO}(h:b≠a):upd H a o b=H b:=by unfold upd;rw[YM h]
theorem Yt{H:Hp}{a b:YG}{o:HO}(h:H a=YB o)(h':H b=YC):a≠b:=by
 intro e;subst e;rw[h]at h';cases h'
section
variable (P:X6)(w:Qp)
def ObjOk(H:Hp)(h:YH)(a:YG):HO->Prop
 | .lst xs=>xs.length<=Xw/\∃(its:List Xd) (n:Nat),Vals xs its/\h.get? a=YB { cls:=.type "list",data:=.seq its.toArray n }
 | .tup xs=>xs.length<=Xw/\∃its:List Xd,Vals xs its/\IsTup h a its.toArray
 | .dK kvs=>kvs.length<=Xw/\(a==sysModules)=YF/\∃vs,KV kvs vs/\h.DictOf (Zmz P w) a vs
 | .dT kvs=>kvs.length<=Xw/\(a==sysModules)=YF/\∃xs:List (List Key×YG×Xd),
   Paired (λ(p:List Key×V) (q:List Key×YG×Xd)=>p.1=q.1/\H q.2.1=YB (.tup (p.1.map kV))/\RelV p.2 q.2.2) kvs xs/\
   ∃o es ep,h.get? a=YB o/\o.ExactDict/\o.data= .dict es ep/\es.toList=xs.map (entryOfKey (tupleKind (Zmz P w)))/\(xs.map (·.1)).Nodup
 | .set S n=>h.SetOf (Vx P w) a S n
 | .ins C dx fs=>H dx=YB (.own a)/\fs.length<=1000/\dx≠a/\h.get? a=YB (PySem.W.instObj C dx)/\
   ∃mA,h.Ns1 dx mA/\(∀f,RelO (fs.lookup f) (mA f))/\PySem.Within mA (fs.map (·.1))
 | .own _=>∃o,h.get? a=YB o
 | .xd fs=>∃mA,h.Ns1 a mA/\∀f,RelO (fs.lookup f) (mA f)
 | .rng lo hi=>∃t u v,h.get? a=YB { cls:=.type "range",data:=.fields #[.int lo t,.int hi u,.int 1 v] }
 | .frz o u=>h.get? a=YB o/\ObjOk H h a u
 | .tbl ps=>h.get? a=YB { cls:=.none,data:=.fields ps }
 | .met f x=>h.get? a=YB (PySem.W.methodObj (.ref f) (.ref x))
 | .ext φ=>φ h/\(∃o,h.get? a=YB o)/\∀h1 h2:YH,φ h1->(∀o,h1.get? a=YB o->h2.get? a=YB o)->φ h2
def HOk(H:Hp)(h:YH):Prop:=∀a o,H a=YB o->ObjOk P w H h a o
end
section
variable {P:X6}{w:Qp}{H H':Hp}{h h':YH}{a:YG}{o:HO}
theorem ObjOk.lt(x:ObjOk P w H h a o):a<h.objs.size:=by
 cases o with
 | lst xs=>obtain⟨_,_,_,_,e⟩:=x;exact Xz e
 | tup xs=>obtain⟨_,_,_,p⟩:=x;exact p.lt
 | dK kvs=>obtain⟨_,_,_,_,o,_,_,e,_⟩:=x;exact Xz e
 | dT kvs=>obtain⟨_,_,_,_,o,_,_,e,_⟩:=x;exact Xz e
 | set S n=>obtain⟨o,_,_,_,e,_⟩:=x;exact Xz e
 | ins C dx fs=>obtain⟨_,_,_,e,_⟩:=x;exact Xz e
 | own y=>obtain⟨_,e⟩:=x;exact Xz e
 | xd fs=>obtain⟨_,⟨_,_,_,e,_⟩,_⟩:=x;exact Xz e
 | rng lo hi=>obtain⟨_,_,_,e⟩:=x;exact Xz e
 | frz ob u=>obtain⟨e,_⟩:=x;exact Xz e
 | tbl ps=>exact Xz (show h.get? a=YB _ from x)
 | met f y=>exact Xz (show h.get? a=YB _ from x)
 | ext φ=>obtain⟨_,⟨_,e⟩,_⟩:=x;exact Xz e
theorem Paired.mapP{Y β:Type}{F G:Y->β->Prop}{l₁:List Y}{l₂:List β}(h:Paired F l₁ l₂)(f:∀a b,F a b->G a b):Paired G l₁ l₂:=by
 induction h with
 | nil=>exact .nil
 | cons r t ih=>exact .cons (f _ _ r) ih
theorem ObjOk.stay(x:ObjOk P w H h a o)(k:∀b u,(b=a\/H b=YB (.own a))->h.get? b=YB u->h'.get? b=YB u)
  (ho:∀b,H b=YB (.own a)->H' b=YB (.own a)) (ht:∀b xs,H b=YB (.tup xs)->H' b=YB (.tup xs)):ObjOk P w H' h' a o:=by
 induction o with
 | lst xs=>obtain⟨z,its,n,r,e⟩:=x;exact⟨z,its,n,r,k _ _ (.inl rfl) e⟩
 | tup xs=>obtain⟨z,its,r,ob,e,c⟩:=x;exact⟨z,its,r,ob,k _ _ (.inl rfl) e,c⟩
 | dK kvs=>obtain⟨z,y,vs,r,ob,es,ep,e,c⟩:=x;exact⟨z,y,vs,r,ob,es,ep,k _ _ (.inl rfl) e,c⟩
 | dT kvs=>
  obtain⟨z,y,xs,r,ob,es,ep,e,c⟩:=x;exact⟨z,y,xs,Paired.mapP r λp q z=>⟨z.1,ht _ _ z.2.1,z.2.2⟩,ob,es,ep,k _ _ (.inl rfl) e,c⟩
 | set S n=>obtain⟨ob,es,ep,t,e,c⟩:=x;exact⟨ob,es,ep,t,k _ _ (.inl rfl) e,c⟩
 | ins C dx fs=>
  obtain⟨d,z,ne,e,mA,⟨od,es,ep,e2,c⟩,r⟩:=x;exact⟨ho _ d,z,ne,k _ _ (.inl rfl) e,mA,⟨od,es,ep,k _ _ (.inr d) e2,c⟩,r⟩
 | own y=>obtain⟨ob,e⟩:=x;exact⟨ob,k _ _ (.inl rfl) e⟩
 | xd fs=>obtain⟨mA,⟨od,es,ep,e,c⟩,r⟩:=x;exact⟨mA,⟨od,es,ep,k _ _ (.inl rfl) e,c⟩,r⟩
 | rng lo hi=>obtain⟨t,u,v,e⟩:=x;exact⟨t,u,v,k _ _ (.inl rfl) e⟩
 | frz ob u ih=>obtain⟨e,q⟩:=x;exact⟨k _ _ (.inl rfl) e,ih q⟩
 | tbl ps=>
  have e:h.get? a=YB { cls:=.none,data:=.fields ps }:=x;show h'.get? a=YB { cls:=.none,data:=.fields ps };exact k a _ (.inl rfl) e
 | met f y=>
  have e:h.get? a=YB (PySem.W.methodObj (.ref f) (.ref y)):=x;show h'.get? a=YB (PySem.W.methodObj (.ref f) (.ref y));exact k a _ (.inl rfl) e
 | ext φ=>obtain⟨p,⟨o,e⟩,st⟩:=x;exact⟨st _ _ p λo q=>k _ _ (.inl rfl) q,⟨o,k _ _ (.inl rfl) e⟩,st⟩
theorem HOk.lt(x:HOk P w H h)(e:H a=YB o):a<h.objs.size:=(x a o e).lt
theorem HOk.fresh(x:HOk P w H h)(e:h.objs.size<=a):H a=YC:=by
 cases q:H a with
 | none=>rfl
 | some u=>exact YX (X8 (x.lt q) e) (BX _)
theorem HOk.kept(x:HOk P w H h)(k:∀b u,h.get? b=YB u->h'.get? b=YB u):HOk P w H h':=λa o e=>
 (x a o e).stay (λb u _ q=>k b u q) (λ_ q=>q) λ_ _ q=>q
theorem HOk.laid(x:HOk P w H h)(k:∀b u,h.get? b=YB u->h'.get? b=YB u)(hp:h.objs.size<=a)(new:ObjOk P w (upd H a o) h' a o):HOk P w (upd H a o) h':=λb u e=>by
 have hn:=x.fresh hp
 by_cases hb:b=a
 .subst hb;rw[Zu]at e;cases e;exact new
 .rw[Zo hb]at e
  exact(x b u e).stay (λc v _ q=>k c v q) (λc q=>by rw[Zo (Yt q hn)];exact q) λc xs q=>by rw[Zo (Yt q hn)];exact q
end
def Rd(H:Hp)(a:YG)(u:HO):Prop:=H a=YB u\/∃o,H a=YB (.frz o u)
theorem Rd.ok{P:X6}{w:Qp}{H:Hp}{h:YH}{a:YG}{u:HO}(r:Rd H a u)(x:HOk P w H h):ObjOk P w H h a u:=by
 rcases r with r|⟨o,r⟩
 .exact x a u r
 .obtain⟨_,q⟩:=x a _ r
  exact q
def Mut:Option HO->Prop
 | some (.lst _)=>True
 | some (.dK _)=>True
 | some (.dT _)=>True
 | some (.set _ _)=>True
 | some (.ins _ _ _)=>True
 | some (.ext _)=>True
 | _=>False
section
variable {P:X6}{w:Qp}{H:Hp}{h h':YH}{x e:YG}{o':HO}
theorem HOk.write(ok:HOk P w H h)(mu:Mut (H x))(he:e=x\/H e=YB (.own x))(k:∀b u,b≠e->h.get? b=YB u->h'.get? b=YB u)(heo:∃u,h'.get? e=YB u)
  (new:ObjOk P w (upd H x o') h' x o'):HOk P w (upd H x o') h':=λb u q=>by
 have nown:∀c y,H c=YB (.own y)->c≠x:=λc y r z=>by subst z;rw[r]at mu;exact mu
 have ntup:∀c xs,H c=YB (.tup xs)->c≠x:=λc xs r z=>by subst z;rw[r]at mu;exact mu
 by_cases hb:b=x
 .subst hb;rw[Zu]at q;cases q;exact new
 .rw[Zo hb]at q
  by_cases hbe:b=e
  .have q':H b=YB (.own x):=by
    rcases he with z|z
    .exact YX (hbe.trans z) hb
    .rw[hbe];exact z
   rw[q]at q';cases q';obtain⟨v,hv⟩:=heo;exact⟨v,by rw[hbe];exact hv⟩
  .refine(ok b u q).stay (λc v hc r=>k c v ?_ r) (λc r=>by rw[Zo (nown c b r)];exact r) λc xs r=>by rw[Zo (ntup c xs r)];exact r
   rcases hc with rfl|hc
   .exact hbe
   .rintro rfl
    rcases he with z|z
    .exact nown c b hc z
    .rw[hc]at z;cases z;exact hb rfl
end
structure Un(fs ex:List YG)(H H':Hp)(h h':YH):Prop where
 keep:∀b o,h.get? b=YB o->H b=YC->b∉fs->b∉ex->h'.get? b=YB o
 slot:∀b o,h.get? b=YB o->H b=YC->b∈fs->b∉ex->∃sl,h'.get? b=YB { o with slots:=sl }
 free:∀b o,h.get? b=YB o->H b=YC->b∉ex->H' b=YC
 there:∀b o,h.get? b=YB o->b∉ex->∃o',h'.get? b=YB o'
 tups:∀b xs,H b=YB (.tup xs)->H' b=YB (.tup xs)
 frzs:∀b o u,H b=YB (.frz o u)->H' b=YB (.frz o u)
 tbls:∀b ps,H b=YB (.tbl ps)->∃more,H' b=YB (.tbl (ps++more))
section
variable {fs fs' ex ex':List YG}{H H1 H2:Hp}{h h1 h2 h':YH}{a x e:YG}{o:HO}
theorem Un.any(u:Un fs ex H H1 h h1){b:YG}{ob:Obj}(q:h.get? b=YB ob)(n:H b=YC)(hx:b∉ex):∃sl,h1.get? b=YB { ob with slots:=sl }:=by
 by_cases hb:b∈fs
 .exact u.slot b ob q n hb hx
 .exact⟨ob.slots,u.keep b ob q n hb hx⟩
theorem Un.kept(k:∀b u,h.get? b=YB u->h'.get? b=YB u):Un fs ex H H h h' :=
 ⟨λb ob q _ _ _=>k b ob q,λb ob q _ _ _=>⟨ob.slots,k b ob q⟩,λ_ _ _ n _=>n,λb ob q _=>⟨ob,k b ob q⟩,λ_ _ q=>q,λ_ _ _ q=>q,λ_ ps q=>⟨#[],by rw[q];simp⟩⟩
theorem Un.refl:Un fs ex H H h h:=Un.kept λ_ _ q=>q
theorem Un.laid(k:∀b u,h.get? b=YB u->h'.get? b=YB u)(hp:h.objs.size<=a)(hn:H a=YC):Un fs ex H (upd H a o) h h' where
 keep:=λb u q _ _ _=>k b u q
 slot:=λb u q _ _ _=>⟨u.slots,k b u q⟩
 free:=λb u q n _=>by rw[Zo (Xq (X8 (Xz q) hp))];exact n
 there:=λb u q _=>⟨u,k b u q⟩
 tups:=λb xs q=>by rw[Zo (Yt q hn)];exact q
 frzs:=λb u xs q=>by rw[Zo (Yt q hn)];exact q
 tbls:=λb ps q=>⟨#[],by rw[Zo (Yt q hn),q];simp⟩
theorem Un.write(mu:Mut (H x))(he:e=x\/H e=YB (.own x))(k:∀b u,b≠e->h.get? b=YB u->h'.get? b=YB u)(heo:∃u,h'.get? e=YB u):Un fs ex H (upd H x o) h h':=by
 have hx:∀b,H b=YC->b≠x:=λb n z=>by subst z;rw[n]at mu;exact mu
 have hb:∀b,H b=YC->b≠e:=λb n z=>by
  subst z;rcases he with r|r
  .exact hx b n r
  .rw[n]at r;cases r
 have hm:∀b u,H b=YB u->¬Mut (YB u)->b≠x:=λb u q nm z=>by subst z;rw[q]at mu;exact nm mu
 refine⟨λb u q n _ _=>k b u (hb b n) q,λb u q n _ _=>⟨u.slots,k b u (hb b n) q⟩,λb u q n _=>by rw[Zo (hx b n)];exact n,λb u q _=>?_,
  λb xs q=>by rw[Zo (hm b _ q λz=>z)];exact q,λb u xs q=>by rw[Zo (hm b _ q λz=>z)];exact q,λb ps q=>⟨#[],by rw[Zo (hm b _ q λz=>z),q];simp⟩⟩
 by_cases hbe:b=e
 .subst hbe;exact heo
 .exact⟨u,k b u hbe q⟩
end
def trk(h:YH)(H:Hp):List YG:=(Xu h.objs.size).filter λa=>(H a).isSome
def Zux(h:YH)(H:Hp):YH:=JT h (trk h H)
theorem Zs1(h:YH)(H:Hp):(Zux h H).objs.size=h.objs.size:=PySem.W.hideAll_size _ _
theorem Zve{h:YH}{H:Hp}{b:YG}{o:Obj}(e:h.get? b=YB o)(n:H b=YC):(Zux h H).get? b=YB o :=
 PySem.W.hideAll_get _ e λhm=>by
  have q:(H b).isSome=YD:=(List.mem_filter.mp hm).2;rw[n]at q;simp at q
theorem Z24{h:YH}{H:Hp}{b:YG}{o:Obj}(e:(Zux h H).get? b=YB o):h.get? b=YB o/\H b=YC:=by
 have e':h.get? b=YB o:=UG (trk h H) e;refine⟨e',?_⟩;cases q:H b with
 | none=>rfl
 | some x=>
  have hm:b∈trk h H:=List.mem_filter.mpr ⟨Qd.mpr (Xz e'),by simp[q]⟩;have z:(Zux h H).get? b=YC:=Vy (trk h H) hm;rw[z]at e;cases e
def Zzn(g h:YH)(L:YG):List (YG×Obj):=(Xu h.objs.size).filterMap λa=>if a=L\/(g.get? a).isSome=YD then YC else(h.get? a).map λo=>(a,o)
def rest(g h:YH)(L d:YG):List (YG×Obj):=(Zzn g h L).filter λp=>decide (p.1≠d)
structure Mod(K:Xc)(mg:Str->Option Xd)(base:YH):Prop where
 kin:K.In base
 glob:base.Ns XN mg
 blt:∃mb,base.Ns builtinsNs mb/\∀x:Str,x≠"__name__" ->mb x=X4 x
 nolimit:base.NoLimit
set_option genInjectivity false in
structure Cx where
 prog:X6
 w:Qp
 K:Xc
 mg:Str->Option Xd
 base:YH
 A:Qk
 N:List Str
 s₀:Xe
 H₀:Hp
 env:Env
 outer:List Env
 stack:List Env
 ex:List YG
 fn:Str->Bool
 calm:Bool
 pn:List (YG×Obj)
 xe:Xd->Xe->Prop
def frs(l:List Env):List YG:=l.filterMap (·.frame)
abbrev Cx.fs(X:Cx):List YG:=frs X.outer
def Vis(sc:U3)(x:Str):Prop:=sc.names.lookup x=YB .local\/sc.names.lookup x=YB .cell\/sc.names.lookup x=YB .free
def Loc(sc:U3)(x:Str):Prop:=sc.names.lookup x=YB .local\/sc.names.lookup x=YB .cell
def Look(env:Env)(h:YH)(m:Str->Option Xd)(x:Str)(u:Xd):Prop :=
 (env.kindOf x=YB .local/\m x=YB u)\/((env.kindOf x=YB .cell\/env.kindOf x=YB .free)/\∃c,env.cells.lookup x=YB c/\h.IsCell c (YB u))
structure Cx.Ok(X:Cx):Prop where
 mod:Mod X.K X.mg X.base
 kind:X.env.scope.kind= .function
 glob:X.env.globals=XN
 blt:X.env.builtins=builtinsNs
 above:X.s₀.heap.objs.size<=X.env.locals
 inj:∀x y c,X.env.cells.lookup x=YB c->X.env.cells.lookup y=YB c->x=y
 has:∀x,(X.env.kindOf x=YB .cell\/X.env.kindOf x=YB .free)->∃c,X.env.cells.lookup x=YB c
 cab:∀x c,X.fn x=YD->X.env.cells.lookup x=YB c->X.s₀.heap.objs.size<=c
 hd:X.calm=YD->X.A.handled=YC
 frames:X.A.frames=YB X.stack
 stk:X.stack=X.outer\/(X.stack=X.env::X.outer/\X.env.frame=YB X.env.locals)
 exf:∀b∈X.ex,b≠X.env.locals/\∀x c,X.env.cells.lookup x=YB c->c≠b
 bs:∀b o,X.base.get? b=YB o->X.s₀.heap.get? b=YB o/\X.H₀ b=YC
 bsz:X.base.objs.size<=X.s₀.heap.objs.size
 noex:∀b o,X.base.get? b=YB o->b∉X.ex
 exfs:∀b∈X.ex,b∉X.fs
 funs:X.s₀.heap.FunFrames X.base X.outer
 frf:∀b∈X.fs,X.H₀ b=YC
structure Inv(X:Cx)(pins:List (YG×Obj))(O:List (Option V))(H:Hp)(s:Xe):Prop where
 ok:X.Ok
 os:s.os=X.s₀.os
 bare:AllBare s.gens
 base:Un X.fs X.ex X.H₀ H X.s₀.heap s.heap
 loc:∃m,s.heap.Ns X.env.locals m/\∀(i:Nat) (x:Str) (v:V),X.N[i]? =YB x->O[i]? =YB (YB v)->Vis X.env.scope x->∃u,RelV v u/\Look X.env s.heap m x u
 cell:∀x c,X.env.cells.lookup x=YB c->∃v,s.heap.IsCell c v
 free:H X.env.locals=YC
 freeC:∀x c,X.env.cells.lookup x=YB c->H c=YC
 pin:∀p∈X.pn++pins,s.heap.get? p.1=YB p.2/\H p.1=YC/\p.1≠X.env.locals/\p.1∉X.fs/\∀v,p.2.data≠ .cell v
 hok:HOk X.prog X.w H s.heap
 len:O.length=X.N.length
section
variable {X:Cx}{pins:List (YG×Obj)}{O:List (Option V)}{H H':Hp}{s:Xe}{h':YH}
theorem Cx.Ok.nofr(ok:X.Ok){b:YG}{o:Obj}(e:X.base.get? b=YB o):b∉X.fs:=λhb=>by
 have:=(ok.funs.mem hb).1;rw[e]at this;cases this
theorem Inv.bs(I:Inv X pins O H s):∀b o,X.base.get? b=YB o->s.heap.get? b=YB o/\H b=YC:=λb o e=>
 ⟨I.base.keep b o (I.ok.bs b o e).1 (I.ok.bs b o e).2 (I.ok.nofr e) (I.ok.noex b o e),I.base.free b o (I.ok.bs b o e).1 (I.ok.bs b o e).2 (I.ok.noex b o e)⟩
theorem Inv.bk(I:Inv X pins O H s):∀b o,X.base.get? b=YB o->s.heap.get? b=YB o:=λb o e=>(I.bs b o e).1
theorem Inv.mod(I:Inv X pins O H s):Mod X.K X.mg X.base:=I.ok.mod
theorem Inv.kIn(I:Inv X pins O H s):X.K.In s.heap:=I.ok.mod.kin.keeps I.bk
theorem Inv.lt(I:Inv X pins O H s):X.env.locals<s.heap.objs.size:=let⟨_,hn,_⟩:=I.loc;hn.lt
theorem Inv.sz(I:Inv X pins O H s):X.s₀.heap.objs.size<=s.heap.objs.size:=Q7 I.ok.above (Vs I.lt)
theorem Inv.nofs(I:Inv X pins O H s){a:YG}(h:s.heap.objs.size<=a):a∉X.fs:=λhb=>by
 obtain⟨_,o,ho,_⟩:=I.ok.funs.mem hb;exact YX (X8 (Xz ho) (Q7 I.sz h)) (BX _)
theorem Inv.cne(I:Inv X pins O H s):∀x c,X.env.cells.lookup x=YB c->c≠X.env.locals:=λx c e z=>by
 obtain⟨v,o,ho,hd⟩:=I.cell x c e;obtain⟨m,⟨o',es,ep,ho',hd',_⟩,_⟩:=I.loc;rw[z,ho']at ho;cases ho;rw[hd']at hd;cases hd
theorem Inv.funs(I:Inv X pins O H s):s.heap.FunFrames X.base X.outer:=by
 have all:∀(l:List Env),(∀b∈frs l,b∈X.fs)->X.s₀.heap.FunFrames X.base l->s.heap.FunFrames X.base l:=by
  intro l
  induction l with
  | nil=>intro _ _;trivial
  | cons env r ih=>
   intro hs hl;obtain⟨hk,⟨L,o,hf,hn,ho,hd⟩,hr⟩:=hl;have hL:L∈X.fs:=hs L (by unfold frs;rw[V0,hf];exact U6);obtain⟨sl,e⟩:=I.base.slot L o ho (I.ok.frf L hL) hL λz=>I.ok.exfs L z hL;exact⟨hk,⟨L,_,hf,hn,e,hd⟩,ih (λb hb=>hs b (by unfold frs;rw[V0,hf];exact Uv _ hb)) hr⟩
 exact all X.outer (λ_ hb=>hb) I.ok.funs
theorem Inv.stack(I:Inv X pins O H s):s.heap.FunFrames X.base X.stack:=by
 rcases I.ok.stk with e|⟨e,hf⟩
 .rw[e];exact I.funs
 .rw[e]
  obtain⟨m,hn,_⟩:=I.loc;refine .cons (by rw[I.ok.kind];decide) hf hn ?_ I.funs;exact Heap.get?_none_of_le (Q7 I.ok.bsz I.ok.above)
theorem Inv.stkSub(I:Inv X pins O H s):∀b∈frs X.stack,b∈X.env.locals::X.fs:=λb hb=>by
 rcases I.ok.stk with e|⟨e,hf⟩
 .rw[e]at hb;exact Uv _ hb
 .rw[e]at hb
  unfold frs at hb;rw[V0,hf]at hb;exact hb
theorem Inv.stkFree(I:Inv X pins O H s):∀b∈frs X.stack,H b=YC:=λb hb=>by
 rcases Xi.mp (I.stkSub b hb)with e|hb
 .rw[e];exact I.free
 .obtain⟨_,o,ho,_⟩:=I.ok.funs.mem hb
  exact I.base.free b o ho (I.ok.frf b hb) λz=>I.ok.exfs b z hb
theorem Inv.step{g':Array GenState}{t':Nat}{d':Drawn}{ch:List YG}(I:Inv X pins O H s)
  (hch:∀b∈ch,(b∈X.ex\/X.s₀.heap.objs.size<=b)/\b≠X.env.locals/\(∀x c,X.env.cells.lookup x=YB c->c≠b)/\∀p∈X.pn++pins,p.1≠b)
  (keep:∀b o,b≠X.env.locals->b∉X.fs->b∉ch->s.heap.get? b=YB o->H b=YC->h'.get? b=YB o)
  (slot:∀b o,b≠X.env.locals->b∈X.fs->b∉ch->s.heap.get? b=YB o->H b=YC->∃sl,h'.get? b=YB { o with slots:=sl }) (free:∀b o,b∉ch->s.heap.get? b=YB o->H b=YC->H' b=YC)
  (there:∀b o,b∉ch->s.heap.get? b=YB o->∃o',h'.get? b=YB o')
  (tups:∀b xs,H b=YB (.tup xs)->H' b=YB (.tup xs)) (frzs:∀b o u,H b=YB (.frz o u)->H' b=YB (.frz o u)) (tbls:∀b ps,H b=YB (.tbl ps)->∃more,H' b=YB (.tbl (ps++more)))
  (ns:∀m,s.heap.Ns X.env.locals m->h'.Ns X.env.locals m) (hok:HOk X.prog X.w H' h') (hg:AllBare g') :
  Inv X pins O H' { s with heap:=h',gens:=g',drawn:=d',toks:=t' }:=by
 have neL:∀b o,X.s₀.heap.get? b=YB o->b≠X.env.locals:=λb o e=>Xq (X8 (Xz e) I.ok.above);have neC:∀b o,X.s₀.heap.get? b=YB o->b∉X.ex->b∉ch:=λb o e hx hb=>by
  rcases(hch b hb).1 with z|z
  .exact hx z
  .exact YX (X8 (Xz e) z) (BX _)
 have cellK:∀x c,X.env.cells.lookup x=YB c->∀v,s.heap.IsCell c v->h'.IsCell c v:=λx c e v ⟨o,ho,hd⟩=>by
  have nch:c∉ch:=λz=>(hch c z).2.2.1 x c e rfl
  by_cases hc:c∈X.fs
  .obtain⟨sl,q⟩:=slot c o (I.cne x c e) hc nch ho (I.freeC x c e)
   exact⟨_,q,hd⟩
  .exact⟨o,keep c o (I.cne x c e) hc nch ho (I.freeC x c e),hd⟩
 refine⟨I.ok,I.os,hg,⟨λb o e n hb hx=>?_,λb o e n hb hx=>?_,λb o e n hx=>?_,λb o e hx=>?_,λb xs e=>tups b xs (I.base.tups b xs e),λb o xs e=>frzs b o xs (I.base.frzs b o xs e),λb ps e=>?_⟩,?_,λx c e=>?_,?_,λx c e=>?_,λp hp=>?_,hok,I.len⟩
 .exact keep b o (neL b o e) hb (neC b o e hx) (I.base.keep b o e n hb hx) (I.base.free b o e n hx)
 .obtain⟨sl,e1⟩:=I.base.slot b o e n hb hx
  obtain⟨sl',e2⟩:=slot b _ (neL b o e) hb (neC b o e hx) e1 (I.base.free b o e n hx);exact⟨sl',e2⟩
 .obtain⟨o',e1⟩:=I.base.there b o e hx
  exact free b o' (neC b o e hx) e1 (I.base.free b o e n hx)
 .obtain⟨o',e1⟩:=I.base.there b o e hx
  exact there b o' (neC b o e hx) e1
 .obtain⟨m1,e1⟩:=I.base.tbls b ps e
  obtain⟨m2,e2⟩:=tbls b _ e1;exact⟨m1++m2,by rw[e2,Array.append_assoc]⟩
 .obtain⟨m,hn,hl⟩:=I.loc
  refine⟨m,ns m hn,λi x v e1 e2 e3=>?_⟩;obtain⟨u,r,l⟩:=hl i x v e1 e2 e3;refine⟨u,r,?_⟩;rcases l with l|⟨k,c,e,z⟩
  .exact .inl l
  .exact .inr ⟨k,c,e,cellK x c e _ z⟩
 .obtain⟨v,z⟩:=I.cell x c e
  exact⟨v,cellK x c e v z⟩
 .obtain⟨m,⟨o,_,_,ho,_⟩,_⟩:=I.loc
  exact free _ o (λz=>(hch _ z).2.1 rfl) ho I.free
 .obtain⟨v,o,ho,hd⟩:=I.cell x c e
  exact free c o (λz=>(hch c z).2.2.1 x c e rfl) ho (I.freeC x c e)
 .obtain⟨e,n,ne,nf,d⟩:=I.pin p hp
  have nch:p.1∉ch:=λz=>(hch p.1 z).2.2.2 p hp rfl;exact⟨keep p.1 p.2 ne nf nch e n,free p.1 p.2 nch e n,ne,nf,d⟩
theorem Inv.un{t':Nat}(I:Inv X pins O H s)(u:Un X.fs [] H H' s.heap h')(hok:HOk X.prog X.w H' h'):Inv X pins O H' { s with heap:=h',toks:=t' }:=by
 obtain⟨m,⟨o,es,ep,ho,r⟩,_⟩:=id I.loc;obtain⟨sl,hL⟩:=u.any ho I.free (by simp);exact I.step (g':=s.gens) (d':=s.drawn) (ch:=[]) (λ_ z=>nomatch z) (λb o _ hb _ e n=>u.keep b o e n hb (by simp)) (λb o _ hb _ e n=>u.slot b o e n hb (by simp)) (λb o _ e n=>u.free b o e n (by simp)) (λb o _ e=>u.there b o e (by simp)) u.tups u.frzs u.tbls (λm' hm=>by
  obtain⟨o',es',ep',ho',r'⟩:=hm;rw[ho]at ho';cases ho';exact⟨_,es',ep',hL,r'⟩) hok I.bare
theorem Inv.call{g':Array GenState}{t':Nat}{d':Drawn}{ch:List YG}(I:Inv X pins O H s)(u:Un (frs X.stack) ch H H' s.heap h')(hok:HOk X.prog X.w H' h')(hg:AllBare g')
  (hch:∀b∈ch,(b∈X.ex\/X.s₀.heap.objs.size<=b)/\b≠X.env.locals/\(∀x c,X.env.cells.lookup x=YB c->c≠b)/\∀p∈X.pn++pins,p.1≠b) :
  Inv X pins O H' { s with heap:=h',gens:=g',drawn:=d',toks:=t' }:=by
 obtain⟨m,⟨o,es,ep,ho,r⟩,_⟩:=id I.loc;obtain⟨sl,hL⟩:=u.any ho I.free λz=>(hch _ z).2.1 rfl;exact I.step (ch:=ch) hch (λb o hL hb hc e n=>u.keep b o e n (λz=>(Xi.mp (I.stkSub b z)).elim hL hb) hc) (λb o _ _ hc e n=>u.any e n hc) (λb o hc e n=>u.free b o e n hc) (λb o hc e=>u.there b o e hc) u.tups u.frzs u.tbls (λm' hm=>by
  obtain⟨o',es',ep',ho',r'⟩:=hm;rw[ho]at ho';cases ho';exact⟨_,es',ep',hL,r'⟩) hok hg
theorem Inv.turned{t':Nat}{it:YG}(I:Inv X pins O H s)(k:∀b o,b≠it->s.heap.get? b=YB o->h'.get? b=YB o)(hn:H it=YC)(hL:it≠X.env.locals)
  (h1:it∈X.ex\/X.s₀.heap.objs.size<=it) (h2:∀x c,X.env.cells.lookup x=YB c->c≠it) (h3:∀p∈X.pn++pins,p.1≠it):Inv X pins O H { s with heap:=h',toks:=t' }:=by
 have nit:∀b u,H b=YB u->b≠it:=λb u e z=>by rw[z,hn]at e;cases e
 refine I.step (g':=s.gens) (d':=s.drawn) (ch:=[it]) (λb hb=>?_) (λb o _ _ hc e _=>k b o (λz=>hc (by simp[z])) e) (λb o _ _ hc e _=>⟨o.slots,k b o (λz=>hc (by simp[z])) e⟩) (λ_ _ _ _ n=>n)
  (λb o hc e=>⟨o,k b o (λz=>hc (by simp[z])) e⟩) (λ_ _ e=>e) (λ_ _ _ e=>e) (λb ps e=>⟨#[],by rw[e];simp⟩) (λm hm=>?_) (λb u e=>?_) I.bare
 .have e:b=it:=by simpa using hb
  subst e;exact⟨h1,hL,h2,h3⟩
 .obtain⟨o,es,ep,ho,r⟩:=hm
  exact⟨o,es,ep,k _ o (JW hL) ho,r⟩
 .refine(I.hok b u e).stay (λc v hc q=>k c v ?_ q) (λ_ q=>q) λ_ _ q=>q
  rcases hc with z|z
  .rw[z];exact nit b u e
  .exact nit c _ z
theorem Inv.tok(I:Inv X pins O H s)(t:Nat):Inv X pins O H { s with toks:=t }:=I.un (h':=s.heap) (t':=t) Un.refl I.hok
theorem Inv.kept{t':Nat}(I:Inv X pins O H s)(k:∀b u,s.heap.get? b=YB u->h'.get? b=YB u):Inv X pins O H { s with heap:=h',toks:=t' }:=I.un (Un.kept k) (I.hok.kept k)
theorem Inv.laid{a:YG}{o:HO}{t':Nat}(I:Inv X pins O H s)(k:∀b u,s.heap.get? b=YB u->h'.get? b=YB u)(hp:s.heap.objs.size<=a)(new:ObjOk X.prog X.w (upd H a o) h' a o) :
  Inv X pins O (upd H a o) { s with heap:=h',toks:=t' }:=I.un (Un.laid k hp (I.hok.fresh hp)) (I.hok.laid k hp new)
theorem Inv.write{x e:YG}{o:HO}{t':Nat}(I:Inv X pins O H s)(mu:Mut (H x))(he:e=x\/H e=YB (.own x))(k:∀b u,b≠e->s.heap.get? b=YB u->h'.get? b=YB u)(heo:∃u,h'.get? e=YB u)
  (new:ObjOk X.prog X.w (upd H x o) h' x o):Inv X pins O (upd H x o) { s with heap:=h',toks:=t' }:=I.un (Un.write mu he k heo) (I.hok.write mu he k heo new)
theorem Inv.pins_of{pins':List (YG×Obj)}(I:Inv X pins O H s)(h:∀p∈pins',s.heap.get? p.1=YB p.2/\H p.1=YC/\p.1≠X.env.locals/\p.1∉X.fs/\∀v,p.2.data≠ .cell v):Inv X pins' O H s :=
 ⟨I.ok,I.os,I.bare,I.base,I.loc,I.cell,I.free,I.freeC,λp hp=>(Qt.mp hp).elim (λz=>I.pin p (JL _ z)) (h p),I.hok,I.len⟩
theorem Zjr{N:List Str}(hN:N.Nodup){i j:Nat}{x:Str}(a:N[i]? =YB x)(b:N[j]? =YB x):i=j:=by
 obtain⟨h1,e1⟩:=Xn.mp a;obtain⟨h2,e2⟩:=Xn.mp b;exact(List.getElem_inj hN).mp (e1.trans e2.symm)
theorem Zl7{M:Model}{A:Qk}{E:Xd->Xe->Prop}{i:Nat}{x:Str}{v:V}{u:Xd}{Q:Unit->Xe->Prop}(I:Inv X pins O H s)(hN:X.N.Nodup)(hi:X.N[i]? =YB x)(hx:Loc X.env.scope x)(r:RelV v u)
  (h:∀s',Inv X pins (O.set i (YB v)) H s'->(∃a,Ba a s.heap s'.heap/\(a=X.env.locals\/X.env.cells.lookup x=YB a))->Q () s') (hf:X.fn x=YD\/X.env.scope.names.lookup x=YB .local:=by first|exact .inl rfl|exact .inr rfl|assumption):Xy M A (storeName X.env x u) Q E s:=by
 obtain⟨m,hn,hl⟩:=id I.loc;have hcls:(X.env.scope.kind== .class||(X.env.scope.kind== .module&&X.env.locals !=X.env.globals))=YF:=by rw[I.ok.kind];rfl
 have hiσ:i<O.length:=by rw[I.len];exact(Xn.mp hi).1
 have cne:=I.cne;have tracked:∀{a:YG} {h':YH},(∃o,s.heap.get? a=YB o/\H a=YC)->Ba a s.heap h'->HOk X.prog X.w H h':=fun{a h'} ha hs b ob e=>by
  obtain⟨_,_,hfree⟩:=ha;refine(I.hok b ob e).stay (λc w' hc q=>(hs.2 c ?_).trans q) (λ_ q=>q) λ_ _ q=>q;rintro rfl;rcases hc with rfl|hc
  .rw[hfree]at e;cases e
  .rw[hfree]at hc;cases hc
 rcases hx with hk|hk
 .refine wpAny_storeName_local hk hn (λh' hn' hs=>?_) hcls
  obtain⟨oL,_,_,hoL,_⟩:=id hn;refine h _ ⟨I.ok,I.os,I.bare,⟨λb o e n hb hx=>?_,λb o e n hb hx=>?_,I.base.free,λb o e hx=>?_,I.base.tups,I.base.frzs,I.base.tbls⟩,⟨_,hn',λj y v' e1 e2 e3=>?_⟩,λy c e=>?_,I.free,I.freeC,λp hp=>?_,tracked ⟨oL,hoL,I.free⟩ hs,by simpa using I.len⟩ ⟨_,hs,.inl rfl⟩
  .exact(hs.2 b (Xq (X8 (Xz e) I.ok.above))).trans (I.base.keep b o e n hb hx)
  .obtain⟨sl,e1⟩:=I.base.slot b o e n hb hx
   exact⟨sl,(hs.2 b (Xq (X8 (Xz e) I.ok.above))).trans e1⟩
  .obtain⟨o',e1⟩:=I.base.there b o e hx
   exact⟨o',(hs.2 b (Xq (X8 (Xz e) I.ok.above))).trans e1⟩
  .by_cases hj:j=i
   .subst hj
    rw[hi]at e1;cases e1;rw[Qo hiσ]at e2;cases e2;exact⟨u,r,.inl ⟨hk,by simp⟩⟩
   .rw[Qc (JW hj)]at e2
    obtain⟨u',r',q⟩:=hl j y v' e1 e2 e3;refine⟨u',r',?_⟩;rcases q with⟨k,e⟩|⟨k,c,e,z⟩
    .refine .inl ⟨k,?_⟩
     have:y≠x:=λe=>hj (Zjr hN e1 (e▸hi));simp[this,e]
    .exact .inr ⟨k,c,e,z.sameBut hs (cne y c e)⟩
  .obtain⟨w',z⟩:=I.cell y c e
   exact⟨w',z.sameBut hs (cne y c e)⟩
  .obtain⟨e,n,ne,nf,d⟩:=I.pin p hp
   exact⟨(hs.2 p.1 ne).trans e,n,ne,nf,d⟩
 .have hfn:X.fn x=YD:=by
   rcases hf with z|z
   .exact z
   .rw[z]at hk;cases hk
  obtain⟨c,hc⟩:=I.ok.has x (.inl hk);obtain⟨w',z⟩:=I.cell x c hc;refine wpAny_storeName_cell I.ok.kind hk hc z (λh' hc' hs=>?_);obtain⟨oc,hoc,hocd⟩:=id z;refine h { s with heap:=h' } ⟨I.ok,I.os,I.bare,⟨λb o e n hb hx=>?_,λb o e n hb hx=>?_,I.base.free,λb o e hx=>?_,I.base.tups,I.base.frzs,I.base.tbls⟩,⟨m,hn.sameBut hs (JW (cne x c hc)),λj y v' e1 e2 e3=>?_⟩,λy c' e=>?_,I.free,I.freeC,λp hp=>?_,tracked ⟨oc,hoc,I.freeC x c hc⟩ hs,by simpa using I.len⟩ ⟨c,hs,.inr hc⟩
  .exact(hs.2 b (Xq (X8 (Xz e) (I.ok.cab x c hfn hc)))).trans (I.base.keep b o e n hb hx)
  .obtain⟨sl,e1⟩:=I.base.slot b o e n hb hx
   exact⟨sl,(hs.2 b (Xq (X8 (Xz e) (I.ok.cab x c hfn hc)))).trans e1⟩
  .obtain⟨o',e1⟩:=I.base.there b o e hx
   exact⟨o',(hs.2 b (Xq (X8 (Xz e) (I.ok.cab x c hfn hc)))).trans e1⟩
  .by_cases hj:j=i
   .subst hj
    rw[hi]at e1;cases e1;rw[Qo hiσ]at e2;cases e2;exact⟨u,r,.inr ⟨.inl hk,c,hc,hc'⟩⟩
   .rw[Qc (JW hj)]at e2
    obtain⟨u',r',q⟩:=hl j y v' e1 e2 e3;refine⟨u',r',?_⟩;rcases q with q|⟨k,c',e,z'⟩
    .exact .inl q
    .refine .inr ⟨k,c',e,z'.sameBut hs ?_⟩
     rintro rfl;exact hj (Zjr hN e1 (I.ok.inj _ _ _ e hc▸hi))
  .by_cases hcc:c'=c
   .subst hcc;exact⟨_,hc'⟩
   .obtain⟨w2,z2⟩:=I.cell y c' e
    exact⟨w2,z2.sameBut hs hcc⟩
  .obtain⟨e,n,ne,nf,d⟩:=I.pin p hp
   refine⟨(hs.2 p.1 ?_).trans e,n,ne,nf,d⟩;intro q;rw[q,hoc]at e;have q':oc=p.2:=QK e;exact d w' (by rw[<-q'];exact hocd)
theorem Zkq{M:Model}{A:Qk}{E:Xd->Xe->Prop}{i:Nat}{x:Str}{v:V}{u:Xd}{Q:Unit->Xe->Prop}(I:Inv X pins O H s)(hN:X.N.Nodup)(hi:X.N[i]? =YB x)(hx:Loc X.env.scope x)(r:RelV v u)
  (h:∀s',Inv X pins (O.set i (YB v)) H s'->Q () s') (hf:X.fn x=YD\/X.env.scope.names.lookup x=YB .local:=by first|exact .inl rfl|exact .inr rfl|assumption):Xy M A (storeName X.env x u) Q E s :=
 Zl7 I hN hi hx r (λs' I' _=>h s' I') hf
theorem Inv.call'{s':Xe}{ch:List YG}(I:Inv X pins O H s)(ho:s'.os=s.os)(u:Un (frs X.stack) ch H H' s.heap s'.heap)(hok:HOk X.prog X.w H' s'.heap)(hg:AllBare s'.gens)
  (hch:∀b∈ch,(b∈X.ex\/X.s₀.heap.objs.size<=b)/\b≠X.env.locals/\(∀x c,X.env.cells.lookup x=YB c->c≠b)/\∀p∈X.pn++pins,p.1≠b):Inv X pins O H' s':=by
 obtain⟨h',g',d',t',o'⟩:=s';have e:o'=s.os:=ho;subst e;exact I.call (g':=g') (t':=t') (d':=d') u hok hg hch
end
abbrev XK:=Xd->Option YG->Hp->Prop
abbrev St:=List (Option V)
abbrev VK:=V->Hp->Prop
abbrev TE:=St->Hp->VK->Prop
abbrev TT:=St->Hp->(Bool->Hp->Prop)->Prop
abbrev TA:=St->Hp->(List V->Hp->Prop)->Prop
set_option genInjectivity false in
structure Ends where
 nx:St->Hp->Prop
 rt:VK
 bk:St->Hp->Prop:=λ_ _=>False
 ct:St->Hp->Prop:=λ_ _=>False
abbrev TS:=Ends->St->Hp->Prop
def EP(X:Cx)(pins:List (YG×Obj))(O:St)(Q:VK)(u:Xd)(s':Xe):Prop:=∃v H',Inv X pins O H' s'/\RelV v u/\Q v H'
def TP(X:Cx)(pins:List (YG×Obj))(O:St)(Q:Bool->Hp->Prop)(b:Bool)(s':Xe):Prop:=∃H',Inv X pins O H' s'/\Q b H'
def AP(X:Cx)(pins:List (YG×Obj))(O:St)(Q:List V->Hp->Prop)(us:List Xd)(s':Xe):Prop:=∃vs H',Inv X pins O H' s'/\Vals vs us/\Q vs H'
def SP(X:Cx)(pins:List (YG×Obj))(D:Ends)(f:Flow)(s':Xe):Prop :=
 match f with
 | .next=>∃O' H',Inv X pins O' H' s'/\D.nx O' H'
 | .brk=>∃O' H',Inv X pins O' H' s'/\D.bk O' H'
 | .cont=>∃O' H',Inv X pins O' H' s'/\D.ct O' H'
 | .ret u=>∃v O' H',Inv X pins O' H' s'/\RelV v u/\D.rt v H'
def PE(X:Cx)(e:YJ)(t:TE):Prop :=
 ∀(pins:List (YG×Obj)) (s:Xe) (O:St) (H:Hp) (Q:VK),Inv X pins O H s->t O H Q->Xy (XR X.prog X.w) X.A (eval e X.env) (EP X pins O Q) X.xe s
def PT(X:Cx)(e:YJ)(t:TT):Prop :=
 ∀(pins:List (YG×Obj)) (s:Xe) (O:St) (H:Hp) (Q:Bool->Hp->Prop),Inv X pins O H s->t O H Q->Xy (XR X.prog X.w) X.A (isTrue e X.env (eval e X.env)) (TP X pins O Q) X.xe s
def PW(X:Cx)(e:YJ)(t:TT):Prop :=
 ∀(whole:Sem Xd) (pins:List (YG×Obj)) (s:Xe) (O:St) (H:Hp) (Q:Bool->Hp->Prop),Inv X pins O H s->t O H Q->Xy (XR X.prog X.w) X.A (isTrue e X.env whole) (TP X pins O Q) X.xe s
theorem PW.pt{X:Cx}{e:YJ}{t:TT}(h:PW X e t):PT X e t:=h _
def PA(X:Cx)(es:List YJ)(t:TA):Prop :=
 ∀(pos:Pos) (pins:List (YG×Obj)) (s:Xe) (O:St) (H:Hp) (Q:List V->Hp->Prop),Inv X pins O H s->t O H Q->Xy (XR X.prog X.w) X.A (spliced (JG pos (Xr es X.env))) (AP X pins O Q) X.xe s
def PS(X:Cx)(st:YK)(t:TS):Prop :=
 ∀(pins:List (YG×Obj)) (s:Xe) (O:St) (H:Hp) (D:Ends),Inv X pins O H s->t D O H->Xy (XR X.prog X.w) X.A (exec st X.env) (SP X pins D) X.xe s
def PSs(X:Cx)(st:List YK)(t:TS):Prop :=
 ∀(pins:List (YG×Obj)) (s:Xe) (O:St) (H:Hp) (D:Ends),Inv X pins O H s->t D O H->Xy (XR X.prog X.w) X.A (execs st X.env) (SP X pins D) X.xe s
theorem thn{Y:Type}{t:Sem Y}{Q Q':Y->Xe->Prop}{M:Model}{A:Qk}{E:Xd->Xe->Prop}{s:Xe}(h:Xy M A t Q E s)(hQ:∀a s,Q a s->Q' a s):Xy M A t Q' E s:=Qw h hQ λ_ _ x=>x
section
variable {X:Cx}
def Yal(i:Nat):TE:=λO H Q=>∃v,O[i]? =YB (YB v)/\Q v H
def tC(v:V):TE:=λ_ H Q=>Q v H
theorem Z4n{i:Nat}{x:Str}{pos:Pos}(hN:X.N[i]? =YB x)(hv:Vis X.env.scope x)(hd:(x==("__debug__" : Str))=YF:=by decide)(hcd:(x==("__classdict__" : Str))=YF:=by decide):PE X (.Name x pos) (Yal i):=by
 intro pins s O H Q I h;obtain⟨v,e,h⟩:=h;obtain⟨m,hn,hl⟩:=I.loc;obtain⟨u,r,l⟩:=hl i x v hN e hv;have fin:EP X pins O Q u s:=⟨v,H,I,r,h⟩;rcases l with⟨hk,hm⟩|⟨hk,c,hc,hcell⟩
 .exact wpAny_Name (wpAny_loadName_local I.ok.kind hk hn hm fin) hd
 .rcases hk with hk|hk
  .exact wpAny_Name (wpAny_loadName_cell I.ok.kind hk hc hcell fin) hd
  .exact wpAny_Name (wpAny_loadName_free I.ok.kind hk hc hcell fin hcd) hd
theorem Zt0{i j pos}:PE X (.Constant (.int i) j pos) (tC (.int i)):=λ_ _ _ H _ I h=>wpAny_Constant_int ⟨.int i,H,I.tok _,⟨_,rfl⟩,h⟩
theorem Ybf{b j pos}:PE X (.Constant (.bool b) j pos) (tC (.bl b)):=λ_ _ _ H _ I h=>Constant_bool ⟨.bl b,H,I,rfl,h⟩
theorem Z3o{j pos}:PE X (.Constant .none j pos) (tC .non):=λ_ _ _ H _ I h=>Constant_none ⟨.non,H,I,rfl,h⟩
theorem Z3p{x j pos}:PE X (.Constant (.str x) j pos) (tC (.str x)):=λ_ _ _ H _ I h=>Calls.Constant_str ⟨.str x,H,I.tok _,⟨_,rfl⟩,h⟩
def Gl(X:Cx)(x:Str):Prop:=X.env.kindOf x=YB .globalImplicit
theorem Zhx{E:Xd->Xe->Prop}{pins:List (YG×Obj)}{s:Xe}{O:St}{H:Hp}{x:Str}{u:Xd}{pos:Pos}{Q:Xd->Xe->Prop}(I:Inv X pins O H s)(hg:Gl X x)(hm:X.mg x=YB u)(h:Q u s)
  (hd:(x==("__debug__" : Str))=YF:=by decide):Xy (XR X.prog X.w) X.A (eval (.Name x pos) X.env) Q E s :=
 Calls.Name_function_global I.ok.kind hg (Calls.loadGlobal_global (by rw[I.ok.glob];exact I.mod.glob.keeps I.bk) hm h) hd
theorem Ze9{E:Xd->Xe->Prop}{pins:List (YG×Obj)}{s:Xe}{O:St}{H:Hp}{x:Str}{u:Xd}{pos:Pos}{Q:Xd->Xe->Prop}(I:Inv X pins O H s)(hg:Gl X x)(hm:X.mg x=YC)(hv:X4 x=YB u)(h:Q u s)
  (hn:x≠"__name__" :=by decide) (hd:(x==("__debug__" : Str))=YF:=by decide):Xy (XR X.prog X.w) X.A (eval (.Name x pos) X.env) Q E s:=by
 obtain⟨mb,h1,h2⟩:=I.mod.blt;exact Calls.Name_function_global I.ok.kind hg (Calls.loadGlobal_builtin (by rw[I.ok.glob];exact I.mod.glob.keeps I.bk) hm (by rw[I.ok.blt];exact h1.keeps I.bk) ((h2 x hn).trans hv) h) hd
theorem Zbi{x:Str}{v:V}{u:Xd}{pos:Pos}(hg:Gl X x)(hm:X.mg x=YB u)(r:RelV v u)(hd:(x==("__debug__" : Str))=YF:=by decide):PE X (.Name x pos) (tC v) :=
 λ_ _ _ H _ I h=>Zhx I hg hm ⟨v,H,I,r,h⟩ hd
theorem Zsq{x:Str}{v:V}{u:Xd}{pos:Pos}(hg:Gl X x)(hm:X.mg x=YC)(hv:X4 x=YB u)(r:RelV v u)(hn:x≠"__name__" :=by decide)(hd:(x==("__debug__" : Str))=YF:=by decide):PE X (.Name x pos) (tC v) :=
 λ_ _ _ H _ I h=>Ze9 I hg hm hv ⟨v,H,I,r,h⟩ hn hd
def t2I(ta tb:TE)(k:Int->Int->Hp->Prop):St->Hp->Prop:=λO H=>ta O H λx H1=>tb O H1 λy H2=>∃i j,x= .int i/\y= .int j/\k i j H2
variable {a b:YJ}{ta tb:TE}{pos:Pos}
def Z3c(p:Int->Int->Bool)(ta tb:TE):TE:=λO H Q=>t2I ta tb (λi j H2=>Q (.bl (p i j)) H2) O H
abbrev tLt:TE->TE->TE:=Z3c λi j=>decide (i<j)
abbrev tLe:TE->TE->TE:=Z3c λi j=>decide (i<=j)
abbrev tGt:TE->TE->TE:=Z3c λi j=>decide (j<i)
abbrev tGe:TE->TE->TE:=Z3c λi j=>decide (j<=i)
abbrev Yga:TE->TE->TE:=Z3c λi j=>decide (i=j)
abbrev Ygb:TE->TE->TE:=Z3c λi j=>!decide (i=j)
def tB(t:TE):TT:=λO H Q=>t O H λx H1=>∃c,x= .bl c/\Q c H1
variable {tA tB':TT}{rest:List YJ}
def Ye8(t u:TT):TT:=λO H Q=>t O H λc H1=>if c=YD then u O H1 Q else Q YF H1
def tOr(t u:TT):TT:=λO H Q=>t O H λc H1=>if c=YD then Q YD H1 else u O H1 Q
def Yfy(t:TT):TT:=λO H Q=>t O H λc H1=>Q (!c) H1
theorem Z1d(ha:PT X a tA):PW X (.BoolOp .And [a] pos) tA:=by
 intro wh pins s O H Q I h;refine isTrue_and (thn (ha pins s O H Q I h) λc s1 e=>?_);cases c with
 | true=>exact isTrue_and_nil e
 | false=>exact e
theorem Z59(ha:PT X a tA):PW X (.BoolOp .Or [a] pos) tA:=by
 intro wh pins s O H Q I h;refine isTrue_or (thn (ha pins s O H Q I h) λc s1 e=>?_);cases c with
 | false=>exact isTrue_or_nil e
 | true=>exact e
theorem Z4t(ha:PT X a tA)(hb:PW X (.BoolOp .And (b::rest) pos) tB'):PW X (.BoolOp .And (a::b::rest) pos) (Ye8 tA tB'):=by
 intro wh pins s O H Q I h;refine isTrue_and (thn (ha pins s O H _ I h) λc s1 qz9=>?_);obtain⟨H1,I1,q1⟩:=qz9;cases c with
 | true=>exact hb wh pins s1 O H1 Q I1 q1
 | false=>exact⟨H1,I1,q1⟩
theorem Yb9(ha:PT X a tA)(hb:PW X (.BoolOp .Or (b::rest) pos) tB'):PW X (.BoolOp .Or (a::b::rest) pos) (tOr tA tB'):=by
 intro wh pins s O H Q I h;refine isTrue_or (thn (ha pins s O H _ I h) λc s1 qz9=>?_);obtain⟨H1,I1,q1⟩:=qz9;cases c with
 | true=>exact⟨H1,I1,q1⟩
 | false=>exact hb wh pins s1 O H1 Q I1 q1
theorem Z6b(ha:PT X a tA):PT X (.UnaryOp .Not a pos) (Yfy tA):=by
 intro pins s O H Q I h;exact isTrue_not (ha pins s O H (λc H1=>Q (!c) H1) I h)
def Yaf(ta tb:TE):TE:=λO H Q=>ta O H λx H1=>∃c,x= .bl c/\if c=YD then tb O H1 Q else Q (.bl YF) H1
def Ya2(ta:TE):TE:=λO H Q=>ta O H λx H1=>∃c,x= .bl c/\Q (.bl (!c)) H1
theorem Z7g{op}{t:TE}(h:PE X a t):PE X (.BoolOp op [a] pos) t:=λpins s O H Q I hw=>BoolOp_one (h pins s O H Q I hw)
theorem Z5k(ha:PE X a ta)(hb:PE X (.BoolOp .And (b::rest) pos) tb):PE X (.BoolOp .And (a::b::rest) pos) (Yaf ta tb):=by
 intro pins s O H Q I h;refine BoolOp_and (thn (ha pins s O H _ I h) λv s1 qz9=>?_);obtain⟨x,H1,I1,r1,q1⟩:=qz9;obtain⟨c,rfl,q1⟩:=q1;cases r1;refine Vo ?_;cases c with
 | true=>exact hb pins s1 O H1 Q I1 q1
 | false=>exact⟨.bl YF,H1,I1,rfl,q1⟩
theorem Z6f(ha:PE X a ta):PE X (.UnaryOp .Not a pos) (Ya2 ta):=by
 intro pins s O H Q I h;refine UnaryOp_ (thn (ha pins s O H _ I h) λv s1 qz9=>?_);obtain⟨x,H1,I1,r1,q1⟩:=qz9;obtain⟨c,rfl,q1⟩:=q1;cases r1;exact not_of (Vo ⟨.bl (!c),H1,I1,rfl,q1⟩)
def tIf(t:TT)(ta tb:TE):TE:=λO H Q=>t O H λc H1=>if c=YD then ta O H1 Q else tb O H1 Q
theorem Zvx{c:YJ}(hc:PT X c tA)(ha:PE X a ta)(hb:PE X b tb):PE X (.IfExp c a b pos) (tIf tA ta tb):=by
 intro pins s O H Q I h;refine wpAny_IfExp (thn (hc pins s O H _ I h) λd s1 qz9=>?_);obtain⟨H1,I1,q1⟩:=qz9;cases d with
 | true=>exact ha pins s1 O H1 Q I1 q1
 | false=>exact hb pins s1 O H1 Q I1 q1
end
def SqL(K:Xc)(H:Hp)(a:YG)(xs:List V):Prop :=
 Rd H a (.lst xs)\/
  ∃(o:Obj) (its:Array Xd) (n:Nat),K.lookup a=YB o/\o.cls= .type "list"/\o.dict=YC/\o.data= .seq its n/\its.size<=Xw/\Vals xs its.toList
def SqT(K:Xc)(H:Hp)(a:YG)(xs:List V):Prop :=
 Rd H a (.tup xs)\/
  ∃(o:Obj) (its:Array Xd) (n:Nat),K.lookup a=YB o/\o.cls= .type "tuple"/\o.data= .seq its n/\its.size<=Xw/\Vals xs its.toList
def Yf1:Xd->Option V
 | .none=>YB .non
 | .bool b=>YB (.bl b)
 | .int i _=>YB (.int i)
 | .str x _=>YB (.str x)
 | .bytes b _=>YB (.byt b)
 | .float b _=>YB (.flt b)
 | .ref a=>YB (.ref a)
 | .type n=>YB (.ty n)
 | _=>YC
theorem RelV.abs{x:V}{u:Xd}(r:RelV x u):Yf1 u=YB x:=by
 cases x with
 | non=>cases r;rfl
 | bl _=>cases r;rfl
 | int _=>obtain⟨t,rfl⟩:=r;rfl
 | str _=>obtain⟨t,rfl⟩:=r;rfl
 | byt _=>obtain⟨t,rfl⟩:=r;rfl
 | flt _=>obtain⟨t,rfl⟩:=r;rfl
 | ref _=>cases r;rfl
 | ty _=>cases r;rfl
theorem RelV.inj{x y:V}{u:Xd}(r:RelV x u)(q:RelV y u):x=y:=QK (r.abs.symm.trans q.abs)
theorem Vals.inj{xs ys:List V}{us:List Xd}(h:Vals xs us)(k:Vals ys us):xs=ys:=by
 induction h generalizing ys with
 | nil=>cases k;rfl
 | cons r t ih=>
  cases k with
  | cons r' t'=>rw[r.inj r',ih t']
section
variable {X:Cx}{pins:List (YG×Obj)}{O:St}{H:Hp}{s:Xe}{a:YG}{xs ys:List V}
theorem Inv.list(I:Inv X pins O H s)(h:SqL X.K H a xs):∃its:List Xd,Vals xs its/\PlainL s.heap a its.toArray/\xs.length<=Xw:=by
 rcases h with h|⟨o,its,n,hk,hc,hd,hs,hz,r⟩
 .obtain⟨z,its,n,r,e⟩:=h.ok I.hok
  exact⟨its,r,⟨_,n,e,rfl,rfl,rfl⟩,z⟩
 .refine⟨its.toList,r,⟨o,n,I.kIn a o hk,hc,hd,by simpa using hs⟩,?_⟩
  have e:=r.length;simp only[X5]at e;omega
theorem Inv.tuple(I:Inv X pins O H s)(h:SqT X.K H a xs):∃its:List Xd,Vals xs its/\IsTup s.heap a its.toArray/\xs.length<=Xw:=by
 rcases h with h|⟨o,its,n,hk,hc,hs,hz,r⟩
 .obtain⟨z,its,r,p⟩:=h.ok I.hok
  exact⟨its,r,p,z⟩
 .refine⟨its.toList,r,⟨o,I.kIn a o hk,hc,n,by simpa using hs⟩,?_⟩
  have e:=r.length;simp only[X5]at e;omega
theorem Inv.list_inj(I:Inv X pins O H s)(h:SqL X.K H a xs)(h':SqL X.K H a ys):xs=ys:=by
 obtain⟨its,r,⟨o,n,e,_,_,d⟩,_⟩:=I.list h;obtain⟨its',r',⟨o',n',e',_,_,d'⟩,_⟩:=I.list h';rw[e]at e';cases e';rw[d]at d';injection d' with d1 _;have:its=its':=by simpa using YT Array.toList d1
 subst this;exact r.inj r'
theorem Inv.tuple_inj(I:Inv X pins O H s)(h:SqT X.K H a xs)(h':SqT X.K H a ys):xs=ys:=by
 obtain⟨its,r,⟨o,e,_,n,d⟩,_⟩:=I.tuple h;obtain⟨its',r',⟨o',e',_,n',d'⟩,_⟩:=I.tuple h';rw[e]at e';cases e';rw[d]at d';injection d' with d1 _;have:its=its':=by simpa using YT Array.toList d1
 subst this;exact r.inj r'
end
abbrev Cx.wish(X:Cx)(E:Xd->Xe->Prop):Cx:={ X with xe:=E }
abbrev Cx.nox(X:Cx):Cx:=X.wish λ_ _=>False
theorem Cx.Ok.wish{X:Cx}(ok:X.Ok)(E:Xd->Xe->Prop):(X.wish E).Ok :=
 ⟨ok.mod,ok.kind,ok.glob,ok.blt,ok.above,ok.inj,ok.has,ok.cab,ok.hd,ok.frames,ok.stk,ok.exf,ok.bs,ok.bsz,ok.noex,ok.exfs,ok.funs,ok.frf⟩
theorem Cx.Ok.unwish{X:Cx}{E:Xd->Xe->Prop}(ok:(X.wish E).Ok):X.Ok :=
 ⟨ok.mod,ok.kind,ok.glob,ok.blt,ok.above,ok.inj,ok.has,ok.cab,ok.hd,ok.frames,ok.stk,ok.exf,ok.bs,ok.bsz,ok.noex,ok.exfs,ok.funs,ok.frf⟩
section
variable {X:Cx}{pins:List (YG×Obj)}{O:St}{H:Hp}{s:Xe}{E:Xd->Xe->Prop}
theorem Inv.wish(I:Inv X pins O H s)(E:Xd->Xe->Prop):Inv (X.wish E) pins O H s:=⟨I.ok.wish E,I.os,I.bare,I.base,I.loc,I.cell,I.free,I.freeC,I.pin,I.hok,I.len⟩
theorem Inv.unwish(I:Inv (X.wish E) pins O H s):Inv X pins O H s:=⟨I.ok.unwish,I.os,I.bare,I.base,I.loc,I.cell,I.free,I.freeC,I.pin,I.hok,I.len⟩
theorem SP.unwish{D:Ends}{f:Flow}{s':Xe}(h:SP (X.wish E) pins D f s'):SP X pins D f s':=by
 cases f with
 | next=>obtain⟨O',H',I,q⟩:=h;exact⟨O',H',I.unwish,q⟩
 | brk=>obtain⟨O',H',I,q⟩:=h;exact⟨O',H',I.unwish,q⟩
 | cont=>obtain⟨O',H',I,q⟩:=h;exact⟨O',H',I.unwish,q⟩
 | ret u=>obtain⟨v,O',H',I,r,q⟩:=h;exact⟨v,O',H',I.unwish,r,q⟩
theorem PSs.nox{st:List YK}{t:TS}(h:PSs X.nox st t):PSs X st t:=λpins s O H D I hw=>
 Qw (h pins s O H D (I.wish _) hw) (λ_ _ q=>q.unwish) λ_ _ z=>Vc z
end
section
variable {X:Cx}{st:YK}{rest:List YK}{t u:TS}{e:YJ}{te:TE}{pos:Pos}
def Ybz:TS:=λD O H=>D.nx O H
def Yf8(t u:TS):TS:=λD O H=>t { D with nx:=u D } O H
theorem Z2x:PSs X [] Ybz:=λ_ _ O H _ I h=>U9 ⟨O,H,I,h⟩
theorem Zvi(h1:PS X st t)(h2:PSs X rest u):PSs X (st::rest) (Yf8 t u):=by
 intro pins s O H D I h;refine wpAny_execs_cons (thn (h1 pins s O H { D with nx:=u D } I h) λf s1 q=>?_);cases f with
 | next=>
  obtain⟨O',H',I',q⟩:=q;exact h2 pins s1 O' H' D I' q
 | ret v=>exact q
 | brk=>exact q
 | cont=>exact q
theorem Zrj(h1:PS X st t):PSs X [st] t:=by
 intro pins s O H D I h;refine wpAny_execs_cons (thn (h1 pins s O H D I h) λf s1 q=>?_);cases f with
 | next=>exact U9 q
 | ret v=>exact q
 | brk=>exact q
 | cont=>exact q
theorem Inv.quiet{pins:List (YG×Obj)}{O:St}{H:Hp}{s:Xe}(I:Inv X pins O H s):interactive X.env=YF:=by simp[interactive,I.ok.kind]
def Yas(te:TE):TS:=λD O H=>te O H λ_ H1=>D.nx O H1
theorem Zjk(he:PE X e te)(hs:Vn e YC pos.line X.env=pure YF:=by rfl):PS X (.Expr e pos) (Yas te):=by
 intro pins s O H D I h;refine wpAny_Expr_any (thn (he pins s O H _ I h) λv s1 qz9=>?_) I.quiet hs;obtain⟨x,H1,I1,r1,q1⟩:=qz9;exact⟨O,H1,I1,q1⟩
def Yfz(te:TE):TS:=λD O H=>te O H D.rt
theorem Zq1(he:PE X e te):PS X (.Return (YB e) pos) (Yfz te):=by
 intro pins s O H D I h;refine wpAny_Return_some (thn (he pins s O H _ I h) λv s1 qz9=>?_);obtain⟨x,H1,I1,r1,q1⟩:=qz9;exact⟨x,O,H1,I1,r1,q1⟩
def Yfq(c:TT)(t u:TS):TS:=λD O H=>c O H λb H1=>if b=YD then t D O H1 else u D O H1
theorem Z9v{c:YJ}{a b:List YK}{tc:TT}(hc:PT X c tc)(ha:PSs X a t)(hb:PSs X b u):PS X (.If c a b pos) (Yfq tc t u):=by
 intro pins s O H D I h;refine wpAny_If (thn (hc pins s O H _ I h) λd s1 qz9=>?_);obtain⟨H1,I1,q1⟩:=qz9;cases d with
 | true=>exact ha pins s1 O H1 D I1 q1
 | false=>exact hb pins s1 O H1 D I1 q1
def Z5w:TS:=λ_ _ _=>False
theorem Zxe:PS X st Z5w:=λ_ _ _ _ _ _ h=>h.elim
end
abbrev TG:=V->St->Hp->(St->Hp->Prop)->Prop
abbrev TGs:=List V->St->Hp->(St->Hp->Prop)->Prop
def PG(X:Cx)(target:YJ)(t:TG):Prop :=
 ∀(pins:List (YG×Obj)) (s:Xe) (O:St) (H:Hp) (v:V) (u:Xd) (Q:St->Hp->Prop),Inv X pins O H s->RelV v u->t v O H Q ->
  Xy (XR X.prog X.w) X.A (Ut target X.env u) (λ_ s'=>∃O' H',Inv X pins O' H' s'/\Q O' H') X.xe s
def PGs(X:Cx)(ts:List YJ)(t:TGs):Prop :=
 ∀(pins:List (YG×Obj)) (s:Xe) (O:St) (H:Hp) (vs:List V) (us:List Xd) (Q:St->Hp->Prop),Inv X pins O H s->Vals vs us->t vs O H Q ->
  Xy (XR X.prog X.w) X.A (assignInOrder ((JH ts X.env).map (·.2)) us) (λ_ s'=>∃O' H',Inv X pins O' H' s'/\Q O' H') X.xe s
abbrev Z93:=V->V->V->Hp->(Hp->Prop)->Prop
def Ydq(X:Cx)(t:Z93):Prop :=
 ∀(pins:List (YG×Obj)) (s:Xe) (O:St) (H:Hp) (o i v:V) (ov iv u:Xd) (Q:Hp->Prop),Inv X pins O H s->RelV o ov->RelV i iv->RelV v u->t o i v H Q ->
  Xy (XR X.prog X.w) X.A (setItem ov iv u) (λ_ s'=>∃H',Inv X pins O H' s'/\Q H') X.xe s
abbrev TIp:=V->V->Hp->VK->Prop
section
variable {X:Cx}{pos:Pos}
def Zt2(i:Nat):TG:=λv O H Q=>Q (O.set i (YB v)) H
theorem Zmo{i:Nat}{x:Str}(hN:X.N.Nodup)(hi:X.N[i]? =YB x)(hx:Loc X.env.scope x)(hf:X.fn x=YD\/X.env.scope.names.lookup x=YB .local:=by first|exact .inl rfl|exact .inr rfl|assumption):PG X (.Name x pos) (Zt2 i):=by
 intro pins s O H v u Q I r h;exact wpAny_assign_Name (Zkq I hN hi hx r (λs' I'=>⟨_,H,I',h⟩) hf)
def Yfv:TGs:=λvs O H Q=>vs=[]/\Q O H
def Yce(t:TG)(u:TGs):TGs:=λvs O H Q=>∃v r,vs=v::r/\t v O H λO' H'=>u r O' H' Q
theorem Zzs:PGs X [] Yfv:=by
 intro pins s O H vs us Q I r h;obtain⟨e,h⟩:=h;subst e;cases r;exact assignInOrder_nil ⟨O,H,I,h⟩
theorem Zn7{e:YJ}{es:List YJ}{t:TG}{u:TGs}(h1:PG X e t)(h2:PGs X es u)
  (hs:(JH (e::es) X.env).map (·.2)=Ut e X.env::(JH es X.env).map (·.2):=by rfl):PGs X (e::es) (Yce t u):=by
 intro pins s O H vs us Q I r h;obtain⟨v,vr,e1,h⟩:=h;subst e1;cases r with
 | cons r rr=>
  rw[hs];refine assignInOrder_cons (thn (h1 pins s O H _ _ _ I r h) λ_ s1 qz9=>?_);obtain⟨O1,H1,I1,q1⟩:=qz9;exact h2 pins s1 O1 H1 _ _ Q I1 rr q1
def Yfx(K:Xc)(n:Nat)(t:TGs):TG:=λv O H Q=>∃a xs,v= .ref a/\SqT K H a xs/\xs.length=n/\t xs O H Q
theorem Z6h{es:List YJ}{k:Nat}{t:TGs}{n:Nat}(hc:X.calm=YD)(h:PGs X es t)
  (hn:(JH es X.env).length=n:=by rfl) (hst:(JH es X.env).findIdx? (·.1)=YC:=by rfl):PG X (.Tuple es k pos) (Yfx X.K n t):=by
 intro pins s O H v u Q I r hw;obtain⟨a,xs,e1,hq,hl,hw⟩:=hw;subst e1;cases r;obtain⟨its,rv,ht,hz⟩:=I.tuple hq;refine assign_Tuple_tuple (I.ok.hd hc) ht (by simp[hn,<-hl,rv.length]) hst λh' hx=>?_;have I1:Inv X pins O H { s with heap:=h' }:=I.kept (t':=s.toks) λb o e=>hx b o (Xq (Xz e)) e;exact h pins _ O H xs _ Q I1 (by simpa using rv) hw
def Ybt(to ti:TE)(t:Z93):TG:=λv O H Q=>to O H λo H1=>ti O H1 λi H2=>t o i v H2 λH3=>Q O H3
theorem Zy7{o i:YJ}{to ti:TE}{t:Z93}(ho:PE X o to)(hi:PE X i ti)(hs:Ydq X t)
  (ha:∀v,Ut (.Subscript o i pos) X.env v=(do
   let ov<-holding [v] (eval o X.env);let iv<-holding [v,ov] (eval i X.env)
   standAt pos
   holding [v,ov,iv] (setItem ov iv v)
   release [v,ov,iv] []):=by intro _;rfl):PG X (.Subscript o i pos) (Ybt to ti t):=by
 intro pins s O H v u Q I r h;rw[ha];refine Xb (BK (thn (ho pins s O H _ I h) λov s1 qz9=>?_));obtain⟨x,H1,I1,r1,q1⟩:=qz9;refine Xb (BK (thn (hi pins s1 O H1 _ I1 q1) λiv s2 qz9=>?_));obtain⟨y,H2,I2,r2,q2⟩:=qz9;refine Xb (wpAny_standAt (Xb (BK (thn (hs pins s2 O H2 x y v ov iv u _ I2 r1 r2 r q2) λ_ s3 qz9=>?_))));obtain⟨H3,I3,q3⟩:=qz9;exact wpAny_release ⟨O,H3,I3,q3⟩
def Z6c(te:TE)(g:TG):TS:=λD O H=>te O H λx H1=>g x O H1 D.nx
theorem Zxt{tg e:YJ}{te:TE}{g:TG}(he:PE X e te)(hg:PG X tg g)(hs:swapsWithSole [tg] e pos.line X.env=pure YF:=by rfl)(hw:swappedStores [tg] e X.env=pure YC:=by rfl)
  (h1:(JH [tg] X.env).map (·.2)=[Ut tg X.env]:=by rfl):PS X (.Assign [tg] e pos) (Z6c te g):=by
 intro pins s O H D I h;refine wpAny_Assign_stores (thn (he pins s O H _ I h) λv s1 qz9=>?_) hs hw;obtain⟨x,H1,I1,r1,q1⟩:=qz9;rw[h1];exact thn (hg pins s1 O H1 x v _ I1 r1 q1) λ_ s2 q=>q
theorem Zxk{i:Nat}{x:Str}{e:YJ}{te:TE}{pos':Pos}(hN:X.N.Nodup)(hi:X.N[i]? =YB x)(hx:Loc X.env.scope x)(he:PE X e te)(hs:Vn e (YB (.Name x pos')) pos.line X.env=pure YF:=by rfl)(hf:X.fn x=YD\/X.env.scope.names.lookup x=YB .local:=by first|exact .inl rfl|exact .inr rfl|assumption) :
  PS X (.Assign [.Name x pos'] e pos) (Z6c te (Zt2 i)):=by
 intro pins s O H D I h;refine wpAny_Assign_Name (thn (he pins s O H _ I h) λv s1 qz9=>?_) hs;obtain⟨y,H1,I1,r1,q1⟩:=qz9;exact Zkq I1 hN hi hx r1 (λs2 I2=>⟨_,H1,I2,q1⟩) hf
end
end L2
open PySem PySem.Spec L2
variable {a:YG}{X:Cx}{e b tg:YJ}{h h':YH}{H H' H1 H2:Hp}{pins:List (YG×Obj)}{ch:List YG}{es:List YJ}{body:List YK}{N:List Str}{xs ys:List V}{us:List Xd}{M:Model}{i t' j:Nat}{o:Obj}{pos pos':Pos}{A:Qk}{w:Qp}{st:YK}{x:Str}{ta tb te to:TE}{κ Y β:Type}{v:V}{P:X6}{u:Xd}{E Q:Xd->Xe->Prop}{s s':Xe}
namespace L2
open PySem PySem.Spec PyProof.Rows
def Z68(c:TT)(tb:TS):TS:=λD O H=>∃W:Nat->St->Hp->Prop,(∃m,W m O H)/\∀m O H,W m O H ->
 c O H λb H1=>if b=YD then∃N:St->Hp->Prop,(∀O' H',N O' H'->∃m',m'<m/\W m' O' H')/\tb { D with nx:=N,ct:=N,bk:=D.nx } O H1 else D.nx O H1
theorem Zwx{c:YJ}{tc:TT}{tb:TS}(hp:PassesOwn (XR X.prog X.w) X.A X.env X.xe)(hc:PT X c tc)(hb:PSs X body tb):PS X (.While c body [] pos) (Z68 tc tb):=by
 intro pins s O H D I h;obtain⟨W,⟨m0,w0⟩,turn⟩:=h;refine wpAny_While (codeAny_whileLoop (λn s'=>∃O' H',Inv X pins O' H' s'/\W n O' H') ?_ m0 ⟨O,H,I,w0⟩);rintro n s1 ⟨O1,H1,I1,w1⟩;refine JR hp (thn (hc pins s1 O1 H1 _ I1 (turn n O1 H1 w1)) λb s2 qz9=>?_);obtain⟨H2,I2,q2⟩:=qz9;cases b with
 | true=>
  obtain⟨N,hN,q2⟩:=q2;rw[YL rfl];refine JR hp (thn (hb pins s2 O1 H2 _ I2 q2) λf s3 q3=>?_);cases f with
  | next=>
   obtain⟨O3,H3,I3,n3⟩:=q3;obtain⟨m',hm,w3⟩:=hN O3 H3 n3;exact⟨m',hm,O3,H3,I3,w3⟩
  | cont=>
   obtain⟨O3,H3,I3,n3⟩:=q3;obtain⟨m',hm,w3⟩:=hN O3 H3 n3;exact⟨m',hm,O3,H3,I3,w3⟩
  | brk=>exact q3
  | ret v=>exact q3
 | false=>
  rw[YM XC];exact U9 ⟨O1,H2,I2,q2⟩
set_option genInjectivity false in
structure It where
 go:Nat->Hp->Prop
 yld:Nat->Hp->V->Hp->Prop
 stop:Nat->Hp->Prop
def Zi4(X:Cx)(pins:List (YG×Obj))(H:Hp)(b:YG):Prop :=
 H b=YC/\b≠X.env.locals/\b∉X.fs/\(b∈X.ex\/X.s₀.heap.objs.size<=b)/\(∀x c,X.env.cells.lookup x=YB c->c≠b)/\∀p∈X.pn++pins,p.1≠b
theorem Inv.fpOk{O:St}{b:YG}(I:Inv X pins O H s)(hb:s.heap.objs.size<=b)(hn:H' b=YC):Zi4 X pins H' b:=by
 refine⟨hn,XD (X8 I.lt hb),I.nofs hb,.inr (Q7 I.sz hb),λx c e z=>?_,λp hp z=>?_⟩
 .obtain⟨v,q⟩:=I.cell x c e
  exact YX (X8 q.lt (by rw[z];exact hb)) (BX _)
 .exact YX (X8 (Xz (I.pin p hp).1) (by rw[z];exact hb)) (BX _)
structure Turn(P:X6)(w:Qp)(K:Xc)(tg:YJ)(J:It)(fp:List YG)(it:YG)(tn:Nat->YH->Prop):Prop where
 mem:it∈fp
 obj:∀i h,tn i h->∀b∈fp,∃o,h.get? b=YB o/\∀v,o.data≠ .cell v
 keep:∀i h h',tn i h->(∀b∈fp,∀o,h.get? b=YB o->h'.get? b=YB o)->tn i h'
 item:∀(X:Cx),X.prog=P->X.w=w->X.K=K->X.calm=YD->∀(i:Nat) (pins:List (YG×Obj)) (s:Xe) (O:St) (H:Hp) (E:Xd->Xe->Prop),Inv X pins O H s->(∀b∈fp,Zi4 X pins H b)->tn i s.heap->J.go i H ->
  Xy (XR P w) X.A (V7 (.ref it)) (λr s1=>∃u,r=YB u/\
   Xy (XR P w) X.A (letOwnedTupleGo tg (.ref it) u) (λ_ s2=>∃x H',Inv X pins O H' s2/\RelV x u/\J.yld i H x H'/\tn (i+1) s2.heap/\∀b∈fp,H' b=YC) E s1) E s
 done:∀(X:Cx),X.prog=P->X.w=w->X.K=K->X.calm=YD->∀(i:Nat) (pins:List (YG×Obj)) (s:Xe) (O:St) (H:Hp) (E:Xd->Xe->Prop),Inv X pins O H s->(∀b∈fp,Zi4 X pins H b)->tn i s.heap->J.stop i H ->
  Xy (XR P w) X.A (V7 (.ref it)) (λr s1=>r=YC/\Inv X pins O H s1) E s
 self:∀(A:Qk) (i:Nat) (s:Xe) (Q:Xd->Xe->Prop) (E:Xd->Xe->Prop),tn i s.heap->Q (.ref it) s->Xy (XR P w) A (pyIter (.ref it)) Q E s
abbrev TI:=St->Hp->(It->Hp->Prop)->Prop
def PIE(X:Cx)(pins:List (YG×Obj))(O:St)(tg:YJ)(R:It->Hp->Prop)(itv:Xd)(s2:Xe):Prop :=
 ∃(it:YG) (fp:List YG) (tn:Nat->YH->Prop) (J:It) (H':Hp),itv= .ref it/\Inv X pins O H' s2/\Turn X.prog X.w X.K tg J fp it tn/\tn 0 s2.heap/\(∀b∈fp,Zi4 X pins H' b)/\R J H'
def PI(X:Cx)(tg iter:YJ)(wi:TI):Prop :=
 ∀(pins:List (YG×Obj)) (s:Xe) (O:St) (H:Hp) (R:It->Hp->Prop),Inv X pins O H s->wi O H R ->
  Xy (XR X.prog X.w) X.A (eval iter X.env) (λv s1=>Xy (XR X.prog X.w) X.A (pyIter v) (PIE X pins O tg R) X.xe s1) X.xe s
theorem Z06{it:YG}{n:String}{vs:Array Xd}{Q:Unit->Xe->Prop}(ho:s.heap.get? it=YB o)(hc:o.cls= .type n)(hd:o.data= .fields vs)
  (hn:["enumerate","zip","dict_itemiterator","dict_reverseitemiterator","odict_iterator","itertools.zip_longest","itertools.pairwise"].contains n=YF) (hQ:Q () s):Xy M A (letOwnedTupleGo tg (.ref it) u) Q E s:=by
 unfold letOwnedTupleGo;cases tg<;>first
  | exact Xo hQ
  | (cases u<;>first
    | exact Xo hQ
    | (refine Xb (wpAny_load ho ?_)
       rw[hc,hd];show Xy M A (if(["enumerate","zip","dict_itemiterator","dict_reverseitemiterator","odict_iterator","itertools.zip_longest","itertools.pairwise"].contains n&&vs[0]? ==YB (JD _))=YD then _ else _) Q E s;rw[YM (by intro h;rw[hn,Bool.false_and]at h;cases h)];exact Xo hQ))
def Itl(K:Xc)(a:YG):It :=
 ⟨λi H=>∃xs x,SqL K H a xs/\xs[i]? =YB x,λi H x H'=>H'=H/\∀xs,SqL K H a xs->xs[i]? =YB x,λi H=>∃xs,SqL K H a xs/\xs.length<=i⟩
def Itt(K:Xc)(a:YG):It :=
 ⟨λi H=>∃xs x,SqT K H a xs/\xs[i]? =YB x,λi H x H'=>H'=H/\∀xs,SqT K H a xs->xs[i]? =YB x,λi H=>∃xs,SqT K H a xs/\xs.length<=i⟩
def Itr(lo:Int)(n:Nat):It:=⟨λi _=>i<n,λi H x H'=>H'=H/\x= .int (lo+i),λi _=>n<=i⟩
theorem Zsy{K:Xc}(a it:YG):Turn P w K tg (Itl K a) [it] it (λi h=>h.IsListIter it a i) where
 mem:=by simp
 obj:=λi h st b hb=>by
  have e:b=it:=by simpa using hb
  subst e;obtain⟨o,e,c,d⟩:=st;exact⟨o,e,λv z=>by rw[d]at z;cases z⟩
 keep:=λi h h' st k=>st.at λo e=>k it (by simp) o e
 item:=by
  intro X hP hw hK hc i pins s O H E I hf st hg;subst hP hw hK;obtain⟨xs,x,hq,hx⟩:=hg;obtain⟨its,rv,p,hz⟩:=I.list hq;obtain⟨u,hu,ru⟩:=rv.get hx;obtain⟨f0,f1,f2,f3,f4,f5⟩:=hf it (by simp);refine wpAny_pyNext_list_item st p.isList (x:=u) (by simpa using hu) λh' st' sb=>?_;have I1:Inv X pins O H { s with heap:=h' }:=I.turned (t':=s.toks) (λb o hb e=>(sb.2 b hb).trans e) f0 f1 f3 f4 f5;obtain⟨o,e,c,d⟩:=id st';exact⟨u,rfl,Z06 (s:={ s with heap:=h' }) e c d (by decide) ⟨x,H,I1,ru,⟨rfl,λys hy=>by rw[I.list_inj hy hq];exact hx⟩,st',λb hb=>(hf b hb).1⟩⟩
 done:=by
  intro X hP hw hK hc i pins s O H E I hf st hg;subst hP hw hK;obtain⟨xs,hq,hx⟩:=hg;obtain⟨its,rv,p,hz⟩:=I.list hq;obtain⟨f0,f1,f2,f3,f4,f5⟩:=hf it (by simp);have hl:=rv.length;exact wpAny_pyNext_list_end (I.ok.hd hc) st p.isList (by simp;omega) λh' eb=>⟨rfl,I.turned (t':=s.toks) (λb o hb e=>eb b o hb e) f0 f1 f3 f4 f5⟩
 self:=λ_ _ _ _ _ st h=>wpAny_pyIter_listiter st h
theorem Zpg{K:Xc}(a it:YG):Turn P w K tg (Itt K a) [it] it (λi h=>h.IsTupleIter it a i) where
 mem:=by simp
 obj:=λi h st b hb=>by
  have e:b=it:=by simpa using hb
  subst e;obtain⟨o,e,c,d⟩:=st;exact⟨o,e,λv z=>by rw[d]at z;cases z⟩
 keep:=λi h h' st k=>st.at λo e=>k it (by simp) o e
 item:=by
  intro X hP hw hK hc i pins s O H E I hf st hg;subst hP hw hK;obtain⟨xs,x,hq,hx⟩:=hg;obtain⟨its,rv,p,hz⟩:=I.tuple hq;obtain⟨u,hu,ru⟩:=rv.get hx;obtain⟨f0,f1,f2,f3,f4,f5⟩:=hf it (by simp);refine wpAny_pyNext_tuple_item st (show s.heap.IsTuple a its.toArray from p) (x:=u) (by simpa using hu) λh' st' sb=>?_;have I1:Inv X pins O H { s with heap:=h' }:=I.turned (t':=s.toks) (λb o hb e=>(sb.2 b hb).trans e) f0 f1 f3 f4 f5;obtain⟨o,e,c,d⟩:=id st';exact⟨u,rfl,Z06 (s:={ s with heap:=h' }) e c d (by decide) ⟨x,H,I1,ru,⟨rfl,λys hy=>by rw[I.tuple_inj hy hq];exact hx⟩,st',λb hb=>(hf b hb).1⟩⟩
 done:=by
  intro X hP hw hK hc i pins s O H E I hf st hg;subst hP hw hK;obtain⟨xs,hq,hx⟩:=hg;obtain⟨its,rv,p,hz⟩:=I.tuple hq;obtain⟨f0,f1,f2,f3,f4,f5⟩:=hf it (by simp);have hl:=rv.length;exact wpAny_pyNext_tuple_end (I.ok.hd hc) st (show s.heap.IsTuple a its.toArray from p) (by simp;omega) λh' eb=>⟨rfl,I.turned (t':=s.toks) (λb o hb e=>eb b o hb e) f0 f1 f3 f4 f5⟩
 self:=λ_ _ _ _ _ st h=>wpAny_pyIter_tupleiter st h
theorem Zqe{K:Xc}(it:YG)(lo:Int)(n:Nat):Turn P w K tg (Itr lo n) [it] it (λi h=>IsRangeIter h it (lo+(i:Nat)*1) ((n:Int)-(i:Nat)) 1) where
 mem:=by simp
 obj:=λi h st b hb=>by
  have e:b=it:=by simpa using hb
  subst e;exact⟨_,st,λv z=>by
   have z':Data.fields _=Data.cell v:=z;cases z'⟩
 keep:=λi h h' st k=>k it (by simp) _ st
 item:=by
  intro X hP hw hK hc i pins s O H E I hf st hg;subst hP hw hK;obtain⟨f0,f1,f2,f3,f4,f5⟩:=hf it (by simp);have W:=Walks.range (prog:=X.prog) (w:=X.w) (I.ok.hd hc) it lo 1 n;refine W.item i s _ _ hg st λv h' tk hv st' kk=>?_;obtain⟨t,rfl⟩:=hv;have I1:Inv X pins O H { s with heap:=h',toks:=tk }:=I.turned (λb o hb e=>kk b o (by simpa using hb) e) f0 f1 f3 f4 f5;refine⟨_,rfl,Z06 (s:={ s with heap:=h',toks:=tk }) (n :="range_iterator") st' rfl rfl (by decide) ⟨.int (lo+i),H,I1,⟨t,?_⟩,⟨rfl,rfl⟩,st',λb hb=>(hf b hb).1⟩⟩;rw[Int.mul_one]
 done:=by
  intro X hP hw hK hc i pins s O H E I hf st hg;subst hP hw hK;obtain⟨f0,f1,f2,f3,f4,f5⟩:=hf it (by simp);exact wpAny_pyNext_range_end (I.ok.hd hc) st (by have:n<=i:=hg;omega) λh' eb=>⟨rfl,I.turned (t':=s.toks) (λb o hb e=>eb b o hb e) f0 f1 f3 f4 f5⟩
 self:=λ_ _ _ _ _ st h=>wpAny_pyIter_rangeiter st h
def Z5t(K:Xc)(tl:TE):TI:=λO H R=>tl O H λx H1=>∃a,x= .ref a/\(∃xs,SqL K H1 a xs)/\R (Itl K a) H1
def Yc5(K:Xc)(tl:TE):TI:=λO H R=>tl O H λx H1=>∃a,x= .ref a/\(∃xs,SqT K H1 a xs)/\R (Itt K a) H1
theorem Zq5{l:YJ}{tl:TE}(hl:PE X l tl):PI X tg l (Z5t X.K tl):=by
 intro pins s O H R I h;refine thn (hl pins s O H _ I h) λv s1 qz9=>?_;obtain⟨x,H1,I1,r1,q1⟩:=qz9;obtain⟨a,e,⟨xs,hq⟩,q⟩:=q1;subst e;cases r1;obtain⟨its,rv,p,hz⟩:=I1.list hq;refine wpAny_pyIter_list p.isList ?_;refine⟨s1.heap.objs.size,[s1.heap.objs.size],_,_,H1,rfl,I1.kept (t':=s1.toks) λb o e=>Xf _ e,Zsy a _,⟨_,Xx _ rfl,rfl,rfl⟩,λb hb=>?_,q⟩;have e:b=s1.heap.objs.size:=by simpa using hb
 subst e;exact I1.fpOk (XQ _) (I1.hok.fresh (XQ _))
theorem Z4o{l:YJ}{tl:TE}(hl:PE X l tl):PI X tg l (Yc5 X.K tl):=by
 intro pins s O H R I h;refine thn (hl pins s O H _ I h) λv s1 qz9=>?_;obtain⟨x,H1,I1,r1,q1⟩:=qz9;obtain⟨a,e,⟨xs,hq⟩,q⟩:=q1;subst e;cases r1;obtain⟨its,rv,p,hz⟩:=I1.tuple hq;refine wpAny_pyIter_tuple (show s1.heap.IsTuple a its.toArray from p) ?_;refine⟨s1.heap.objs.size,[s1.heap.objs.size],_,_,H1,rfl,I1.kept (t':=s1.toks) λb o e=>Xf _ e,Zpg a _,⟨_,Xx _ rfl,rfl,rfl⟩,λb hb=>?_,q⟩;have e:b=s1.heap.objs.size:=by simpa using hb
 subst e;exact I1.fpOk (XQ _) (I1.hok.fresh (XQ _))
theorem Zo4{O:St}{R:It->Hp->Prop}{lo hi:Int}{t u v:Tok}{tk:Nat}(I:Inv X pins O H s)(h1:-(2^62)<=lo)(h2:lo<2^62)(h3:-(2^62)<=hi)(h4:hi<2^62)
  (q:R (Itr lo (hi-lo).toNat) H):Xy (XR X.prog X.w) X.A (pyIter (.ref s.heap.objs.size)) (PIE X pins O tg R) E { s with heap:=s.heap.push { cls:=.type "range",data:=.fields #[.int lo t,.int hi u,.int 1 v] },toks:=tk }:=by
 refine wpAny_pyIter_range (IsRange.new ..) (small_one h1 h2 h3 h4) ?_;have I1:Inv X pins O H { s with heap:=s.heap.push { cls:=.type "range",data:=.fields #[.int lo t,.int hi u,.int 1 v] },toks:=tk }:=I.kept λb o e=>Xf _ e;refine⟨(s.heap.push { cls:=.type "range",data:=.fields #[.int lo t,.int hi u,.int 1 v] }).objs.size,[(s.heap.push { cls:=.type "range",data:=.fields #[.int lo t,.int hi u,.int 1 v] }).objs.size],_,_,H,rfl,
  I1.kept (t':=tk) λb o e=>Xf _ e,Zqe _ lo (hi-lo).toNat,?_,λb hb=>?_,q⟩
 .have e1:lo+((0:Nat):Int)*1=lo:=by simp
  have e2:(((hi-lo).toNat:Nat):Int)-((0:Nat):Int)=Builtin.Range.rangeSize lo hi 1:=by rw[rangeSize_one];split<;>omega
  show IsRangeIter _ _ (lo+((0:Nat):Int)*1) ((((hi-lo).toNat:Nat):Int)-((0:Nat):Int)) 1;rw[e1,e2];exact Xx _ rfl
 .have e:b=(s.heap.push { cls:=.type "range",data:=.fields #[.int lo t,.int hi u,.int 1 v] }).objs.size:=by simpa using hb
  subst e;exact I1.fpOk (XQ _) (I1.hok.fresh (XQ _))
def Z91(ta:TA):TI:=λO H R=>ta O H λvs H1=>∃j:Int,vs=[.int j]/\-(2^62)<=j/\j<2^62/\R (Itr 0 j.toNat) H1
def Z9t(ta:TA):TI:=λO H R=>ta O H λvs H1=>∃i j:Int,vs=[.int i,.int j]/\(-(2^62)<=i/\i<2^62/\-(2^62)<=j/\j<2^62)/\R (Itr i (j-i).toNat) H1
theorem Ztq{a:YJ}{ta:TA}{p:Pos}(hg:Gl X "range")(hm:X.mg "range"=YC)(ha:PA X [a] ta)(hs:Xr [a] X.env=[(YF,eval a X.env)]:=by rfl):PI X tg (.Call (.Name "range" p) [a] [] pos) (Z91 ta):=by
 intro pins s O H R I h;refine Call_ (Ze9 I hg hm boot_range (JV (thn (ha pos pins s O H _ I h) λus s1 qz9=>?_) hs rfl));obtain⟨vs,H1,I1,r1,q1⟩:=qz9;obtain⟨j,e,q1,q2,q⟩:=q1;subst e;cases r1 with
 | cons r rr=>
  cases rr;obtain⟨t,rfl⟩:=r;exact call_range_1 (Zo4 I1 (by omega) (by omega) q1 q2 (by simpa using q))
theorem Zt8{a:YJ}{ta:TA}{p:Pos}(hg:Gl X "range")(hm:X.mg "range"=YC)(ha:PA X [a,b] ta)(hs:Xr [a,b] X.env=[(YF,eval a X.env),(YF,eval b X.env)]:=by rfl)(hs2:Xr [b] X.env=[(YF,eval b X.env)]:=by rfl) :
  PI X tg (.Call (.Name "range" p) [a,b] [] pos) (Z9t ta):=by
 intro pins s O H R I h;refine Call_ (Ze9 I hg hm boot_range (JV (thn (ha pos pins s O H _ I h) λus s1 ⟨vs,H1,I1,r1,q1⟩=>?_) (by rw[hs,hs2]) (by rw[hs2];rfl)));obtain⟨i,j,e,⟨q1,q2,q3,q4⟩,q⟩:=q1;subst e;cases r1 with
 | cons r rr=>
  cases rr with
  | cons r' rr=>
   cases rr;obtain⟨t,rfl⟩:=r;obtain⟨t',rfl⟩:=r';exact call_range_2 (Zo4 I1 q1 q2 q3 q4 q)
def Yfp(wi:TI)(g:TG)(tb:TS):TS:=λD O H=>wi O H λJ H1=>∃W:Nat->Nat->St->Hp->Prop,(∃m,W 0 m O H1)/\∀i m O H,W i m O H ->
 (J.stop i H/\D.nx O H)\/(J.go i H/\∃N:St->Hp->Prop,(∀O' H',N O' H'->∃m',m'<m/\W (i+1) m' O' H')/\∀x H',J.yld i H x H'->g x O H' λO2 H2=>tb { D with nx:=N,ct:=N,bk:=D.nx } O2 H2)
def Zit(fp:List YG)(h:YH):List (YG×Obj):=fp.filterMap λb=>(h.get? b).map λo=>(b,o)
theorem Zai{fp:List YG}{b:YG}(hb:b∈fp)(e:h.get? b=YB o):(b,o)∈Zit fp h:=List.mem_filterMap.mpr ⟨b,hb,by rw[e];rfl⟩
theorem Zt5{fp:List YG}{p:YG×Obj}(hp:p∈Zit fp h):p.1∈fp/\h.get? p.1=YB p.2:=by
 obtain⟨b,hb,e⟩:=List.mem_filterMap.mp hp;cases q:h.get? b with
 | none=>rw[q]at e;cases e
 | some o=>
  rw[q]at e;have e':(b,o)=p:=QK e;subst e';exact⟨hb,q⟩
theorem Inv.pinned{O:St}{fp:List YG}(I:Inv X pins O H s)(hf:∀b∈fp,Zi4 X pins H b)(ho:∀b∈fp,∃o,s.heap.get? b=YB o/\∀v,o.data≠ .cell v):Inv X (pins++Zit fp s.heap) O H s :=
 I.pins_of λp hp=>(Qt.mp hp).elim (λz=>I.pin p (XJ _ z)) λz=>by
  obtain⟨hb,e⟩:=Zt5 z;obtain⟨f0,f1,f2,_⟩:=hf p.1 hb;obtain⟨o,e',d⟩:=ho p.1 hb;rw[e]at e';cases e';exact⟨e,f0,f1,f2,d⟩
theorem Inv.unpinned{pl:List (YG×Obj)}{O:St}(I:Inv X (pins++pl) O H s):Inv X pins O H s:=I.pins_of λp hp=>I.pin p (XJ _ (JL _ hp))
theorem Zyi{iter:YJ}{wi:TI}{g:TG}{tb:TS}(hp:PassesOwn (XR X.prog X.w) X.A X.env X.xe)(hc:X.calm=YD)(hi:PI X tg iter wi)(hg:PG X tg g)(hb:PSs X body tb)
  (hs:∀x,JX iter X.env x=pure x:=by intro _;rfl):PS X (.For tg iter body [] pos) (Yfp wi g tb):=by
 intro pins s O H D I h;refine wpAny_For (thn (hi pins s O H _ I h) λv s1 h1=>thn h1 λitv s2 h2=>?_) hs;obtain⟨it,fp,tn,J,H2,e,I2,T,st2,f2,W,⟨m0,w0⟩,turn⟩:=h2;subst e
 -- what stays YD of the iterator's objects through the loop
 have stat:∀{H':Hp},(∀b∈fp,H' b=YC)->∀b∈fp,Zi4 X pins H' b:=λhn b hb=>⟨hn b hb,(f2 b hb).2⟩;refine codeAny_forLoop_any (λn s'=>∃i O' H',Inv X pins O' H' s'/\tn i s'.heap/\(∀b∈fp,H' b=YC)/\W i n O' H') ?_ m0 ⟨0,O,H2,I2,st2,λb hb=>(f2 b hb).1,w0⟩;rintro n s3 ⟨i,O3,H3,I3,st3,fr3,w3⟩;rcases turn i n O3 H3 w3 with⟨stop,qn⟩|⟨go,N,hN,step⟩
 .refine JR hp (thn (T.done X rfl rfl rfl hc i pins s3 O3 H3 X.xe I3 (stat fr3) st3 stop) λr s4 qz9=>?_)
  obtain⟨hr,I4⟩:=qz9;subst hr;exact U9 ⟨O3,H3,I4,qn⟩
 .refine JR hp (thn (T.item X rfl rfl rfl hc i pins s3 O3 H3 X.xe I3 (stat fr3) st3 go) λr s4 qz9=>?_)
  obtain⟨u,hr,h4⟩:=qz9;subst hr;refine JR hp (thn h4 λ_ s5 qz9=>?_);obtain⟨x,H5,I5,r5,y5,st5,fr5⟩:=qz9;have I5':=I5.pinned (stat fr5) (T.obj _ _ st5);refine JR hp (thn (hg _ s5 O3 H5 x u _ I5' r5 (step x H5 y5)) λ_ s6 qz9=>?_);obtain⟨O6,H6,I6,q6⟩:=qz9;refine JR hp (thn (hb _ s6 O6 H6 _ I6 q6) λf s7 q7=>?_);have again:∀{O7:St} {H7:Hp},Inv X (pins++Zit fp s5.heap) O7 H7 s7->N O7 H7->∃m,m<n/\∃i O' H',Inv X pins O' H' s7/\tn i s7.heap/\(∀b∈fp,H' b=YC)/\W i m O' H':=fun{O7 H7} I7 n7=>by
   obtain⟨m',hm,w7⟩:=hN O7 H7 n7;refine⟨m',hm,i+1,O7,H7,I7.unpinned,T.keep _ _ _ st5 λb hb o e=>(I7.pin (b,o) (XJ _ (XJ _ (Zai hb e)))).1,λb hb=>?_,w7⟩;obtain⟨o,e,d⟩:=T.obj _ _ st5 b hb;exact(I7.pin (b,o) (XJ _ (XJ _ (Zai hb e)))).2.1
  cases f with
  | next=>obtain⟨O7,H7,I7,n7⟩:=q7;exact again I7 n7
  | cont=>obtain⟨O7,H7,I7,n7⟩:=q7;exact again I7 n7
  | brk=>obtain⟨O7,H7,I7,q7⟩:=q7;exact⟨O7,H7,I7.unpinned,q7⟩
  | ret v=>obtain⟨x7,O7,H7,I7,r7,q7⟩:=q7;exact⟨x7,O7,H7,I7.unpinned,r7,q7⟩
theorem Zvk{K:Xc}{g:TG}{tb:TS}{D:Ends}{O:St}(Pv:Nat->St->Hp->Prop)(h0:Pv 0 O H)(hl:∀i O H,i<=xs.length->Pv i O H->SqL K H a xs)
  (hs:∀i x O H,xs[i]? =YB x->Pv i O H->g x O H λO2 H2=>tb { D with nx:=Pv (i+1),ct:=Pv (i+1),bk:=D.nx } O2 H2) (hd:∀O H,Pv xs.length O H->D.nx O H) :
  ∃W:Nat->Nat->St->Hp->Prop,(∃m,W 0 m O H)/\∀i m O H,W i m O H ->
   ((Itl K a).stop i H/\D.nx O H)\/((Itl K a).go i H/\∃N:St->Hp->Prop,(∀O' H',N O' H'->∃m',m'<m/\W (i+1) m' O' H')/\∀x H',(Itl K a).yld i H x H'->g x O H' λO2 H2=>tb { D with nx:=N,ct:=N,bk:=D.nx } O2 H2):=by
 refine⟨λi m O H=>m=xs.length-i/\i<=xs.length/\Pv i O H,⟨xs.length,by simp,QG _,h0⟩,?_⟩;rintro i m O H ⟨rfl,hi,p⟩;have q:=hl i O H hi p
 by_cases hlt:i<xs.length
 .refine .inr ⟨⟨xs,xs[i],q,by simp[hlt]⟩,Pv (i+1),λO' H' p'=>⟨xs.length-(i+1),by omega,rfl,hlt,p'⟩,λx H' y=>?_⟩
  obtain⟨e,y⟩:=y;subst e;exact hs i x O _ (y xs q) p
 .have e:i=xs.length:=by omega
  subst e;exact .inl ⟨⟨xs,q,XQ _⟩,hd O H p⟩
abbrev R2:=V->V->Hp->VK->Prop
def OpR(X:Cx)(f:Xd->Xd->Sem Xd)(r:R2):Prop :=
 ∀(pins:List (YG×Obj)) (s:Xe) (O:St) (H:Hp) (x y:V) (v u:Xd) (Q:VK),Inv X pins O H s->RelV x v->RelV y u->r x y H Q ->
  Xy (XR X.prog X.w) X.A (f v u) (EP X pins O Q) X.xe s
def UnR(X:Cx)(f:Xd->Sem Xd)(r:V->Hp->VK->Prop):Prop :=
 ∀(pins:List (YG×Obj)) (s:Xe) (O:St) (H:Hp) (x:V) (v:Xd) (Q:VK),Inv X pins O H s->RelV x v->r x H Q ->
  Xy (XR X.prog X.w) X.A (f v) (EP X pins O Q) X.xe s
def Zec(X:Cx)(f:Xd)(r:List V->Hp->VK->Prop):Prop :=
 ∀(pins:List (YG×Obj)) (s:Xe) (O:St) (H:Hp) (xs:List V) (us:List Xd) (Q:VK),Inv X pins O H s->Vals xs us->r xs H Q ->
  Xy (XR X.prog X.w) X.A (call f us) (EP X pins O Q) X.xe s
def Yev(X:Cx)(r:V->Hp->(Bool->Hp->Prop)->Prop):Prop :=
 ∀(pins:List (YG×Obj)) (s:Xe) (O:St) (H:Hp) (x:V) (v:Xd) (Q:Bool->Hp->Prop),Inv X pins O H s->RelV x v->r x H Q ->
  Xy (XR X.prog X.w) X.A (truthy v) (TP X pins O Q) X.xe s
def tOp(r:R2)(ta tb:TE):TE:=λO H Q=>ta O H λx H1=>tb O H1 λy H2=>r x y H2 Q
def tUn(r:V->Hp->VK->Prop)(ta:TE):TE:=λO H Q=>ta O H λx H1=>r x H1 Q
def rI(C:Int->Int->Prop)(g:Int->Int->V):R2:=λx y H Q=>∃i j,x= .int i/\y= .int j/\C i j/\Q (g i j) H
def rI0(g:Int->Int->V):R2:=λx y H Q=>∃i j,x= .int i/\y= .int j/\Q (g i j) H
def rU(g:Int->V):V->Hp->VK->Prop:=λx H Q=>∃i,x= .int i/\Q (g i) H
section
variable {a c:YJ}{tc:TE}
theorem Yay(ha:PE X a ta)(hb:PE X b tb){O:St}{R:V->V->Hp->Prop}(I:Inv X pins O H s)
  (h:ta O H λx H1=>tb O H1 λy H2=>R x y H2)  {f:Xd->Xd->Sem Xd}
  (hf:∀v u s2 x y H2,Inv X pins O H2 s2->RelV x v->RelV y u->R x y H2->Xy (XR X.prog X.w) X.A (f v u) Q X.xe s2) :
  Xy (XR X.prog X.w) X.A (eval a X.env) (λv s₁=>Xy (XR X.prog X.w) X.A (eval b X.env) (λu s₂=>Xy (XR X.prog X.w) X.A (f v u) Q X.xe s₂) X.xe s₁) X.xe s:=by
 refine thn (ha pins s O H _ I h) λv s1 qz9=>?_;obtain⟨x,H1,I1,r1,q1⟩:=qz9;refine thn (hb pins s1 O H1 _ I1 q1) λu s2 qz9=>?_;obtain⟨y,H2,I2,r2,q2⟩:=qz9;exact hf v u s2 x y H2 I2 r1 r2 q2
theorem Z8a{op:Operator}{r:R2}(ho:OpR X (VD op) r)(ha:PE X a ta)(hb:PE X b tb):PE X (.BinOp a op b pos) (tOp r ta tb):=by
 intro pins s O H Q I h;exact wpAny_BinOp (Yay ha hb I h λv u s2 x y H2 I2 rx ry q=>ho pins s2 O H2 x y v u Q I2 rx ry q)
theorem Ybe{op:UnaryOp}{r:V->Hp->VK->Prop}(ho:UnR X (unaryOp op) r)(ha:PE X a ta):PE X (.UnaryOp op a pos) (tUn r ta):=by
 intro pins s O H Q I h;refine UnaryOp_ (thn (ha pins s O H _ I h) λv s1 qz9=>?_);obtain⟨x,H1,I1,r1,q1⟩:=qz9;exact ho pins s1 O H1 x v Q I1 r1 q1
theorem opI{f:Xd->Xd->Sem Xd}{C:Int->Int->Prop}{g:Int->Int->Int}
  (rule:∀(i j:Int) (t u:Tok) (s:Xe) (Q:Xd->Xe->Prop) (E:Xd->Xe->Prop),C i j->Q (.int (g i j) s.toks) { s with toks:=s.toks+1 }->Xy (XR X.prog X.w) X.A (f (.int i t) (.int j u)) Q E s) :
  OpR X f (rI C λi j=>.int (g i j)):=by
 intro pins s O H x y v u Q I rx ry h;obtain⟨i,j,rfl,rfl,hc,q⟩:=h;obtain⟨t,rfl⟩:=rx;obtain⟨t',rfl⟩:=ry;exact rule i j t t' s _ _ hc ⟨.int (g i j),H,I.tok _,⟨_,rfl⟩,q⟩
theorem Yap{f:Xd->Xd->Sem Xd}{g:Int->Int->Int}
  (rule:∀(i j:Int) (t u:Tok) (s:Xe) (Q:Xd->Xe->Prop) (E:Xd->Xe->Prop),Q (.int (g i j) s.toks) { s with toks:=s.toks+1 }->Xy (XR X.prog X.w) X.A (f (.int i t) (.int j u)) Q E s) :
  OpR X f (rI0 λi j=>.int (g i j)):=by
 intro pins s O H x y v u Q I rx ry h;obtain⟨i,j,rfl,rfl,q⟩:=h;obtain⟨t,rfl⟩:=rx;obtain⟨t',rfl⟩:=ry;exact rule i j t t' s _ _ ⟨.int (g i j),H,I.tok _,⟨_,rfl⟩,q⟩
theorem Z89{f:Xd->Xd->Sem Xd}{g:Int->Int->Bool}
  (rule:∀(i j:Int) (t u:Tok) (s:Xe) (Q:Xd->Xe->Prop) (E:Xd->Xe->Prop),Q (.bool (g i j)) s->Xy (XR X.prog X.w) X.A (f (.int i t) (.int j u)) Q E s) :
  OpR X f (rI0 λi j=>.bl (g i j)):=by
 intro pins s O H x y v u Q I rx ry h;obtain⟨i,j,rfl,rfl,q⟩:=h;obtain⟨t,rfl⟩:=rx;obtain⟨t',rfl⟩:=ry;exact rule i j t t' s _ _ ⟨.bl (g i j),H,I,rfl,q⟩
def Z3d(i j:Int):Prop:=0<=j/\j<=1000000/\i.natAbs<2^64
def CMul(i j:Int):Prop:=(-(2^64)<i/\i<2^64)\/(-(2^64)<j/\j<2^64)
theorem CMul.ok{i j:Int}(h:CMul i j):IntMulOk i j:=by
 rcases h with⟨h1,h2⟩|⟨h1,h2⟩
 .exact .of_left (intBits_le_64 h1 h2)
 .exact .of_right (intBits_le_64 h1 h2)
theorem Zpt(k:Nat):(0:Int)<=2^k:=by
 rw[two_pow_cast];exact Int.natCast_nonneg _
theorem Z5u:OpR X (VD .Add) (rI0 λi j=>.int (i+j)):=Yap λ_ _ _ _ _ _ _ q=>add_int q
theorem Z5j:OpR X (VD .Sub) (rI0 λi j=>.int (i-j)):=Yap λ_ _ _ _ _ _ _ q=>sub_int q
theorem Z11:OpR X (VD .Mod) (rI (λ_ j=>j≠0) λi j=>.int (i.fmod j)):=opI λ_ _ _ _ _ _ _ hc q=>mod_int' hc q
theorem Z8l:OpR X (VD .Pow) (rI Z3d λi j=>.int (i^j.toNat)):=opI λ_ _ _ _ _ _ _ hc q=>pow_int_small hc.1 hc.2.1 hc.2.2 q
theorem Z5i:OpR X (VD .LShift) (rI Z3d λi j=>.int (i*2^j.toNat)):=opI λ_ _ _ _ _ _ _ hc q=>lshift_int_small hc.1 hc.2.1 hc.2.2 q
theorem Zxw:OpR X (VD .RShift) (rI (λ_ j=>0<=j) λi j=>.int (i/2^j.toNat)):=opI λi j _ _ _ _ _ hc q=>
 rshift_int hc (by rw[Int.fdiv_eq_ediv_of_nonneg i (Zpt _)];exact q)
theorem Zyq:OpR X (VD .BitAnd) (rI0 λi j=>.int (Builtin.bitAnd i j)):=Yap λ_ _ _ _ _ _ _ q=>and_int q
theorem unI{f:Xd->Sem Xd}{g:Int->Int}
  (rule:∀(i:Int) (t:Tok) (s:Xe) (Q:Xd->Xe->Prop) (E:Xd->Xe->Prop),Q (.int (g i) s.toks) { s with toks:=s.toks+1 }->Xy (XR X.prog X.w) X.A (f (.int i t)) Q E s) :
  UnR X f (rU λi=>.int (g i)):=by
 intro pins s O H x v Q I rx h;obtain⟨i,rfl,q⟩:=h;obtain⟨t,rfl⟩:=rx;exact rule i t s _ _ ⟨.int (g i),H,I.tok _,⟨_,rfl⟩,q⟩
theorem Z63:UnR X (unaryOp .USub) (rU λi=>.int (-i)):=unI λ_ _ _ _ _ q=>neg_int q
end
section
variable {a c:YJ}{tc:TE}
theorem Zy2{O:St}{Q:VK}{k k':Bool}(I:Inv X pins O H s)(q:Q (.bl k) H)(e:k=k'):EP X pins O Q (.bool k') s:=by
 subst e;exact⟨.bl k,H,I,rfl,q⟩
theorem Zwu:OpR X (Bb .Lt) (rI0 λi j=>.bl (decide (i<j))):=Z89 λ_ _ _ _ _ _ _ q=>lt_int q
theorem Z1t:OpR X (Bb .LtE) (rI0 λi j=>.bl (decide (i<=j))):=Z89 λ_ _ _ _ _ _ _ q=>le_int q
theorem Ya5:OpR X (Bb .Gt) (rI0 λi j=>.bl (decide (j<i))):=Z89 λ_ _ _ _ _ _ _ q=>gt_int q
theorem Z9w:OpR X (Bb .GtE) (rI0 λi j=>.bl (decide (j<=i))):=Z89 λ_ _ _ _ _ _ _ q=>ge_int q
theorem Zod:OpR X (Bb .Is) (λx y H Q=>y= .non/\Q (.bl (decide (x= .non))) H):=by
 intro pins s O H x y v u Q I rx ry h;obtain⟨rfl,q⟩:=h;cases ry;refine is_none_gen (Zy2 I q ?_);cases x<;>first
  | (cases rx;rfl)
  | (obtain⟨t,rfl⟩:=rx;rfl)
theorem Zzj:OpR X (Bb .IsNot) (λx y H Q=>y= .non/\Q (.bl (!decide (x= .non))) H):=by
 intro pins s O H x y v u Q I rx ry h;obtain⟨rfl,q⟩:=h;cases ry;refine isnot_none_gen (Zy2 I q ?_);cases x<;>first
  | (cases rx;rfl)
  | (obtain⟨t,rfl⟩:=rx;rfl)
theorem Zcv(b:YJ){op:CmpOp}(h:op≠ .In:=by decide)(h2:op≠ .NotIn:=by decide):UV op b=YF:=by
 have e1:(op==CmpOp.In)=YF:=by cases op<;>first|rfl|exact YX rfl h
 have e2:(op==CmpOp.NotIn)=YF:=by cases op<;>first|rfl|exact YX rfl h2
 cases b<;>simp[UV,e1,e2]
theorem Zza{op:CmpOp}{r:R2}(ho:OpR X (Bb op) r)(ha:PE X a ta)(hb:PE X b tb)(hm:UV op b=YF):PE X (.Compare a [op] [b] pos) (tOp r ta tb):=by
 intro pins s O H Q I h;exact wpAny_Compare1 (Yay ha hb I h λv u s2 x y H2 I2 rx ry q=>ho pins s2 O H2 x y v u Q I2 rx ry q) hm
def Z0z(t:TE):TT:=λO H Q=>t O H λx H'=>∃k,x= .bl k/\Q k H'
theorem Z05{op:CmpOp}{r:R2}(ho:OpR X (Bb op) r)(ha:PE X a ta)(hb:PE X b tb)(hm:UV op b=YF):PT X (.Compare a [op] [b] pos) (Z0z (tOp r ta tb)):=by
 intro pins s O H Q I h;refine wpAny_isTrue_Compare1 (thn (ha pins s O H _ I h) λv s1 ⟨x,H1,I1,r1,q1⟩=>thn (hb pins s1 O H1 _ I1 q1) λu s2 ⟨y,H2,I2,r2,q2⟩=>
  thn (ho pins s2 O H2 x y v u _ I2 r1 r2 q2) λc s3 ⟨z,H3,I3,r3,k,e,q3⟩=>?_) hm
 subst e;cases r3;exact Vo ⟨H3,I3,q3⟩
def Zxs(r r':R2)(ta tb tc:TE):TE:=λO H Q=>ta O H λx H1=>tb O H1 λy H2=>r x y H2 λz H3=>∃k,z= .bl k/\
 (if k=YD then tc O H3 λw' H4=>r' y w' H4 Q else Q (.bl YF) H3)
theorem Zwl{op op':CmpOp}{r r':R2}(ho:OpR X (Bb op) r)(ho':OpR X (Bb op') r')(ha:PE X a ta)(hb:PE X b tb)(hc:PE X c tc)
  (hm:lastMarks [op,op'] [b,c]=YF:=by with_unfolding_all rfl):PT X (.Compare a [op,op'] [b,c] pos) (Z0z (Zxs r r' ta tb tc)):=by
 intro pins s O H Q I h;refine isTrue_chain (thn (ha pins s O H _ I h) λv s1 ⟨x,H1,I1,r1,q1⟩=>test_link (thn (hb pins s1 O H1 _ I1 q1) λu s2 ⟨y,H2,I2,r2,q2⟩=>
  thn (ho pins s2 O H2 x y v u _ I2 r1 r2 q2) λd s3 ⟨z,H3,I3,r3,k,e,q3⟩=>?_)) hm
 subst e;cases r3;refine Vo ?_;cases k with
 | false=>
  obtain⟨k',e',q'⟩:=q3;cases e';exact ite_ff ⟨H3,I3,q'⟩
 | true=>
  refine ite_tt (test_last (thn (hc pins s3 O H3 _ I3 q3) λw' s4 qz9=>?_));obtain⟨z',H4,I4,r4,q4⟩:=qz9;refine thn (ho' pins s4 O H4 y z' u w' _ I4 r2 r4 q4) λd' s5 qz9=>?_;obtain⟨z2,H5,I5,r5,k2,e2,q5⟩:=qz9;subst e2;cases r5;exact Vo ⟨H5,I5,q5⟩
def Ybg(K:Xc)(x:V)(H:Hp)(k:Bool):Prop :=
 match x with
 | .non=>k=YF
 | .bl b=>k=b
 | .int i=>k=(i !=0)
 | .str y=>y.length<=Xw/\k=((y.length:Int) !=0)
 | .byt y=>y.size<=Xw/\k=((y.size:Int) !=0)
 | .ref p=>(∃xs,SqL K H p xs/\k= !xs.isEmpty)\/(∃xs,SqT K H p xs/\k= !xs.isEmpty)\/∃kvs,H p=YB (.dK kvs)/\k= !kvs.isEmpty
 | _=>False
theorem Zps{kvs:List (κ×V)}{vs:List (κ×Xd)}(r:KV kvs vs):(!vs.isEmpty)= !kvs.isEmpty:=by
 cases r<;>rfl
theorem Zio{its:List Xd}(r:Vals xs its):(!its.toArray.isEmpty)= !xs.isEmpty:=by
 cases r<;>simp
theorem Ziq:(Xw:Nat)<2^63:=by rw[X7];decide
theorem Z4q:Yev X (λx H Q=>∃k,Ybg X.K x H k/\Q k H):=by
 intro pins s O H x v Q I rx h;obtain⟨k,e,q⟩:=h;have hl:=Ziq;have hs:Xw=16777216:=X7;cases x with
 | non=>
  cases rx;have e':k=YF:=e;subst e';exact truthy_none ⟨H,I,q⟩
 | bl b=>
  cases rx;have e':k=b:=e;subst e';exact Vo ⟨H,I,q⟩
 | int i=>
  obtain⟨t,rfl⟩:=rx;have e':k=(i !=0):=e;subst e';exact PySem.P.truthy_int ⟨H,I,q⟩
 | str y=>
  obtain⟨t,rfl⟩:=rx;obtain⟨hy,e'⟩:y.length<=Xw/\k=((y.length:Int) !=0):=e;subst e';exact PySem.P.truthy_str (by omega) ⟨H,I.tok _,q⟩
 | byt y=>
  obtain⟨t,rfl⟩:=rx;obtain⟨hy,e'⟩:y.size<=Xw/\k=((y.size:Int) !=0):=e;subst e';exact PySem.W.truthy_bytes (by omega) ⟨H,I.tok _,q⟩
 | ref p=>
  cases rx;have e':(∃xs,SqL X.K H p xs/\k= !xs.isEmpty)\/(∃xs,SqT X.K H p xs/\k= !xs.isEmpty)\/∃kvs,H p=YB (.dK kvs)/\k= !kvs.isEmpty:=e;rcases e' with⟨xs,hx,e'⟩|⟨xs,hx,e'⟩|⟨kvs,hx,e'⟩
  .subst e'
   obtain⟨its,r,pl,hz⟩:=I.list hx;have hlen:=r.length;exact wpAny_truthy_list pl.isList (by simp only[Qa];omega) ⟨H,I.tok _,by rw[Zio r];exact q⟩
  .subst e'
   obtain⟨its,r,pl,hz⟩:=I.tuple hx;have hlen:=r.length;exact truthy_tuple pl (by simp only[Qa];omega) ⟨H,I.tok _,by rw[Zio r];exact q⟩
  .subst e'
   obtain⟨hz,hS,vs,r,m⟩:kvs.length<=Xw/\(p==sysModules)=YF/\∃vs,KV kvs vs/\s.heap.DictOf (Zmz X.prog X.w) p vs:=I.hok p _ hx;have hlen:kvs.length=vs.length:=Paired.length r;exact wpAny_truthy_dict hS m (by omega) ⟨H,I.tok _,by rw[Zps r];exact q⟩
 | _=>exact(show False from e).elim
theorem Zut(ha:PE X a ta)(he:∀whole,isTrue a X.env whole=(do let v<-whole;standAt a.pos;holding [v] (truthy v))) :
  PT X a (λO H Q=>ta O H λx H'=>∃k,Ybg X.K x H' k/\Q k H'):=by
 intro pins s O H Q I h;refine isTrue_plain (thn (ha pins s O H _ I h) λv s1 qz9=>?_) (he _);obtain⟨x,H1,I1,r1,q1⟩:=qz9;exact Z4q pins s1 O H1 x v Q I1 r1 q1
theorem vals1{x:V}(r:Vals [x] us):∃u,us=[u]/\RelV x u:=by
 cases r with
 | cons r1 r2=>cases r2;exact⟨_,rfl,r1⟩
theorem vals2{x y:V}(r:Vals [x,y] us):∃u w',us=[u,w']/\RelV x u/\RelV y w':=by
 cases r with
 | cons r1 r2=>
  cases r2 with
  | cons r3 r4=>cases r4;exact⟨_,_,rfl,r1,r3⟩
theorem Zb3:Zec X (.builtin "abs") (λxs H Q=>∃i,xs=[.int i]/\Q (.int (if i<0 then -i else i)) H):=by
 intro pins s O H xs us Q I r h;obtain⟨i,rfl,q⟩:=h;obtain⟨u,rfl,t,rfl⟩:=vals1 r;exact call_abs_int λu tk=>⟨.int (if i<0 then -i else i),H,I.tok _,⟨_,rfl⟩,q⟩
theorem Zrb(hc:X.calm=YD):Zec X (.builtin "min") (λxs H Q=>∃i j,xs=[.int i,.int j]/\Q (.int (if j<i then j else i)) H):=by
 intro pins s O H xs us Q I r h;obtain⟨i,j,rfl,q⟩:=h;obtain⟨u,w',rfl,⟨t,rfl⟩,⟨t',rfl⟩⟩:=vals2 r;refine min_two_ints (I.ok.hd hc) λh' tk k=>⟨_,H,I.kept k,?_,q⟩
 by_cases hj:j<i
 .rw[YL hj,YL hj];exact⟨_,rfl⟩
 .rw[YM hj,YM hj];exact⟨_,rfl⟩
theorem Zly:Zec X (.type "int") (λxs H Q=>(∃i,xs=[.int i]/\Q (.int i) H)\/∃k,xs=[.bl k]/\Q (.int (if k then 1 else 0)) H):=by
 intro pins s O H xs us Q I r h;rcases h with⟨i,rfl,q⟩|⟨k,rfl,q⟩
 .obtain⟨u,rfl,t,rfl⟩:=vals1 r
  exact call_int_int ⟨.int i,H,I,⟨_,rfl⟩,q⟩
 .obtain⟨u,rfl,r1⟩:=vals1 r
  cases r1;exact call_int_bool ⟨.int (if k then 1 else 0),H,I.tok _,⟨_,rfl⟩,q⟩
end
structure ObjM(h:YH)(x dx C:YG)(mA:Str->Option Xd):Prop where
 obj:h.get? x=YB (PySem.W.instObj C dx)
 ns:h.Ns1 dx mA
 ne:dx≠x
theorem Zqz{dx:YG}{mA:Str->Option Xd}(n:h.Ns1 dx mA):∃od,h.get? dx=YB od/\∀name,PySem.W.lookIn name od=YB (mA name):=by
 obtain⟨o,es,ep,ho,hd,hk,_,hm⟩:=n;refine⟨o,ho,λname=>?_⟩;have e:=hm name;unfold nsFind findBy at e;rw[<-Array.find?_toList]at e;unfold PySem.W.lookIn;rw[hd];dsimp only;split
 .rename_i y q
  rw[q]at e;exact YT YB e
 .rename_i q
  rw[q]at e;have a:es.toList.any (·.refKey)=YF:=by
   rw[List.any_eq_false];intro y hy;obtain⟨z,t,hkey⟩:=hk y (Array.mem_toList_iff.mp hy);simp[DictEntry.refKey,hkey]
  have a':¬es.toList.any (·.refKey)=YD:=by rw[a];exact XC
  rw[YM a'];exact YT YB e
theorem ObjM.look{x dx C:YG}{mA:Str->Option Xd}(I:ObjM h x dx C mA):∃od,PySem.W.InstAt h x (PySem.W.instObj C dx) C (YB od)/\∀name,PySem.W.lookIn name od=YB (mA name) :=
 let⟨od,ho,hl⟩:=Zqz I.ns
 ⟨od,⟨I.obj,rfl,rfl,ho⟩,hl⟩
section
variable {prog:X6}{K:Xc}{x dx C f:YG}{mA:Str->Option Xd}{name:Str}{v:Xd}
end
section
variable {C dx:YG}{fs fs':List (Str×V)}
theorem Z19(hok:HOk P w H h)(e:H a=YB (.ins C dx fs)):∃mA,ObjM h a dx C mA/\(∀f,RelO (fs.lookup f) (mA f))/\PySem.Within mA (fs.map (·.1))/\fs.length<=1000/\H dx=YB (.own a):=by
 obtain⟨d,z,ne,ob,mA,n,r,q⟩:=(show ObjOk P w H h a (.ins C dx fs)from hok a _ e);exact⟨mA,⟨ob,n,ne⟩,r,q,z,d⟩
end
structure Cls(K:Xc)(C:YG):Prop where
 pg:PySem.W.plainGet K C Str.empty=YD
 hd:PySem.W.hasDictIn K C=YD
 po:PySem.W.plainOver K C=YD
 sa:Vm K (.ref C) "__setattr__"=YB (YB (.builtin "object.__setattr__"))
theorem Cls.get{K:Xc}{C:YG}(c:Cls K C)(f:Str):PySem.W.plainGet K C f=YD:=c.pg
structure Con(K:Xc)(C:YG)(f:Str)(v:V)(u:Xd):Prop where
 at_:Vm K (.ref C) f=YB (YB u)
 rel:RelV v u
 get:PySem.W.specialIn K u "__get__"=YB YC
 cp:PySem.W.copiedNames.contains f=YF
structure Meth(K:Xc)(C:YG)(m:Str)(f:YG):Prop where
 at_:Vm K (.ref C) m=YB (YB (.ref f))
 fn:PySem.W.isFn K (.ref f)=YD
 kp:BW K (.ref f)=YD
section
variable {O:St}{C dx:YG}{fs:List (Str×V)}{f:Str}
end
section
variable {o value:YJ}{f:Str}{tpos:Pos}{tv:TE}
end
section
variable {O:St}{c:Xd}{b:Bool}
inductive Zqm(K:Xc)(H:Hp):V->Xd->Prop where
 | non:Zqm K H .non (.type "NoneType")
 | bl (x:Bool):Zqm K H (.bl x) (.type "bool")
 | int (i:Int):Zqm K H (.int i) (.type "int")
 | str (x:Str):Zqm K H (.str x) (.type "str")
 | flt (x:UInt64):Zqm K H (.flt x) (.type "float")
 | lst {a:YG} {xs:List V} (e:H a=YB (.lst xs)):Zqm K H (.ref a) (.type "list")
 | frz {a:YG} {o:Obj} {xs:List V} (e:H a=YB (.frz o (.lst xs))):Zqm K H (.ref a) (.type "list")
 | tup {a:YG} {xs:List V} (e:H a=YB (.tup xs)):Zqm K H (.ref a) (.type "tuple")
 | dK {a:YG} {kvs:List (Key×V)} (e:H a=YB (.dK kvs)):Zqm K H (.ref a) (.type "dict")
 | dT {a:YG} {kvs:List (List Key×V)} (e:H a=YB (.dT kvs)):Zqm K H (.ref a) (.type "dict")
 | ins {a C dx:YG} {fs:List (Str×V)} (e:H a=YB (.ins C dx fs)) (cl:Cls K C) (ha:Vm K (.ref C) "__class__"=YB (YB (.builtin "object.__class__")))
   (hn:PySem.W.specialIn K (.builtin "object.__class__") "__get__"=YB (YB (.builtin "getset_descriptor.__get__"))) (htk:PySem.W.takesIn K (.builtin "object.__class__")=YB YD)
   (hm:PySem.W.mroIn K C (.type "object")=YB YD):Zqm K H (.ref a) (.ref C)
theorem Zaz{x:V}{t:Xd}(I:Inv X pins O H s)(rx:RelV x u)(ty:Zqm X.K H x t)(e:Qi X.K t c=YB b)(h:∀tk,Q (.bool b) { s with toks:=tk }) :
  Xy (XR X.prog X.w) A (call (.builtin "isinstance") [u,c]) Q E s:=by
 cases ty with
 | non=>cases(show u=QD from rx);exact QR PySem.W.kitx_none I.kIn True.intro e (λz=>nomatch z) h
 | bl y=>cases(show u=Value.bool y from rx);exact QR PySem.W.kitx_bool I.kIn True.intro e (λz=>nomatch z) h
 | int i=>obtain⟨t,q⟩:=(show∃t,u=Vt i t from rx);cases q;exact QR PySem.W.kitx_int I.kIn True.intro e (λz=>nomatch z) h
 | str y=>obtain⟨t,q⟩:=(show∃t,u=Value.str y t from rx);cases q;exact QR PySem.W.kitx_str I.kIn True.intro e (λz=>nomatch z) h
 | flt y=>obtain⟨t,q⟩:=(show∃t,u=Xd.float y t from rx);cases q;exact QR PySem.W.kitx_float I.kIn True.intro e (λz=>nomatch z) h
 | @lst a xs ea=>
  cases(show u=Qj a from rx);obtain⟨_,_,n,_,h1⟩:=(show ObjOk X.prog X.w H s.heap a (.lst xs)from I.hok a _ ea);exact QR PySem.W.kitx_list I.kIn ⟨_,h1,rfl⟩ e (λz=>nomatch z) h
 | @frz a ob xs ea=>
  cases(show u=Qj a from rx);obtain⟨_,_,_,n,_,h1⟩:=(show ObjOk X.prog X.w H s.heap a (.frz ob (.lst xs))from I.hok a _ ea);exact QR PySem.W.kitx_list I.kIn ⟨_,h1,rfl⟩ e (λz=>nomatch z) h
 | @tup a xs ea=>
  cases(show u=Qj a from rx);obtain⟨_,_,_,p⟩:=(show ObjOk X.prog X.w H s.heap a (.tup xs)from I.hok a _ ea);obtain⟨o,h1,h2,_⟩:=p;exact QR PySem.W.kitx_tuple I.kIn ⟨o,h1,h2⟩ e (λz=>nomatch z) h
 | @dK a kvs ea=>
  cases(show u=Qj a from rx);obtain⟨_,_,vs,_,p⟩:=(show ObjOk X.prog X.w H s.heap a (.dK kvs)from I.hok a _ ea);obtain⟨o,es,ep,h1,h2,_⟩:=p;exact QR PySem.W.kitx_dict I.kIn ⟨o,h1,h2.1⟩ e (λz=>nomatch z) h
 | @dT a kvs ea=>
  cases(show u=Qj a from rx);obtain⟨_,_,xs,_,o,es,ep,h1,h2,_⟩:=(show ObjOk X.prog X.w H s.heap a (.dT kvs)from I.hok a _ ea);exact QR PySem.W.kitx_dict I.kIn ⟨o,h1,h2.1⟩ e (λz=>nomatch z) h
 | @ins a C dx fs ea cl ha hn htk hm=>
  cases(show u=Qj a from rx);obtain⟨mA,Oa,_⟩:=Z19 I.hok ea;obtain⟨od,J,_⟩:=Oa.look;exact QR (PySem.W.kitx_own (cl.get _) cl.hd ha hn htk hm) I.kIn J e (λz=>nomatch z) h
end
structure Room(k:Nat)(A:Qk):Prop where
 hd:A.handled=YC
 dp:A.depth+3*k+5<recursionLimit
 un:A.units+16*k+200<cLine
theorem Room.mono{k:Nat}(r:Room k A)(h:j<=k):Room j A:=⟨r.hd,by have:=r.dp;omega,by have:=r.un;omega⟩
theorem Room.deeper{k:Nat}(r:Room (k+1) A)(env:Env):Room k (A.deeper env) :=
 ⟨r.hd,by have:=r.dp;show A.depth+1+3*k+5<_;omega,by have:=r.un;show A.units+3+16*k+200<_;omega⟩
theorem Room.depth{k:Nat}(r:Room k A):A.depth<recursionLimit:=by have:=r.dp;omega
theorem Room.units{k:Nat}(r:Room k A):A.units+64<cLine:=by have:=r.un;omega
def Yf6:TA:=λ_ H Q=>Q [] H
def Z7z(ta:TE)(tr:TA):TA:=λO H Q=>ta O H λx H1=>tr O H1 λxs H2=>Q (x::xs) H2
section
variable {t:TA}
theorem Zdq:PA X [] Yf6:=λ_ _ _ _ H Q I h=>Calls.spliced_nil ⟨[],H,I,.nil,h⟩
theorem Ys(ha:PE X e te)(hr:PA X es t)(hs:Xr (e::es) X.env=(YF,eval e X.env)::Xr es X.env:=by rfl):PA X (e::es) (Z7z te t):=by
 intro pos pins s O H Q I h;rw[hs];show Xy _ _ (spliced ((YF,eval e X.env)::JG pos (Xr es X.env))) _ _ s;refine Calls.spliced_cons (thn (ha pins s O H _ I h) λu s1 qz9=>?_);obtain⟨x,H1,I1,r1,q1⟩:=qz9;refine thn (hr pos pins s1 O H1 _ I1 q1) λus s2 qz9=>?_;obtain⟨xs,H2,I2,r2,q2⟩:=qz9;exact⟨x::xs,H2,I2,.cons r1 r2,q2⟩
def Ye3(t:TA):TE:=λO H Q=>t O H λxs H1=>xs.length<=Xw/\∀p,H1 p=YC->Q (.ref p) (upd H1 p (.tup xs))
def Yez(t:TA):TE:=λO H Q=>t O H λxs H1=>xs.length<=Xw/\∀p,H1 p=YC->Q (.ref p) (upd H1 p (.lst xs))
theorem Zsm{x1}(h:PA X es t):PE X (.Tuple es x1 pos) (Ye3 t):=by
 intro pins s O H Q I hq;refine wpAny_Tuple_spliced (thn (h pos pins s O H _ I hq) λus s1 ⟨xs,H1,I1,r,z,q⟩=>⟨by rw[<-r.length];exact z,?_⟩);have hf:H1 s1.heap.objs.size=YC:=I1.hok.fresh (XQ _);refine⟨.ref s1.heap.objs.size,upd H1 s1.heap.objs.size (.tup xs),I1.laid (t':=s1.toks) (λb u e=>Xf _ e) (XQ _) ?_,rfl,q _ hf⟩;exact⟨z,us,r,⟨_,Xx _ rfl,rfl,_,rfl⟩⟩
theorem Z5f(h:PA X es t):PE X (.List es pos) (Yez t):=by
 intro pins s O H Q I hq;refine wpAny_List_spliced (thn (h pos pins s O H _ I hq) λus s1 ⟨xs,H1,I1,r,z,q⟩=>⟨by rw[<-r.length];exact z,?_⟩);have hf:H1 s1.heap.objs.size=YC:=I1.hok.fresh (XQ _);refine⟨.ref s1.heap.objs.size,upd H1 s1.heap.objs.size (.lst xs),I1.laid (t':=s1.toks) (λb u e=>Xf _ e) (XQ _) ?_,rfl,q _ hf⟩;exact⟨z,us,0,r,Xx _ rfl⟩
end
abbrev Sp:=List V->Hp->VK->XK->Prop
abbrev CXT:=List Env->Hp->Xe->XK->Xd->Xe->Prop
structure Z9a(P:X6)(w:Qp)(K:Xc)(mg:Str->Option Xd)(base:YH)(A:Qk)(outer:List Env)(s:Xe)(H:Hp):Prop where
 frames:A.frames=YB outer
 mod:Mod K mg base
 bs:∀b o,base.get? b=YB o->s.heap.get? b=YB o/\H b=YC
 bsz:base.objs.size<=s.heap.objs.size
 funs:s.heap.FunFrames base outer
 frf:∀b∈frs outer,H b=YC
 hok:HOk P w H s.heap
 bare:AllBare s.gens
def CE(outer:List Env)(P:X6)(w:Qp)(H:Hp)(s:Xe)(Q:VK)(u:Xd)(s':Xe):Prop :=
 ∃v H',s'.os=s.os/\AllBare s'.gens/\Un (frs outer) [] H H' s.heap s'.heap/\HOk P w H' s'.heap/\RelV v u/\Q v H'
def CR(CX:CXT)(outer:List Env)(P:X6)(w:Qp)(H:Hp)(s:Xe)(Q:VK)(E:XK)(r:Result)(s':Xe):Prop :=
 match r with
 | .ok (.ret u)=>CE outer P w H s Q u s'
 | .ok _=>False
 | .error e=>CX outer H s E e s'
structure FnOk(P:X6)(w:Qp)(K:Xc)(mg:Str->Option Xd)(base:YH)(CX:CXT)(k:Nat)(f:YG)(fd:XF)(ps:List Str)(sp:Sp):Prop where
 len:∀vs H Q E,sp vs H Q E->vs.length=ps.length
 run:∀(A:Qk) (outer:List Env) (s:Xe) (H:Hp) (args:Args) (us:List Xd) (vs:List V) (Q:VK) (E:XK),Room k A->Z9a P w K mg base A outer s H->BindsTo s fd args (ps.zip us)->Vals vs us->sp vs H Q E ->
  UT (XR P w) A (.call (.ref f) args) (CR CX outer P w H s Q E) s
theorem FnOk.imp{P:X6}{w:Qp}{K:Xc}{mg:Str->Option Xd}{base:YH}{CX:CXT}{k:Nat}{f:YG}{fd:XF}{ps:List Str}{sp sp':Sp}(F:FnOk P w K mg base CX k f fd ps sp)
  (h:∀vs H Q E,sp' vs H Q E->sp vs H Q E):FnOk P w K mg base CX k f fd ps sp' :=
 ⟨λvs H Q E q=>F.len vs H Q E (h _ _ _ _ q),λA outer s H args us vs Q E hr he hb hv hs=>F.run A outer s H args us vs Q E hr he hb hv (h _ _ _ _ hs)⟩
section
variable {O:St}
theorem Inv.env0(I:Inv X pins O H s):Z9a X.prog X.w X.K X.mg X.base X.A X.stack s H :=
 ⟨I.ok.frames,I.ok.mod,I.bs,Q7 I.ok.bsz I.sz,I.stack,I.stkFree,I.hok,I.bare⟩
theorem Inv.after{Q:VK}(I:Inv X pins O H s)(h:CE X.stack X.prog X.w H s Q u s'):EP X pins O Q u s':=by
 obtain⟨v,H',os,bare,un,hok,r,q⟩:=h;obtain⟨hh,g,d,t,os'⟩:=s';obtain rfl:os'=s.os:=os;exact⟨v,H',I.call (h':=hh) (g':=g) (d':=d) (t':=t) (ch:=[]) un hok bare (λb z=>YX z (by simp)),r,q⟩
end
def Z18(sp:Sp)(dvs:List V)(E:XK)(t:TA):TE:=λO H Q=>t O H λvs H1=>sp (vs++dvs) H1 Q E
def Binds(K:Xc)(fd:XF)(ps:List Str)(ds:List Xd):Prop :=
 ∀(s:Xe) (us:List Xd),K.In s.heap->(us++ds).length=ps.length->BindsTo s fd ⟨us,[]⟩ (ps.zip (us++ds))
theorem Binds.all{K:Xc}{fd:XF}{ps:List Str}(h:∀us:List Xd,us.length=ps.length->bindArgs fd ⟨us,[]⟩=pure (ps.zip us)):Binds K fd ps []:=λs us _ hl=>by
 rw[QW]at hl|-
 exact .of_eq (h us hl)
def Zlh(CX:CXT)(X:Cx)(E:XK):Prop:=∀(pins:List (YG×Obj)) (O:St) (H:Hp) (s:Xe) (e:Xd) (s':Xe),Inv X pins O H s->CX X.stack H s E e s'->X.xe e s'
section
variable {CX:CXT}{k:Nat}{f C:YG}{fd:XF}{ps:List Str}{sp:Sp}{dvs:List V}{ds:List Xd}{E:XK}{m:Str}{p apos:Pos}{o:YJ}{t:TA}
theorem Z7s{O:St}{Q:VK}{vs:List V}(F:FnOk X.prog X.w X.K X.mg X.base CX k f fd ps sp)(hr:Room k X.A)(hb:Binds X.K fd ps ds)(hd:Vals dvs ds)(hx:Zlh CX X E)
  (I:Inv X pins O H s) (r:Vals vs us) (h:sp (vs++dvs) H Q E):Xy (XR X.prog X.w) X.A (call (.ref f) us) (EP X pins O Q) X.xe s:=by
 have r2:Vals (vs++dvs) (us++ds):=r.append hd;have hl:(us++ds).length=ps.length:=by rw[<-r2.length];exact F.len _ _ _ _ h
 refine wpAny_call (codeAny_mono (F.run X.A X.stack s H ⟨us,[]⟩ (us++ds) (vs++dvs) Q E hr I.env0 (hb s us I.kIn hl) r2 h) λr s' hq=>?_);cases r with
 | error e=>exact hx pins O H s e s' I hq
 | ok fl=>
  cases fl with
  | ret u=>exact I.after hq
  | next=>exact Vc hq
  | brk=>exact Vc hq
  | cont=>exact Vc hq
theorem Zsx(F:FnOk X.prog X.w X.K X.mg X.base CX k f fd ps sp)(hr:Room k X.A)(hg:Gl X x)(hm:X.mg x=YB (.ref f))(hk:BW X.K (.ref f)=YD)(hb:Binds X.K fd ps ds)(hd:Vals dvs ds)(hx:Zlh CX X E)
  (ha:PA X (e::es) t) (hdb:(x==("__debug__" : Str))=YF:=by decide) (he:Xr (e::es) X.env=(YF,eval e X.env)::Xr es X.env:=by rfl) (hpl:(JG pos (Xr es X.env)).any (·.1)=YF:=by rfl) :
  PE X (.Call (.Name x p) (e::es) [] pos) (Z18 sp dvs E t):=by
 intro pins s O H Q I h;refine BJ (Zhx I hg hm ?_ hdb);refine PySem.W.callWith_K (h₀:=X.base) I.ok.mod.kin hk (thn (ha pos pins s O H _ I h) λus s1 qz9=>?_) he hpl;obtain⟨vs,H1,I1,r,q⟩:=qz9;refine⟨I1.kIn,?_⟩;exact Z7s F hr hb hd hx I1 r q
structure Mk(K:Xc)(C f:YG):Prop where
 makes:PySem.W.makesIn K C=YD
 init:Vm K (.ref C) "__init__"=YB (YB (.ref f))
 fn:PySem.W.isFn K (.ref f)=YD
 kp:BW K (.ref C)=YD
end
section
variable {CX:CXT}{k:Nat}{f C:YG}{fd:XF}{ps ks:List Str}{sp:Sp}{E:XK}{m:Str}{p apos kpos:Pos}{o:YJ}{kws:List Uu}{t tk:TA}{nm:Option Str}
structure Ydx(K:Xc)(fd:XF)(ps ks:List Str)(g:List Xd->List Xd->List Xd)(gV:List V->List V->List V):Prop where
 to:∀(s:Xe) (us ws:List Xd),K.In s.heap->(g us ws).length=ps.length->BindsTo s fd ⟨us,ks.zip ws⟩ (ps.zip (g us ws))
 rel:∀{vs:List V} {us:List Xd} {zs:List V} {ws:List Xd},Vals vs us->Vals zs ws->Vals (gV vs zs) (g us ws)
variable {g:List Xd->List Xd->List Xd}{gV:List V->List V->List V}
end
structure Zq(N P:List Str)(sc:U3):Prop where
 kind:sc.kind= .function
 co:sc.isCoroutine=YF
 gen:sc.isGenerator=YF
 nd:N.Nodup
 pre:N.take P.length=P
 par:∀x∈P,sc.names.lookup x=YB .local\/sc.names.lookup x=YB .cell
 nofree:∀y∈sc.names,y.2≠ .free
theorem Zll{kindOf:Str->Option BP}:∀{binds:List (Str×Xd)} {m:Str->Option Xd},(∀v,(x,v)∉binds)->bindL kindOf binds m x=m x
 | [],_,_=>rfl
 | (n,v)::r,m,h=>by
  unfold bindL;rw[Zll λw hw=>h w (Uv _ hw)];split
  .have:x≠n:=by rintro rfl;exact h v U6
   simp[this]
  .rfl
theorem Zmb{kindOf:Str->Option BP}:∀{binds:List (Str×Xd)} {m:Str->Option Xd},(∀v,(x,v)∉binds)->bindC kindOf binds m x=m x
 | [],_,_=>rfl
 | (n,v)::r,m,h=>by
  unfold bindC;rw[Zmb λw hw=>h w (Uv _ hw)];split
  .rfl
  .have:x≠n:=by rintro rfl;exact h v U6
   simp[this]
theorem Zkz{kindOf:Str->Option BP}{v:Xd}:∀{P:List Str} {vs:List Xd} {i:Nat} {m:Str->Option Xd},P.Nodup->P[i]? =YB x->vs[i]? =YB v->kindOf x=YB .local ->
  bindL kindOf (P.zip vs) m x=YB v
 | [],_,_,_,_,h,_,_=>by simp at h
 | _::_,[],_,_,_,_,h,_=>by simp at h
 | p::P,w::vs,0,m,nd,h1,h2,hk=>by
  simp at h1 h2;subst h1;subst h2;show bindL kindOf ((p,w)::P.zip vs) m p=_;unfold bindL;rw[Zll λv hv=>(Qh.mp nd).1 (List.of_mem_zip hv).1,YL hk];simp
 | p::P,w::vs,i+1,m,nd,h1,h2,hk=>by
  show bindL kindOf ((p,w)::P.zip vs) m x=_;unfold bindL;exact Zkz (i:=i) (Qh.mp nd).2 (by simpa using h1) (by simpa using h2) hk
theorem Zlz{kindOf:Str->Option BP}{v:Xd}:∀{P:List Str} {vs:List Xd} {i:Nat} {m:Str->Option Xd},P.Nodup->P[i]? =YB x->vs[i]? =YB v->kindOf x≠YB .local ->
  bindC kindOf (P.zip vs) m x=YB v
 | [],_,_,_,_,h,_,_=>by simp at h
 | _::_,[],_,_,_,_,h,_=>by simp at h
 | p::P,w::vs,0,m,nd,h1,h2,hk=>by
  simp at h1 h2;subst h1;subst h2;show bindC kindOf ((p,w)::P.zip vs) m p=_;unfold bindC;rw[Zmb λv hv=>(Qh.mp nd).1 (List.of_mem_zip hv).1,YM hk];simp
 | p::P,w::vs,i+1,m,nd,h1,h2,hk=>by
  show bindC kindOf ((p,w)::P.zip vs) m x=_;unfold bindC;exact Zlz (i:=i) (Qh.mp nd).2 (by simpa using h1) (by simpa using h2) hk
def start(N:List Str)(vs:List V):St:=vs.map YB++By (N.length-vs.length) YC
def Zqk(CX:CXT)(P:X6)(w:Qp)(K:Xc)(mg:Str->Option Xd)(base:YH)(N:List Str)(qual:Str)(scope:U3)(f:YG)(cd:Xd)(A:Qk)(outer:List Env)(s:Xe)(H:Hp)(E:XK):Cx where
 prog:=P
 w:=w
 K:=K
 mg:=mg
 base:=base
 A:=A.deeper (Uz qual scope s.heap.objs.size f cd)
 N:=N
 s₀:=s
 H₀:=H
 env:=Uz qual scope s.heap.objs.size f cd
 outer:=outer
 stack:=Uz qual scope s.heap.objs.size f cd::outer
 ex:=[]
 calm:=YD
 fn:=λ_=>YD
 pn:=[]
 xe:=λe s'=>Xy (XR P w) (A.deeper (Uz qual scope s.heap.objs.size f cd)) (leaving (Uz qual scope s.heap.objs.size f cd) e) (λ_ s''=>CX outer H s E e s'') (λe' s''=>CX outer H s E e' s'') s'
theorem Zof{sc:U3}{n:Nat}(h:sc.names.lookup x=YB .cell):∃c,(Bp n sc.names []).lookup x=YB c:=by
 have q:=PySem.W.cellsFrom_some sc.names n [] (.inl h);exact Option.isSome_iff_exists.mp q
theorem Zq3{CX:CXT}{K:Xc}{mg:Str->Option Xd}{base:YH}{ps:List Str}{qual:Str}{scope:U3}{f:YG}{cd:Xd}{outer:List Env}{s1:Xe}{E:XK}{vs:List V}
  (S:Zq N ps scope) (hd:A.handled=YC) (e0:Z9a P w K mg base A outer s H) (hl:vs.length=ps.length) (r:Vals vs us)
  (x:InCallC s s.heap.objs.size (bindL (Uz qual scope s.heap.objs.size f cd).kindOf (ps.zip us) λ_=>YC) (Bp (s.heap.objs.size+1) scope.names []) (bindC (Uz qual scope s.heap.objs.size f cd).kindOf (ps.zip us) λ_=>YC) s1) :
  Inv (Zqk CX P w K mg base N qual scope f cd A outer s H E) [] (start N vs) H s1:=by
 have hpl:ps.length<=N.length:=by have:=YT List.length S.pre;rw[Um]at this;omega
 obtain⟨h1,tk,rfl,hk⟩:=x.done;have noA:∀b:YG,b∉(Zqk CX P w K mg base N qual scope f cd A outer s H E).ex:=λb z=>YX (show b∈([]:List YG)from z) (by simp);refine⟨⟨e0.mod,S.kind,rfl,rfl,XQ _,λy z c h1 h2=>?_,λy hy=>?_,λy c _ h=>?_,λ_=>hd,Qk.frames_deeper e0.frames,.inr ⟨rfl,rfl⟩,λb z=>YX z (noA b),e0.bs,e0.bsz,λb _ _=>noA b,λb z=>YX z (noA b),e0.funs,e0.frf⟩,
  rfl,e0.bare,Un.kept hk,⟨_,x.toInCall.ns,λi y v h1 h2 h3=>?_⟩,λy c h=>⟨_,x.cell y c h⟩,e0.hok.fresh (XQ _),λy c h=>?_,λp hp=>YX (show p∈([]:List (YG×Obj))from hp) (by simp),e0.hok.kept hk,?_⟩
 .exact name_of_addr x.apart (Bj h1) (Bj h2)
 .have hy:scope.names.lookup y=YB .cell\/scope.names.lookup y=YB .free:=hy
  rcases hy with hy|hy
  .exact Zof hy
  .exact YX rfl (S.nofree _ (Bj hy))
 .exact Vs (x.above y c (Bj h))
 .have hi:i<vs.length:=by
   unfold start at h2
   by_cases hi:i<vs.length
   .exact hi
   .rw[Q0 (by simpa using hi)]at h2
    rw[List.getElem?_replicate]at h2;split at h2<;>cases h2
  have ha:vs[i]? =YB v:=by
   unfold start at h2;rw[Vg (by simpa using hi),Xp]at h2;cases e:vs[i]? with
   | none=>rw[e]at h2;cases h2
   | some a=>rw[e]at h2;cases h2;rfl
  obtain⟨u,hu,rv⟩:=r.get ha;have hp:ps[i]? =YB y:=by
   rw[<-S.pre,List.getElem?_take_of_lt (by omega)];exact h1
  have ndP:ps.Nodup:=by rw[<-S.pre];exact S.nd.sublist (List.take_sublist _ _)
  refine⟨u,rv,?_⟩;rcases S.par y (QF hp)with k|k
  .exact .inl ⟨k,Zkz ndP hp hu k⟩
  .obtain⟨c,e⟩:=Zof (n:=s.heap.objs.size+1) k
   refine .inr ⟨.inl k,c,e,?_⟩;have q:=x.cell y c e;rw[Zlz ndP hp hu (by show scope.names.lookup y≠_;rw[k];decide)]at q;exact q
 .exact e0.hok.fresh (Vs (x.above y c (Bj h)))
 .unfold start
  show _=N.length;rw[QL,Xg,Ui];omega
theorem Z3y{CX:CXT}{K:Xc}{mg:Str->Option Xd}{base:YH}{k:Nat}{f:YG}{name qual:Str}{params:Arguments}{scope:U3}{dV kV doc pm cdv ct oc:Xd}{an od:Option YG}
  {osl:Array (Option Xd)} {ps:List Str} {sp:Sp} (lk:K.lookup f=YB ⟨oc,od,.func (VF name qual params body scope dV kV doc pm an cdv ct),osl⟩) (hcd:PySem.W.codeIn K cdv qual=YD) (S:Zq N ps scope)
  (len:∀vs H Q E,sp vs H Q E->vs.length=ps.length)
  (hbody:∀(A:Qk) (outer:List Env) (s:Xe) (H:Hp) (vs:List V) (Q:VK) (E:XK),Room k (A.deeper (Uz qual scope s.heap.objs.size f cdv))->sp vs H Q E ->
   ∃t,PSs (Zqk CX P w K mg base N qual scope f cdv A outer s H E) body t/\t { nx:=λ_ H'=>Q .non H',rt:=Q } (start N vs) H) :
  FnOk P w K mg base CX (k+1) f (VF name qual params body scope dV kV doc pm an cdv ct) ps sp:=by
 refine⟨len,λA outer s H args us vs Q E hr e0 hb r hsp=>?_⟩;have hl:=len _ _ _ _ hsp;have KX:K.In s.heap:=e0.mod.kin.keeps λb o e=>(e0.bs b o e).1;have lim:s.heap.NoLimit:=e0.mod.nolimit.keeps λb o e=>(e0.bs b o e).1;have hkind:∀y∈ps.zip us,scope.names.lookup y.1=YB .local\/(scope.names.lookup y.1=YB .cell/\((Bp (s.heap.objs.size+1) scope.names []).lookup y.1).isSome=YD):=λ⟨n,v⟩ hy=>by
  rcases S.par n (List.of_mem_zip hy).1 with q|q
  .exact .inl q
  .exact .inr ⟨q,PySem.W.cellsFrom_some _ _ _ (.inl q)⟩
 refine codeAny_call_function hr.depth (KX _ _ lk) rfl S.co S.gen rfl (PySem.W.codeRec_of KX hcd) (hb _ _ _ _ ?_);refine wpAny_newFunctionEnv_cells S.kind hkind λenv he s1 x=>?_;subst he;refine⟨lim.keeps x.toInCall.keep,codeAny_func ?_⟩;obtain⟨t,ht,hq⟩:=hbody A outer s H vs Q E (hr.deeper _) hsp;have I:Inv (Zqk CX P w K mg base N qual scope f cdv A outer s H E) [] (start N vs) H s1:=Zq3 S hr.hd e0 hl r x;refine Qw (ht [] s1 (start N vs) H _ I hq) (λfl s' hs=>?_) λe s' hs=>hs;have fin:∀{O':St} {H':Hp} {v:V} {u:Xd},Inv (Zqk CX P w K mg base N qual scope f cdv A outer s H E) [] O' H' s'->RelV v u->Q v H'->CE outer P w H s Q u s' :=
  fun{O' H' v u} J rv q=>⟨v,H',J.os,J.bare,J.base,J.hok,rv,q⟩
 cases fl with
 | ret u=>
  obtain⟨v,O',H',J,rv,q⟩:=hs;exact fin J rv q
 | next=>
  obtain⟨O',H',J,q⟩:=hs;exact fin (v:=V.non) (u:=QD) J rfl q
 | brk=>
  obtain⟨_,_,_,q⟩:=hs;exact Vc q
 | cont=>
  obtain⟨_,_,_,q⟩:=hs;exact Vc q
section
variable {p:Pos}{t:TA}{id T:String}{r:List V->Hp->VK->Prop}
def tCB(r:List V->Hp->VK->Prop)(t:TA):TE:=λO H Q=>t O H λvs H1=>r vs H1 Q
theorem Zes(hc:Zec X (.builtin id) r)(hg:Gl X x)(hm:X.mg x=YC)(hv:X4 x=YB (.builtin id))(ha:PA X (e::es) t)(hn:x≠"__name__" :=by decide)(hdb:(x==("__debug__" : Str))=YF:=by decide)
  (he:Xr (e::es) X.env=(YF,eval e X.env)::Xr es X.env:=by rfl) (hpl:(JG pos (Xr es X.env)).any (·.1)=YF:=by rfl):PE X (.Call (.Name x p) (e::es) [] pos) (tCB r t):=by
 intro pins s O H Q I h;refine BJ (Ze9 I hg hm hv ?_ hn hdb);refine PyProof.Rows.callWith_builtin1 (thn (ha pos pins s O H _ I h) λus s1 qz9=>?_) he hpl;obtain⟨vs,H1,I1,r1,q1⟩:=qz9;exact hc pins s1 O H1 vs us Q I1 r1 q1
theorem Zhc(hc:Zec X (.type T) r)(hg:Gl X x)(hm:X.mg x=YC)(hv:X4 x=YB (.type T))(ha:PA X (e::es) t)(hn:x≠"__name__" :=by decide)(hdb:(x==("__debug__" : Str))=YF:=by decide)
  (he:Xr (e::es) X.env=(YF,eval e X.env)::Xr es X.env:=by rfl) (hpl:(JG pos (Xr es X.env)).any (·.1)=YF:=by rfl):PE X (.Call (.Name x p) (e::es) [] pos) (tCB r t):=by
 intro pins s O H Q I h;refine BJ (Ze9 I hg hm hv ?_ hn hdb);refine JV (thn (ha pos pins s O H _ I h) λus s1 qz9=>?_) he hpl;obtain⟨vs,H1,I1,r1,q1⟩:=qz9;exact hc pins s1 O H1 vs us Q I1 r1 q1
end
end L2
namespace HT
open PySem PyProof.Rows
section
open PySem.SeqAt
open PySem.AutoSeq1 (wpAny_loadPart')
open PySem.MeetsSeq PySem.MeetsSeq2 PySem.MeetsSeq3
end
section
variable {prog:X6}
def sIx(n d:Nat):Option Int->Nat
 | none=>d
 | some v=>if v<0 then(v+(n:Int)).toNat else min v.toNat n
theorem sIx_none(n d:Nat):sIx n d YC=d:=rfl
theorem sIx_nat(n d k:Nat):sIx n d (YB (k:Int))=min k n:=by
 show(if(k:Int)<0 then((k:Int)+(n:Int)).toNat else min (k:Int).toNat n)=min k n;rw[YM (by omega),XX]
end
end HT
namespace L2
open PySem PySem.Spec PyProof.Rows
abbrev TO:=St->Hp->(Option Int->Hp->Prop)->Prop
def PO(X:Cx)(e:Option YJ)(t:TO):Prop :=
 ∀(pins:List (YG×Obj)) (s:Xe) (O:St) (H:Hp) (Q:Option Int->Hp->Prop),Inv X pins O H s->t O H Q ->
  Xy (XR X.prog X.w) X.A (evalPart e X.env) (λu s'=>∃o H',Inv X pins O H' s'/\IsPart u o/\Q o H') X.xe s
def Z2v:TO:=λ_ H Q=>Q YC H
def Z9q(t:TE):TO:=λO H Q=>t O H λx H1=>∃i,x= .int i/\Q (YB i) H1
section
variable {lo hi:Option YJ}{tl th:TO}{p2:Pos}
theorem Z20:PO X YC Z2v:=by
 intro pins s O H Q I h;rw[evalPart_none];exact Xo ⟨YC,H,I,.none,h⟩
theorem Zz4(h:PE X e te):PO X (YB e) (Z9q te):=by
 intro pins s O H Q I hw;rw[evalPart_some];refine thn (h pins s O H _ I hw) λu s1 qz9=>?_;obtain⟨x,H1,I1,r1,q1⟩:=qz9;obtain⟨i,rfl,q⟩:=q1;obtain⟨t,rfl⟩:=r1;exact⟨YB i,H1,I1,.int i t,q⟩
def SlR(X:Cx)(r:V->Option Int->Option Int->Hp->VK->Prop):Prop :=
 ∀(pins:List (YG×Obj)) (s:Xe) (O:St) (H:Hp) (x:V) (v vl vu:Xd) (lo hi:Option Int) (sl:YG) (Q:VK),Inv X pins O H s->RelV x v->s.heap.IsSliceOf sl vl vu .none->IsPart vl lo->IsPart vu hi->r x lo hi H Q ->
  ∃T id,typeLookup (.type T) "__getitem__"=pure (YB (.builtin id))/\s.TypeIs v T/\Xy (XR X.prog X.w) X.A (getItem v (.ref sl)) (EP X pins O Q) X.xe s
def tSl(r:V->Option Int->Option Int->Hp->VK->Prop)(te:TE)(tl th:TO):TE:=λO H Q=>te O H λx H1=>tl O H1 λl H2=>th O H2 λu H3=>r x l u H3 Q
theorem Zuq{r:V->Option Int->Option Int->Hp->VK->Prop}(hr:SlR X r)(he:PE X e te)(hl:PO X lo tl)(hu:PO X hi th):PE X (.Subscript e (.Slice lo hi YC p2) pos) (tSl r te tl th):=by
 intro pins s O H Q I h;refine Subscript_ (thn (he pins s O H _ I h) λv s1 qz9=>?_);obtain⟨x,H1,I1,r1,q1⟩:=qz9;refine wpAny_Slice (thn (hl pins s1 O H1 _ I1 q1) λvl s2 qz9=>?_);obtain⟨l,H2,I2,pl,q2⟩:=qz9;refine thn (hu pins s2 O H2 _ I2 q2) λvu s3 qz9=>?_;obtain⟨u,H3,I3,pu,q3⟩:=qz9;rw[evalPart_none];refine Xo ?_;have I4:Inv X pins O H3 { s3 with heap:=s3.heap.push { cls:=.type "slice",data:=.fields #[vl,vu,.none] } }:=I3.kept (t':=s3.toks) λb ob q=>Xf _ q;obtain⟨T,id,hT,ht,hg⟩:=hr pins { s3 with heap:=s3.heap.push { cls:=.type "slice",data:=.fields #[vl,vu,.none] } } O H3 x v vl vu l u s3.heap.objs.size Q I4 r1 (Heap.IsSliceOf.new ..) pl pu q3;show Xy (XR X.prog X.w) X.A (subscriptTail e (.Slice lo hi YC p2) v (.ref s3.heap.objs.size)) (EP X pins O Q) X.xe { s3 with heap:=s3.heap.push { cls:=.type "slice",data:=.fields #[vl,vu,.none] } };exact tail_any (ops:=[.ref s3.heap.objs.size,v]) ht hT hg (by with_unfolding_all rfl)
def Z3e(xs:List V)(lo hi:Option Int):List V:=(xs.drop (HT.sIx xs.length 0 lo)).take (HT.sIx xs.length xs.length hi-HT.sIx xs.length 0 lo)
theorem Znl(xs:List V)(lo hi:Option Int):(Z3e xs lo hi).length<=xs.length:=by
 unfold Z3e;rw[Um,BZ];omega
end
def ixN(n:Nat)(i:Int):Option Nat:=if 0<=i then(if i<n then YB i.toNat else YC)else if -(n:Int)<=i then YB (i+n).toNat else YC
def atI(xs:List Y)(i:Int):Option Y:=(ixN xs.length i).bind λj=>xs[j]?
theorem Zq9{n:Nat}{i:Int}(h:ixN n i=YB j):seqIndex? i n=YB j/\j<n/\-(n:Int)<=i/\i<n:=by
 unfold ixN at h
 by_cases h0:0<=i
 .rw[YL h0]at h
  by_cases h1:i<n
  .rw[YL h1]at h
   have e:i.toNat=j:=QK h;exact⟨by rw[seqIndex_of h0 h1,e],by omega,by omega,h1⟩
  .rw[YM h1]at h;cases h
 .rw[YM h0]at h
  by_cases h1:-(n:Int)<=i
  .rw[YL h1]at h
   have e:(i+n).toNat=j:=QK h;exact⟨by rw[seqIndex_neg (by omega) h1,e],by omega,h1,by omega⟩
  .rw[YM h1]at h;cases h
theorem Zmn{xs:List Y}{i:Int}{v:Y}(h:atI xs i=YB v):∃j,seqIndex? i xs.length=YB j/\xs[j]? =YB v/\j<xs.length/\-(xs.length:Int)<=i/\i<xs.length:=by
 unfold atI at h;cases e:ixN xs.length i with
 | none=>rw[e]at h;cases h
 | some j=>
  rw[e]at h;obtain⟨h1,h2,h3,h4⟩:=Zq9 e;exact⟨j,h1,h,h2,h3,h4⟩
def Zkj(b:YJ):Prop:=∀o i,subscripted b YF o i=operate [o,i] (getItem o i)
def IxR(X:Cx)(r:R2):Prop :=
 ∀(value slice:YJ) (pins:List (YG×Obj)) (s:Xe) (O:St) (H:Hp) (x y:V) (v u:Xd) (Q:VK),Inv X pins O H s->RelV x v->RelV y u->r x y H Q ->
  subscripted slice YF v u=operate [v,u] (getItem v u)->Xy (XR X.prog X.w) X.A (subscriptTail value slice v u) (EP X pins O Q) X.xe s
def MtR(X:Cx)(id:String)(r:V->List V->Hp->VK->Prop):Prop :=
 ∀(pins:List (YG×Obj)) (s:Xe) (O:St) (H:Hp) (x:V) (xs:List V) (v:Xd) (us:List Xd) (Q:VK),Inv X pins O H s->RelV x v->Vals xs us->r x xs H Q ->
  Xy (XR X.prog X.w) X.A (call (.builtin id) (v::us)) (EP X pins O Q) X.xe s
end L2
variable {dx C:YG}{CX:CXT}{op:CmpOp}{iter:YJ}{lo hi:Int}{ps:List Str}{vs:List V}{apos p2 cpos:Pos}{r:R2}{sp:Sp}{name qual:Str}{kindOf:Str->Option BP}{mA mg:Str->Option Xd}{id:String}{tl tc:TE}{scope:U3}{prog:X6}{K:Xc}
namespace L2
open PySem PySem.Spec PyProof.Rows
section
variable {a:YJ}
theorem IxR.or{r':R2}(h:IxR X r)(h':IxR X r'):IxR X (λx y H Q=>r x y H Q\/r' x y H Q):=by
 intro value slice pins s O H x y v u Q I rx ry q hs;rcases q with q|q
 .exact h value slice pins s O H x y v u Q I rx ry q hs
 .exact h' value slice pins s O H x y v u Q I rx ry q hs
theorem Z28(hr:IxR X r)(ha:PE X a ta)(hb:PE X b tb)(hs:Zkj b):PE X (.Subscript a b pos) (tOp r ta tb):=by
 intro pins s O H Q I h;exact Subscript_ (Yay ha hb I h λv u s2 x y H2 I2 rx ry q=>hr a b pins s2 O H2 x y v u Q I2 rx ry q (hs _ _))
def Yam(K:Xc):R2:=λx y H Q=>∃p xs i v,x= .ref p/\y= .int i/\SqL K H p xs/\atI xs i=YB v/\Q v H
def Ycx(K:Xc):R2:=λx y H Q=>∃p xs i v,x= .ref p/\y= .int i/\SqT K H p xs/\atI xs i=YB v/\Q v H
def Yds:R2:=λx y H Q=>∃z i c,x= .str z/\y= .int i/\z.length<=Xw/\atI z.cps.toList i=YB c/\Q (.str ⟨#[c]⟩) H
theorem Zrt:IxR X (Yam X.K):=by
 intro value slice pins s O H x y v u Q I rx ry h hs;obtain⟨p,xs,i,z,rfl,rfl,hq,he,q⟩:=h;cases rx;obtain⟨t,rfl⟩:=ry;obtain⟨its,r,pl,hz⟩:=I.list hq;obtain⟨j,h1,h2,h3,h4,h5⟩:=Zmn he;obtain⟨w,ew,rw'⟩:=r.get h2;have hl:=r.length;have hn:=Ziq;have fin:EP X pins O Q w s:=⟨z,H,I,rw',q⟩
 by_cases h0:0<=i
 .have hj:i.toNat=j:=by
   rw[seqIndex_of h0 h5]at h1;exact QK h1
  exact item_listR pl.isList h0 (by omega) (by rw[hj];simpa using ew) fin hs
 .have hj:(i+(its.toArray.size:Int)).toNat=j:=by
   rw[seqIndex_neg (by omega) h4]at h1;rw[Qa,<-hl];exact QK h1
  exact subscriptTail_builtinR (x:=w) pl.isList.typeIs slot_list_getitem.lookup
   (wpAny_getItem_list_neg (Q:=λr s'=>r=w/\EP X pins O Q r s') pl.isList (by omega) (by rw[Qa]<;>omega) (by omega) (by rw[hj];simpa using ew) ⟨rfl,fin⟩) hs
theorem Z74:IxR X (Ycx X.K):=by
 intro value slice pins s O H x y v u Q I rx ry h hs;obtain⟨p,xs,i,z,rfl,rfl,hq,he,q⟩:=h;cases rx;obtain⟨t,rfl⟩:=ry;obtain⟨its,r,pl,hz⟩:=I.tuple hq;obtain⟨j,h1,h2,h3,h4,h5⟩:=Zmn he;obtain⟨w,ew,rw'⟩:=r.get h2;have hl:=r.length;have hn:=Ziq;have fin:EP X pins O Q w s:=⟨z,H,I,rw',q⟩;exact subscriptTail_builtinR (x:=w) pl.typeIs slot_tuple_getitem.lookup
  (getItem_tuple (j:=j) (Q:=λr s'=>r=w/\EP X pins O Q r s') pl (by omega) (by omega) (by rw[Qa,<-hl];exact h1) (by simpa using ew) ⟨rfl,fin⟩) hs
theorem Z6t:IxR X Yds:=by
 intro value slice pins s O H x y v u Q I rx ry h hs;obtain⟨z,i,c,rfl,rfl,hz,he,q⟩:=h;obtain⟨t,rfl⟩:=rx;obtain⟨t',rfl⟩:=ry;obtain⟨j,h1,h2,h3,h4,h5⟩:=Zmn he;have hl:z.cps.toList.length=z.length:=by simp[Str.length]
 rw[hl]at h1 h4 h5;have hn:=Ziq;exact tail_any (typeIs_str s z t) slot_str_getitem.lookup (getItem_str (c:=c) (by
  have e1:decide (i< -(2^63:Int))=YF:=YS (by omega);have e2:decide (i>=2^63)=YF:=YS (by omega);rw[e1,e2,Bool.or_false]) (by rw[h1];simpa using h2) ⟨.str ⟨#[c]⟩,H,I.tok _,⟨_,rfl⟩,q⟩) hs
def rIx(K:Xc):R2:=λx y H Q=>Yam K x y H Q\/Ycx K x y H Q\/Yds x y H Q
theorem Z5m:IxR X (rIx X.K):=Zrt.or (Z74.or Z6t)
theorem Zpw(its:List Xd)(n j:Nat)(u:Xd):Bk (·.setIfInBounds j u) { cls:=.type "list",data:=.seq its.toArray n }={ cls:=.type "list",data:=.seq (its.set j u).toArray n }:=by
 simp[Bk]
theorem Inv.lst{O:St}{p:YG}(I:Inv X pins O H s)(h:H p=YB (.lst xs)) :
  ∃(its:List Xd) (n:Nat),Vals xs its/\s.heap.get? p=YB { cls:=.type "list",data:=.seq its.toArray n }/\xs.length<=Xw:=by
 obtain⟨z,its,n,r,e⟩:=I.hok p _ h;exact⟨its,n,r,e,z⟩
theorem Inv.lstUpd{O:St}{p:YG}{its its':List Xd}{n n':Nat}{f:Obj->Obj}(I:Inv X pins O H s)(h:H p=YB (.lst xs))
  (ho:s.heap.get? p=YB { cls:=.type "list",data:=.seq its.toArray n }) (hf:f { cls:=.type "list",data:=.seq its.toArray n }={ cls:=.type "list",data:=.seq its'.toArray n' }) (r:Vals ys its') (hz:ys.length<=Xw) (t:Nat) :
  Inv X pins O (upd H p (.lst ys)) { s with heap:=s.heap.update p f,toks:=t }:=by
 have e:(s.heap.update p f).get? p=YB { cls:=.type "list",data:=.seq its'.toArray n' }:=by
  rw[Uk f ho (by rw[hf]<;>rfl),hf]
 refine I.write (x:=p) (e:=p) (by rw[h];trivial) (.inl rfl) (λb u hb q=>(Heap.get?_update_other _ _ (JW hb)).trans q) ⟨_,e⟩ ?_;exact⟨hz,its',n',r,e⟩
def Z13:V->V->V->Hp->(Hp->Prop)->Prop:=λo i v H Q=>∃p xs k j,o= .ref p/\i= .int k/\H p=YB (.lst xs)/\ixN xs.length k=YB j/\Q (upd H p (.lst (xs.set j v)))
theorem set_list:Ydq X Z13:=by
 intro pins s O H o i v ov iv u Q I ro ri rv h;obtain⟨p,xs,k,j,rfl,rfl,hp,hj,q⟩:=h;cases ro;obtain⟨t,rfl⟩:=ri;obtain⟨its,n,r,ho,hz⟩:=I.lst hp;obtain⟨h1,h2,h3,h4⟩:=Zq9 hj;have hl:=r.length;have hn:=Ziq;have I':Inv X pins O (upd H p (.lst (xs.set j v))) { s with heap:=s.heap.update p (Bk (·.setIfInBounds j u)) } :=
  I.lstUpd hp ho (Zpw its n j u) (r.set rv j) (by rw[Bo];exact hz) s.toks
 by_cases h0:0<=k
 .have hk:k.toNat=j:=by
   rw[seqIndex_of h0 h4]at h1;exact QK h1
  exact PySem.W.ki_setAt ho h0 (by omega) (by rw[Qa,<-hl];exact h4) (by rw[hk];exact⟨_,I',q⟩)
 .have hk:(k+(its.toArray.size:Int)).toNat=j:=by
   rw[seqIndex_neg (by omega) h3]at h1;rw[Qa,<-hl];exact QK h1
  exact PySem.W.ki_setBack ho (by omega) (by rw[Qa,<-hl];exact h3) (by omega) (by rw[hk];exact⟨_,I',q⟩)
theorem Zme(lo hi:Option Int)(n:Nat):(U0 lo hi YC n).1=((HT.sIx n 0 lo:Nat):Int)/\(U0 lo hi YC n).2.1=((HT.sIx n n hi:Nat):Int)/\(U0 lo hi YC n).2.2=1:=by
 refine⟨?_,?_,rfl⟩
 .cases lo with
  | none=>simp[U0,HT.sIx]
  | some i=>
   simp only[U0,HT.sIx,Option.getD_none,show(1:Int)>0 by decide,if_true]
   by_cases h:i<0
   .simp only[h,if_true]<;>omega
   .simp only[h,if_false]<;>omega
 .cases hi with
  | none=>simp[U0,HT.sIx]
  | some i=>
   simp only[U0,HT.sIx,Option.getD_none,show(1:Int)>0 by decide,if_true]
   by_cases h:i<0
   .simp only[h,if_true]<;>omega
   .simp only[h,if_false]<;>omega
theorem Zkg(its:List Xd)(lo hi:Option Int):slicePick its.toArray lo hi YC=((its.drop (HT.sIx its.length 0 lo)).take (HT.sIx its.length its.length hi-HT.sIx its.length 0 lo)).toArray:=by
 obtain⟨h1,h2,h3⟩:=Zme lo hi its.toArray.size;unfold slicePick;rw[h1,h2,h3];simp only[sliceRange_one,pick_run,Qa]<;>rfl
def Ydm(K:Xc):V->Option Int->Option Int->Hp->VK->Prop:=λx lo hi H Q=>∃a xs,x= .ref a/\SqL K H a xs/\∀p,H p=YC->Q (.ref p) (upd H p (.lst (Z3e xs lo hi)))
theorem Z2f:SlR X (Ydm X.K):=by
 intro pins s O H x v vl vu lo hi sl Q I rx hs pl pu h;obtain⟨a,xs,rfl,hx,q⟩:=h;cases rx;obtain⟨its,r,ht,hz⟩:=I.list hx;have hlen:=r.length;refine⟨"list",_,slot_list_getitem.lookup,ht.isList.typeIs,?_⟩;refine wpAny_getItem_list_slice ht.isList hs pl pu .none (by simp) ?_ (by rw[Qa]<;>omega);rw[Zkg,<-hlen];refine⟨.ref s.heap.objs.size,_,I.laid (t':=s.toks) (o:=.lst (Z3e xs lo hi)) (λb ob q=>Xf _ q) (XQ _) ?_,rfl,q _ (I.hok.fresh (XQ _))⟩;exact⟨Q7 (Znl xs lo hi) hz,_,0,(r.drop (HT.sIx xs.length 0 lo)).take (HT.sIx xs.length xs.length hi-HT.sIx xs.length 0 lo),Xx _ rfl⟩
def Zg9:V->Bool
 | .non=>YD
 | .bl _=>YD
 | .int _=>YD
 | .str _=>YD
 | _=>YF
def eqV:V->V->Bool
 | .non,.non=>YD
 | .bl a,.bl b=>a==b
 | .bl a,.int b=>(if a then 1 else 0)==b
 | .int a,.bl b=>a==(if b then 1 else 0)
 | .int a,.int b=>a==b
 | .str a,.str b=>a==b
 | _,_=>YF
theorem Z4x{y x:V}{v:Xd}(ry:RelV y u)(rx:RelV x v)(fy:Zg9 y=YD)(fx:Zg9 x=YD):Bh A s u v (eqV y x):=by
 cases y with
 | non=>
  cases ry;cases x with
  | non=>cases rx;exact Bh.same _
  | bl b=>cases rx;exact Bh.none_bool b
  | int b=>obtain⟨t,rfl⟩:=rx;exact Bh.none_int b t
  | str b=>obtain⟨t,rfl⟩:=rx;exact Bh.none_str b t
  | _=>exact YX (show YF=YD from fx) XC
 | bl a=>
  cases ry;cases x with
  | non=>cases rx;exact Bh.bool_none a
  | bl b=>cases rx;exact Bh.bool_bool a b
  | int b=>obtain⟨t,rfl⟩:=rx;exact Bh.bool_int a b t
  | str b=>obtain⟨t,rfl⟩:=rx;exact Bh.bool_str a b t
  | _=>exact YX (show YF=YD from fx) XC
 | int a=>
  obtain⟨t',rfl⟩:=ry;cases x with
  | non=>cases rx;exact Bh.int_none a t'
  | bl b=>cases rx;exact Bh.int_bool a t' b
  | int b=>obtain⟨t,rfl⟩:=rx;exact Bh.int_int a t' b t
  | str b=>obtain⟨t,rfl⟩:=rx;exact SeqAt.EqAt.int_str a t' b t
  | _=>exact YX (show YF=YD from fx) XC
 | str a=>
  obtain⟨t',rfl⟩:=ry;cases x with
  | non=>cases rx;exact Bh.str_none a t'
  | bl b=>cases rx;exact Bh.str_bool a t' b
  | int b=>obtain⟨t,rfl⟩:=rx;exact SeqAt.EqAt.str_int a t' b t
  | str b=>obtain⟨t,rfl⟩:=rx;exact Bh.str_str a t' b t
  | _=>exact YX (show YF=YD from fx) XC
 | _=>exact YX (show YF=YD from fy) XC
def eqU(x:V)(u:Xd):Bool:=match u with
 | .none=>eqV .non x
 | .bool b=>eqV (.bl b) x
 | .int i _=>eqV (.int i) x
 | .str z _=>eqV (.str z) x
 | _=>YF
theorem Zxo{x y:V}(r:RelV y u)(f:Zg9 y=YD):eqU x u=eqV y x:=by
 cases y with
 | non=>cases r;rfl
 | bl b=>cases r;rfl
 | int i=>obtain⟨t,rfl⟩:=r;rfl
 | str z=>obtain⟨t,rfl⟩:=r;rfl
 | _=>exact YX (show YF=YD from f) XC
theorem Zjn{x:V}(h:Vals xs us)(f:xs.all Zg9=YD):us.any (eqU x)=xs.any λy=>eqV y x:=by
 induction h with
 | nil=>rfl
 | cons r t ih=>
  rw[List.all_cons,XM]at f;rw[List.any_cons,List.any_cons,Zxo r f.1,ih f.2]
theorem Zgr{x:V}{v:Xd}(rx:RelV x v)(fx:Zg9 x=YD)(h:Vals xs us)(f:xs.all Zg9=YD):∀u∈us,Bh A s u v (eqU x u):=by
 induction h with
 | nil=>intro u hu;cases hu
 | cons r t ih=>
  intro u' hu;rw[List.all_cons,XM]at f;rcases Xi.mp hu with rfl|hu
  .rw[Zxo r f.1];exact Z4x r rx f.1 fx
  .exact ih f.2 u' hu
def inV(x:V)(xs:List V):Bool:=xs.any λy=>eqV y x
def rIn(K:Xc)(neg:Bool):R2:=λx y H Q=>∃p xs,y= .ref p/\(SqL K H p xs\/SqT K H p xs)/\Zg9 x=YD/\xs.all Zg9=YD/\Q (.bl (if neg then !inV x xs else inV x xs)) H
theorem Zt9:OpR X (Bb .In) (rIn X.K YF):=by
 intro pins s O H x y v u Q I rx ry h;obtain⟨p,xs,rfl,hq,fx,fs,q⟩:=h;cases ry;rcases hq with hq|hq
 .obtain⟨its,r,pl,hz⟩:=I.list hq
  refine SeqAt.in_listAt (eqU x) pl.isList (λw hw=>Zgr rx fx r fs w (by simpa using hw)) ⟨.bl _,H,I,rfl,?_⟩;rw[show its.toArray.any (eqU x)=its.any (eqU x) by simp,Zjn r fs];exact q
 .obtain⟨its,r,pl,hz⟩:=I.tuple hq
  refine SeqAt.in_tupleAt (eqU x) pl (λw hw=>Zgr rx fx r fs w (by simpa using hw)) ⟨.bl _,H,I,rfl,?_⟩;rw[show its.toArray.any (eqU x)=its.any (eqU x) by simp,Zjn r fs];exact q
theorem Zli:OpR X (Bb .NotIn) (rIn X.K YD):=by
 intro pins s O H x y v u Q I rx ry h;obtain⟨p,xs,rfl,hq,fx,fs,q⟩:=h;cases ry;rcases hq with hq|hq
 .obtain⟨its,r,pl,hz⟩:=I.list hq
  refine SeqAt.notIn_listAt (eqU x) pl.isList (λw hw=>Zgr rx fx r fs w (by simpa using hw)) ⟨.bl _,H,I,rfl,?_⟩;rw[show its.toArray.any (eqU x)=its.any (eqU x) by simp,Zjn r fs];exact q
 .obtain⟨its,r,pl,hz⟩:=I.tuple hq
  refine SeqAt.notIn_tupleAt (eqU x) pl (λw hw=>Zgr rx fx r fs w (by simpa using hw)) ⟨.bl _,H,I,rfl,?_⟩;rw[show its.toArray.any (eqU x)=its.any (eqU x) by simp,Zjn r fs];exact q
theorem Zk9:Zec X (.builtin "len") (λxs H Q=>∃p ys,xs=[.ref p]/\(SqL X.K H p ys\/SqT X.K H p ys)/\Q (.int ys.length) H):=by
 intro pins s O H xs us Q I r h;obtain⟨p,ys,rfl,hq,q⟩:=h;obtain⟨u,rfl,rx⟩:=vals1 r;cases rx;have hn:=Ziq;rcases hq with hq|hq
 .obtain⟨its,r',pl,hz⟩:=I.list hq
  have hlen:=r'.length;exact Calls.call_len_list pl.isList (by simp only[Qa]<;>omega) ⟨.int ys.length,H,I.tok _,⟨s.toks+1,by rw[Qa,hlen]⟩,q⟩
 .obtain⟨its,r',pl,hz⟩:=I.tuple hq
  have hlen:=r'.length;exact len_tuple pl (by simp only[Qa]<;>omega) ⟨.int ys.length,H,I.tok _,⟨s.toks+1,by rw[Qa,hlen]⟩,q⟩
def tyV(K:Xc)(T:String)(x:V)(H:Hp):Prop:=match x with
 | .str _=>T="str"
 | .int _=>T="int"
 | .ref p=>(T="list"/\∃xs,SqL K H p xs)\/(T="tuple"/\∃o,K.lookup p=YB o/\o.cls= .type "tuple"/\o.dict=YC)\/
   (T="dict"/\((∃kvs,H p=YB (.dK kvs))\/∃kvs,H p=YB (.dT kvs)))\/(T="set"/\∃S n,H p=YB (.set S n))
 | _=>False
theorem Z39{O:St}{T:String}{x:V}{v:Xd}(I:Inv X pins O H s)(r:RelV x v)(ty:tyV X.K T x H) :
  s.TypeIs v T/\∀a,v= .ref a->∃ob,s.heap.get? a=YB ob/\ob.dict=YC:=by
 cases x with
 | str z=>
  obtain⟨t,rfl⟩:=r;cases(show T="str"from ty);exact⟨typeIs_str s z t,λ_ e=>nomatch e⟩
 | int i=>
  obtain⟨t,rfl⟩:=r;cases(show T="int"from ty);exact⟨typeIs_int s i t,λ_ e=>nomatch e⟩
 | ref p=>
  cases r;rcases ty with⟨rfl,xs,hq⟩|⟨rfl,o,hk,hc,hd⟩|⟨rfl,hk⟩|⟨rfl,S,n,hk⟩
  .obtain⟨its,_,pl,_⟩:=I.list hq
   refine⟨pl.isList.typeIs,λa e=>?_⟩;cases e;obtain⟨o,n,e,c,hd,_⟩:=pl;exact⟨o,e,hd⟩
  .refine⟨⟨o,I.kIn p o hk,hc⟩,λa e=>?_⟩
   cases e;exact⟨o,I.kIn _ o hk,hd⟩
  .have z:∃o,s.heap.get? p=YB o/\o.ExactDict:=by
    rcases hk with⟨kvs,hk⟩|⟨kvs,hk⟩
    .obtain⟨_,_,_,_,o,_,_,e,ex,_⟩:=I.hok p _ hk
     exact⟨o,e,ex⟩
    .obtain⟨_,_,_,_,o,_,_,e,ex,_⟩:=I.hok p _ hk
     exact⟨o,e,ex⟩
   obtain⟨o,e,ex⟩:=z;refine⟨⟨o,e,ex.1⟩,λa e2=>?_⟩;cases e2;exact⟨o,e,ex.2.1⟩
  .obtain⟨o,_,_,_,e,ex,_⟩:=I.hok p _ hk
   refine⟨⟨o,e,ex.1⟩,λa e2=>?_⟩;cases e2;exact⟨o,e,ex.2.1⟩
 | _=>exact Vc ty
def tBM(K:Xc)(T:String)(r:V->List V->Hp->VK->Prop)(to:TE)(t:TA):TE:=λO H Q=>to O H λx H1=>tyV K T x H1/\t O H1 λxs H2=>r x xs H2 Q
variable {o:YJ}{t:TA}{T:String}{r:V->List V->Hp->VK->Prop}
theorem Zzb(pa:PlainAttrs T)(slot:Slot T name id)(hty:typeOf (.builtin id)=pure (.type "method_descriptor"))(hm:MtR X id r)(ho:PE X o to)(ha:PA X (e::es) t)
  (hbase:UW o name X.env (eval o X.env)=eval o X.env:=by rfl)
  (hfew:((JG cpos (Xr (e::es) X.env)).all (λx=>!x.1)&&(backToKw cpos (keywordEach [] X.env)).all (λx=>x.1.isSome)
   &&decide ((e::es).length+([]:List Uu).length+(if([]:List Uu).isEmpty then 0 else 1)<30))=YD:=by rfl)
  (hline:(apos.endLine==cpos.line)=YD:=by rfl) (hs:Xr (e::es) X.env=(YF,eval e X.env)::Xr es X.env:=by rfl) (hplain:(JG cpos (Xr es X.env)).any (·.1)=YF:=by rfl) :
  PE X (.Call (.Attribute o name apos) (e::es) [] cpos) (tBM X.K T r to t):=by
 intro pins s O H Q I h;refine wpAny_Call_method_late hbase hfew hline rfl (thn (ho pins s O H _ I h) λv s1 qz9=>?_);obtain⟨x,H1,I1,r1,ty,q1⟩:=qz9;obtain⟨h1,h2⟩:=Z39 I1 r1 ty;refine⟨T,id,pa,slot,hty,h1,h2,?_⟩;have hA:=ha cpos pins s1 O H1 _ I1 q1;rw[hs]at hA|-
 refine Calls.callWith_builtin (by show(YF||(JG cpos (Xr es X.env)).any (·.1))=YF;rw[hplain]<;>rfl) (Calls.evalArgs_plain ?_);refine thn hA λus s2 qz9=>?_;obtain⟨vs,H2,I2,r2,q2⟩:=qz9;exact hm pins s2 O H2 x vs v us Q I2 r1 r2 q2
end
def MtM(X:Cx)(id:String)(r:V->List V->Hp->VK->Prop):Prop :=
 ∀(pins:List (YG×Obj)) (s:Xe) (O:St) (H:Hp) (x:V) (xs:List V) (v:Xd) (us:List Xd) (Q:VK),Inv X pins O H s->RelV x v->Vals xs us->r x xs H Q ->
  Xy (XR X.prog X.w) X.A (call (.builtin id) (v::us)) (EP X pins O Q) X.xe s
theorem Vals.one{x:V}(h:Vals [x] us):∃u,us=[u]/\RelV x u:=by
 cases h with
 | cons r t=>cases t;exact⟨_,rfl,r⟩
theorem Vals.zero:∀{us:List Xd},Vals [] us->us=[]
 | _,.nil=>rfl
section
variable {O:St}{l b:YG}{zs:List V}
theorem Inv.lset{its its':List Xd}{n:Nat}{f:Array Xd->Array Xd}(I:Inv X pins O H s)(hH:H l=YB (.lst xs))
  (e:s.heap.get? l=YB { cls:=.type "list",data:=.seq its.toArray n }) (hf:f its.toArray=its'.toArray) (hv:Vals ys its') (hz:ys.length<=Xw) :
  Inv X pins O (upd H l (.lst ys)) { s with heap:=s.heap.update l (Bk f),toks:=t' }:=by
 have q:=PySem.IsL.update e f;rw[hf]at q;refine I.write (x:=l) (e:=l) (by rw[hH];exact trivial) (.inl rfl) (λb' u hb hu=>(Heap.get?_update_other s.heap (Bk f) (JW hb)).trans hu) ⟨_,q⟩ ?_;exact⟨hz,its',_,hv,q⟩
theorem Inv.lnew{its:List Xd}(I:Inv X pins O H s)(hv:Vals ys its)(hz:ys.length<=Xw) :
  Inv X pins O (upd H s.heap.objs.size (.lst ys)) { s with heap:=s.heap.push { cls:=.type "list",data:=.seq its.toArray },toks:=t' } :=
 I.laid (λ_ _ q=>Xf _ q) (XQ _) ⟨hz,its,0,hv,Xx _ rfl⟩
theorem Inv.fresh(I:Inv X pins O H s):H s.heap.objs.size=YC:=I.hok.fresh (XQ _)
theorem Inv.lstM(I:Inv X pins O H s)(hH:H l=YB (.lst xs)):xs.length<=Xw/\∃(its:List Xd) (n:Nat),Vals xs its/\xs.length=its.length/\s.heap.get? l=YB { cls:=.type "list",data:=.seq its.toArray n }:=by
 obtain⟨z,its,n,r,e⟩:=I.hok l _ hH;exact⟨z,its,n,r,r.length,e⟩
end
def Z2o:V->List V->Hp->VK->Prop:=λx vs H Q=>∃l xs y,x= .ref l/\vs=[y]/\H l=YB (.lst xs)/\xs.length<Xw/\Q .non (upd H l (.lst (xs++[y])))
theorem Zep:MtM X "list.append" Z2o:=by
 intro pins s O H x vs v us Q I rx rv h;obtain⟨l,xs,y,rfl,rfl,hH,hz,q⟩:=h;cases rx;obtain⟨u,rfl,ru⟩:=rv.one;obtain⟨z,its,n,r,hl,e⟩:=I.lstM hH;refine call_meets F.slot_list_append ⟨_,e,rfl⟩ F.entry_list_append (F.args_list_append_2 _ _) (PySem.list_append l its.toArray n u (by rw[Qa];omega)) ⟨e,?_⟩;refine⟨.non,_,I.lset (its':=its++[u]) hH e (by simp) (r.append (.cons ru .nil)) ?_,rfl,q⟩;rw[QL,Vw];omega
end L2
namespace Att
open PySem PySem.W PySem.Calls PyProof.Rows
theorem Zh5{P:Params}:∀(ns:List Int) (vs:List Xd),WellAll P h vs (ns.map WData.int)->Bw vs ns:=by
 intro ns
 induction ns with
 | nil=>
  intro vs w;rw[List.map_nil]at w;cases w;exact .nil
 | cons n ns ih=>
  intro vs w;rw[Qq]at w;cases w with
  | cons a b=>
   cases a;exact .cons _ _ (ih _ b)
theorem Zso{l:OpenLaw}{n:Nat}(hn:l.most=YB n){P:Params}{args:List WData}{vals:List Xd}
  (hpre:l.row.toRowW.claim.pre args=YD) (hwl:WellAll P h vals args) :
  ∃a vs ns,vals=[Qj a]/\args=[WData.list (ns.map WData.int)]/\h.get? a=YB { cls:=.type "list",data:=.seq vs.toArray }/\Bw vs ns/\ns.length<=n:=by
 have hsh:WShape.hasAll [] args [.list .int]=YD:=(pre_splitW hpre).1;have hc:l.pre.holds [] { args:=args }=YD:=(pre_splitW hpre).2;obtain⟨d,r,rfl,h1,h2⟩:=hasAllW_cons hsh;obtain rfl:=hasAllW_nil h2;obtain⟨xs,rfl,h3⟩:=hasW_list h1;obtain⟨ns,rfl⟩:=items_int h3;have hlen:ns.length<=n:=by
  unfold OpenLaw.pre at hc;have h4:(WTm.not (.lt (.lit (.int (n:Int))) (.len (.arg 0)))).holds [] { args:=[.list (ns.map .int)] }=YD:=by
   have h4:=(holds_andW hc).1;rw[hn]at h4;exact h4
  have h5:=condW_of h4 (w_not (w_lt w_lit (w_len_list (w_arg rfl))));rw[Xg]at h5;refine Nat.le_of_not_lt λq=>?_;have q':(n:Int)<((ns.length:Nat):Int):=by omega
  first
   | (rw[YQ q']at h5;exact YX h5 (by decide))
   | (simp at h5;omega)
 cases hwl with
 | cons w1 w2=>
  cases w2;cases w1 with
  | list ho hall=>exact⟨_,_,ns,rfl,rfl,ho,Zh5 ns _ hall,hlen⟩
theorem Zrq(l:OpenLaw)(args:List WData):l.row.toRowW.claim.post args (.bool YD) args=YD :=
 postW_of (r:=l.row.toRowW) (X:=(YD==YD))
  (show WShape.has [] (.bool YD) .bool=YD by first|rfl|decide|simp[WShape.has,WShape.arms,WShape.armsAll])
  (show(WTm.eq .res (.lit (.bool YD))).value [] { args:=args,res:=YB (.bool YD),after:=args }=YB (.bool (YD==YD))from w_eq_bool (w_res rfl) w_lit) rfl
theorem attach_call{l:OpenLaw}{n:Nat}{q:X6}{loose:List Str}{XP:(Str->Option Xd)->YH->Prop}{YP:Qp->YH->Prop}{d:DefRec}
  (hn:l.most=YB n) (hdf:d.params.defaults=[])
  (call:∀(w:Qp) (s₀ s₁:Xe) (mg mb:Str->Option Xd) (fa:YG) (o:Obj) (pm cd doc:Xd) (a:YG) (vs:List Xd) (ns:List Int),
   Ground q loose [] XP w s₀ mg mb s₁.heap->YP w s₁.heap ->
   s₁.heap.get? fa=YB o->o.data= .func (docDef d.name d.params d.body d.scope pm cd doc)->s₁.heap.CodeRec cd d.name->mg d.name=YB (.ref fa) ->
   s₁.heap.get? a=YB { cls:=.type "list",data:=.seq vs.toArray }->Bw vs ns->ns.length<=n->s₁.gens=#[] ->
   UT (XR l.prog w) callerA (.call (.ref fa) ⟨[.ref a],[]⟩) (λr s'=>r= .ok (.ret (.bool YD))/\OldK s₁.heap s'.heap/\s'.os=s₁.os/\AllBare s'.gens) s₁) :
  WalkO q loose XP YP l.row.toRowW d [] (λf vs=>PySem.call f vs):=by
 intro w s₀ s₁ mg mb G Y_a fa o pm cd doc dV kV ho hd hcd hD hmg hg args vals as hpre hlay hrd hwl hlo;obtain rfl:dV= .none:=Dflts.none hD hdf;obtain rfl:kV= .none:=Dflts.noKw hD;obtain⟨a,vs,ns,rfl,rfl,hobj,hints,hlen⟩:=Zso hn hpre hwl;refine enter_call (codeAny_mono (call w s₀ s₁ mg mb fa o pm cd doc a vs ns G Y_a ho (fd_plain hd) hcd hmg hobj hints hlen hg) λr s' hq=>?_);obtain⟨rfl,h2,h3,h4⟩:=hq;exact⟨.inl ⟨.bool YD,.bool YD,[],rfl,λ_=>rfl,.bool YD,Zrq l _,λ_=>⟨List.Pairwise.nil,λ_ hm=>(nomatch hm)⟩⟩,h2,h3,h4⟩
section
variable {K:Frag}
end
end Att
namespace L2
open PySem PySem.Spec PyProof.Rows
theorem Zr9{vs:List Xd}{ns:List Int}(h:Bw vs ns):Vals (ns.map V.int) vs:=by
 induction h with
 | nil=>exact .nil
 | cons n t h ih=>exact .cons ⟨t,rfl⟩ ih
def Only(H:Hp):Prop:=∀b,H b=YC\/∃o xs,H b=YB (.frz o (.lst xs))
theorem Zvt{mb:Str->Option Xd}{k:Nat}{fa:YG}{fd:XF}{s₁:Xe}{vs:List Xd}{ns:List Int}
  (KX:K.In s₁.heap) (hns:s₁.heap.Ns XN mg) (hb:s₁.heap.Ns builtinsNs mb) (hbb:∀x:Str,x≠"__name__" ->mb x=X4 x) (hlim:s₁.heap.NoLimit) (hg:s₁.gens=#[])
  (ha:s₁.heap.get? a=YB { cls:=.type "list",data:=.seq vs.toArray }) (hi:Bw vs ns) (hl:ns.length<=Xw) (hr:Room k callerA)
  (F:∀base:YH,K.In base->base.Ns XN mg->FnOk P w K mg base CX k fa fd [x] sp) (hbind:∀(s:Xe) (u:Xd),BindsTo s fd ⟨[u],[]⟩ [(x,u)])
  (hsp:∀H:Hp,Only H->SqL K H a (ns.map V.int)->sp [.ref a] H (λv _=>v= .bl YD) λ_ _ _=>False)
  (hCX:∀H e s',CX [] H s₁ (λ_ _ _=>False) e s'->False) :
  UT (XR P w) callerA (.call (.ref fa) ⟨[.ref a],[]⟩) (λr s'=>r= .ok (.ret (.bool YD))/\OldK s₁.heap s'.heap/\s'.os=s₁.os/\AllBare s'.gens) s₁:=by
 have rv:=Zr9 hi;have lenV:=hi.length
 -- from an abstract heap in which nothing but the script may be tracked
 have core:∀H:Hp,Only H->SqL K H a (ns.map V.int)->HOk P w H s₁.heap->(∀b,H b≠YC->b=a)->(H a≠YC->K.lookup a=YC) ->
   UT (XR P w) callerA (.call (.ref fa) ⟨[.ref a],[]⟩) (λr s'=>r= .ok (.ret (.bool YD))/\OldK s₁.heap s'.heap/\s'.os=s₁.os/\AllBare s'.gens) s₁:=by
  intro H hO hS hok hA hK;have base_of:∀{b:YG} {o:Obj},s₁.heap.get? b=YB o->H b=YC->(Zux s₁.heap H).get? b=YB o:=λe n=>Zve e n;have noA:∀{b:YG} {o:Obj} {es:Array DictEntry} {ep:Nat},s₁.heap.get? b=YB o->o.data= .dict es ep->H b=YC:=fun{b o es ep} e d=>by
   cases q:H b with
   | none=>rfl
   | some u=>
    have e':b=a:=hA b (by rw[q];simp);subst e';rw[ha]at e;cases e;have d':Data.seq vs.toArray _=Data.dict es ep:=d;cases d'
  have nsK:∀{b:YG} {m:Str->Option Xd},s₁.heap.Ns b m->(Zux s₁.heap H).Ns b m:=fun{b m} ⟨o,es,ep,e,d,r⟩=>⟨o,es,ep,base_of e (noA e d),d,r⟩;have hKb:K.In (Zux s₁.heap H):=λb o e=>base_of (KX b o e) (by
   cases q:H b with
   | none=>rfl
   | some u=>
    have e':b=a:=hA b (by rw[q];simp);subst e';rw[hK (by rw[q];simp)]at e;cases e)
  have hM:Mod K mg (Zux s₁.heap H):=⟨hKb,nsK hns,⟨mb,nsK hb,hbb⟩,let⟨mc,h1,h2⟩:=hlim;⟨mc,nsK h1,h2⟩⟩;have e0:Z9a P w K mg (Zux s₁.heap H) callerA [] s₁ H:=⟨rfl,hM,λb o e=>Z24 e,Nat.le_of_eq (Zs1 _ _),trivial,λb hb=>YX (show b∈([]:List YG)from hb) (by simp),hok,.of_eq hg⟩;refine codeAny_mono ((F _ hKb (nsK hns)).run callerA [] s₁ H ⟨[.ref a],[]⟩ [.ref a] [.ref a] _ _ hr e0 (hbind s₁ (.ref a)) (.cons rfl .nil) (hsp H hO hS)) λr s' h=>?_;cases r with
  | error e=>exact(hCX H e s' h).elim
  | ok fl=>
   cases fl with
   | next=>exact Vc h
   | brk=>exact Vc h
   | cont=>exact Vc h
   | ret u=>
    obtain⟨v,H',os,bare,un,hok',r',q⟩:=h;have q':v= .bl YD:=q;subst q';obtain rfl:u=Value.bool YD:=r';refine⟨rfl,OldK.of_keep λb o e=>?_,os,bare⟩;cases q:H b with
    | none=>exact un.keep b o e q (by intro z;exact YX (show b∈([]:List YG)from z) (by simp)) (by simp)
    | some u=>
     rcases hO b with z|⟨ob,xs,z⟩
     .rw[q]at z;cases z
     .have z2:=un.frzs b ob _ z
      obtain⟨e1,_⟩:=hok b _ z;obtain⟨e2,_⟩:=hok' b _ z2;rw[e]at e1;cases e1;exact e2
 cases hk:K.lookup a with
 | some o=>
  -- the script is one of the module's own objects
  have e:=KX a o hk;rw[ha]at e;cases e;refine core (λ_=>YC) (λ_=>.inl rfl) (.inr ⟨_,vs.toArray,_,hk,rfl,rfl,rfl,by rw[Qa,lenV];exact hl,by simpa using rv⟩) (λb u z=>by have z':(YC:Option HO)=YB u:=z;cases z') (λb z=>YX rfl z) λz=>YX rfl z
 | none=>
  refine core (λb=>if b=a then YB (.frz { cls:=.type "list",data:=.seq vs.toArray } (.lst (ns.map V.int)))else YC) (λb=>?_) (.inl (.inr ⟨{ cls:=.type "list",data:=.seq vs.toArray },YL rfl⟩)) (λb u z=>?_) (λb z=>?_) λ_=>hk
  .by_cases hb:b=a
   .exact .inr ⟨_,_,YL hb⟩
   .exact .inl (YM hb)
  .by_cases hb:b=a
   .have z':=(YL hb).symm.trans z
    cases z';subst hb;exact⟨ha,by rw[Xg];exact hl,vs,_,rv,ha⟩
   .have z':=(YM hb).symm.trans z
    cases z'
  .by_cases hb:b=a
   .exact hb
   .exact YX (YM hb) z
abbrev KOf(_:K.In h):Xc:=K
theorem Zzc{l:PySem.W.OpenLaw}{n k:Nat}{q:X6}{loose:List Str}{XP:(Str->Option Xd)->YH->Prop}{YP:Qp->YH->Prop}{d:DefRec}{K:Params->Xc}{CX:Qp->CXT}{sp:Qp->Sp}
  (hn:l.most=YB n) (hn2:n<=Xw) (hdf:d.params.defaults=[]) (hr:Room k callerA)
  (hY:∀(w:Qp) (h:YH),YP w h->(K w.params).In h)
  (F:∀(w:Qp) (mg:Str->Option Xd) (fa:YG) (h:YH),(K w.params).In h->h.Ns XN mg->mg d.name=YB (.ref fa) ->
   ∃fd:XF,(∀(s:Xe) (u:Xd),BindsTo s fd ⟨[u],[]⟩ [(x,u)])/\
    ∀base:YH,(K w.params).In base->base.Ns XN mg->FnOk l.prog w (K w.params) mg base (CX w) k fa fd [x] (sp w))
  (hsp:∀(w:Qp) (H:Hp) (a:YG) (ns:List Int),ns.length<=n->Only H->SqL (K w.params) H a (ns.map V.int)->sp w [.ref a] H (λv _=>v= .bl YD) λ_ _ _=>False)
  (hCX:∀(w:Qp) (H:Hp) (s:Xe) (e:Xd) (s':Xe),CX w [] H s (λ_ _ _=>False) e s'->False) :
  PySem.W.WalkO q loose XP YP l.row.toRowW d [] (λf vs=>PySem.call f vs):=by
 refine Att.attach_call hn hdf λw s₀ s₁ mg mb fa o pm cd doc a vs ns G Y_a ho hd hcd hmg hobj hints hlen hg=>?_;have KX:=hY w _ Y_a;obtain⟨fd,hb,hF⟩:=F w mg fa _ KX G.T.g hmg;exact Zvt KX G.T.g G.T.b G.T.builtins G.T.nolimit hg hobj hints (Q7 hlen hn2) hr hF hb (λH hO hS=>hsp w H a ns hlen hO hS) λH e s'=>hCX w H s₁ e s'
def Zfr(s:YK):Arguments:=match s with
 | .FunctionDef _ a _ _ _ _ _ _ _ _=>a
 | _=>{ posonlyargs:=[],args:=[],vararg:=YC,kwonlyargs:=[],kw_defaults:=[],kwarg:=YC,defaults:=[] }
def Jw(s:YK):List YK:=match s with
 | .FunctionDef _ _ b _ _ _ _ _ _ _=>b
 | _=>[]
def Zj(s:YK):U3:=match s with
 | .FunctionDef _ _ _ _ _ _ sc _ _ _=>sc
 | _=>{ kind:=.function,names:=[],isGenerator:=YF,isCoroutine:=YF }
abbrev CX0:CXT:=λ_ _ _ _ _ _=>False
abbrev E0:XK:=λ_ _ _=>False
theorem J4:Zlh CX0 X E0:=λ_ _ _ _ _ _ _ h=>h.elim
structure Fun(K:Xc)(x qual:Str)(st:YK)(f:YG)(fd:XF):Prop where
 ex:∃(oc:Xd) (od:Option YG) (kV doc pm:Xd) (an:Option YG) (cdv ct:Xd) (osl:Array (Option Xd)),
  fd=VF x qual (Zfr st) (Jw st) (Zj st) .none kV doc pm an cdv ct/\K.lookup f=YB ⟨oc,od,.func fd,osl⟩/\PySem.W.codeIn K cdv qual=YD
 kp:BW K (.ref f)=YD
section
variable {base:YH}
theorem Fun.ok{x qual:Str}{st:YK}{f:YG}{fd:XF}{N ps:List Str}{k:Nat}{sp:Sp}(F:Fun K x qual st f fd)(S:Zq N ps (Zj st))(len:∀vs H Q E,sp vs H Q E->vs.length=ps.length)
  (hbody:∀(cdv:Xd) (A:Qk) (outer:List Env) (s:Xe) (H:Hp) (vs:List V) (Q:VK) (E:XK),Room k (A.deeper (Uz qual (Zj st) s.heap.objs.size f cdv))->sp vs H Q E ->
   ∃t,PSs (Zqk CX0 P w K mg base N qual (Zj st) f cdv A outer s H E).nox (Jw st) t/\t { nx:=λ_ H'=>Q .non H',rt:=Q } (start N vs) H):FnOk P w K mg base CX0 (k+1) f fd ps sp:=by
 obtain⟨oc,od,kV,doc,pm,an,cdv,ct,osl,rfl,lk,hcd⟩:=F.ex;refine Z3y lk hcd S len λA outer s H vs Q E hr hsp=>?_;obtain⟨t,h,q⟩:=hbody cdv A outer s H vs Q E hr hsp;exact⟨t,h.nox,q⟩
theorem Fun.binds{f:YG}{fd:XF}(F:Fun K x qual st f fd)
  (h:∀(kV doc pm:Xd) (an:Option YG) (cdv ct:Xd) (us:List Xd),us.length=ps.length->bindArgs (VF x qual (Zfr st) (Jw st) (Zj st) .none kV doc pm an cdv ct) ⟨us,[]⟩=pure (ps.zip us)):Binds K fd ps []:=by
 obtain⟨oc,od,kV,doc,pm,an,cdv,ct,osl,rfl,lk,hcd⟩:=F.ex;exact .all (h kV doc pm an cdv ct)
theorem Z7l{f:YG}{oc:Xd}{od an:Option YG}{osl:Array (Option Xd)}{kV doc pm cdv ct:Xd}(l:K.lookup f=YB ⟨oc,od,.func (VF x qual (Zfr st) (Jw st) (Zj st) .none kV doc pm an cdv ct),osl⟩)
  (c:PySem.W.codeIn K cdv qual=YD) (k:BW K (.ref f)=YD):Fun K x qual st f (VF x qual (Zfr st) (Jw st) (Zj st) .none kV doc pm an cdv ct):=⟨⟨oc,od,kV,doc,pm,an,cdv,ct,osl,rfl,l,c⟩,k⟩
end
theorem pv(i:Nat)(hN:X.N[i]? =YB x:=by rfl)(hv:Vis X.env.scope x:=by first|exact Qx rfl|exact Qm (Qx rfl)|exact Qm (Qm rfl))(hd:(x==("__debug__" : Str))=YF:=by decide)
  (hcd:(x==("__classdict__" : Str))=YF:=by decide):PE X (.Name x pos) (Yal i):=Z4n hN hv hd hcd
def Same(H H':Hp):Prop:=∀b o,H b=YB o->H' b=YB o
theorem Same.refl(H:Hp):Same H H:=λ_ _ h=>h
theorem Same.trans{H H1 H2:Hp}(a:Same H H1)(b:Same H1 H2):Same H H2:=λc o h=>b c o (a c o h)
theorem Same.free(e:Same H H'){l:YG}(h:H' l=Option.none):H l=Option.none:=by
 cases q:H l with
 | none=>rfl
 | some o=>
  rw[e l o q]at h;cases h
end L2
set_option maxHeartbeats 4000000
namespace L2
open PySem PySem.Spec PyProof.Rows
def Bt(n:Nat)(x:Int):Prop:=x.natAbs<2^n
theorem Bt.mono{m n:Nat}{x:Int}(h:Bt m x)(hn:m<=n):Bt n x:=X8 h (Nat.pow_le_pow_right (by decide) hn)
theorem Bt.mul{m n:Nat}{x y:Int}(h:Bt m x)(k:Bt n y):Bt (m+n) (x*y):=by
 unfold Bt at*
 rw[Int.natAbs_mul,Nat.pow_add];exact Nat.mul_lt_mul'' h k
theorem Bt.neg{m:Nat}{x:Int}(h:Bt m x):Bt m (-x):=by
 unfold Bt at*
 rw[Int.natAbs_neg];exact h
theorem Bt.add{m n:Nat}{x y:Int}(h:Bt m x)(k:Bt n y):Bt (m+n+1) (x+y):=by
 unfold Bt at*
 have h1:2^m<=2^(m+n):=Nat.pow_le_pow_right (by decide) (by omega);have h2:2^n<=2^(m+n):=Nat.pow_le_pow_right (by decide) (by omega);have h3:2^(m+n+1)=2*2^(m+n):=by rw[Nat.pow_succ];omega
 have h4:=Int.natAbs_add_le x y;omega
theorem Bt.of_le{m:Nat}{x y:Int}(h:Bt m x)(k:y.natAbs<=x.natAbs):Bt m y:=Nat.lt_of_le_of_lt k h
theorem Bt.of_lt{m:Nat}{x:Int}(h1:-(2^m)<x)(h2:x<2^m):Bt m x:=by
 unfold Bt;have e:((2^m:Nat):Int)=2^m:=by simp
 omega
theorem Bt.bits{m:Nat}{x:Int}(h:Bt m x):Bc x<=m:=by
 unfold Bc;split
 .exact QG _
 .rename_i hx
  have hp:x.natAbs≠0:=by
   intro e;apply hx;have:x=0:=by omega
   subst this;rfl
  have:=(Nat.log2_lt hp).mpr h;omega
theorem Bt.mulOk{m n:Nat}{x y:Int}(h:Bt m x)(k:Bt n y)(hmn:m+n<=100000000:=by decide):IntMulOk x y:=by
 have h1:=h.bits;have h2:=k.bits;have h3:Builtin.Int.intTooBig (Bc x+Bc y)=YF:=by
  unfold Builtin.Int.intTooBig bitsLine;exact YS (by omega)
 unfold IntMulOk;rw[h3];simp
def DivOk(_ j:Int):Prop:=j≠0/\j.natAbs.log2<9000
theorem DivOk.of{i j:Int}{n:Nat}(h0:j≠0)(h:Bt n j)(hn:n<=9000:=by decide):DivOk i j:=by
 refine⟨h0,?_⟩;have hp:j.natAbs≠0:=by omega
 have:=(Nat.log2_lt hp).mpr h;omega
theorem Z01:OpR X (VD .Mult) (rI IntMulOk λi j=>.int (i*j)):=opI λ_ _ _ _ _ _ _ hc q=>mul_int q hc
theorem Zwp:OpR X (VD .FloorDiv) (rI DivOk λi j=>.int (i.fdiv j)):=opI λ_ _ _ _ _ _ _ hc q=>floordiv_int hc.1 q (.inl (PyProof.noPylong_of_log2 hc.2))
theorem Z0p:OpR X (VD .Pow) (rI Z3d λi j=>.int (i^j.toNat)):=Z8l
theorem Zil(elt target iter:YJ)(ifs:List YJ)(scope:U3)(pos:Pos)(it acc:Xd)(env:Env) :
  compTurn (.ListComp elt [⟨target,iter,ifs,0⟩] scope pos) 0 it acc env=(standAt iter.pos>>= λ_=>V7 it>>= λr=>match r with
   | none=>pure (.done .next)
   | some v=>letOwnedTupleGo target it v>>= λ_=>Ut target env v>>= λ_=>
    (forIn ifs YD λc r=>if r=YD then do let ok<-isTrue c env (eval c env);pure (Bg ok)else pure (Bg r))>>= λok=>
     if ok=YD then((eval elt env>>= λx=>call (.builtin "list.append") [acc,x]>>= λ_=>pure ())>>= λ_=>
      again (.compLoop (.ListComp elt [⟨target,iter,ifs,0⟩] scope pos) 0 it acc env))
     else again (.compLoop (.ListComp elt [⟨target,iter,ifs,0⟩] scope pos) 0 it acc env)):=by rfl
theorem Zk3{R:Result->Xe->Prop}{elt target:YJ}{ifs:List YJ}{it acc:Xd}{env:Env}(I:Nat->Xe->Prop)
  (turn:∀n s,I n s->Xy (XR prog w) A (V7 it) (λr s₁=>match r with
   | none=>R (.ok .next) s₁
   | some v=>Xy (XR prog w) A (letOwnedTupleGo target it v) (λ_ s₁=>Xy (XR prog w) A (Ut target env v) (λ_ s₂=>
     Xy (XR prog w) A (forIn ifs YD λc r=>if r=YD then do let ok<-isTrue c env (eval c env);pure (Bg ok)else pure (Bg r)) (λok s₃=>
      if ok=YD then Xy (XR prog w) A (eval elt env) (λx s₄=>
       Xy (XR prog w) A (call (.builtin "list.append") [acc,x]) (λ_ s₅=>∃m,m<n/\I m s₅) (notedBy (XR prog w) A env λe s'=>R (.error e) s') s₄) (notedBy (XR prog w) A env λe s'=>R (.error e) s') s₃
      else∃m,m<n/\I m s₃) (notedBy (XR prog w) A env λe s'=>R (.error e) s') s₂) (notedBy (XR prog w) A env λe s'=>R (.error e) s') s₁) (notedBy (XR prog w) A env λe s'=>R (.error e) s') s₁) (notedBy (XR prog w) A env λe s'=>R (.error e) s') s)
  (n:Nat) (h:I n s) :
  UT (XR prog w) A (.compLoop (.ListComp elt [⟨target,iter,ifs,0⟩] scope pos) 0 it acc env) R s:=by
 refine codeAny_loop rfl I (λn s hI=>?_) n h;show Xy _ A ((compTurn (.ListComp elt [⟨target,iter,ifs,0⟩] scope pos) 0 it acc env).onRaise (λx=>do noteFrame x env;theTreesLotGoes x)) _ _ s;refine wpAny_noted ?_;rw[Zil];refine Xb (wpAny_standAt (Xb (Qw (turn n s hI) (λr s₁ h₁=>?_) λ_ _ h'=>h')));cases r with
 | none=>exact Xo h₁
 | some v=>
  refine Xb (Qw h₁ (λ_ s₂ h₂=>?_) λ_ _ h'=>h');refine Xb (Qw h₂ (λ_ s₂ h₂=>Xb (Qw h₂ (λok s₃ h₃=>?_) λ_ _ h'=>h')) λ_ _ h'=>h');cases ok with
  | false=>exact Xo ⟨rfl,h₃⟩
  | true=>
   exact Xb (Xb (Qw h₃ (λx s₄ h₄=>Xb (Qw h₄ (λ_ s₅ h₅=>Xo (Xo ⟨rfl,h₅⟩)) λ_ _ h'=>h')) λ_ _ h'=>h'))
def Zia(env:Env):List (Str×BP)->List (Str×YG)->List (Str×YG)
 | [],acc=>acc
 | (n,k)::r,acc=>if k== .free then Zia env r ((n,(env.cells.lookup n).getD 0)::acc)else Zia env r acc
theorem Zj4{env:Env}:∀(names:List (Str×BP)) (acc:List (Str×YG)),(∀y∈names,y.2= .free->∃c,env.cells.lookup y.1=YB c) ->
  (forIn names acc (λ(y:Str×BP) cs=>(if y.2== .free then(cellOf env y.1>>= λc=>pure (Bg ((y.1,c)::cs)))else pure (Bg cs):Sem (ForInStep (List (Str×YG))))))=pure (Zia env names acc)
 | [],acc,_=>by rw[U7];rfl
 | (n,k)::r,acc,h=>by
  by_cases hk:k= .free
  .subst hk
   obtain⟨c,hc⟩:=h (n,.free) (.head _) rfl;have hc':env.cells.lookup n=YB c:=hc;have e:=Zj4 (env:=env) r ((n,c)::acc) λy hy=>h y (.tail _ hy);have ec:cellOf env n=pure c:=by
    unfold cellOf;rw[hc']
   rw[List.forIn_cons];simp only[beq_self_eq_true,if_true];rw[ec];simp only[Zia,beq_self_eq_true,if_true,hc',Option.getD_some];exact e
  .have e:=Zj4 (env:=env) r acc λy hy=>h y (.tail _ hy)
   have hb:(k==QV)=YF:=by simpa using hk
   rw[List.forIn_cons];simp only[Zia,hb,Qg,if_false];exact e
theorem Zdn{env:Env}(h:∀y∈scope.names,y.2= .free->∃c,env.cells.lookup y.1=YB c):closureFor scope env=pure (Zia env scope.names []):=by
 have e:=Zj4 scope.names [] h;have e':(forIn scope.names ([]:List (Str×YG)) (λ(y:Str×BP) cs=>(match y with|(name,kind)=>do
   if kind== .free then do let a<-cellOf env name;pure (Bg ((name,a)::cs))else pure (Bg cs):Sem (ForInStep (List (Str×YG))))))=pure (Zia env scope.names []):=e
 exact YT (λ(m:Sem (List (Str×YG)))=>m>>= λx=>pure x) e'
theorem Zkw{env:Env}:∀(names:List (Str×BP)) (acc:List (Str×YG)),(∀y∈names,y.2= .free->∃c,env.cells.lookup y.1=YB c) ->
  ∀n c,(n,c)∈Zia env names acc->(n,c)∈acc\/((n,QV)∈names/\env.cells.lookup n=YB c)
 | [],acc,_,n,c,h=>.inl h
 | (m,k)::r,acc,h,n,c,hm=>by
  by_cases hk:k= .free
  .subst hk
   obtain⟨d,hd⟩:=h (m,.free) (.head _) rfl;have hd':env.cells.lookup m=YB d:=hd;simp only[Zia,beq_self_eq_true,if_true,hd',Option.getD_some]at hm;rcases Zkw r _ (λy hy=>h y (.tail _ hy)) n c hm with z|⟨z1,z2⟩
   .rcases Xi.mp z with z|z
    .cases z;exact .inr ⟨.head _,hd'⟩
    .exact .inl z
   .exact .inr ⟨.tail _ z1,z2⟩
  .have hb:(k==QV)=YF:=by simpa using hk
   simp only[Zia,hb,Qg,if_false]at hm;refine(Zkw r _ (λy hy=>h y (.tail _ hy)) n c hm).imp id λqz9=>?_;obtain⟨z1,z2⟩:=qz9;exact⟨.tail _ z1,z2⟩
theorem Zj3{env:Env}:∀(names:List (Str×BP)) (acc:List (Str×YG)),∀p∈acc,p∈Zia env names acc
 | [],_,_,h=>h
 | (m,k)::r,acc,p,h=>by
  unfold Zia;split
  .exact Zj3 r _ p (.tail _ h)
  .exact Zj3 r _ p h
theorem Zjt{env:Env}:∀(names:List (Str×BP)) (acc:List (Str×YG)) (n:Str),(n,QV)∈names->∃c,(n,c)∈Zia env names acc
 | [],_,_,h=>nomatch h
 | (m,k)::r,acc,n,h=>by
  rcases Xi.mp h with z|z
  .cases z
   exact⟨_,by
    simp only[Zia,beq_self_eq_true,if_true];exact Zj3 _ _ _ (.head _)⟩
  .unfold Zia
   split
   .exact Zjt r _ n z
   .exact Zjt r _ n z
theorem Zf3{env:Env}(inj:∀x y c,env.cells.lookup x=YB c->env.cells.lookup y=YB c->x=y):∀(names:List (Str×BP)) (acc:List (Str×YG)),
  (∀ y∈names,y.2= .free->∃c,env.cells.lookup y.1=YB c)->(names.map (·.1)).Nodup->(∀p∈acc,env.cells.lookup p.1=YB p.2)->(∀p∈acc,p.1∉names.map (·.1))->(acc.Pairwise λx y=>x.2≠y.2) ->
  (Zia env names acc).Pairwise λx y=>x.2≠y.2
 | [],_,_,_,_,_,h=>h
 | (m,k)::r,acc,hf,hn,ha,hd,hp=>by
  rw[Qq,Qh]at hn;have hf':∀y∈r,y.2= .free->∃c,env.cells.lookup y.1=YB c:=λy hy=>hf y (.tail _ hy);have hd':∀p∈acc,p.1∉r.map (·.1):=λp hp z=>hd p hp (by rw[Qq];exact .tail _ z)
  by_cases hk:k= .free
  .subst hk
   obtain⟨d,hd0⟩:=hf (m,.free) (.head _) rfl;have hd1:env.cells.lookup m=YB d:=hd0;simp only[Zia,beq_self_eq_true,if_true,hd1,Option.getD_some];refine Zf3 inj r _ hf' hn.2 (λp hp'=>?_) (λp hp'=>?_) (V5.mpr ⟨λp hp' z=>?_,hp⟩)
   .rcases Xi.mp hp' with rfl|hp'
    .exact hd1
    .exact ha p hp'
   .rcases Xi.mp hp' with rfl|hp'
    .exact hn.1
    .exact hd' p hp'
   .have e:m=p.1:=inj m p.1 d hd1 (by rw[ha p hp',<-z])
    exact hd p hp' (by rw[Qq,<-e];exact .head _)
  .have hb:(k==QV)=YF:=by simpa using hk
   simp only[Zia,hb,Qg,if_false];exact Zf3 inj r _ hf' hn.2 ha hd' hp
structure Zp1(h:YH)(lo:Nat)(names:List (Str×BP))(acc cs:List (Str×YG)):Prop where
 mem:∀n c,(n,c)∈cs->(n,c)∈acc\/(h.IsCell c YC/\lo<=c/\(n,Bq)∈names)
 has:∀n,(n,Bq)∈names->∃c,(n,c)∈cs
 old:∀p∈acc,p∈cs
theorem Zfx:∀(names:List (Str×BP)) (h:YH) (lo:Nat) (acc:List (Str×YG)),lo<=h.objs.size->Zp1 (Vf h names) lo names acc (Bp h.objs.size names acc)
 | [],_,_,_,_=>⟨λ_ _ m=>.inl m,(λ_ m=>nomatch m),λ_ m=>m⟩
 | (name,kind)::r,h,lo,acc,hlo=>by
  by_cases hk:(kind==Bq)=YD
  .have ek:kind= .cell:=by simpa using hk
   subst ek;have ih:=Zfx r (h.push { cls:=.type "cell",data:=.cell YC }) lo ((name,h.objs.size)::acc) (by rw[QC];omega);rw[QC]at ih;have e1:Bp h.objs.size ((name,.cell)::r) acc=Bp (h.objs.size+1) r ((name,h.objs.size)::acc):=by
    rw[Bp,YL hk]
   have e2:Vf h ((name,.cell)::r)=Vf (h.push { cls:=.type "cell",data:=.cell YC }) r:=by
    rw[Vf,YL hk]
   rw[e1,e2];refine⟨λn c m=>?_,λn m=>?_,λp m=>ih.old p (.tail _ m)⟩
   .rcases ih.mem n c m with z|⟨z1,z2,z3⟩
    .rcases Xi.mp z with z|z
     .cases z
      exact .inr ⟨⟨_,pushCells_keeps _ _ _ _ (Xx _ rfl),rfl⟩,hlo,.head _⟩
     .exact .inl z
    .exact .inr ⟨z1,z2,.tail _ z3⟩
   .rcases Xi.mp m with z|z
    .cases z
     exact⟨_,ih.old _ (.head _)⟩
    .exact ih.has n z
  .have ih:=Zfx r h lo acc hlo
   have e1:Bp h.objs.size ((name,kind)::r) acc=Bp h.objs.size r acc:=by
    rw[Bp,YM hk]
   have e2:Vf h ((name,kind)::r)=Vf h r:=by
    rw[Vf,YM hk]
   rw[e1,e2];refine⟨λn c m=>(ih.mem n c m).imp id λ⟨z1,z2,z3⟩=>⟨z1,z2,.tail _ z3⟩,λn m=>?_,ih.old⟩;rcases Xi.mp m with z|z
   .cases z
    exact YX rfl hk
   .exact ih.has n z
theorem Zhw(names:List (Str×BP)):∀(h:YH) (acc:List (Str×YG)),(acc.Pairwise λx y=>x.2≠y.2)->(∀p∈acc,p.2<h.objs.size)->(Bp h.objs.size names acc).Pairwise λx y=>x.2≠y.2:=by
 induction names with
 | nil=>intro h acc ha _;exact ha
 | cons y r ih=>
  intro h acc ha hb;obtain⟨name,kind⟩:=y;unfold Bp;split
  .have:=ih (h.push { cls:=.type "cell",data:=.cell YC }) ((name,h.objs.size)::acc) (V5.mpr ⟨λp hp=>XD (hb p hp),ha⟩) (λp hp=>by
    rw[QC];rcases Xi.mp hp with rfl|hp
    .exact QH _
    .exact Bl (hb p hp))
   rwa[QC]at this
  .exact ih h acc ha hb
theorem Zii{globals:YG}{cl:List (Str×YG)}{env:Env}{Q:Env->Xe->Prop}
  (hQ:Q (newEnv scope s.heap.objs.size globals (Bp (s.heap.objs.size+1) scope.names cl) qual YC .none (YB env) builtinsNs)
   { s with heap:=Vf (s.heap.push { cls:=.type "dict",data:=.dict #[] }) scope.names }) :
  Xy M A (newFunctionEnv scope globals cl [] qual YC .none (YB env)) Q E s:=by
 simp only[newFunctionEnv,Option.isSome_some,if_true];refine Xb (wpAny_alloc ?_);refine Xb (wpAny_layCells _ (λname kind cells=>by cases hkc:kind==Bq<;>simp[hkc]) _ _ _ _ ?_);rw[show({ s with heap:=s.heap.push { cls:=.type "dict",data:=.dict #[] } }:Xe).heap.objs.size=s.heap.objs.size+1 from QC ..];rw[U7];exact Xb (Xo (Xo hQ))
def Wg(X:Cx)(N':List Str)(sc:U3)(C:YG)(cells:List (Str×YG))(s₂:Xe)(H₂:Hp)(fp:List YG):Cx :=
 { X with N:=N',s₀:=s₂,H₀:=H₂,env:=compEnvC sc cells C X.env,outer:=X.stack,stack:=X.stack,ex:=fp,fn:=λx=>sc.names.lookup x==YB .cell,pn:=[],xe:=λ_ _=>False }
theorem Zdr{env:Env}:∀{names:List (Str×BP)} {x:Str} {k:BP},names.lookup x=YB k ->
  (names.map λ(n,k)=>if(k==QV&&env.scope.kind== .function&&env.kindOf n==YB .cell)then(n,Bq)else(n,k)).lookup x=
   YB (if(k==QV&&env.scope.kind== .function&&env.kindOf x==YB .cell)then Bq else k)
 | [],_,_,h=>by simp at h
 | (n,k')::r,x,k,h=>by
  have ih:=@Zdr env r x k;show List.lookup x ((if(k'==QV&&env.scope.kind== .function&&env.kindOf n==YB .cell)=YD then(n,Bq)else(n,k'))::_)=_;cases hx:x==n with
  | true=>
   simp only[QX,hx]at h;cases h;have e:=YZ.mp hx;subst e;split<;>simp[QX]
  | false=>
   simp only[QX,hx]at h;split
   .simp only[QX,hx];exact ih h
   .simp only[QX,hx];exact ih h
theorem Zgh{env:Env}:∀{names:List (Str×BP)} {x:Str},names.lookup x=YC ->
  (names.map λ(n,k)=>if(k==QV&&env.scope.kind== .function&&env.kindOf n==YB .cell)then(n,Bq)else(n,k)).lookup x=YC
 | [],_,_=>rfl
 | (n,k')::r,x,h=>by
  have ih:=@Zgh env r x;show List.lookup x ((if(k'==QV&&env.scope.kind== .function&&env.kindOf n==YB .cell)=YD then(n,Bq)else(n,k'))::_)=_;cases hx:x==n with
  | true=>
   simp only[QX,hx]at h;cases h
  | false=>
   simp only[QX,hx]at h;split
   .simp only[QX,hx];exact ih h
   .simp only[QX,hx];exact ih h
theorem Zfe:∀{l:List (Str×Y)} {n:Str} {c:Y},(l.map (·.1)).Nodup->(n,c)∈l->l.lookup n=YB c
 | (k,v)::r,n,c,hd,h=>by
  rw[Qq,Qh]at hd;rcases Xi.mp h with e|hr
  .cases e
   simp[QX]
  .have hne:(n==k)=YF:=by
    refine Ud.mpr λz=>hd.1 ?_;have e:n=k:=YZ.mp z;rw[<-e];exact Qe.mpr ⟨(n,c),hr,rfl⟩
   rw[QX,hne];exact Zfe hd.2 hr
theorem Yv:∀{l:List (Str×Y)} {n:Str} {c:Y},(n,c)∈l->∃d,l.lookup n=YB d/\(n,d)∈l
 | (k,v)::r,n,c,h=>by
  by_cases e:n=k
  .subst e
   exact⟨v,by simp[QX],U6⟩
  .have hne:(n==k)=YF:=by simpa using e
   rcases Xi.mp h with z|z
   .cases z;exact YX rfl e
   .obtain⟨d,h1,h2⟩:=Yv z
    exact⟨d,by rw[QX,hne];exact h1,.tail _ h2⟩
structure CompScope(X:Cx)(own:List Str)(caps:List Nat)(N':List Str)(sc:U3):Prop where
 kind:sc.kind= .function
 nd:N'.Nodup
 names:N'=own++caps.map λi=>X.N.getD i Str.empty
 nn:(sc.names.map (·.1)).Nodup
 free:(sc.names.all λy=>y.2 != .free||(X.env.kindOf y.1==YB .cell||X.env.kindOf y.1==YB .free))=YD
 caps:(caps.all λi=>sc.names.lookup (X.N.getD i Str.empty)==YB .free)=YD
def W7(own:List Str)(caps:List Nat)(O:St):St:=own.map (λ_=>YC)++caps.map λi=>(O[i]?).getD YC
section
variable {own:List Str}{caps:List Nat}{N':List Str}{sc:U3}
theorem CompScope.lk(S:CompScope X own caps N' sc){n:Str}{k:BP}(h:(n,k)∈sc.names):sc.names.lookup n=YB k:=Zfe S.nn h
theorem CompScope.fr(S:CompScope X own caps N' sc){n:Str}(h:(n,QV)∈sc.names):X.env.kindOf n=YB .cell\/X.env.kindOf n=YB .free:=by
 have:=Va.mp S.free _ h;simpa using this
theorem Zpb{O:St}{fp:List YG}{cl:List (Str×YG)}(S:CompScope X own caps N' sc)(I:Inv X pins O H s)
  (f:∀b∈fp,Zi4 X pins H b) (fo:∀b∈fp,∃o,s.heap.get? b=YB o)
  (hcl:∀n c,(n,c)∈cl->(n,QV)∈sc.names/\X.env.cells.lookup n=YB c) (hcl2:∀n,(n,QV)∈sc.names->∃c,(n,c)∈cl) (hapart:cl.Pairwise λx y=>x.2≠y.2) :
  Inv (Wg X N' sc (s.heap.objs.size+1) (Bp (s.heap.objs.size+2) sc.names cl) s H fp) [] (W7 own caps O) (upd H s.heap.objs.size (.lst []))
   { s with heap:=Vf ((s.heap.push { cls:=.type "list",data:=.seq #[] }).push { cls:=.type "dict",data:=.dict #[] }) sc.names }:=by
 generalize hh1:s.heap.push { cls:=.type "list",data:=.seq #[] }=h1;have z1:h1.objs.size=s.heap.objs.size+1:=by rw[<-hh1,QC]
 generalize hh2:h1.push { cls:=.type "dict",data:=.dict #[] }=h2;have z2:h2.objs.size=s.heap.objs.size+2:=by rw[<-hh2,QC,z1]
 have BC:=Zfx sc.names h2 (s.heap.objs.size+2) cl (by omega);have AP:=Zhw sc.names h2 cl hapart (λp hp=>by
  obtain⟨v,hv⟩:=I.cell p.1 p.2 (hcl p.1 p.2 hp).2;exact X8 hv.lt (by omega))
 rw[z2]at BC AP;have keep:∀b o,s.heap.get? b=YB o->(Vf h2 sc.names).get? b=YB o:=λb o e=>pushCells_keeps _ _ _ _ (by
  rw[<-hh2];refine Xf _ ?_;rw[<-hh1];exact Xf _ e)
 have hD:(Vf h2 sc.names).get? s.heap.objs.size=YB { cls:=.type "list",data:=.seq #[] }:=pushCells_keeps _ _ _ _ (by
  rw[<-hh2];refine Xf _ ?_;rw[<-hh1];exact Xx _ rfl)
 have hC:(Vf h2 sc.names).Ns (s.heap.objs.size+1) (λ_=>YC):=by
  refine Heap.Ns.keeps ?_ (pushCells_keeps _ _);have:=Heap.Ns.new h1 (.type "dict");rw[hh2,z1]at this;exact this
 have cellOld:∀n c,X.env.cells.lookup n=YB c->c<s.heap.objs.size:=λn c e=>by
  obtain⟨v,hv⟩:=I.cell n c e;exact hv.lt
 have lk':∀n c,(Bp (s.heap.objs.size+2) sc.names cl).lookup n=YB c->(n,c)∈Bp (s.heap.objs.size+2) sc.names cl:=λn c e=>Bj e;have hnD:H s.heap.objs.size=YC:=I.fresh;have fresh:∀c,s.heap.objs.size<c->upd H s.heap.objs.size (.lst []) c=YC:=λc hc=>by
  rw[Zo (XD hc)];exact I.hok.fresh (Vs hc)
 have isc:∀n c,(n,c)∈Bp (s.heap.objs.size+2) sc.names cl->∃v,(Vf h2 sc.names).IsCell c v:=λn c m=>by
  rcases BC.mem n c m with z|⟨z,_⟩
  .obtain⟨v,hv⟩:=I.cell n c (hcl n c z).2
   exact⟨v,hv.keeps keep⟩
  .exact⟨YC,z⟩
 have okH:HOk X.prog X.w (upd H s.heap.objs.size (.lst [])) (Vf h2 sc.names):=by
  refine I.hok.laid keep (XQ _) ?_;exact⟨QG _,[],0,.nil,hD⟩
 have kinds:∀x k,sc.names.lookup x=YB k->(relabel sc X.env).names.lookup x=YB (if(k==QV&&X.env.scope.kind== .function&&X.env.kindOf x==YB .cell)then Bq else k):=λx k e=>Zdr e;have kindsR:∀x k,(relabel sc X.env).names.lookup x=YB k->∃k',(x,k')∈sc.names/\k=(if(k'==QV&&X.env.scope.kind== .function&&X.env.kindOf x==YB .cell)then Bq else k'):=λx k e=>by
  cases q:sc.names.lookup x with
  | none=>
   have:=Zgh (env:=X.env) q;rw[show(relabel sc X.env).names.lookup x=_ from this]at e;cases e
  | some k'=>
   refine⟨k',Bj q,?_⟩;rw[kinds x k' q]at e;exact(QK e).symm
 refine⟨⟨I.ok.mod,S.kind,I.ok.glob,I.ok.blt,?_,?_,?_,?_,I.ok.hd,I.ok.frames,.inl rfl,?_,?_,?_,?_,?_,?_,?_⟩,rfl,I.bare,?_,?_,?_,?_,?_,(λp hp=>nomatch hp),okH,?_⟩
 .show s.heap.objs.size<=s.heap.objs.size+1;omega
 .intro x y c e1 e2
  exact name_of_addr AP (lk' x c e1) (lk' y c e2)
 .intro x hx
  rcases hx with hx|hx
  .obtain⟨k',hm,hk'⟩:=kindsR x _ hx
   cases k' with
   | cell=>
    obtain⟨c,hc⟩:=BC.has x hm;obtain⟨d,h1,_⟩:=Yv hc;exact⟨d,h1⟩
   | free=>
    obtain⟨c,hc⟩:=hcl2 _ hm;obtain⟨d,h1,_⟩:=Yv (BC.old _ hc);exact⟨d,h1⟩
   | _=>simp at hk'
  .obtain⟨k',hm,hk'⟩:=kindsR x _ hx
   cases k' with
   | free=>
    obtain⟨c,hc⟩:=hcl2 _ hm;obtain⟨d,h1,_⟩:=Yv (BC.old _ hc);exact⟨d,h1⟩
   | _=>simp at hk'
 .intro x c hf e
  have hf':sc.names.lookup x=YB .cell:=by simpa [Wg]using hf
  rcases BC.mem x c (lk' x c e)with z|⟨_,z,_⟩
  .-- a free one and a cell at once: the name stands once
   exfalso;have q:=S.lk (hcl x c z).1;rw[hf']at q;cases q
  .show s.heap.objs.size<=c;omega
 .intro b hb
  obtain⟨o,ho⟩:=fo b hb;have hlt:=Xz ho;refine⟨Xq (Vr hlt (QH _)),λx c e z=>?_⟩;rcases BC.mem x c (lk' x c e)with q|⟨_,q,_⟩
  .exact(f b hb).2.2.2.2.1 x c (hcl x c q).2 z
  .subst z
   exact YX hlt (Nat.not_lt.mpr (Q7 (Vb _ 2) q))
 .exact I.bs
 .exact Q7 I.ok.bsz I.sz
 .intro b o e hb
  rcases(f b hb).2.2.2.1 with z|z
  .exact I.ok.noex b o e z
  .exact YX (X8 (Xz e) I.ok.bsz) (Nat.not_lt.mpr z)
 .intro b hb z
  rcases Xi.mp (I.stkSub b z)with q|q
  .exact(f b hb).2.1 q
  .exact(f b hb).2.2.1 q
 .exact I.stack
 .exact I.stkFree
 .exact Un.laid keep (XQ _) hnD
 .refine⟨_,hC,λi x v e1 e2 e3=>?_⟩
  have e1':(own++caps.map λi=>X.N.getD i Str.empty)[i]? =YB x:=by rw[<-S.names];exact e1
  have e2':(own.map (λ_=>(YC:Option V))++caps.map λi=>(O[i]?).getD YC)[i]? =YB (YB v):=e2
  by_cases hi:i<own.length
  .rw[Vg (by simpa using hi),Xp]at e2'
   cases q:own[i]? with
   | none=>rw[q]at e2';cases e2'
   | some y=>rw[q]at e2';cases e2'
  .rw[Q0 (by simpa using hi),Xp]at e2'
   rw[Q0 (by omega),Xp]at e1';rw[Xg]at e2';cases q:caps[i-own.length]? with
   | none=>rw[q]at e2';cases e2'
   | some j=>
    rw[q]at e1' e2';have e1:X.N.getD j Str.empty=x:=QK e1';have e2:(O[j]?).getD YC=YB v:=QK e2';have e4:O[j]? =YB (YB v):=by
     cases r:O[j]? with
     | none=>rw[r]at e2;cases e2
     | some o=>rw[r]at e2;exact YT YB e2
    have hj:j<X.N.length:=by rw[<-I.len];exact(Xn.mp e4).1
    have e5:X.N[j]? =YB x:=by rw[<-e1];simp[Xj,hj]
    have hc:=Va.mp S.caps j (QF q);have e6:sc.names.lookup x=YB .free:=by rw[<-e1];simpa using hc
    have hm:=Bj e6;have kx:=S.fr hm;obtain⟨m,hn,hl⟩:=I.loc;obtain⟨u,ru,lo⟩:=hl j x v e5 e4 (by rcases kx with z|z;exact .inr (.inl z);exact .inr (.inr z));refine⟨u,ru,.inr ⟨?_,?_⟩⟩
    .have:=kinds x _ e6
     show(relabel sc X.env).names.lookup x=_\/(relabel sc X.env).names.lookup x=_;rw[this];split
     .exact .inl rfl
     .exact .inr rfl
    .rcases lo with⟨z,_⟩|⟨_,c,hc1,hc2⟩
     .rcases kx with w|w<;>(rw[w]at z;cases z)
     .obtain⟨d,hd⟩:=hcl2 x hm
      obtain⟨d',h1,h2⟩:=Yv (BC.old _ hd);refine⟨d',h1,?_⟩;rcases BC.mem x d' h2 with w|⟨_,_,w⟩
      .have w':=(hcl x d' w).2
       rw[hc1]at w';cases w';exact hc2.keeps keep
      .have:=S.lk w
       rw[e6]at this;cases this
 .intro x c e
  exact isc x c (lk' x c e)
 .exact fresh _ (QH _)
 .intro x c e
  rcases BC.mem x c (lk' x c e)with z|⟨_,z,_⟩
  .have e':=(hcl x c z).2
   have hlt:=cellOld x c e';rw[Zo (Xq hlt)];exact I.freeC x c e'
  .exact fresh c (by omega)
 .show(W7 own caps O).length=N'.length
  rw[S.names];unfold W7;simp
end
def Zzg(J:It)(g:TG)(tt:TT)(te:TE)(O0:St)(D:YG)(Q:Hp->Prop)(H1:Hp):Prop :=
 ∃W:Nat->Nat->St->Hp->Prop,(∃m,W 0 m O0 (upd H1 D (.lst [])))/\∀i m O' H',W i m O' H' ->
  (J.stop i H'/\Q H')\/(J.go i H'/\∀x H2,J.yld i H' x H2->g x O' H2 λO2 H3=>tt O2 H3 λb H4=>
   if b=YD then te O2 H4 λy H5=>∃ys,H5 D=YB (.lst ys)/\ys.length<Xw/\∃m',m'<m/\W (i+1) m' O2 (upd H5 D (.lst (ys++[y])))
   else∃m',m'<m/\W (i+1) m' O2 H4)
def Zvh(own:List Str)(caps:List Nat)(wi:TI)(g:TG)(tt:TT)(te:TE):TE:=λO H Q=>wi O H λJ H1=>∀D,H1 D=YC->Zzg J g tt te (W7 own caps O) D (Q (.ref D)) H1
def Z9z:TT:=λ_ H Q=>Q YD H
def Z0j(X:Cx)(ifs:List YJ)(t:TT):Prop :=
 ∀(pins:List (YG×Obj)) (s:Xe) (O:St) (H:Hp) (Q:Bool->Hp->Prop),Inv X pins O H s->t O H Q ->
  Xy (XR X.prog X.w) X.A (forIn ifs YD λc r=>if r=YD then do let ok<-isTrue c X.env (eval c X.env);pure (Bg ok)else pure (Bg r)) (TP X pins O Q) X.xe s
theorem Z3a:Z0j X [] Z9z:=λpins s O H Q I h=>by
 rw[U7];exact Xo ⟨H,I,h⟩
theorem Z00{c:YJ}{t:TT}(h:PT X c t):Z0j X [c] t:=λpins s O H Q I q=>wpAny_tests_one (h pins s O H Q I q)
theorem Z1u{t:Sem Y}{Q Q':Y->Xe->Prop}(h:Xy M A t Q (λ_ _=>False) s)(hQ:∀a s,Q a s->Q' a s):Xy M A t Q' E s :=
 Qw h hQ λ_ _ z=>z.elim
section
variable {own:List Str}{caps:List Nat}{N':List Str}{sc:U3}{elt:YJ}{ifs:List YJ}{wi:TI}{g:TG}{tt:TT}
theorem Znt{p':List (YG×Obj)}{O O':St}{fp:List YG}{cells:List (Str×YG)}(I:Inv X pins O H s)(f:∀b∈fp,Zi4 X pins H b)
  (I':Inv (Wg X N' sc C cells s H fp) p' O' H' s') (hs:Ba C s'.heap h'):Inv X pins O H' { s' with heap:=h' }:=by
 have hC:s.heap.objs.size<=C:=I'.ok.above;have B:=I'.base;have ne:∀b o,s.heap.get? b=YB o->b≠C:=λb o e=>Xq (X8 (Xz e) hC);obtain⟨m,⟨oC,_,_,hoC,_⟩,_⟩:=I'.loc;refine I.call' (ch:=fp) (s':={ s' with heap:=h' }) I'.os ⟨λb o e n hb hx=>?_,λb o e n hb hx=>?_,B.free,λb o e hx=>?_,B.tups,B.frzs,B.tbls⟩ (λb ob e=>?_) I'.bare λb hb=>?_
 .exact(hs.2 b (ne b o e)).trans (B.keep b o e n hb hx)
 .obtain⟨sl,q⟩:=B.slot b o e n hb hx
  exact⟨sl,(hs.2 b (ne b o e)).trans q⟩
 .obtain⟨o',q⟩:=B.there b o e hx
  exact⟨o',(hs.2 b (ne b o e)).trans q⟩
 .have hfree:H' C=YC:=I'.free
  refine(I'.hok b ob e).stay (λc w' hc q=>(hs.2 c ?_).trans q) (λ_ q=>q) λ_ _ q=>q;rintro rfl;rcases hc with rfl|hc
  .rw[hfree]at e;cases e
  .rw[hfree]at hc;cases hc
 .obtain⟨_,f1,_,f3,f4,f5⟩:=f b hb
  exact⟨f3,f1,f4,f5⟩
theorem Zjd{Qf:Result->Xe->Prop}(S:CompScope X own caps N' sc)(hc:X.calm=YD)
  (hg:∀C cells s₂ H₂ fp,PG (Wg X N' sc C cells s₂ H₂ fp) tg g) (ht:∀C cells s₂ H₂ fp,Z0j (Wg X N' sc C cells s₂ H₂ fp) ifs tt) (he:∀C cells s₂ H₂ fp,PE (Wg X N' sc C cells s₂ H₂ fp) elt te)
   {O:St}   {fp:List YG} {it:YG} {tn:Nat->YH->Prop} {J:It} {Q:Hp->Prop} (I:Inv X pins O H s) (T:Turn X.prog X.w X.K tg J fp it tn) (st:tn 0 s.heap) (f:∀b∈fp,Zi4 X pins H b)
  (h:Zzg J g tt te (W7 own caps O) s.heap.objs.size Q H)
  (fin:∀s' O' H' p' C cells,Inv (Wg X N' sc C cells s H fp) p' O' H' s'->C=s.heap.objs.size+1->Q H'->Qf (.ok .next) s') :
  Xy (XR X.prog X.w) X.A (newFunctionEnv sc X.env.globals (Zia X.env sc.names []) [] X.env.qual YC .none (YB X.env)) (λcenv s₄=>
   cenv.locals=s.heap.objs.size+1/\UT (XR X.prog X.w) X.A (.compStart (.ListComp elt [⟨tg,iter,ifs,0⟩] sc pos) 0 (.ref it) (.ref s.heap.objs.size) { cenv with scope:=relabel sc X.env }) Qf s₄) X.xe
    { s with heap:=s.heap.push { cls:=.type "list",data:=.seq #[] } }:=by
 have hf:∀y∈sc.names,y.2= .free->∃c,X.env.cells.lookup y.1=YB c:=λy hy e=>by
  obtain⟨n,k⟩:=y;have e':k= .free:=e;subst e';exact I.ok.has n (S.fr hy)
 have hcl:∀n c,(n,c)∈Zia X.env sc.names []->(n,QV)∈sc.names/\X.env.cells.lookup n=YB c:=λn c m=>(Zkw sc.names [] hf n c m).elim (λz=>nomatch z) id;have hap:=Zf3 I.ok.inj sc.names [] hf S.nn (λ_ z=>nomatch z) (λ_ z=>nomatch z) .nil;have I0:=Zpb (cl:=Zia X.env sc.names []) S I f (λb hb=>let⟨o,e,_⟩:=T.obj _ _ st b hb;⟨o,e⟩) hcl (λn m=>Zjt sc.names [] n m) hap;refine Zii ?_;rw[show({ s with heap:=s.heap.push { cls:=.type "list",data:=.seq #[] } }:Xe).heap.objs.size=s.heap.objs.size+1 from QC ..];refine⟨rfl,?_⟩;dsimp only;generalize hs0:({ s with heap:=Vf ((s.heap.push { cls:=.type "list",data:=.seq #[] }).push { cls:=.type "dict",data:=.dict #[] }) sc.names }:Xe)=s0 at I0|-
 have st0:tn 0 s0.heap:=T.keep _ _ _ st λb hb o e=>by
  rw[<-hs0];exact pushCells_keeps _ _ _ _ (Xf _ (Xf _ e))
 generalize hcells:Bp (s.heap.objs.size+1+1) sc.names (Zia X.env sc.names [])=cells at I0|-
 -- the loop
 obtain⟨W,⟨m0,w0⟩,turn⟩:=h;have loop:UT (XR X.prog X.w) X.A (.compLoop (.ListComp elt [⟨tg,iter,ifs,0⟩] sc pos) 0 (.ref it) (.ref s.heap.objs.size) (Wg X N' sc (s.heap.objs.size+1) cells s H fp).env) Qf s0:=by
  generalize hX':Wg X N' sc (s.heap.objs.size+1) cells s H fp=X' at I0|-
  have hg':=hg (s.heap.objs.size+1) cells s H fp;have ht':=ht (s.heap.objs.size+1) cells s H fp;have he':=he (s.heap.objs.size+1) cells s H fp;have fin':=λs' O' H' p' (z:Inv (Wg X N' sc (s.heap.objs.size+1) cells s H fp) p' O' H' s')=>fin s' O' H' p' _ _ z rfl;rw[hX']at hg' ht' he' fin';have hxe:X'.xe= λ_ _=>False:=by rw[<-hX'];rfl
  have hpr:X'.prog=X.prog:=by rw[<-hX'];rfl
  have hw:X'.w=X.w:=by rw[<-hX'];rfl
  have hK:X'.K=X.K:=by rw[<-hX'];rfl
  have hA:X'.A=X.A:=by rw[<-hX'];rfl
  have hcm:X'.calm=YD:=by rw[<-hX'];exact hc
  have hex:X'.ex=fp:=by rw[<-hX'];rfl
  have hpn:X'.pn=[]:=by rw[<-hX'];rfl
  have stat:∀{H':Hp},(∀b∈fp,H' b=YC)->∀b∈fp,Zi4 X' [] H' b:=λhn b hb=>by
   have e1:=I0.ok.exf b (by rw[hex];exact hb);have e2:=I0.ok.exfs b (by rw[hex];exact hb);exact⟨hn b hb,e1.1,e2,.inl (by rw[hex];exact hb),e1.2,λp hp=>by rw[hpn]at hp;exact nomatch hp⟩
  have frD:∀b∈fp,(upd H s.heap.objs.size (.lst [])) b=YC:=λb hb=>by
   obtain⟨o,e,_⟩:=T.obj _ _ st b hb;rw[Zo (Xq (Xz e))];exact(f b hb).1
  have T':Turn X'.prog X'.w X'.K tg J fp it tn:=by rw[hpr,hw,hK];exact T
  rw[<-hpr,<-hw,<-hA];refine Zk3 (λn s'=>∃i O' H',Inv X' [] O' H' s'/\tn i s'.heap/\(∀b∈fp,H' b=YC)/\W i n O' H') ?_ m0 ⟨0,_,_,I0,st0,frD,w0⟩;rintro n s3 ⟨i,O3,H3,I3,st3,fr3,w3⟩;rcases turn i n O3 H3 w3 with⟨stop,qn⟩|⟨go,step⟩
  .refine Z1u (T'.done X' rfl rfl rfl hcm i [] s3 O3 H3 _ I3 (stat fr3) st3 stop) λr s4 qz9=>?_
   obtain⟨hr,I4⟩:=qz9;subst hr;exact fin' s4 O3 H3 [] I4 qn
  .refine Z1u (T'.item X' rfl rfl rfl hcm i [] s3 O3 H3 _ I3 (stat fr3) st3 go) λr s4 qz9=>?_
   obtain⟨u,hr,h4⟩:=qz9;subst hr;refine Z1u h4 λ_ s5 qz9=>?_;obtain⟨x,H5,I5,r5,y5,st5,fr5⟩:=qz9;have I5':=I5.pinned (stat fr5) (T.obj _ _ st5);have hgg:=hg' _ s5 O3 H5 x u _ I5' r5 (step x H5 y5);rw[hxe]at hgg;refine Z1u hgg λ_ s6 qz9=>?_;obtain⟨O6,H6,I6,q6⟩:=qz9;have htt:=ht' _ s6 O6 H6 _ I6 q6;rw[hxe]at htt;refine Z1u htt λok s7 qz9=>?_;obtain⟨H7,I7,q7⟩:=qz9;have again:∀{O7:St} {H7:Hp} {s7:Xe} {m:Nat},Inv X' ([]++Zit fp s5.heap) O7 H7 s7->W (i+1) m O7 H7->m<n->∃m,m<n/\∃i O' H',Inv X' [] O' H' s7/\tn i s7.heap/\(∀b∈fp,H' b=YC)/\W i m O' H':=fun{O7 H7 s7 m} I7 w7 hm=>by
    refine⟨m,hm,i+1,O7,H7,I7.unpinned,T.keep _ _ _ st5 λb hb o e=>(I7.pin (b,o) (XJ _ (XJ _ (Zai hb e)))).1,λb hb=>?_,w7⟩;obtain⟨o,e,d⟩:=T.obj _ _ st5 b hb;exact(I7.pin (b,o) (XJ _ (XJ _ (Zai hb e)))).2.1
   cases ok with
   | false=>
    obtain⟨m',hm,w7⟩:=q7;rw[YM XC];exact again I7 w7 hm
   | true=>
    rw[YL rfl];have hee:=he' _ s7 O6 H7 _ I7 q7;rw[hxe]at hee;refine Z1u hee λy s8 qz9=>?_;obtain⟨vy,H8,I8,r8,ys,hD,hlen,m',hm,w8⟩:=qz9;have hap:=Zep (X:=X') _ s8 O6 H8 (.ref s.heap.objs.size) [vy] (.ref s.heap.objs.size) [y] (λ_ H'=>W (i+1) m' O6 H') I8 rfl (.cons r8 .nil) ⟨_,ys,vy,rfl,rfl,hD,hlen,w8⟩;rw[hxe]at hap;refine Z1u hap λz s9 qz9=>?_;obtain⟨_,H9,I9,_,w9⟩:=qz9;exact again I9 w9 hm
 exact codeAny_compStart_list loop (T.self _ 0 _ _ _ st0 loop)
theorem Zrn(S:CompScope X own caps N' sc)(hc:X.calm=YD)(hi:PI X tg iter wi)
  (hg:∀C cells s₂ H₂ fp,PG (Wg X N' sc C cells s₂ H₂ fp) tg g) (ht:∀C cells s₂ H₂ fp,Z0j (Wg X N' sc C cells s₂ H₂ fp) ifs tt) (he:∀C cells s₂ H₂ fp,PE (Wg X N' sc C cells s₂ H₂ fp) elt te)
  (hs:∀x,JX iter X.env x=pure x:=by intro _;rfl):PE X (.ListComp elt [⟨tg,iter,ifs,0⟩] sc pos) (Zvh own caps wi g tt te):=by
 intro pins s O H Q I h;rw[eval_ListComp];have hf:∀y∈sc.names,y.2= .free->∃c,X.env.cells.lookup y.1=YB c:=λy hy e=>by
  obtain⟨n,k⟩:=y;have e':k= .free:=e;subst e';exact I.ok.has n (S.fr hy)
 refine wpAny_comprehension_free (use:=YC) rfl hs (Zdn hf) S.kind (λy hy e=>by obtain⟨n,k⟩:=y;have e':k= .local:=e;subst e';exact S.lk hy) ?_;refine thn (hi pins s O H _ I h) λv s1 h1=>thn h1 λitv s2 h2=>?_;obtain⟨it,fp,tn,J,H2,e,I2,T,st2,f2,q⟩:=h2;subst e;refine JK ?_;refine thn (Zjd (iter:=iter) (pos:=pos) (Qf:=compPost (XR X.prog X.w) X.A X.xe YC (EP X pins O Q) (.ref s2.heap.objs.size) (s2.heap.objs.size+1)) S hc hg ht he I2 T st2 f2 (q s2.heap.objs.size I2.fresh) ?_) λcenv s4 ⟨hl,hr⟩=>?_
 .intro s' O' H' p' C cells I' eC q'
  subst eC;obtain⟨m,hn,_⟩:=id I'.loc;exact⟨m,hn,λh' hs'=>⟨.ref s2.heap.objs.size,H',Znt I2 f2 I' hs',rfl,q'⟩⟩
 .rw[<-hl]at hr
  exact hr
end
section
variable {own:List Str}{caps:List Nat}{N':List Str}{sc:U3}{elt:YJ}{ifs:List YJ}{wi:TI}{g:TG}{tt:TT}
theorem Zpd{y:Str}{py spos:Pos}(hN:X.N.Nodup)(hy:X.N[i]? =YB y)(hx:Loc X.env.scope y)(S:CompScope X own caps N' sc)(hc:X.calm=YD)(hi:PI X tg iter wi)
  (hg:∀C cells s₂ H₂ fp,PG (Wg X N' sc C cells s₂ H₂ fp) tg g) (ht:∀C cells s₂ H₂ fp,Z0j (Wg X N' sc C cells s₂ H₂ fp) ifs tt) (he:∀C cells s₂ H₂ fp,PE (Wg X N' sc C cells s₂ H₂ fp) elt te)
  (hsw:Vn (.ListComp elt [⟨tg,iter,ifs,0⟩] sc pos) (YB (.Name y py)) spos.line X.env=pure YD:=by rfl)
  (hs:∀x,JX iter X.env x=pure x:=by intro _;rfl) (hf:X.fn y=YD\/X.env.scope.names.lookup y=YB .local:=by first|exact .inl rfl|exact .inr rfl|assumption) :
  PS X (.Assign [.Name y py] (.ListComp elt [⟨tg,iter,ifs,0⟩] sc pos) spos) (Z6c (Zvh own caps wi g tt te) (Zt2 i)):=by
 intro pins s O H D I h;have hfr:∀y∈sc.names,y.2= .free->∃c,X.env.cells.lookup y.1=YB c:=λy hy e=>by
  obtain⟨n,k⟩:=y;have e':k= .free:=e;subst e';exact I.ok.has n (S.fr hy)
 rw[exec_Assign_Name_used _ _ _ _ hsw];refine Xb (wpAny_standAt (Xb ?_));show Xy _ X.A (do let _<-comprehension (.ListComp elt [⟨tg,iter,ifs,0⟩] sc pos) sc X.env _ (newList []) YF (eval iter X.env) (YB (Ut (.Name y py) X.env))) _ _ s;refine Xb (Qw (wpAny_comprehension_free (use:=YB (Ut (.Name y py) X.env)) (Q:=λ_ s'=>SP X pins D .next s') rfl hs (Zdn hfr) S.kind (λy hy e=>by obtain⟨n,k⟩:=y;have e':k= .local:=e;subst e';exact S.lk hy) ?_) (λ_ s' hq=>Xo (Xo hq)) λ_ _ e=>e);refine thn (hi pins s O H _ I h) λv s1 h1=>thn h1 λitv s2 h2=>?_;obtain⟨it,fp,tn,J,H2,e,I2,T,st2,f2,q⟩:=h2;subst e;refine JK ?_;refine thn (Zjd (iter:=iter) (pos:=pos) (Qf:=compPost (XR X.prog X.w) X.A X.xe (YB (Ut (.Name y py) X.env)) (λ_ s'=>SP X pins D .next s') (.ref s2.heap.objs.size) (s2.heap.objs.size+1)) S hc hg ht he I2 T st2 f2 (q s2.heap.objs.size I2.fresh) ?_) λcenv s4 ⟨hl,hr⟩=>?_
 .intro s' O' H' p' C cells I' eC q'
  subst eC;obtain⟨m,hn,_⟩:=id I'.loc;have I3:Inv X pins O H' s':=Znt I2 f2 I' (.refl ..);show Xy _ X.A (Ut (.Name y py) X.env (.ref s2.heap.objs.size)) _ _ s';refine wpAny_assign_Name (Zl7 (v:=.ref s2.heap.objs.size) I3 hN hy hx rfl (λs5 I5 hsb=>?_) hf);have hC:s2.heap.objs.size<s2.heap.objs.size+1:=QH _;have ltL:X.env.locals<s2.heap.objs.size:=I2.lt;have ltC:∀x c,X.env.cells.lookup x=YB c->c<s2.heap.objs.size:=λx c e=>by
   obtain⟨w',z⟩:=I2.cell x c e;exact z.lt
  refine⟨m,?_,λh' hs'=>⟨O.set i (YB (.ref s2.heap.objs.size)),H',?_,q'⟩⟩
  .obtain⟨a,hsa,ha⟩:=hsb
   refine hn.sameBut hsa ?_;rcases ha with ha|ha
   .rw[ha];exact XD (Vr ltL hC)
   .exact XD (Vr (ltC _ _ ha) hC)
  .refine I5.turned (t':=s5.toks) (it:=s2.heap.objs.size+1) (λb o hb e=>(hs'.2 b hb).trans e) I'.free (XD (Vr ltL hC)) (.inr (Q7 I2.sz (Vs hC))) (λx c e=>Xq (Vr (ltC x c e) hC)) λp hp=>?_
   obtain⟨e,_⟩:=I2.pin p hp;exact Xq (Vr (Xz e) hC)
 .rw[<-hl]at hr
  exact hr
end
section
variable (n:Nat)(D:YG)(Pv:Nat->List V->St->Hp->Prop)
variable {n D Pv}
end
mutual
inductive Is(H:Hp)(L:YG->Prop):V->Xa->Prop where
 | non:Is H L .non .none
 | bl (b:Bool):Is H L (.bl b) (.bool b)
 | int (i:Int):Is H L (.int i) (.int i)
 | str (x:Str):Is H L (.str x) (.str x)
 | lst {a:YG} {xs:List V} {ds:List Xa}:L a->H a=YB (.lst xs)->IsAll H L xs ds->Is H L (.ref a) (.list ds)
 | tup {a:YG} {xs:List V} {ds:List Xa}:H a=YB (.tup xs)->IsAll H L xs ds->Is H L (.ref a) (.tuple ds)
inductive IsAll(H:Hp)(L:YG->Prop):List V->List Xa->Prop where
 | nil:IsAll H L [] []
 | cons {x:V} {xs:List V} {d:Xa} {ds:List Xa}:Is H L x d->IsAll H L xs ds->IsAll H L (x::xs) (d::ds)
end
section
variable {L L':YG->Prop}
theorem IsAll.ind{Q:List V->List Xa->Prop}(n:Q [] [])(c:∀{x:V} {xs:List V} {d:Xa} {ds:List Xa},Is H L x d->IsAll H L xs ds->Q xs ds->Q (x::xs) (d::ds)):∀{xs ds},IsAll H L xs ds->Q xs ds:=λh=>
 IsAll.rec (motive_1:=λ_ _ _=>True) (motive_2:=λxs ds _=>Q xs ds) trivial (λ_=>trivial) (λ_=>trivial) (λ_=>trivial) (λ_ _ _ _=>trivial) (λ_ _ _=>trivial) n (λp q _ r=>c p q r) h
theorem IsAll.length{xs:List V}{ds:List Xa}(h:IsAll H L xs ds):xs.length=ds.length:=IsAll.ind (Q:=λxs ds=>xs.length=ds.length) rfl (λ_ _ r=>YT (·+1) r) h
theorem IsAll.set{ds:List Xa}{x:V}{d:Xa}(i:Nat)(h:IsAll H L xs ds)(k:Is H L x d):IsAll H L (xs.set i x) (ds.set i d) :=
 IsAll.ind (Q:=λxs ds=>∀i,IsAll H L (xs.set i x) (ds.set i d)) (λ_=>.nil) (λh q r i=>Nat.casesOn i (.cons k q) λi=>.cons h (r i)) h i
end
section
variable {O:St}{L L':YG->Prop}
end
abbrev Shp(d:Xa):Prop:=VJ d=YD
mutual
def Yd:Xa->Bool
 | .none=>YD
 | .int _=>YD
 | .str _=>YD
 | .list ds=>Ju ds
 | .tuple ds=>Ju ds
 | _=>YF
def Ju:List Xa->Bool
 | []=>YD
 | d::ds=>Yd d&&Ju ds
end
mutual
theorem Zmp:∀(d e:Xa),Yd d=YD->Yd e=YD->(QJ d e=YD↔d=e)
 | .none,e,_,he=>by cases e<;>simp_all [QJ,Yd]
 | .int i,e,_,he=>by cases e<;>simp_all [QJ,Yd]
 | .str i,e,_,he=>by cases e<;>simp_all [QJ,Yd]
 | .list ds,e,hd,he=>by
  cases e with
  | list es=>
   rw[Yd]at hd he;rw[QJ,JB.injEq];exact Zfk ds es hd he
  | _=>simp_all [QJ,Yd]
 | .tuple ds,e,hd,he=>by
  cases e with
  | tuple es=>
   rw[Yd]at hd he;rw[QJ,Xa.tuple.injEq];exact Zfk ds es hd he
  | _=>simp_all [QJ,Yd]
 | .bool b,e,hd,_=>by simp[Yd]at hd
 | .dict b,e,hd,_=>by simp[Yd]at hd
theorem Zfk:∀(ds es:List Xa),Ju ds=YD->Ju es=YD->(PyData.eqvAll ds es=YD↔ds=es)
 | [],[],_,_=>by simp[PyData.eqvAll]
 | [],_::_,_,_=>by simp[PyData.eqvAll]
 | _::_,[],_,_=>by simp[PyData.eqvAll]
 | d::ds,e::es,hd,he=>by
  rw[Ju,XM]at hd he;rw[PyData.eqvAll,XM,Zmp d e hd.1 he.1,Zfk ds es hd.2 he.2,List.cons.injEq]
end
theorem Zyx{d e:Xa}(h:Yd d=YD)(k:Yd e=YD)(q:d=e):QJ d e=YD:=(Zmp d e h k).mpr q
theorem Z33{d e:Xa}(h:Yd d=YD)(k:Yd e=YD)(q:d≠e):QJ d e=YF:=Ud.mpr λz=>q ((Zmp d e h k).mp z)
def fr(a b:Int):Xa:=.tuple [.int a,.int b]
theorem Zei{t b:Int}(hb:b≠0):0<(Bm t b:Int):=by
 have:=Int.gcd_pos_of_ne_zero_right t hb;omega
theorem W6{t g:Int}(hg:0<g):t.fdiv g=t/g:=Int.fdiv_eq_ediv_of_nonneg t (by omega)
theorem Zcs{t g:Int}(hg:0<g)(h:g∣t):t.fdiv (-g)= -(t/g):=by
 obtain⟨k,rfl⟩:=h;rw[Int.mul_ediv_cancel_left _ (by omega)];have e:g*k=(-k)*(-g):=by rw[Int.neg_mul_neg,Int.mul_comm]
 rw[e,Int.mul_fdiv_cancel _ (by omega)]
def shr(t b:Int):Int:=if b<0 then -(Bm t b:Int)else(Bm t b:Int)
theorem Z1a{t b:Int}(hb:b≠0):t.fdiv (shr t b)=(Qs t b).num:=by
 have hg:=Zei (t:=t) hb;have hd:(Bm t b:Int)∣t:=Int.gcd_dvd_left ..;rw[Rat.num_divInt,Int.gcd_comm b t];unfold shr
 by_cases h:b<0
 .rw[YL h,Zcs hg hd,Int.sign_eq_neg_one_of_neg h,Int.neg_one_mul,Int.neg_ediv_of_dvd hd]
 .rw[YM h,W6 hg,Int.sign_eq_one_of_pos (by omega),Int.one_mul]
theorem Z0i{t b:Int}(hb:b≠0):b.fdiv (shr t b)=((Qs t b).den:Int):=by
 have hg:=Zei (t:=t) hb;have hd:(Bm t b:Int)∣b:=Int.gcd_dvd_right ..;rw[Rat.den_divInt,YM hb,Int.gcd_comm b t];unfold shr
 by_cases h:b<0
 .have e:(b.natAbs:Int)= -b:=by omega
  rw[YL h,Zcs hg hd,Int.natCast_ediv,e,Int.neg_ediv_of_dvd hd]
 .have e:(b.natAbs:Int)=b:=by omega
  rw[YM h,W6 hg,Int.natCast_ediv,e]
theorem Zy4{t b:Int}(hb:b≠0):shr t b≠0:=by
 have hg:=Zei (t:=t) hb;unfold shr;split<;>omega
theorem Zxu{n:Nat}{t b:Int}(hb:b≠0)(h:Bt n b):Bt n (shr t b):=by
 have h1:Bt n (Bm t b:Int):=by
  refine Bt.of_le h ?_;have:=Int.gcd_le_natAbs_right t hb;omega
 unfold shr;split
 .exact h1.neg
 .exact h1
theorem Z3w{n:Nat}{t b:Int}(hb:b≠0)(h:Bt n t):Bt n (Qs t b).num:=by
 rw[Rat.num_divInt];refine Bt.of_le h ?_;refine Q7 (V1 _ _) ?_;rw[Int.natAbs_mul];have:b.sign.natAbs<=1:=by
  rw[Int.natAbs_sign];split<;>omega
 calc b.sign.natAbs*t.natAbs<=1*t.natAbs:=Nat.mul_le_mul_right _ this
  _=t.natAbs:=Nat.one_mul _
theorem Zue(q:Rat):(q.den:Int)≠0:=by
 have:=q.den_pos;omega
theorem Zkx(q:Rat):(0:Int)<(q.den:Int):=by
 have:=q.den_pos;omega
def frD(q:Rat):Xa:=fr q.num (q.den:Int)
def BQ(n:Nat)(q:Rat):Prop:=Bt n q.num/\Bt n (q.den:Int)
theorem BQ.zero:BQ 1 0:=⟨by unfold Bt;decide,by unfold Bt;decide⟩
section
variable {a o:YJ}
theorem Zwi(hK:X.K=K):IxR X (Yam K):=hK▸Zrt
theorem Zqt(hK:X.K=K):IxR X (rIx K):=hK▸Z5m
theorem Zup(hK:X.K=K):SlR X (Ydm K):=hK▸Z2f
def Yee(K:Xc):List V->Hp->VK->Prop:=λxs H Q=>∃p ys,xs=[.ref p]/\(SqL K H p ys\/SqT K H p ys)/\Q (.int ys.length) H
theorem Zq2(hK:X.K=K):Zec X (.builtin "len") (Yee K):=by subst hK;exact Zk9
def Yfg(K:Xc)(ta:TE):TT:=λO H Q=>ta O H λx H'=>∃k,Ybg K x H' k/\Q k H'
theorem Z09(hK:X.K=K)(ha:PE X a ta)(he:∀whole,isTrue a X.env whole=(do let v<-whole;standAt a.pos;holding [v] (truthy v))):PT X a (Yfg K ta):=by subst hK;exact Zut ha he
theorem Zv3{l:YJ}(hK:X.K=K)(hl:PE X l tl):PI X tg l (Z5t K tl):=by subst hK;exact Zq5 hl
theorem Zz0{l:YJ}(hK:X.K=K)(hl:PE X l tl):PI X tg l (Yc5 K tl):=by subst hK;exact Z4o hl
theorem Zyc(hK:X.K=K):OpR X (Bb .In) (rIn K YF):=by subst hK;exact Zt9
theorem Zla(hK:X.K=K):OpR X (Bb .NotIn) (rIn K YD):=by subst hK;exact Zli
end
theorem Ye{p:YG}(h:H p=YC)(o:HO):Same H (upd H p o):=λb u q=>by rw[Zo (Yt q h)];exact q
def But(p:YG)(H H':Hp):Prop:=∀b o,b≠p->H b=YB o->H' b=YB o
theorem But.upd(p:YG)(H:Hp)(o:HO):But p H (upd H p o):=λb u n e=>by rw[Zo n];exact e
def Pl(H:Hp)(p:YG)(n:Nat):Prop:=∃a b c:Int,H p=YB (.lst [.int a,.int b,.int c])/\0<=c/\c<=n
theorem Pl.at{H:Hp}{p:YG}{n:Nat}(h:Pl H p n):∃xs,H p=YB (.lst xs):=by
 obtain⟨a,b,c,e,h1,h2⟩:=h;exact⟨_,e⟩
namespace B
theorem boot_abs:X4 "abs"=YB (.builtin "abs"):=by decide +kernel
theorem boot_len:X4 "len"=YB (.builtin "len"):=by decide +kernel
theorem boot_min:X4 "min"=YB (.builtin "min"):=by decide +kernel
theorem boot_isinstance:X4 "isinstance"=YB (.builtin "isinstance"):=by decide +kernel
theorem boot_sorted:X4 "sorted"=YB (.builtin "sorted"):=by decide +kernel
theorem boot_int:X4 "int"=YB (.type "int"):=by decide +kernel
theorem boot_bool:X4 "bool"=YB (.type "bool"):=by decide +kernel
theorem boot_list:X4 "list"=YB (.type "list"):=by decide +kernel
theorem boot_tuple:X4 "tuple"=YB (.type "tuple"):=by decide +kernel
theorem boot_range:X4 "range"=YB (.type "range"):=by decide +kernel
theorem boot_zip:X4 "zip"=YB (.type "zip"):=by decide +kernel
theorem boot_enumerate:X4 "enumerate"=YB (.type "enumerate"):=by decide +kernel
theorem boot_set:X4 "set"=YB (.type "set"):=by decide +kernel
end B
theorem Zgz{a b:Int}(hb:0<b):a.fmod b=a%b:=Int.fmod_eq_emod_of_nonneg a (by omega)
theorem Zv1{x y:Int}(hx:0<=x)(hy:0<y):Bm y (x.fmod y)=Bm x y:=by
 rw[Zgz hy,Int.gcd_comm x y];have e:=Int.emod_add_mul_ediv x y
 conv=>rhs;rw[<-e]
 rw[Int.gcd_add_mul_left_right]
theorem Zx6:(2:Nat)<=Xw:=by decide
theorem Zuo(q:Rat):Qs q.num (q.den:Int)=q:=Rat.num_divInt_den q
theorem BQ.n{n:Nat}{q:Rat}(h:BQ n q):Bt n q.num:=h.1
theorem BQ.d{n:Nat}{q:Rat}(h:BQ n q):Bt n (q.den:Int):=h.2
theorem Yfr(q:Rat):(((q.den:Int)):Rat)≠0:=by
 intro z;exact Zue q (Rat.intCast_eq_zero_iff.mp z)
theorem Yf3(q:Rat):((q.num:Int):Rat)=q*(((q.den:Int)):Rat):=by
 have h:=Zuo q;rw[Rat.divInt_eq_div]at h;have d:=Yfr q
 conv=>rhs;lhs;rw[<-h]
 grind
variable {XP:(Str->Option Xd)->YH->Prop}{l:YG}{L L':YG->Prop}{env:Env}{elt:YJ}{J:It}{ifs:List YJ}{ns:List Int}{caps:List Nat}{loose own N':List Str}{zs:List V}{ds:List Xa}{m:Nat}{py:Pos}{YP:Qp->YH->Prop}{y:Str}{G:Xc}
def KS(G:Xc)(a:YG)(ns:List Int):Prop:=∃(o:Obj) (its:Array Xd) (n:Nat),G.lookup a=YB o/\o.cls= .type "list"/\o.dict=YC/\o.data= .seq its n/\its.size<=Xw/\Vals (ns.map V.int) its.toList
theorem KS.sq(h:KS G a ns):SqL G H a (ns.map V.int):=.inr h
def exD(x:Str):Xa:=.dict [(.str x,.none)]
def fnD(x:Str):Xa:=.dict [(.str x,.bool YD)]
def Zim:Xa->Bool| .dict ((_,.bool _)::_)=>YD|_=>YF
def Uy(G:Xc)(x:Str)(C:YG):Prop:=Ql G XN x=YB (YB (.ref C))
structure Zbl(G:Xc)(C:YG):Prop where
 ga:Vm G (.ref C) "__getattribute__"=YB (YB (.builtin "BaseException.__getattribute__"))
 gt:Vm G (.ref C) "__getattr__"=YB YC
 cl:Vm G (.ref C) "__class__"=YB (YB (.builtin "object.__class__"))
 isB:Be G (.ref C) (.type "BaseException")=YB YD
 isO:Be G (.ref C) (.type "object")=YB YD
 isC:(PySem.W.clsIn G C).isSome=YD
 k1:Qi G (.ref C) (.type "int")=YB YF
 k2:Qi G (.ref C) (.type "bool")=YB YF
 k3:Qi G (.ref C) (.type "str")=YB YF
 k4:Qi G (.ref C) (.type "list")=YB YF
 k5:Qi G (.ref C) (.type "tuple")=YB YF
def ExO(C a:YG)(h:YH):Prop:=∃o vs,h.get? a=YB o/\o.cls= .ref C/\o.data= .fields vs
inductive ImO where
 | tup (xs:List V)
 | ext (φ:YH->Prop)
def ImO.ho:ImO->HO
 | .tup xs=>.tup xs
 | .ext φ=>.ext φ
inductive MuO where
 | lst (xs:List V)
 | dK (kvs:List (Key×V))
 | dT (kvs:List (List Key×V))
def MuO.ho:MuO->HO
 | .lst xs=>.lst xs
 | .dK kvs=>.dK kvs
 | .dT kvs=>.dT kvs
def Ycq:Key->Xa
 | .inl i=>.int i
 | .inr x=>.str x
def Yf5(ks:List Key):Xa:=.tuple (ks.map Ycq)
abbrev KY:=Sum Key (List Key)
def kyD:KY->Xa
 | .inl k=>Ycq k
 | .inr ks=>Yf5 ks
def MuO.dic(t:Bool)(ks:List KY)(xs:List V):MuO->Prop
 | .lst _=>False
 | .dK kvs=>t=YF/\ks=kvs.map (λp=>.inl p.1)/\xs=kvs.map (·.2)
 | .dT kvs=>t=YD/\ks=kvs.map (λp=>.inr p.1)/\xs=kvs.map (·.2)
def dcD(t:Bool)(ks:List KY)(ds:List Xa):Xa:=.dict ((.none,.bool t)::(ks.map kyD).zip ds)
theorem ImO.nm{x:ImO}{y:MuO}(h:H a=YB x.ho)(h':H a=YB y.ho):False:=by
 rw[h]at h';cases x<;>cases y<;>cases h'
theorem ImO.nl{x:ImO}(h:H a=YB x.ho)(h':H a=YB (.lst ys)):False:=by
 rw[h]at h';cases x<;>cases h'
mutual
inductive Da(G:Xc)(H:Hp)(L:YG->Prop):V->Xa->Prop where
 | non:Da G H L .non .none
 | bl (b:Bool):Da G H L (.bl b) (.bool b)
 | int (i:Int):Da G H L (.int i) (.int i)
 | str (x:Str):Da G H L (.str x) (.str x)
 | lst {a:YG} {xs:List V} {ds:List Xa}:L a->Rd H a (.lst xs)->Das G H L xs ds->Da G H L (.ref a) (.list ds)
 | tup {a:YG} {xs:List V} {ds:List Xa}:H a=YB (.tup xs)->Das G H L xs ds->Da G H L (.ref a) (.tuple ds)
 | scr {a:YG} {ns:List Int}:KS G a ns->Da G H L (.ref a) (.list (ns.map Xl))
 | exc {a C:YG} {x:Str}:Zbl G C->Uy G x C->H a=YB (.ext (ExO C a))->Da G H L (.ref a) (exD x)
 | fn {a:YG} {x:Str}:Uy G x a->Da G H L (.ref a) (fnD x)
 | dic {a:YG} {o:MuO} {t:Bool} {ks:List KY} {xs:List V} {ds:List Xa}:L a->Rd H a o.ho->o.dic t ks xs->Das G H L xs ds->Da G H L (.ref a) (dcD t ks ds)
inductive Das(G:Xc)(H:Hp)(L:YG->Prop):List V->List Xa->Prop where
 | nil:Das G H L [] []
 | cons {x:V} {xs:List V} {d:Xa} {ds:List Xa}:Da G H L x d->Das G H L xs ds->Das G H L (x::xs) (d::ds)
end
theorem Da.both{P:V->Xa->Prop}{Q:List V->List Xa->Prop}(c1:P .non .none)(c2:∀b,P (.bl b) (.bool b))(c3:∀i,P (.int i) (.int i))(c4:∀x,P (.str x) (.str x))
  (c5:∀{a:YG} {xs:List V} {ds:List Xa},L a->Rd H a (.lst xs)->Q xs ds->P (.ref a) (.list ds)) (c6:∀{a:YG} {xs:List V} {ds:List Xa},H a=YB (.tup xs)->Q xs ds->P (.ref a) (.tuple ds))
  (c7:∀{a:YG} {ns:List Int},KS G a ns->P (.ref a) (.list (ns.map Xl))) (c8:∀{a C:YG} {x:Str},Zbl G C->Uy G x C->H a=YB (.ext (ExO C a))->P (.ref a) (exD x)) (c9:∀{a:YG} {x:Str},Uy G x a->P (.ref a) (fnD x))
  (c10:∀{a:YG} {o:MuO} {t:Bool} {ks:List KY} {xs:List V} {ds:List Xa},L a->Rd H a o.ho->o.dic t ks xs->Q xs ds->P (.ref a) (dcD t ks ds)) (n:Q [] []) (c:∀{x:V} {xs:List V} {d:Xa} {ds:List Xa},P x d->Q xs ds->Q (x::xs) (d::ds)):(∀{v d},Da G H L v d->P v d)/\∀{xs ds},Das G H L xs ds->Q xs ds :=
 ⟨λh=>Da.rec (motive_1:=λv d _=>P v d) (motive_2:=λxs ds _=>Q xs ds) c1 c2 c3 c4 (λp e _ r=>c5 p e r) (λe _ r=>c6 e r) (λk=>c7 k) (λk l m=>c8 k l m) (λk=>c9 k) (λp e k _ r=>c10 p e k r) n (λ_ _ p q=>c p q) h,
   λh=>Das.rec (motive_1:=λv d _=>P v d) (motive_2:=λxs ds _=>Q xs ds) c1 c2 c3 c4 (λp e _ r=>c5 p e r) (λe _ r=>c6 e r) (λk=>c7 k) (λk l m=>c8 k l m) (λk=>c9 k) (λp e k _ r=>c10 p e k r) n (λ_ _ p q=>c p q) h⟩
theorem Das.ind{Q:List V->List Xa->Prop}(n:Q [] [])(c:∀{x:V} {xs:List V} {d:Xa} {ds:List Xa},Da G H L x d->Das G H L xs ds->Q xs ds->Q (x::xs) (d::ds)):∀{xs ds},Das G H L xs ds->Q xs ds:=λh=>
 Das.rec (motive_1:=λ_ _ _=>True) (motive_2:=λxs ds _=>Q xs ds) trivial (λ_=>trivial) (λ_=>trivial) (λ_=>trivial) (λ_ _ _ _=>trivial) (λ_ _ _=>trivial) (λ_=>trivial) (λ_ _ _=>trivial) (λ_=>trivial) (λ_ _ _ _ _=>trivial) n (λp q _ r=>c p q r) h
theorem Da.frame2(hl:∀a (xs:MuO),L a->Rd H a xs.ho->L' a/\Rd H' a xs.ho)(ht:∀a (xs:ImO),H a=YB xs.ho->H' a=YB xs.ho):(∀{v:V} {d:Xa},Da G H L v d->Da G H' L' v d)/\∀{xs:List V} {ds:List Xa},Das G H L xs ds->Das G H' L' xs ds :=
 Da.both .non .bl .int .str (fun{_ xs _} p e r=>.lst (hl _ (.lst xs) p e).1 (hl _ (.lst xs) p e).2 r) (fun{_ xs _} e r=>.tup (ht _ (.tup xs) e) r) .scr (λc n e=>.exc c n (ht _ (.ext _) e)) .fn (λp e k r=>.dic (hl _ _ p e).1 (hl _ _ p e).2 k r) .nil .cons
theorem Da.frame(hl:∀a (xs:MuO),L a->Rd H a xs.ho->L' a/\Rd H' a xs.ho)(ht:∀a (xs:ImO),H a=YB xs.ho->H' a=YB xs.ho){v:V}{d:Xa}(h:Da G H L v d):Da G H' L' v d:=(Da.frame2 hl ht).1 h
theorem Das.frame(hl:∀a (xs:MuO),L a->Rd H a xs.ho->L' a/\Rd H' a xs.ho)(ht:∀a (xs:ImO),H a=YB xs.ho->H' a=YB xs.ho){xs:List V}{ds:List Xa}(h:Das G H L xs ds):Das G H' L' xs ds:=(Da.frame2 hl ht).2 h
theorem Rd.same{u:HO}(s:Same H H')(h:Rd H a u):Rd H' a u:=h.imp (s _ _) λ⟨o,h⟩=>⟨o,s _ _ h⟩
theorem Rd.some{a:YG}{u:HO}(h:Rd H a u):H a≠Option.none:=by
 rcases h with h|⟨o,h⟩<;>rw[h]<;>intro z<;>cases z
theorem Da.same(h:Same H H'){d:Xa}(x:Da G H L v d):Da G H' L v d:=x.frame (λa xs p e=>⟨p,e.same h⟩) λa xs e=>h _ _ e
theorem Das.same(h:Same H H'){v:List V}{d:List Xa}(x:Das G H L v d):Das G H' L v d:=x.frame (λa xs p e=>⟨p,e.same h⟩) λa xs e=>h _ _ e
theorem Da.wide(h:∀a,L a->H a≠YC->L' a){d:Xa}(x:Da G H L v d):Da G H L' v d:=x.frame (λa xs p e=>⟨h a p e.some,e⟩) λa xs e=>e
theorem Das.wide(h:∀a,L a->H a≠YC->L' a){v:List V}{d:List Xa}(x:Das G H L v d):Das G H L' v d:=x.frame (λa xs p e=>⟨h a p e.some,e⟩) λa xs e=>e
theorem Das.length{xs:List V}{ds:List Xa}(h:Das G H L xs ds):xs.length=ds.length:=Das.ind (Q:=λxs ds=>xs.length=ds.length) rfl (λ_ _ r=>YT (·+1) r) h
theorem Das.append{es:List Xa}(h:Das G H L xs ds)(k:Das G H L ys es):Das G H L (xs++ys) (ds++es):=Das.ind (Q:=λxs ds=>Das G H L (xs++ys) (ds++es)) k (λh _ r=>.cons h r) h
theorem Das.get{d:Xa}(h:Das G H L xs ds):ds[i]? =YB d->∃x,xs[i]? =YB x/\Da G H L x d :=
 Das.ind (Q:=λxs ds=>∀i,ds[i]? =YB d->∃x,xs[i]? =YB x/\Da G H L x d) (λ_ e=>(Option.some_ne_none _ (e.symm.trans List.getElem?_nil)).elim) (fun{x _ _ _} h _ r i=>Nat.casesOn i (λe=>⟨x,rfl,QK e▸h⟩) λi e=>r i e) h i
theorem Das.take{xs:List V}{ds:List Xa}(n:Nat)(h:Das G H L xs ds):Das G H L (xs.take n) (ds.take n) :=
 Das.ind (Q:=λxs ds=>∀n,Das G H L (xs.take n) (ds.take n)) (λn=>by rw[List.take_nil,List.take_nil];exact .nil) (λh _ r n=>Nat.casesOn n .nil λn=>.cons h (r n)) h n
theorem Das.drop(n:Nat)(h:Das G H L xs ds):Das G H L (xs.drop n) (ds.drop n) :=
 Das.ind (Q:=λxs ds=>∀n,Das G H L (xs.drop n) (ds.drop n)) (λn=>by rw[List.drop_nil,List.drop_nil];exact .nil) (λh q r n=>Nat.casesOn n (.cons h q) λn=>r n) h n
theorem Das.ints(ns:List Int):Das G H L (ns.map V.int) (ns.map Xl):=by
 induction ns with
 | nil=>exact .nil
 | cons n ns ih=>exact .cons (.int n) ih
theorem Das.int_inv(h:Das G H L xs (ns.map Xl)):xs=ns.map V.int:=by
 induction ns generalizing xs with
 | nil=>cases h;rfl
 | cons n ns ih=>
  rw[Qq]at h;cases h with
  | cons h r=>cases h;rw[ih r];rfl
theorem Zqd(ns:List Int)(v:Vals (ns.map V.int) us):∃as,ReadsAll h us (ns.map Xl) as:=by
 induction ns generalizing us with
 | nil=>cases v;exact⟨_,.nil⟩
 | cons n ns ih=>
  rw[Qq]at v;cases v with
  | cons r rs=>
   obtain⟨t,e⟩:=(show∃t,_=Vt n t from r);subst e;obtain⟨bs,k'⟩:=ih rs;exact⟨_,.cons (.int n t) k'⟩
section
variable {O:St}
theorem Da.reads2(hG:X.K=G)(I:Inv X pins O H s):(∀{v:V} {d:Xa},Da G H L v d->∀u,RelV v u->d.canLay0=YD->∃as,Reads s.heap u d as)/\∀{xs:List V} {ds:List Xa},Das G H L xs ds->∀us,Vals xs us->Bf ds=YD->∃as,ReadsAll s.heap us ds as:=by
 refine Da.both ?_ ?_ ?_ ?_ ?_ ?_ ?_ ?_ ?_ ?_ ?_ ?_
 .intro u r _
  cases(show _=QD from r);exact⟨_,.none⟩
 .intro b u r _
  cases(show _=Value.bool b from r);exact⟨_,.bool b⟩
 .intro i u r _
  obtain⟨t,e⟩:=(show∃t,_=Vt i t from r);subst e;exact⟨_,.int i t⟩
 .intro x u r _
  obtain⟨t,e⟩:=(show∃t,_=Value.str x t from r);subst e;exact⟨_,.str x t⟩
 .intro a xs ds _ e q u r hcl
  cases(show _=Qj a from r);obtain⟨_,its,n,vs,h1⟩:=(show ObjOk X.prog X.w H s.heap a (.lst xs)from e.ok I.hok);rw[Bv]at hcl;obtain⟨as,k⟩:=q _ vs hcl;exact⟨_,Reads.list h1 rfl rfl k⟩
 .intro a xs ds e q u r hcl
  cases(show _=Qj a from r);obtain⟨_,its,vs,o,ho,hc,n,hd⟩:=(show ObjOk X.prog X.w H s.heap a (.tup xs)from I.hok a _ e);rw[Bv]at hcl;obtain⟨as,k⟩:=q _ vs hcl;exact⟨_,Reads.tuple ho hc hd k⟩
 .intro a ns k u r _
  cases(show _=Qj a from r);subst hG;obtain⟨its,vs,⟨o,n,ho,hc,hd,hs⟩,_⟩:=I.list (k.sq (H:=H));obtain⟨as,q⟩:=Zqd ns vs;exact⟨_,Reads.list ho hc hs q⟩
 .intro a C x _ _ e u r hc
  rw[exD,Bv]at hc;cases hc
 .intro a x _ u r hc
  rw[fnD,Bv]at hc;cases hc
 .intro a o t ks xs ds _ _ _ _ u r hc
  rw[dcD,Bv]at hc;cases hc
 .intro us v _
  cases v;exact⟨_,.nil⟩
 .intro x xs d ds h q us v hc
  cases v with
  | cons r rs=>
   rw[Bf,XM]at hc;obtain⟨as,k⟩:=h _ r hc.1;obtain⟨bs,k'⟩:=q _ rs hc.2;exact⟨_,.cons k k'⟩
theorem Da.reads(hG:X.K=G)(I:Inv X pins O H s){d:Xa}(h:Da G H L v d)(r:RelV v u)(c:d.canLay0=YD):∃as,Reads s.heap u d as:=(Da.reads2 hG I).1 h u r c
theorem Das.reads(hG:X.K=G)(I:Inv X pins O H s)(h:Das G H L xs ds)(r:Vals xs us)(c:Bf ds=YD):∃as,ReadsAll s.heap us ds as:=(Da.reads2 hG I).2 h us r c
end
inductive OT where
 | fz (d:Xa)
 | nd (ts:List OT)
 | tp (ts:List OT)
 | dc (t:Bool) (ks:List KY) (ds:List Xa)
mutual
def OT.data:OT->Xa
 | .fz d=>d
 | .nd ts=>.list (OT.datas ts)
 | .tp ts=>.tuple (OT.datas ts)
 | .dc t ks ds=>dcD t ks ds
def OT.datas:List OT->List Xa
 | []=>[]
 | t::ts=>t.data::OT.datas ts
end
theorem OT.datas_map:∀(ts:List OT),OT.datas ts=ts.map OT.data
 | []=>rfl
 | t::ts=>by rw[OT.datas,OT.datas_map ts];rfl
@[simp] theorem OT.data_fz(d:Xa):(OT.fz d).data=d:=by rw[OT.data]
@[simp] theorem OT.data_nd(ts:List OT):(OT.nd ts).data= .list (ts.map OT.data):=by rw[OT.data,OT.datas_map]
@[simp] theorem OT.data_tp(ts:List OT):(OT.tp ts).data= .tuple (ts.map OT.data):=by rw[OT.data,OT.datas_map]
theorem OT.data_dc(t:Bool)(ks:List KY)(ds:List Xa):(OT.dc t ks ds).data=dcD t ks ds:=by rw[OT.data]
@[simp] theorem OT.map_fz(ds:List Xa):(ds.map OT.fz).map OT.data=ds:=by
 rw[Qu];exact(XH λd _=>OT.data_fz d).trans (List.map_id _)
mutual
inductive Own(G:Xc)(H:Hp)(L:YG->Prop):V->OT->List YG->Prop where
 | fz {v:V} {d:Xa}:Da G H L v d->Own G H L v (.fz d) []
 | nd {a:YG} {xs:List V} {ts:List OT} {bs:List YG}:H a=YB (.lst xs)->Owns G H L xs ts bs->Own G H L (.ref a) (.nd ts) (a::bs)
 | tp {a:YG} {xs:List V} {ts:List OT} {bs:List YG}:H a=YB (.tup xs)->Owns G H L xs ts bs->Own G H L (.ref a) (.tp ts) bs
 | dc {a:YG} {o:MuO} {t:Bool} {ks:List KY} {xs:List V} {ds:List Xa}:H a=YB o.ho->o.dic t ks xs->Das G H L xs ds->Own G H L (.ref a) (.dc t ks ds) [a]
inductive Owns(G:Xc)(H:Hp)(L:YG->Prop):List V->List OT->List YG->Prop where
 | nil:Owns G H L [] [] []
 | cons {x:V} {xs:List V} {t:OT} {ts:List OT} {as bs:List YG}:Own G H L x t as->Owns G H L xs ts bs->Owns G H L (x::xs) (t::ts) (as++bs)
end
theorem Own.both{P:V->OT->List YG->Prop}{Q:List V->List OT->List YG->Prop}(c1:∀{v:V} {d:Xa},Da G H L v d->P v (.fz d) [])(c2:∀{a:YG} {xs:List V} {ts:List OT} {bs:List YG},H a=YB (.lst xs)->Q xs ts bs->P (.ref a) (.nd ts) (a::bs))
  (c3:∀{a:YG} {xs:List V} {ts:List OT} {bs:List YG},H a=YB (.tup xs)->Q xs ts bs->P (.ref a) (.tp ts) bs) (c4:∀{a:YG} {o:MuO} {t:Bool} {ks:List KY} {xs:List V} {ds:List Xa},H a=YB o.ho->o.dic t ks xs->Das G H L xs ds->P (.ref a) (.dc t ks ds) [a]) (n:Q [] [] []) (c:∀{x:V} {xs:List V} {t:OT} {ts:List OT} {as bs:List YG},P x t as->Q xs ts bs->Q (x::xs) (t::ts) (as++bs)) :
  (∀ {v t as},Own G H L v t as->P v t as)/\∀{xs ts as},Owns G H L xs ts as->Q xs ts as :=
 ⟨λh=>Own.rec (motive_1:=λv t as _=>P v t as) (motive_2:=λxs ts as _=>Q xs ts as) c1 (λe _ r=>c2 e r) (λe _ r=>c3 e r) (λe k r=>c4 e k r) n (λ_ _ p q=>c p q) h,
   λh=>Owns.rec (motive_1:=λv t as _=>P v t as) (motive_2:=λxs ts as _=>Q xs ts as) c1 (λe _ r=>c2 e r) (λe _ r=>c3 e r) (λe k r=>c4 e k r) n (λ_ _ p q=>c p q) h⟩
theorem Own.frame2(hl:∀a (xs:MuO),L a->Rd H a xs.ho->L' a/\Rd H' a xs.ho)(ht:∀a (xs:ImO),H a=YB xs.ho->H' a=YB xs.ho) :
  (∀ {v:V} {t:OT} {as:List YG},Own G H L v t as->(∀a∈as,∀xs:MuO,H a=YB xs.ho->H' a=YB xs.ho)->Own G H' L' v t as)/\∀{xs:List V} {ts:List OT} {as:List YG},Owns G H L xs ts as->(∀a∈as,∀xs:MuO,H a=YB xs.ho->H' a=YB xs.ho)->Owns G H' L' xs ts as :=
 Own.both (λh _=>.fz (h.frame hl ht)) (fun{_ xs _ _} e r ha=>.nd (ha _ (.head _) (.lst xs) e) (r λa m=>ha a (.tail _ m))) (fun{_ xs _ _} e r ha=>.tp (ht _ (.tup xs) e) (r ha)) (λe k r ha=>.dc (ha _ (.head _) _ e) k (r.frame hl ht)) (λ_=>.nil) (λh r ha=>.cons (h λa m=>ha a (JL _ m)) (r λa m=>ha a (XJ _ m)))
theorem Own.frame(hl:∀a (xs:MuO),L a->Rd H a xs.ho->L' a/\Rd H' a xs.ho)(ht:∀a (xs:ImO),H a=YB xs.ho->H' a=YB xs.ho){v:V}{t:OT}{as:List YG}(ha:∀a∈as,∀xs:MuO,H a=YB xs.ho->H' a=YB xs.ho)(h:Own G H L v t as):Own G H' L' v t as:=(Own.frame2 hl ht).1 h ha
theorem Owns.frame(hl:∀a (xs:MuO),L a->Rd H a xs.ho->L' a/\Rd H' a xs.ho)(ht:∀a (xs:ImO),H a=YB xs.ho->H' a=YB xs.ho){xs:List V}{ts:List OT}{as:List YG}(ha:∀a∈as,∀xs:MuO,H a=YB xs.ho->H' a=YB xs.ho)(h:Owns G H L xs ts as):Owns G H' L' xs ts as:=(Own.frame2 hl ht).2 h ha
theorem Own.same(h:Same H H'){t:OT}{as:List YG}(x:Own G H L v t as):Own G H' L v t as:=x.frame (λa xs p e=>⟨p,e.same h⟩) (λa xs e=>h _ _ e) λa _ xs e=>h _ _ e
theorem Own.wide(h:∀a,L a->H a≠YC->L' a){t:OT}{as:List YG}(x:Own G H L v t as):Own G H L' v t as:=x.frame (λa xs p e=>⟨h a p e.some,e⟩) (λa xs e=>e) λa _ xs e=>e
theorem Owns.wide(h:∀a,L a->H a≠YC->L' a){v:List V}{t:List OT}{as:List YG}(x:Owns G H L v t as):Owns G H L' v t as:=x.frame (λa xs p e=>⟨h a p e.some,e⟩) (λa xs e=>e) λa _ xs e=>e
theorem Owns.same(h:Same H H'){v:List V}{t:List OT}{as:List YG}(x:Owns G H L v t as):Owns G H' L v t as:=x.frame (λa xs p e=>⟨p,e.same h⟩) (λa xs e=>h _ _ e) λa _ xs e=>h _ _ e
theorem Own.da2(h:∀a,L a->H a≠YC->L' a):(∀{v:V} {t:OT} {as:List YG},Own G H L v t as->(∀a∈as,L' a)->Da G H L' v t.data)/\∀{v:List V} {t:List OT} {as:List YG},Owns G H L v t as->(∀a∈as,L' a)->Das G H L' v (OT.datas t) :=
 Own.both (λk _=>by rw[OT.data_fz];exact k.wide h) (λe r ha=>by rw[OT.data];exact .lst (ha _ (.head _)) (.inl e) (r λa m=>ha a (.tail _ m))) (λe r ha=>by rw[OT.data];exact .tup e (r ha)) (λe k r ha=>by rw[OT.data];exact .dic (ha _ (.head _)) (.inl e) k (r.wide h)) (λ_=>.nil) (λk r ha=>.cons (k λa m=>ha a (JL _ m)) (r λa m=>ha a (XJ _ m)))
theorem Own.da(h:∀a,L a->H a≠YC->L' a){t:OT}{as:List YG}(ha:∀a∈as,L' a)(k:Own G H L v t as):Da G H L' v t.data:=(Own.da2 h).1 k ha
theorem Owns.das(h:∀a,L a->H a≠YC->L' a){v:List V}{t:List OT}{as:List YG}(ha:∀a∈as,L' a)(k:Owns G H L v t as):Das G H L' v (OT.datas t):=(Own.da2 h).2 k ha
theorem Own.some2:(∀{v:V} {t:OT} {as:List YG},Own G H L v t as->∀a∈as,∃xs:MuO,H a=YB xs.ho)/\∀{v:List V} {t:List OT} {as:List YG},Owns G H L v t as->∀a∈as,∃xs:MuO,H a=YB xs.ho :=
 Own.both (λ_ _ m=>nomatch m) (fun{_ xs _ _} e r a m=>(Xi.mp m).elim (λq=>⟨.lst xs,q▸e⟩) (r a)) (λ_ r=>r) (fun{_ o _ _ _ _} e _ _ a m=>⟨o,Xv.mp m▸e⟩) (λ_ m=>nomatch m) (λk r a m=>(Qt.mp m).elim (k a) (r a))
theorem Own.some{v:V}{t:OT}{as:List YG}(h:Own G H L v t as):∀a∈as,∃xs:MuO,H a=YB xs.ho:=Own.some2.1 h
theorem Owns.some{v:List V}{t:List OT}{as:List YG}(h:Owns G H L v t as):∀a∈as,∃xs:MuO,H a=YB xs.ho:=Own.some2.2 h
theorem Owns.length{xs:List V}{ts:List OT}{as:List YG}(h:Owns G H L xs ts as):xs.length=ts.length:=(Own.both (P:=λ_ _ _=>True) (Q:=λxs ts _=>xs.length=ts.length) (λ_=>trivial) (λ_ _=>trivial) (λ_ _=>trivial) (λ_ _ _=>trivial) rfl (λ_ r=>YT (·+1) r)).2 h
theorem Das.owns(h:Das G H L xs ds):Owns G H L xs (ds.map OT.fz) []:=Das.ind (Q:=λxs ds=>Owns G H L xs (ds.map OT.fz) []) .nil (λh _ r=>.cons (.fz h) r) h
abbrev Ze:=List (Option OT)
abbrev Fp:=Nat->List YG
set_option genInjectivity false in
structure MC(G:Xc) where
 H₀:Hp
 as₀:YG->Prop
 L:YG->Prop
 O₀:St
def Foot(fp:Fp)(a:YG):Prop:=∃i,a∈fp i
def Lf(C:MC G)(fp:Fp)(ex:YG->Prop)(a:YG):Prop:=¬Foot fp a/\¬ex a/\(C.L a\/C.H₀ a=YC)
structure Rel(C:MC G)(io:List Nat)(H:Hp)(O:St)(δ:Ze)(fp:Fp)(ex:YG->Prop):Prop where
 len:O.length=δ.length
 own:∀(i:Nat) (t:OT),δ[i]? =YB (YB t)->∃v,O[i]? =YB (YB v)/\Own G H (Lf C fp ex) v t (fp i)
 emp:∀i:Nat,(∀t,δ[i]? ≠YB (YB t))->fp i=[]
 nd:∀i,(fp i).Nodup
 dj:∀i j a,a∈fp i->a∈fp j->i=j
 dx:∀i a,a∈fp i->¬ex a
 xa:∀a,ex a->H a≠YC
 fr:∀b o,C.H₀ b=YB o->¬C.as₀ b->H b=YB o
 al:∀b,H b=YC->C.H₀ b=YC
 new:∀i a,a∈fp i->(i∈io/\C.as₀ a)\/C.H₀ a=YC
 io:∀i∈io,O[i]? =C.O₀[i]?
structure Stp(p:Bool)(H:Hp)(δ:Ze)(fp:Fp)(H':Hp)(δ':Ze)(fp':Fp):Prop where
 keep:∀b o,H b=YB o->(p=YD\/¬Foot fp b)->H' b=YB o
 env:p=YD->δ'=δ/\fp'=fp
 grow:∀a,Foot fp' a->Foot fp a\/H a=YC
 al:∀b,H' b=YC->H b=YC
section
variable {C:MC G}{io:List Nat}{H'':Hp}{O:St}{δ δ' δ'':Ze}{fp fp' fp'':Fp}{ex ex':YG->Prop}{p p' c:Bool}{d:Xa}{r:OT}{new:List YG}
theorem Rel.foot(R:Rel C io H O δ fp ex)(h:Foot fp a):∃xs:MuO,H a=YB xs.ho:=by
 obtain⟨i,h⟩:=h
 by_cases q:∃t,δ[i]? =YB (YB t)
 .obtain⟨t,q⟩:=q
  obtain⟨v,_,o⟩:=R.own i t q;exact o.some a h
 .rw[R.emp i (λt z=>q ⟨t,z⟩)]at h
  exact nomatch h
theorem Rel.footSome(R:Rel C io H O δ fp ex)(h:H a=YC):¬Foot fp a:=λz=>by
 obtain⟨xs,e⟩:=R.foot z;rw[h]at e;cases e
theorem Stp.refl(p:Bool)(H:Hp)(δ:Ze)(fp:Fp):Stp p H δ fp H δ fp:=⟨λ_ _ h _=>h,λ_=>⟨rfl,rfl⟩,λ_ h=>.inl h,λ_ h=>h⟩
theorem Stp.same(h:Same H H')(hn:∀b,H' b=YC->H b=YC):Stp p H δ fp H' δ fp:=⟨λ_ _ q _=>h _ _ q,λ_=>⟨rfl,rfl⟩,λ_ h=>.inl h,hn⟩
theorem Same.al(h:Same H H'):∀b,H' b=YC->H b=YC:=λ_ q=>h.free q
theorem Stp.trans(a:Stp p H δ fp H' δ' fp')(b:Stp p' H' δ' fp' H'' δ'' fp''):Stp (p&&p') H δ fp H'' δ'' fp'' where
 keep:=λx o e h=>by
  rcases h with h|h
  .rw[XM]at h
   exact b.keep x o (a.keep x o e (.inl h.1)) (.inl h.2)
  .refine b.keep x o (a.keep x o e (.inr h)) (.inr λz=>?_)
   rcases a.grow x z with z|z
   .exact h z
   .rw[e]at z;cases z
 env:=λh=>by
  rw[XM]at h;obtain⟨e1,e2⟩:=a.env h.1;obtain⟨e3,e4⟩:=b.env h.2;exact⟨e3.trans e1,e4.trans e2⟩
 grow:=λx h=>by
  rcases b.grow x h with h|h
  .exact a.grow x h
  .exact .inr (a.al x h)
 al:=λx h=>a.al x (b.al x h)
theorem Rel.frameL(R:Rel C io H O δ fp ex)(S:Stp p H δ fp H' δ' fp')(hc:p=YD\/c=YD)(hx:∀a,ex' a->ex a\/H a=YC) :
  (∀ a (xs:MuO),(c=YD->Lf C fp ex a)->Rd H a xs.ho->(c=YD->Lf C fp' ex' a)/\Rd H' a xs.ho)/\(∀a (xs:ImO),H a=YB xs.ho->H' a=YB xs.ho):=by
 have nf:∀a,Foot fp a->∃xs:MuO,H a=YB xs.ho:=λa h=>R.foot h;refine⟨λa xs l q=>⟨λhc'=>?_,?_⟩,λa xs q=>S.keep a _ q (.inr λz=>?_)⟩
 .obtain⟨l1,l2,l3⟩:=l hc'
  refine⟨λz=>?_,λz=>?_,l3⟩
  .rcases S.grow a z with z|z
   .exact l1 z
   .exact q.some z
  .rcases hx a z with z|z
   .exact l2 z
   .exact q.some z
 .have hk:p=YD\/¬Foot fp a:=by
   rcases hc with h|h
   .exact .inl h
   .exact .inr (l h).1
  rcases q with q|⟨o,q⟩
  .exact .inl (S.keep a _ q hk)
  .exact .inr ⟨o,S.keep a _ q hk⟩
 .obtain⟨ys,e⟩:=nf a z
  exact ImO.nm q e
theorem Rel.own_step(R:Rel C io H O δ fp ex)(S:Stp p H δ fp H' δ' fp')(hc:p=YD\/c=YD)(hx:∀a,ex' a->ex a\/H a=YC)(hn:∀a∈new,ex a)
  (x:Own G H (λa=>c=YD->Lf C fp ex a) v r new):Own G H' (λa=>c=YD->Lf C fp' ex' a) v r new :=
 x.frame (R.frameL S hc hx).1 (R.frameL S hc hx).2 λa m xs e=>S.keep a _ e (.inr λ⟨i,z⟩=>R.dx i a z (hn a m))
theorem Rel.owns_step(R:Rel C io H O δ fp ex)(S:Stp p H δ fp H' δ' fp')(hc:p=YD\/c=YD)(hx:∀a,ex' a->ex a\/H a=YC)(hn:∀a∈new,ex a){rs:List OT}
  (x:Owns G H (λa=>c=YD->Lf C fp ex a) vs rs new):Owns G H' (λa=>c=YD->Lf C fp' ex' a) vs rs new :=
 x.frame (R.frameL S hc hx).1 (R.frameL S hc hx).2 λa m xs e=>S.keep a _ e (.inr λ⟨i,z⟩=>R.dx i a z (hn a m))
theorem Rel.drop(R:Rel C io H O δ fp ex)(h:∀a,ex' a->ex a):Rel C io H O δ fp ex' :=
 ⟨R.len,λi t e=>by
  obtain⟨v,e1,o⟩:=R.own i t e;exact⟨v,e1,o.wide λa l _=>⟨l.1,λz=>l.2.1 (h a z),l.2.2⟩⟩,R.emp,R.nd,R.dj,λi a m z=>R.dx i a m (h a z),λa z=>R.xa a (h a z),R.fr,R.al,R.new,R.io⟩
theorem Rel.made(R:Rel C io H O δ fp ex)(s:Same H H')(hn:∀a∈new,H a=YC/\H' a≠YC):Rel C io H' O δ fp (λa=>ex a\/a∈new) :=
 ⟨R.len,λi t e=>by
  obtain⟨v,e1,o⟩:=R.own i t e;refine⟨v,e1,(o.wide λa l q=>⟨l.1,λz=>?_,l.2.2⟩).same s⟩;rcases z with z|z
  .exact l.2.1 z
  .exact q (hn a z).1,R.emp,R.nd,R.dj,λi a m z=>by
   rcases z with z|z
   .exact R.dx i a m z
   .exact R.footSome (hn a z).1 ⟨i,m⟩,λa z=>by
   rcases z with z|z
   .intro q;exact R.xa a z (s.free q)
   .exact(hn a z).2,λb o e n=>s _ _ (R.fr b o e n),λb q=>R.al b (s.free q),R.new,R.io⟩
end
abbrev MEt:=Ze->(OT->Ze->Prop)->Prop
abbrev MAt:=Ze->(List OT->Ze->Prop)->Prop
abbrev MTt:=Ze->(Bool->Ze->Prop)->Prop
abbrev exu(ex:YG->Prop)(new:List YG):YG->Prop:=λa=>ex a\/a∈new
structure RE(C:MC G)(io:List Nat)(p c:Bool)(H:Hp)(O:St)(δ:Ze)(fp:Fp)(ex:YG->Prop)(H':Hp)(v:V)(r:OT)(δ':Ze)(fp':Fp)(new:List YG):Prop where
 rel:Rel C io H' O δ' fp' (exu ex new)
 stp:Stp p H δ fp H' δ' fp'
 own:Own G H' (λa=>c=YD->Lf C fp' (exu ex new) a) v r new
 nd:new.Nodup
 fresh:∀a∈new,H a=YC
structure RA(C:MC G)(io:List Nat)(p c:Bool)(H:Hp)(O:St)(δ:Ze)(fp:Fp)(ex:YG->Prop)(H':Hp)(v:List V)(r:List OT)(δ':Ze)(fp':Fp)(new:List YG):Prop where
 rel:Rel C io H' O δ' fp' (exu ex new)
 stp:Stp p H δ fp H' δ' fp'
 own:Owns G H' (λa=>c=YD->Lf C fp' (exu ex new) a) v r new
 nd:new.Nodup
 fresh:∀a∈new,H a=YC
def SE(G:Xc)(io:List Nat)(p c:Bool)(t:TE)(m:MEt):Prop:=∀(C:MC G) (H:Hp) (O:St) (δ:Ze) (fp:Fp) (ex:YG->Prop) (K:OT->Ze->Prop) (Q:VK),Rel C io H O δ fp ex->m δ K ->
 (∀ H' v r δ' fp' new,RE C io p c H O δ fp ex H' v r δ' fp' new->K r δ'->Q v H')->t O H Q
def SA(G:Xc)(io:List Nat)(p c:Bool)(t:TA)(m:MAt):Prop:=∀(C:MC G) (H:Hp) (O:St) (δ:Ze) (fp:Fp) (ex:YG->Prop) (K:List OT->Ze->Prop) (Q:List V->Hp->Prop),Rel C io H O δ fp ex->m δ K ->
 (∀ H' v r δ' fp' new,RA C io p c H O δ fp ex H' v r δ' fp' new->K r δ'->Q v H')->t O H Q
def STt(G:Xc)(io:List Nat)(p:Bool)(t:TT)(m:MTt):Prop:=∀(C:MC G) (H:Hp) (O:St) (δ:Ze) (fp:Fp) (ex:YG->Prop) (K:Bool->Ze->Prop) (Q:Bool->Hp->Prop),Rel C io H O δ fp ex->m δ K ->
 (∀ H' b δ' fp',Rel C io H' O δ' fp' ex->Stp p H δ fp H' δ' fp'->K b δ'->Q b H')->t O H Q
def ME(X:Cx)(io:List Nat)(p c:Bool)(e:YJ)(m:MEt):Prop:=∃t,PE X e t/\SE X.K io p c t m
def MA(X:Cx)(io:List Nat)(p c:Bool)(e:List YJ)(m:MAt):Prop:=∃t,PA X e t/\SA X.K io p c t m
def MT(X:Cx)(io:List Nat)(p:Bool)(e:YJ)(m:MTt):Prop:=∃t,PT X e t/\STt X.K io p t m
def MW(X:Cx)(io:List Nat)(p:Bool)(e:YJ)(m:MTt):Prop:=∃t,PW X e t/\STt X.K io p t m
section
variable {C:MC G}{io:List Nat}{H'':Hp}{O:St}{δ δ' δ'':Ze}{fp fp' fp'':Fp}{ex ex':YG->Prop}{p p' c:Bool}{d:Xa}{r:OT}{rs:List OT}{new:List YG}
theorem Rel.newOk(R:Rel C io H O δ fp ex)(h:H a=YC):¬Foot fp a/\¬ex a/\C.H₀ a=YC:=⟨R.footSome h,λz=>R.xa a z h,R.al a h⟩
theorem RE.da(R:RE C io p c H O δ fp ex H' v r δ' fp' new)(R0:Rel C io H O δ fp ex):Da G H' (λa=>c=YD->Lf C fp' ex a) v r.data:=by
 refine R.own.da (λa l _ h=>?_) (λa m _=>?_)
 .exact⟨(l h).1,λz=>(l h).2.1 (.inl z),(l h).2.2⟩
 .refine⟨λqz9=>?_,(R0.newOk (R.fresh a m)).2.1,.inr (R0.newOk (R.fresh a m)).2.2⟩
  obtain⟨i,z⟩:=qz9;exact R.rel.dx i a z (.inr m)
theorem RA.das(R:RA C io p c H O δ fp ex H' vs rs δ' fp' new)(R0:Rel C io H O δ fp ex):Das G H' (λa=>c=YD->Lf C fp' ex a) vs (OT.datas rs):=by
 refine R.own.das (λa l _ h=>?_) (λa m _=>?_)
 .exact⟨(l h).1,λz=>(l h).2.1 (.inl z),(l h).2.2⟩
 .refine⟨λqz9=>?_,(R0.newOk (R.fresh a m)).2.1,.inr (R0.newOk (R.fresh a m)).2.2⟩
  obtain⟨i,z⟩:=qz9;exact R.rel.dx i a z (.inr m)
theorem RE.base(R:RE C io p c H O δ fp ex H' v r δ' fp' new):Rel C io H' O δ' fp' ex:=R.rel.drop λa z=>.inl z
theorem RA.base(R:RA C io p c H O δ fp ex H' vs rs δ' fp' new):Rel C io H' O δ' fp' ex:=R.rel.drop λa z=>.inl z
theorem Zbn:exu ex [] a↔ex a:=by simp[exu]
theorem RE.fz(R:Rel C io H' O δ' fp' ex)(S:Stp p H δ fp H' δ' fp')(h:Da G H' (λa=>c=YD->Lf C fp' ex a) v d):RE C io p c H O δ fp ex H' v (.fz d) δ' fp' [] :=
 ⟨R.drop λa z=>Zbn.mp z,S,.fz (h.wide λa l _ hc=>⟨(l hc).1,λz=>(l hc).2.1 (Zbn.mp z),(l hc).2.2⟩),.nil,λa m=>nomatch m⟩
theorem RE.tree(R0:Rel C io H O δ fp ex)(R:Rel C io H1 O δ' fp' ex)(S:Stp p H δ fp H1 δ' fp')(s:Same H1 H')(hn:∀a∈new,H1 a=YC)(nd:new.Nodup)
  (o:Own G H' (λa=>((c=YD->Lf C fp' ex a)\/H1 a=YC)/\a∉new) v r new):RE C io p c H O δ fp ex H' v r δ' fp' new:=by
 refine⟨R.made s λa m=>⟨hn a m,λz=>?_⟩,?_,o.wide λa l q hc=>?_,nd,λa m=>S.al a (hn a m)⟩
 .obtain⟨xs,e⟩:=o.some a m
  rw[z]at e;cases e
 .have:=S.trans (p':=YD) (Stp.same (p:=YD) (δ:=δ') (fp:=fp') s s.al)
  rwa[V4]at this
 .rcases l.1 with l1|l1
  .exact⟨(l1 hc).1,λz=>z.elim (l1 hc).2.1 l.2,(l1 hc).2.2⟩
  .exact⟨R.footSome l1,λz=>z.elim (λz=>R.xa a z l1) l.2,.inr (R.al a l1)⟩
end
inductive ScD:V->Xa->Prop where
 | non:ScD .non .none
 | bl (b:Bool):ScD (.bl b) (.bool b)
 | int (i:Int):ScD (.int i) (.int i)
 | str (x:Str):ScD (.str x) (.str x)
theorem ScD.da{d:Xa}(h:ScD v d):Da G H L v d:=by
 cases h
 .exact .non
 .exact .bl _
 .exact .int _
 .exact .str _
section
variable {io:List Nat}{p p' c c':Bool}{a:YJ}{m ma mb:MEt}
def Z9h(i:Nat):MEt:=λδ K=>match δ[i]? with|some (YB (.fz d))=>K (.fz d) δ|_=>False
def Z9m(i:Nat):MEt:=λδ K=>match δ[i]? with|some (YB t)=>K (.fz t.data) δ|_=>False
def mC(d:Xa):MEt:=λδ K=>K (.fz d) δ
theorem mv(i:Nat)(hN:X.N[i]? =YB x:=by rfl)(hv:Vis X.env.scope x:=by first|exact Qx rfl|exact Qm (Qx rfl)|exact Qm (Qm rfl))(hd:(x==("__debug__" : Str))=YF:=by decide)
  (hcd:(x==("__classdict__" : Str))=YF:=by decide):ME X io YD YD (.Name x pos) (Z9h i):=by
 refine⟨_,pv i hN hv hd hcd,λC H O δ fp ex K Q R h k=>?_⟩;unfold Z9h at h;split at h
 .rename_i d hd
  obtain⟨v,e,o⟩:=R.own i _ hd;refine⟨v,e,k H v _ δ fp [] (.fz R (.refl _ _ _ _) ?_) h⟩;generalize fp i=as at o;cases o with
  | fz q=>exact q.wide λa l _ _=>l
 .exact h.elim
theorem mo(i:Nat)(hN:X.N[i]? =YB x:=by rfl)(hv:Vis X.env.scope x:=by first|exact Qx rfl|exact Qm (Qx rfl)|exact Qm (Qm rfl))(hd:(x==("__debug__" : Str))=YF:=by decide)
  (hcd:(x==("__classdict__" : Str))=YF:=by decide):ME X io YD YF (.Name x pos) (Z9m i):=by
 refine⟨_,pv i hN hv hd hcd,λC H O δ fp ex K Q R h k=>?_⟩;unfold Z9m at h;split at h
 .rename_i d hd
  obtain⟨v,e,o⟩:=R.own i _ hd;exact⟨v,e,k H v _ δ fp [] (.fz R (.refl _ _ _ _) (o.da (λa _ _ z=>(nomatch z)) λa _ z=>(nomatch z))) h⟩
 .exact h.elim
theorem Zkv{t:V}{d:Xa}(h:PE X e (tC t))(s:ScD t d):ME X io YD YD e (mC d) :=
 ⟨_,h,λC H O δ fp ex K Q R h k=>k H t _ δ fp [] (.fz R (.refl _ _ _ _) s.da) h⟩
theorem Z5a{i j pos}:ME X io YD YD (.Constant (.int i) j pos) (mC (.int i)):=Zkv Zt0 (.int i)
theorem Zgo{b j pos}:ME X io YD YD (.Constant (.bool b) j pos) (mC (.bool b)):=Zkv Ybf (.bl b)
theorem Ze3{j pos}:ME X io YD YD (.Constant .none j pos) (mC .none):=Zkv Z3o .non
theorem Zsi{x j pos}:ME X io YD YD (.Constant (.str x) j pos) (mC (.str x)):=Zkv Z3p (.str x)
theorem SE.two(ha:SE G io p c ta ma)(hb:SE G io p' c' tb mb)(hc:p'=YD\/c=YD){C:MC G}{O:St}{δ:Ze}{fp:Fp}{ex:YG->Prop}{K:OT->OT->Ze->Prop}{Q:V->V->Hp->Prop}
  (R:Rel C io H O δ fp ex) (h:ma δ λx δ1=>mb δ1 λy δ2=>K x y δ2)
  (k:∀H' x y u v δ' fp',Rel C io H' O δ' fp' ex->Stp (p&&p') H δ fp H' δ' fp'->Da G H' (λa=>(c&&c')=YD->Lf C fp' ex a) x u.data->Da G H' (λa=>(c&&c')=YD->Lf C fp' ex a) y v.data->K u v δ'->Q x y H') :
  ta O H λx H1=>tb O H1 λy H2=>Q x y H2:=by
 refine ha C H O δ fp ex _ _ R h λH1 x u δ1 fp1 new1 r1 h1=>?_;refine hb C H1 O δ1 fp1 (exu ex new1) _ _ r1.rel h1 λH2 y v δ2 fp2 new2 r2 h2=>?_;have o1:=r1.rel.own_step (ex':=exu (exu ex new1) new2) r2.stp (c:=c) hc (λa z=>z.imp id λz=>r2.fresh a z) (λa m=>.inr m) r1.own;have R2:Rel C io H2 O δ2 fp2 ex:=r2.rel.drop λa z=>.inl (.inl z);have q1:Da G H2 (λa=>c=YD->Lf C fp2 ex a) x u.data:=by
  refine o1.da (λa l _ z=>?_) (λa m z=>?_)
  .exact⟨(l z).1,λw=>(l z).2.1 (.inl (.inl w)),(l z).2.2⟩
  .have:=R.newOk (r1.fresh a m)
   refine⟨λqz9=>?_,this.2.1,.inr this.2.2⟩;obtain⟨i,w⟩:=qz9;exact r2.rel.dx i a w (.inl (.inr m))
 have q2:=r2.da r1.rel;refine k H2 x y u v δ2 fp2 R2 (r1.stp.trans r2.stp) (q1.wide λa l _ z=>l (by rw[XM]at z;exact z.1)) (q2.wide λa l _ z=>?_) h2;have l:=l (by rw[XM]at z;exact z.2);exact⟨l.1,λw=>l.2.1 (.inl w),l.2.2⟩
def P2s(G:Xc)(r:R2)(rp:Xa->Xa->(Xa->Prop)->Prop):Prop:=∀(H:Hp) (L:YG->Prop) (x y:V) (d e:Xa) (k:Xa->Prop) (Q:VK),Da G H L x d->Da G H L y e->rp d e k->(∀v d',ScD v d'->k d'->Q v H)->r x y H Q
def P2(G:Xc)(r:R2)(rp:Xa->Xa->(OT->Prop)->Prop):Prop:=∀(H:Hp) (L:YG->Prop) (x y:V) (d e:Xa) (k:OT->Prop) (Q:VK),Da G H L x d->Da G H L y e->rp d e k ->
 (∀ H' v o new,Same H H'->Own G H' (λa=>(L a\/H a=YC)/\a∉new) v o new->new.Nodup->(∀a∈new,H a=YC)->k o->Q v H')->r x y H Q
def Zmt(rp:Xa->Xa->(Xa->Prop)->Prop)(ma mb:MEt):MEt:=λδ K=>ma δ λx δ1=>mb δ1 λy δ2=>rp x.data y.data λd=>K (.fz d) δ2
def Z9g(rp:Xa->Xa->(OT->Prop)->Prop)(ma mb:MEt):MEt:=λδ K=>ma δ λx δ1=>mb δ1 λy δ2=>rp x.data y.data λd=>K d δ2
theorem Z2p{rp}(P:P2s G r rp)(ha:SE G io p c ta ma)(hb:SE G io p' c' tb mb)(hc:p'=YD\/c=YD):SE G io (p&&p') YD (tOp r ta tb) (Zmt rp ma mb):=by
 intro C H O δ fp ex K Q R h k;refine SE.two (K:=λx y δ2=>rp x.data y.data λd=>K (.fz d) δ2) (Q:=λx y H2=>r x y H2 Q) ha hb hc R h λH' x y u v δ' fp' R' S q1 q2 h'=>?_;exact P H' _ x y _ _ _ _ q1 q2 h' λw d' sc h''=>k H' w _ δ' fp' [] (.fz R' S sc.da) h''
theorem Ydv{rp}(P:P2 G r rp)(ha:SE G io p c ta ma)(hb:SE G io p' c' tb mb)(hc:p'=YD\/c=YD):SE G io (p&&p') (c&&c') (tOp r ta tb) (Z9g rp ma mb):=by
 intro C H O δ fp ex K Q R h k;refine SE.two (K:=λx y δ2=>rp x.data y.data λd=>K d δ2) (Q:=λx y H2=>r x y H2 Q) ha hb hc R h λH' x y u v δ' fp' R' S q1 q2 h'=>?_;exact P H' _ x y _ _ _ _ q1 q2 h' λH2 w o new s ow nd hn h''=>k H2 w o δ' fp' new (RE.tree R R' S s hn nd ow) h''
theorem Zg7{op:Operator}{rp}(ho:OpR X (VD op) r)(P:P2s X.K r rp)(ha:ME X io p c a ma)(hb:ME X io p' c' b mb)(hc:p'=YD\/c=YD:=by first|exact Qx rfl|exact Qm rfl):ME X io (p&&p') YD (.BinOp a op b pos) (Zmt rp ma mb):=by
 obtain⟨_,A,sa⟩:=ha;obtain⟨_,B,sb⟩:=hb;exact⟨_,Z8a ho A B,Z2p P sa sb hc⟩
theorem Yec{op:Operator}{rp}(ho:OpR X (VD op) r)(P:P2 X.K r rp)(ha:ME X io p c a ma)(hb:ME X io p' c' b mb)(hc:p'=YD\/c=YD:=by first|exact Qx rfl|exact Qm rfl):ME X io (p&&p') (c&&c') (.BinOp a op b pos) (Z9g rp ma mb):=by
 obtain⟨_,A,sa⟩:=ha;obtain⟨_,B,sb⟩:=hb;exact⟨_,Z8a ho A B,Ydv P sa sb hc⟩
theorem Yb6{rp}(ho:OpR X (Bb op) r)(P:P2s X.K r rp)(ha:ME X io p c a ma)(hb:ME X io p' c' b mb)(hc:p'=YD\/c=YD:=by first|exact Qx rfl|exact Qm rfl)(hm:UV op b=YF):ME X io (p&&p') YD (.Compare a [op] [b] pos) (Zmt rp ma mb):=by
 obtain⟨_,A,sa⟩:=ha;obtain⟨_,B,sb⟩:=hb;exact⟨_,Zza ho A B hm,Z2p P sa sb hc⟩
theorem Yfj{rp}(ho:IxR X r)(P:P2 X.K r rp)(ha:ME X io p c a ma)(hb:ME X io p' c' b mb)(hc:p'=YD\/c=YD:=by first|exact Qx rfl|exact Qm rfl)(hs:Zkj b):ME X io (p&&p') (c&&c') (.Subscript a b pos) (Z9g rp ma mb):=by
 obtain⟨_,A,sa⟩:=ha;obtain⟨_,B,sb⟩:=hb;exact⟨_,Z28 ho A B hs,Ydv P sa sb hc⟩
def kB(K:Bool->Ze->Prop):OT->Ze->Prop:=λo δ=>match o with| .fz (.bool b)=>K b δ|_=>False
theorem Z75{t:TE}(h:SE G io p c t m):STt G io p (Z0z t) (λδ K=>m δ (kB K)):=by
 intro C H O δ fp ex K Q R h' k;refine h C H O δ fp ex _ _ R h' λH' v r δ' fp' new r1 h1=>?_;cases r with
 | nd ts=>exact h1.elim
 | tp ts=>exact h1.elim
 | dc _ _ _=>exact h1.elim
 | fz d=>
  cases d with
  | bool b=>
   cases r1.own with
   | fz q=>
    cases q;exact⟨b,rfl,k H' b δ' fp' r1.base r1.stp h1⟩
  | _=>exact h1.elim
theorem Zbb{rp}(ho:OpR X (Bb op) r)(P:P2s X.K r rp)(ha:ME X io p c a ma)(hb:ME X io p' c' b mb)(hc:p'=YD\/c=YD:=by first|exact Qx rfl|exact Qm rfl)(hm:UV op b=YF) :
  MT X io (p&&p') (.Compare a [op] [b] pos) (λδ K=>Zmt rp ma mb δ (kB K)):=by
 obtain⟨_,A,sa⟩:=ha;obtain⟨_,B,sb⟩:=hb;exact⟨_,Z05 ho A B hm,Z75 (Z2p P sa sb hc)⟩
end
section
variable {io:List Nat}{p p' p'' c c':Bool}{a:YJ}{m ma mb:MEt}{rest:List YJ}{ta tb:MTt}
def Yek(t:MTt):MTt:=λδ K=>t δ λb δ'=>K (!b) δ'
def Yd3(t u:MTt):MTt:=λδ K=>t δ λb δ'=>if b=YD then u δ' K else K YF δ'
def mOr(t u:MTt):MTt:=λδ K=>t δ λb δ'=>if b=YD then K YD δ' else u δ' K
theorem Z8j(h:MT X io p a ta):MT X io p (.UnaryOp .Not a pos) (Yek ta):=by
 obtain⟨_,A,sa⟩:=h;exact⟨_,Z6b A,λC H O δ fp ex K Q R h k=>sa C H O δ fp ex _ _ R h λH' b δ' fp' R' S h'=>k H' (!b) δ' fp' R' S h'⟩
theorem Zz6(h:MT X io p a ta):MW X io p (.BoolOp .And [a] pos) ta:=by
 obtain⟨_,A,sa⟩:=h;exact⟨_,Z1d A,sa⟩
theorem Zc0(h:MT X io p a ta):MW X io p (.BoolOp .Or [a] pos) ta:=by
 obtain⟨_,A,sa⟩:=h;exact⟨_,Z59 A,sa⟩
theorem Stp.andL{δ δ':Ze}{fp fp':Fp}(S:Stp p H δ fp H' δ' fp'):Stp (p&&p') H δ fp H' δ' fp':=by
 have:=S.trans (Stp.refl p' H' δ' fp');exact this
theorem Z54(h:MT X io p a ta)(g:MW X io p' (.BoolOp .And (b::rest) pos) tb):MW X io (p&&p') (.BoolOp .And (a::b::rest) pos) (Yd3 ta tb):=by
 obtain⟨_,A,sa⟩:=h;obtain⟨_,B,sb⟩:=g;exact⟨_,Z4t A B,λC H O δ fp ex K Q R h k=>sa C H O δ fp ex _ _ R h λH' b δ' fp' R' S h'=>by
  cases b with
  | true=>
   rw[YL rfl]at h'|-
   exact sb C H' O δ' fp' ex _ _ R' h' λH2 b2 δ2 fp2 R2 S2 h2=>k H2 b2 δ2 fp2 R2 (S.trans S2) h2
  | false=>
   rw[YM XC]at h'|-
   exact k H' YF δ' fp' R' S.andL h'⟩
theorem Zd4(h:MT X io p a ta)(g:MW X io p' (.BoolOp .Or (b::rest) pos) tb):MW X io (p&&p') (.BoolOp .Or (a::b::rest) pos) (mOr ta tb):=by
 obtain⟨_,A,sa⟩:=h;obtain⟨_,B,sb⟩:=g;exact⟨_,Yb9 A B,λC H O δ fp ex K Q R h k=>sa C H O δ fp ex _ _ R h λH' b δ' fp' R' S h'=>by
  cases b with
  | true=>
   rw[YL rfl]at h'|-
   exact k H' YD δ' fp' R' S.andL h'
  | false=>
   rw[YM XC]at h'|-
   exact sb C H' O δ' fp' ex _ _ R' h' λH2 b2 δ2 fp2 R2 S2 h2=>k H2 b2 δ2 fp2 R2 (S.trans S2) h2⟩
theorem MW.mt(h:MW X io p e ta):MT X io p e ta:=by
 obtain⟨_,A,sa⟩:=h;exact⟨_,A.pt,sa⟩
def Zur:Xa->Option Bool
 | .none=>YB YF
 | .bool b=>YB b
 | .int i=>YB (i !=0)
 | .list ds=>YB (!ds.isEmpty)
 | .tuple ds=>YB (!ds.isEmpty)
 | _=>YC
def Ydd(m:MEt):MTt:=λδ K=>m δ λr δ'=>match Zur r.data with|some b=>K b δ'|none=>False
theorem Das.isEmpty(h:Das G H L xs ds):xs.isEmpty=ds.isEmpty:=by cases h<;>rfl
theorem Jz(ha:ME X io p c a ma)(he:∀whole,isTrue a X.env whole=(do let v<-whole;standAt a.pos;holding [v] (truthy v))):MT X io p a (Ydd ma):=by
 obtain⟨_,A,sa⟩:=ha;exact⟨_,Z09 rfl A he,λC H O δ fp ex K' Q R h k=>sa C H O δ fp ex _ _ R h λH' v r δ' fp' new r1 h1=>by
  have q:=r1.da R;generalize r.data=d at q h1;cases q with
  | non=>exact⟨_,rfl,k H' _ δ' fp' r1.base r1.stp h1⟩
  | bl b=>exact⟨_,rfl,k H' _ δ' fp' r1.base r1.stp h1⟩
  | int b=>exact⟨_,rfl,k H' _ δ' fp' r1.base r1.stp h1⟩
  | str x=>exact h1.elim
  | lst _ e q=>exact⟨_,.inl ⟨_,.inl e,rfl⟩,k H' _ δ' fp' r1.base r1.stp (by rw[q.isEmpty];exact h1)⟩
  | tup e q=>exact⟨_,.inr (.inl ⟨_,.inl (.inl e),rfl⟩),k H' _ δ' fp' r1.base r1.stp (by rw[q.isEmpty];exact h1)⟩
  | scr q=>exact⟨_,.inl ⟨_,q.sq,rfl⟩,k H' _ δ' fp' r1.base r1.stp (by simpa [Zur]using h1)⟩
  | exc _ _ _=>exact h1.elim
  | fn _=>exact h1.elim
  | dic _ _ _ _=>exact h1.elim⟩
def asB(d:Xa)(k:Bool->Prop):Prop:=match d with| .bool b=>k b|_=>False
def Z30(a b:MEt):MEt:=λδ K=>a δ λx δ1=>asB x.data λc=>if c=YD then b δ1 K else K (.fz (.bool YF)) δ1
def Z57(a:MEt):MEt:=λδ K=>a δ λx δ1=>asB x.data λc=>K (.fz (.bool (!c))) δ1
def mIf(t:MTt)(a b:MEt):MEt:=λδ K=>t δ λc δ1=>if c=YD then a δ1 K else b δ1 K
theorem Da.boolInv{d:Xa}{k:Bool->Prop}(q:Da G H L v d)(h:asB d k):∃b,v= .bl b/\k b:=by
 cases q with
 | bl b=>exact⟨b,rfl,h⟩
 | _=>exact h.elim
theorem RE.step{C:MC G}{O:St}{δ δ1 δ2:Ze}{fp fp1 fp2:Fp}{ex:YG->Prop}{r:OT}{new:List YG}(S:Stp p H δ fp H1 δ1 fp1)(R:RE C io p' c H1 O δ1 fp1 ex H2 v r δ2 fp2 new) :
  RE C io (p&&p') c H O δ fp ex H2 v r δ2 fp2 new:=⟨R.rel,S.trans R.stp,R.own,R.nd,λa m=>S.al a (R.fresh a m)⟩
theorem Z7x{op}(h:ME X io p c a ma):ME X io p c (.BoolOp op [a] pos) ma:=by
 obtain⟨_,A,sa⟩:=h;exact⟨_,Z7g A,sa⟩
theorem Z6l(ha:ME X io p c a ma)(hb:ME X io p' c' (.BoolOp .And (b::rest) pos) mb):ME X io (p&&p') c' (.BoolOp .And (a::b::rest) pos) (Z30 ma mb):=by
 obtain⟨_,A,sa⟩:=ha;obtain⟨_,B,sb⟩:=hb;exact⟨_,Z5k A B,λC H O δ fp ex K Q R h k=>sa C H O δ fp ex _ _ R h λH' v r δ' fp' new r1 h1=>by
  obtain⟨b,rfl,h1⟩:=(r1.da R).boolInv h1;refine⟨b,rfl,?_⟩;cases b with
  | true=>
   rw[YL rfl]at h1|-
   exact sb C H' O δ' fp' ex _ _ r1.base h1 λH2 w r2 δ2 fp2 new2 R2 h2=>k H2 w r2 δ2 fp2 new2 (R2.step r1.stp) h2
  | false=>
   rw[YM XC]at h1|-
   exact k H' _ _ δ' fp' [] (RE.fz r1.base r1.stp.andL (.bl YF)) h1⟩
theorem Ya8(ha:ME X io p c a ma):ME X io p YD (.UnaryOp .Not a pos) (Z57 ma):=by
 obtain⟨_,A,sa⟩:=ha;exact⟨_,Z6f A,λC H O δ fp ex K Q R h k=>sa C H O δ fp ex _ _ R h λH' v r δ' fp' new r1 h1=>by
  obtain⟨b,rfl,h1⟩:=(r1.da R).boolInv h1;exact⟨b,rfl,k H' _ _ δ' fp' [] (RE.fz r1.base r1.stp (.bl _)) h1⟩⟩
theorem Stp.cast{p p':Bool}{H H':Hp}{δ δ':Ze}{fp fp':Fp}(h:p'=YD->p=YD)(S:Stp p H δ fp H' δ' fp'):Stp p' H δ fp H' δ' fp' :=
 ⟨λb o e q=>S.keep b o e (q.imp h id),λq=>S.env (h q),S.grow,S.al⟩
theorem RE.cast{C:MC G}{H H1:Hp}{O:St}{δ δ1:Ze}{fp fp1:Fp}{ex:YG->Prop}{v:V}{r:OT}{new:List YG}(hp:p'=YD->p=YD)(hc:c'=YD->c=YD)(R:RE C io p c H O δ fp ex H1 v r δ1 fp1 new) :
  RE C io p' c' H O δ fp ex H1 v r δ1 fp1 new:=⟨R.rel,R.stp.cast hp,R.own.wide λa l _ z=>l (hc z),R.nd,R.fresh⟩
theorem Yff{t:YJ}(ht:MT X io p t ta)(ha:ME X io p' c a ma)(hb:ME X io p'' c' b mb):ME X io (p&&(p'&&p'')) (c&&c') (.IfExp t a b pos) (mIf ta ma mb):=by
 obtain⟨_,T,st⟩:=ht;obtain⟨_,A,sa⟩:=ha;obtain⟨_,B,sb⟩:=hb;exact⟨_,Zvx T A B,λC H O δ fp ex K Q R h k=>st C H O δ fp ex _ _ R h λH' b δ' fp' R' S h'=>by
  cases b with
  | true=>
   rw[YL rfl]at h'|-
   exact sa C H' O δ' fp' ex _ _ R' h' λH2 w r2 δ2 fp2 new2 R2 h2=>k H2 w r2 δ2 fp2 new2 ((R2.step S).cast (λz=>by simp at z;simp[z]) (λz=>by simp at z;exact z.1)) h2
  | false=>
   rw[YM XC]at h'|-
   exact sb C H' O δ' fp' ex _ _ R' h' λH2 w r2 δ2 fp2 new2 R2 h2=>k H2 w r2 δ2 fp2 new2 ((R2.step S).cast (λz=>by simp at z;simp[z]) (λz=>by simp at z;exact z.2)) h2⟩
end
section
variable {io:List Nat}{p p' p'' c c':Bool}{a:YJ}{m ma mb:MEt}{rest:List YJ}{mr:MAt}
def Ycy:MAt:=λδ K=>K [] δ
def Z3q(m:MEt)(mr:MAt):MAt:=λδ K=>m δ λr δ1=>mr δ1 λrs δ2=>K (r::rs) δ2
theorem Z8s:MA X io YD YD [] Ycy:=⟨_,Zdq,λC H O δ fp ex K Q R h k=>k H [] [] δ fp [] ⟨R.drop λa z=>Zbn.mp z,.refl _ _ _ _,.nil,.nil,λa m=>nomatch m⟩ h⟩
theorem Zzv(ha:ME X io p c e m)(hr:MA X io p' c' es mr)(hc:p'=YD\/c=YD)(hs:Xr (e::es) X.env=(YF,eval e X.env)::Xr es X.env:=by rfl):MA X io (p&&p') (c&&c') (e::es) (Z3q m mr):=by
 obtain⟨tA,A,sa⟩:=ha;obtain⟨tB,B,sb⟩:=hr;refine⟨_,Ys A B hs,λC H O δ fp ex K Q R h k=>?_⟩;refine sa C H O δ fp ex _ _ R h λH1 x u δ1 fp1 new1 r1 h1=>?_;refine sb C H1 O δ1 fp1 (exu ex new1) _ _ r1.rel h1 λH2 ys us δ2 fp2 new2 r2 h2=>?_;have o1:=r1.rel.own_step (ex':=exu (exu ex new1) new2) r2.stp (c:=c) hc (λa z=>z.imp id λz=>r2.fresh a z) (λa m=>.inr m) r1.own;have eqx:∀a,exu ex (new1++new2) a->exu (exu ex new1) new2 a:=λa z=>by
  rcases z with z|z
  .exact .inl (.inl z)
  .rcases Qt.mp z with z|z
   .exact .inl (.inr z)
   .exact .inr z
 refine k H2 (x::ys) (u::us) δ2 fp2 (new1++new2) ⟨r2.rel.drop eqx,r1.stp.trans r2.stp,.cons (o1.wide λa l _ z=>?_) (r2.own.wide λa l _ z=>?_),?_,?_⟩ h2
 .have l:=l (by rw[XM]at z;exact z.1)
  exact⟨l.1,λw=>l.2.1 (eqx a w),l.2.2⟩
 .have l:=l (by rw[XM]at z;exact z.2)
  exact⟨l.1,λw=>l.2.1 (eqx a w),l.2.2⟩
 .refine JS.mpr ⟨r1.nd,r2.nd,λa m b m' z=>?_⟩
  subst z;obtain⟨xs,e⟩:=r1.own.some a m;rw[r2.fresh a m']at e;cases e
 .intro a m
  rcases Qt.mp m with m|m
  .exact r1.fresh a m
  .exact r1.stp.al a (r2.fresh a m)
def Yd7(m:MAt):MEt:=λδ K=>m δ λrs δ'=>rs.length<=Xw/\K (.fz (.tuple (OT.datas rs))) δ'
def Yem(m:MAt):MEt:=λδ K=>m δ λrs δ'=>rs.length<=Xw/\K (.nd rs) δ'
theorem Yaa{x1}(h:MA X io p c es mr):ME X io p c (.Tuple es x1 pos) (Yd7 mr):=by
 obtain⟨tA,A,sa⟩:=h;refine⟨_,Zsm A,λC H O δ fp ex K Q R h k=>?_⟩;refine sa C H O δ fp ex _ _ R h λH1 vs rs δ1 fp1 new1 r1 h1=>⟨by rw[r1.own.length];exact h1.1,λq hq=>?_⟩;have s:=Ye hq (.tup vs);have R1:=r1.base;have S:=r1.stp.trans (p':=YD) (Stp.same (p:=YD) (δ:=δ1) (fp:=fp1) s s.al);rw[V4]at S;refine k _ _ _ δ1 fp1 [] (.fz ?_ S (.tup Zu ((r1.das R).same s))) h1.2;exact(R1.made (new:=[]) s λa m=>nomatch m).drop λa z=>.inl z
theorem Yau(h:MA X io p c es mr):ME X io p c (.List es pos) (Yem mr):=by
 obtain⟨tA,A,sa⟩:=h;refine⟨_,Z5f A,λC H O δ fp ex K Q R h k=>?_⟩;refine sa C H O δ fp ex _ _ R h λH1 vs rs δ1 fp1 new1 r1 h1=>⟨by rw[r1.own.length];exact h1.1,λq hq=>?_⟩;have s:=Ye hq (.lst vs);have S:=r1.stp.trans (p':=YD) (Stp.same (p:=YD) (δ:=δ1) (fp:=fp1) s s.al);rw[V4]at S;have hqn:q∉new1:=λm=>by
  obtain⟨xs,e⟩:=r1.own.some q m;rw[hq]at e;cases e
 have R2:=(r1.rel.made (new:=[q]) s λa m=>by
  rcases Xv.mp m with rfl;exact⟨hq,by rw[Zu];intro z;cases z⟩)
 have eqx:∀a,exu ex (q::new1) a->exu (exu ex new1) [q] a:=λa z=>by
  rcases z with z|z
  .exact .inl (.inl z)
  .rcases Xi.mp z with z|z
   .exact .inr (Xv.mpr z)
   .exact .inl (.inr z)
 refine k _ _ _ δ1 fp1 (q::new1) ⟨R2.drop eqx,S,.nd Zu ((r1.own.wide λa l w z=>?_).same s),Qh.mpr ⟨hqn,r1.nd⟩,λa m=>?_⟩ h1.2
 .have l:=l z
  refine⟨l.1,λy=>?_,l.2.2⟩;rcases eqx a y with y|y
  .exact l.2.1 y
  .rcases Xv.mp y with rfl
   exact w hq
 .rcases Xi.mp m with rfl|m
  .exact r1.stp.al _ hq
  .exact r1.fresh a m
end
def spD(G:Xc)(S:List Xa->(OT->Prop)->Prop):Sp:=λvs H Q _=>∃L ds k,Das G H L vs ds/\S ds k/\
 ∀r v H' new,k r->Same H H'->Own G H' (λa=>(L a\/H a=YC)/\a∉new) v r new->new.Nodup->(∀a∈new,H a=YC)->Q v H'
def spI(G:Xc)(S:OT->List Xa->(OT->OT->Prop)->Prop):Sp:=λvs H Q _=>∃L v0 t0 as vs' ds k,vs=v0::vs'/\Own G H L v0 t0 as/\as.Nodup/\(∀a∈as,¬L a)/\Das G H L vs' ds/\S t0 ds k/\
 ∀r t' v H' new as',k r t'->(∀b o,H b=YB o->b∉as->H' b=YB o)->(∀b,H' b=YC->H b=YC) ->
  Own G H' (λa=>(L a\/H a=YC)/\a∉new/\a∉as') v r new->Own G H' (λa=>(L a\/H a=YC)/\a∉new/\a∉as') v0 t' as'->(as'++new).Nodup->(∀a∈new,H a=YC)->(∀a∈as',a∈as\/H a=YC)->Q v H'
section
variable {io:List Nat}{p p' p'' c c':Bool}{a:YJ}{m ma mb:MEt}{rest:List YJ}{mr:MAt}
variable {k:Nat}{f:YG}{fd:XF}{E:XK}{pp:Pos}
def Zzz(S:List Xa->(OT->Prop)->Prop)(mr:MAt):MEt:=λδ K=>mr δ λrs δ1=>S (OT.datas rs) λr=>K r δ1
theorem Z9p{S}{t:TA}(sa:SA G io p c t mr):SE G io p c (Z18 (spD G S) [] E t) (Zzz S mr):=by
 intro C H O δ fp ex K Q R h kk;refine sa C H O δ fp ex _ _ R h λH1 vs rs δ1 fp1 new1 r1 h1=>?_;rw[QW];refine⟨_,_,_,r1.das R,h1,λr v H' new kr s o nd hn=>?_⟩;exact kk H' v r δ1 fp1 new (RE.tree R r1.base r1.stp s hn nd o) kr
theorem Z7a{S}(F:FnOk X.prog X.w X.K X.mg X.base CX k f fd ps (spD X.K S))(hr:Room k X.A)(hg:Gl X x)(hm:X.mg x=YB (.ref f))(hk:BW X.K (.ref f)=YD)(hb:Binds X.K fd ps [])(hx:Zlh CX X E)
  (ha:MA X io p c (e::es) mr) (hdb:(x==("__debug__" : Str))=YF:=by decide) (he:Xr (e::es) X.env=(YF,eval e X.env)::Xr es X.env:=by rfl) (hpl:(JG pos (Xr es X.env)).any (·.1)=YF:=by rfl) :
  ME X io p c (.Call (.Name x pp) (e::es) [] pos) (Zzz S mr):=by
 obtain⟨_,A,sa⟩:=ha;exact⟨_,Zsx F hr hg hm hk hb .nil hx A hdb he hpl,Z9p sa⟩
def Zmg(i:Nat)(S:OT->List Xa->(OT->OT->Prop)->Prop)(mr:MAt):MEt:=λδ K=>match δ[i]? with
 | some (YB _)=>mr δ λrs δ1=>match δ1[i]? with
  | some (YB t)=>S t (OT.datas rs) λr t'=>K r (δ1.set i (YB t'))
  | _=>False
 | _=>False
def fpu(fp:Fp)(i:Nat)(as:List YG):Fp:=λj=>if j=i then as else fp j
theorem Z2{fp:Fp}{as:List YG}:fpu fp i as i=as:=YL rfl
theorem Yj{fp:Fp}{as:List YG}(h:j≠i):fpu fp i as j=fp j:=YM h
theorem Foot.of_u{fp:Fp}{as:List YG}{a:YG}(h:Foot (fpu fp i as) a):a∈as\/∃j,j≠i/\a∈fp j:=by
 obtain⟨j,h⟩:=h
 by_cases e:j=i
 .subst e;rw[Z2]at h;exact .inl h
 .rw[Yj e]at h;exact .inr ⟨j,e,h⟩
theorem Rel.change{C:MC G}{O:St}{δ:Ze}{fp:Fp}{ex:YG->Prop}{t t':OT}{as' new:List YG}(R:Rel C io H O δ fp ex)(hi:δ[i]? =YB (YB t))(hv:O[i]? =YB (YB v))
  (keep:∀b o,H b=YB o->b∉fp i->H' b=YB o) (al:∀b,H' b=YC->H b=YC) (o:Own G H' (Lf C (fpu fp i as') (exu ex new)) v t' as') (nd:as'.Nodup) (new':∀a∈as',a∈fp i\/H a=YC)
  (hn:∀a∈new,H a=YC/\H' a≠YC/\a∉as') :
  Rel C io H' O (δ.set i (YB t')) (fpu fp i as') (exu ex new)/\Stp YF H δ fp H' (δ.set i (YB t')) (fpu fp i as'):=by
 have hil:i<δ.length:=(Xn.mp hi).1;have apart:∀j a,j≠i->a∈fp j->a∉as':=λj a e m z=>by
  rcases new' a z with z|z
  .exact e (R.dj j i a m z)
  .exact R.footSome z ⟨j,m⟩
 constructor
 .refine⟨by rw[Bo];exact R.len,λj t'' e=>?_,λj h=>?_,λj=>?_,λj k a h1 h2=>?_,λj a h z=>?_,λa z w=>z.elim (λz=>R.xa a z (al a w)) (λz=>(hn a z).2.1 w),λb ob e n=>?_,λb z=>R.al b (al b z),λj a h=>?_,R.io⟩
  .by_cases ej:j=i
   .subst ej
    rw[Qo hil]at e;cases e;exact⟨v,hv,by rw[Z2];exact o⟩
   .rw[Qc (JW ej)]at e
    obtain⟨w,e1,o1⟩:=R.own j t'' e;refine⟨w,e1,?_⟩;rw[Yj ej];refine o1.frame (λa xs l q=>?_) (λa xs q=>keep a _ q λz=>?_) λa m xs q=>keep a _ q λz=>ej (R.dj j i a m z)
    .have na:a∉fp i:=λz=>l.1 ⟨i,z⟩
     refine⟨⟨λz=>?_,λz=>z.elim l.2.1 λz=>q.some (hn a z).1,l.2.2⟩,?_⟩
     .rcases z.of_u with z|⟨k,_,z⟩
      .rcases new' a z with z|z
       .exact na z
       .exact q.some z
      .exact l.1 ⟨k,z⟩
     .rcases q with q|⟨u,q⟩
      .exact .inl (keep a _ q na)
      .exact .inr ⟨u,keep a _ q na⟩
    .obtain⟨ys,e⟩:=R.foot ⟨i,z⟩
     exact ImO.nm q e
  .by_cases ej:j=i
   .subst ej
    exact YX (Qo hil) (h t')
   .rw[Yj ej]
    refine R.emp j λt'' z=>h t'' ?_;rw[Qc (JW ej)];exact z
  .by_cases ej:j=i
   .subst ej;rw[Z2];exact nd
   .rw[Yj ej];exact R.nd j
  .by_cases ej:j=i
   .subst ej
    rw[Z2]at h1
    by_cases ek:k=j
    .exact ek.symm
    .rw[Yj ek]at h2
     exact YX h1 (apart k a ek h2)
   .rw[Yj ej]at h1
    by_cases ek:k=i
    .subst ek
     rw[Z2]at h2;exact YX h2 (apart j a ej h1)
    .rw[Yj ek]at h2
     exact R.dj j k a h1 h2
  .by_cases ej:j=i
   .subst ej
    rw[Z2]at h;rcases z with z|z
    .rcases new' a h with w|w
     .exact R.dx _ a w z
     .exact R.xa a z w
    .exact(hn a z).2.2 h
   .rw[Yj ej]at h
    rcases z with z|z
    .exact R.dx j a h z
    .exact R.footSome (hn a z).1 ⟨j,h⟩
  .refine keep b ob (R.fr b ob e n) λz=>?_
   rcases R.new i b z with w|w
   .exact n w.2
   .rw[e]at w;cases w
  .by_cases ej:j=i
   .subst ej
    rw[Z2]at h;rcases new' a h with w|w
    .exact R.new _ a w
    .exact .inr (R.al a w)
   .rw[Yj ej]at h
    exact R.new j a h
 .refine⟨λb ob e q=>keep b ob e λz=>(q.resolve_left (by decide)) ⟨i,z⟩,λz=>(nomatch z),λa z=>?_,al⟩
  rcases z.of_u with z|⟨j,_,z⟩
  .exact(new' a z).imp (λw=>⟨i,w⟩) id
  .exact .inl ⟨j,z⟩
theorem Z8p{S}{t:TA}(sa:SA G io p YD t mr):SE G io YF YD (Z18 (spI G S) [] E (Z7z (Yal i) t)) (Zmg i S mr):=by
 intro C H O δ fp ex K Q R h kk;unfold Zmg at h;split at h
 case h_2=>exact h.elim
 rename_i t0 hi0;obtain⟨v0,hv,_⟩:=R.own i t0 hi0;refine⟨v0,hv,?_⟩;refine sa C H O δ fp ex _ _ R h λH1 vs rs δ1 fp1 new1 r1 h1=>?_;show spI G S ((v0::vs)++[]) H1 Q E;rw[QW];split at h1
 case h_2=>exact h1.elim
 rename_i t1 hi1;have R1:=r1.base;obtain⟨v1,hv1,o1⟩:=R1.own i t1 hi1;rw[hv]at hv1;cases hv1;refine⟨Lf C fp1 ex,v0,t1,fp1 i,vs,_,_,rfl,o1,R1.nd i,λa m l=>l.1 ⟨i,m⟩,(r1.das R).wide λa l _=>l rfl,h1,?_⟩;intro r t' v H' new as' kr keep al orr ot nd hn ha;have nd2:=JS.mp nd;have lw:∀a,((Lf C fp1 ex a\/H1 a=YC)/\a∉new/\a∉as')->H' a≠YC->Lf C (fpu fp1 i as') (exu ex new) a:=λa l _=>by
  have hf:¬Foot (fpu fp1 i as') a:=λz=>by
   rcases z.of_u with z|⟨j,_,z⟩
   .exact l.2.2 z
   .rcases l.1 with l1|l1
    .exact l1.1 ⟨j,z⟩
    .exact R1.footSome l1 ⟨j,z⟩
  rcases l.1 with l1|l1
  .exact⟨hf,λz=>z.elim l1.2.1 l.2.1,l1.2.2⟩
  .have:=R1.newOk l1
   exact⟨hf,λz=>z.elim this.2.1 l.2.1,.inr this.2.2⟩
 have hnn:∀a∈new,H' a≠YC:=λa m z=>by
  obtain⟨xs,e⟩:=orr.some a m;rw[z]at e;cases e
 obtain⟨R2,S2⟩:=R1.change (new:=new) hi1 hv keep al (ot.wide lw) nd2.1 ha (λa m=>⟨hn a m,hnn a m,λz=>nd2.2.2 a z a m rfl⟩);refine kk H' v r _ _ new ⟨R2,?_,orr.wide λa l q _=>lw a l q,nd2.2.1,λa m=>r1.stp.al a (hn a m)⟩ kr;exact(r1.stp.trans S2).cast λz=>nomatch z
theorem Yg{S}(F:FnOk X.prog X.w X.K X.mg X.base CX k f fd ps (spI X.K S))(hr:Room k X.A)(hg:Gl X x)(hm:X.mg x=YB (.ref f))(hk:BW X.K (.ref f)=YD)(hb:Binds X.K fd ps [])(hx:Zlh CX X E)
  (ha:MA X io p YD es mr) (hN:X.N[i]? =YB y:=by rfl) (hv:Vis X.env.scope y:=by first|exact Qx rfl|exact Qm (Qx rfl)|exact Qm (Qm rfl)) (hd:(y==("__debug__" : Str))=YF:=by decide)
  (hcd:(y==("__classdict__" : Str))=YF:=by decide)
  (hdb:(x==("__debug__" : Str))=YF:=by decide) (he:Xr (.Name y py::es) X.env=(YF,eval (.Name y py) X.env)::Xr es X.env:=by rfl) (hpl:(JG pos (Xr es X.env)).any (·.1)=YF:=by rfl) :
  ME X io YF YD (.Call (.Name x pp) (.Name y py::es) [] pos) (Zmg i S mr):=by
 obtain⟨_,A,sa⟩:=ha;exact⟨_,Zsx F hr hg hm hk hb .nil hx (Ys (pv i hN hv hd hcd) A he) hdb he hpl,Z8p sa⟩
def PNs(G:Xc)(r:List V->Hp->VK->Prop)(rp:List Xa->(Xa->Prop)->Prop):Prop:=∀(H:Hp) (L:YG->Prop) (xs:List V) (ds:List Xa) (k:Xa->Prop) (Q:VK),Das G H L xs ds->rp ds k->(∀v d',ScD v d'->k d'->Q v H)->r xs H Q
def Z9k(rp:List Xa->(Xa->Prop)->Prop)(mr:MAt):MEt:=λδ K=>mr δ λrs δ1=>rp (OT.datas rs) λd=>K (.fz d) δ1
theorem Ydg{r rp}{t:TA}(P:PNs G r rp)(sa:SA G io p c t mr):SE G io p YD (tCB r t) (Z9k rp mr):=λC H O δ fp ex K Q R h kk=>
 sa C H O δ fp ex _ _ R h λH1 vs rs δ1 fp1 new1 r1 h1=>P H1 _ vs _ _ _ (r1.das R) h1 λv d' sc h2=>kk H1 v _ δ1 fp1 [] (.fz r1.base r1.stp sc.da) h2
variable {T:String}{r:List V->Hp->VK->Prop}
theorem Zkk{rp}(P:PNs X.K r rp)(hc:Zec X (.builtin id) r)(hg:Gl X x)(hm:X.mg x=YC)(hv:X4 x=YB (.builtin id))(ha:MA X io p c (e::es) mr)(hn:x≠"__name__" :=by decide)(hdb:(x==("__debug__" : Str))=YF:=by decide)
  (he:Xr (e::es) X.env=(YF,eval e X.env)::Xr es X.env:=by rfl) (hpl:(JG pos (Xr es X.env)).any (·.1)=YF:=by rfl):ME X io p YD (.Call (.Name x pp) (e::es) [] pos) (Z9k rp mr):=by
 obtain⟨_,A,sa⟩:=ha;exact⟨_,Zes hc hg hm hv A hn hdb he hpl,Ydg P sa⟩
theorem Z6r{rp}(P:PNs X.K r rp)(hc:Zec X (.type T) r)(hg:Gl X x)(hm:X.mg x=YC)(hv:X4 x=YB (.type T))(ha:MA X io p c (e::es) mr)(hn:x≠"__name__" :=by decide)(hdb:(x==("__debug__" : Str))=YF:=by decide)
  (he:Xr (e::es) X.env=(YF,eval e X.env)::Xr es X.env:=by rfl) (hpl:(JG pos (Xr es X.env)).any (·.1)=YF:=by rfl):ME X io p YD (.Call (.Name x pp) (e::es) [] pos) (Z9k rp mr):=by
 obtain⟨_,A,sa⟩:=ha;exact⟨_,Zhc hc hg hm hv A hn hdb he hpl,Ydg P sa⟩
end
mutual
def Za7:Xa->Bool
 | .none=>YD
 | .bool _=>YD
 | .int _=>YD
 | .str _=>YD
 | .tuple ds=>Zmi ds
 | .list _=>YF
 | .dict _=>YF
def Zmi:List Xa->Bool
 | []=>YD
 | d::ds=>Za7 d&&Zmi ds
end
theorem Da.flat2:(∀{v:V} {d:Xa},Da G H L v d->Za7 d=YD->Da G H L' v d)/\∀{v:List V} {d:List Xa},Das G H L v d->Zmi d=YD->Das G H L' v d :=
 Da.both (λ_=>.non) (λb _=>.bl b) (λi _=>.int i) (λx _=>.str x) (λ_ _ _ h=>by rw[Za7]at h;cases h) (λe r h=>.tup e (r (by rw[Za7]at h;exact h))) (λk _=>.scr k) (λc n e _=>.exc c n e) (λk _=>.fn k) (λ_ _ _ _ h=>by rw[dcD,Za7]at h;cases h) (λ_=>.nil)
  (λk r h=>by rw[Zmi,XM]at h;exact .cons (k h.1) (r h.2))
theorem Da.flat{d:Xa}(h:Da G H L v d)(f:Za7 d=YD):Da G H L' v d:=Da.flat2.1 h f
set_option genInjectivity false in
structure Zgm where
 nx:Ze->Prop
 rt:OT->Ze->Prop
 bk:Ze->Prop:=λ_=>False
 ct:Ze->Prop:=λ_=>False
abbrev MSt:=Zgm->Ze->Prop
abbrev Kp(H:Hp)(fp:Fp)(H':Hp)(fp':Fp):Prop:=Stp YF H [] fp H' [] fp'
theorem Stp.kp{p:Bool}{H H':Hp}{δ δ':Ze}{fp fp':Fp}(S:Stp p H δ fp H' δ' fp'):Kp H fp H' fp':=⟨λb o e q=>S.keep b o e (.inr (q.resolve_left (by decide))),λz=>(nomatch z),S.grow,S.al⟩
theorem Kp.trans{H H1 H2:Hp}{fp fp1 fp2:Fp}(a:Kp H fp H1 fp1)(b:Kp H1 fp1 H2 fp2):Kp H fp H2 fp2:=Stp.trans a b
theorem Kp.refl(H:Hp)(fp:Fp):Kp H fp H fp:=Stp.refl _ _ _ _
structure RelEnds(C:MC G)(io:List Nat)(ex:YG->Prop)(H:Hp)(fp:Fp)(D:Zgm)(D':Ends):Prop where
 nx:∀H' O' δ' fp',Rel C io H' O' δ' fp' ex->Kp H fp H' fp'->D.nx δ'->D'.nx O' H'
 bk:∀H' O' δ' fp',Rel C io H' O' δ' fp' ex->Kp H fp H' fp'->D.bk δ'->D'.bk O' H'
 ct:∀H' O' δ' fp',Rel C io H' O' δ' fp' ex->Kp H fp H' fp'->D.ct δ'->D'.ct O' H'
 rt:∀H' O' v r δ' fp' new,Rel C io H' O' δ' fp' (exu ex new)->Own G H' (Lf C fp' (exu ex new)) v r new->new.Nodup->(∀a∈new,C.H₀ a=YC)->D.rt r δ'->D'.rt v H'
theorem RelEnds.shift{C:MC G}{io:List Nat}{ex:YG->Prop}{fp fp1:Fp}{D:Zgm}{D':Ends}(E:RelEnds C io ex H fp D D')(k:Kp H fp H1 fp1):RelEnds C io ex H1 fp1 D D' :=
 ⟨λH' O' δ' fp' R q=>E.nx H' O' δ' fp' R (k.trans q),λH' O' δ' fp' R q=>E.bk H' O' δ' fp' R (k.trans q),λH' O' δ' fp' R q=>E.ct H' O' δ' fp' R (k.trans q),E.rt⟩
def SS(G:Xc)(io:List Nat)(t:TS)(m:MSt):Prop:=∀(C:MC G) (H:Hp) (O:St) (δ:Ze) (fp:Fp) (ex:YG->Prop) (D:Zgm) (D':Ends),Rel C io H O δ fp ex->m D δ->RelEnds C io ex H fp D D'->t D' O H
def MS(X:Cx)(io:List Nat)(st:YK)(m:MSt):Prop:=∃t,PS X st t/\SS X.K io t m
def MSs(X:Cx)(io:List Nat)(st:List YK)(m:MSt):Prop:=∃t,PSs X st t/\SS X.K io t m
section
variable {io:List Nat}{p p' p'' c c':Bool}{a:YJ}{m ma mb:MEt}{rest:List YJ}{mr:MAt}{sts:List YK}{u w:MSt}{mt:MTt}
def Z4e:MSt:=λD δ=>D.nx δ
def Yfs(w:MSt)(D:Zgm)(δ:Ze):Prop:=w D δ
def Ya1(u w:MSt):MSt:=λD δ=>u { D with nx:=Yfs w D } δ
theorem Zzw:MSs X io [] Z4e:=⟨_,Z2x,λC H O δ fp ex D D' R h E=>E.nx H O δ fp R (.refl _ _) h⟩
theorem Zf(h:MS X io st u):MSs X io [st] u:=by
 obtain⟨_,A,s⟩:=h;exact⟨_,Zrj A,s⟩
theorem Zvy(h:MS X io st u)(g:MSs X io sts w):MSs X io (st::sts) (Ya1 u w):=by
 obtain⟨_,A,s⟩:=h;obtain⟨tb,B,s'⟩:=g;exact⟨_,Zvi A B,λC H O δ fp ex D D' R h E=>s C H O δ fp ex _ _ R h ⟨λH1 O1 δ1 fp1 R1 k1 h1=>s' C H1 O1 δ1 fp1 ex D D' R1 h1 (E.shift k1),E.bk,E.ct,E.rt⟩⟩
def Z8c:MSt:=λ_ _=>False
theorem Zuw:MS X io st Z8c:=⟨_,Zxe,λC H O δ fp ex D D' R h E=>h.elim⟩
def Z66(m:MEt):MSt:=λD δ=>m δ λ_ δ'=>D.nx δ'
theorem Zkt(he:ME X io p c e m)(hs:Vn e YC pos.line X.env=pure YF:=by rfl):MS X io (.Expr e pos) (Z66 m):=by
 obtain⟨_,A,s⟩:=he;exact⟨_,Zjk A hs,λC H O δ fp ex D D' R h E=>s C H O δ fp ex _ _ R h λH' v r δ' fp' new r1 h1=>E.nx H' O δ' fp' r1.base r1.stp.kp h1⟩
def Yda(m:MEt):MSt:=λD δ=>m δ λr δ'=>D.rt r δ'
theorem Z5x(he:ME X io p YD e m):MS X io (.Return (YB e) pos) (Yda m):=by
 obtain⟨_,A,s⟩:=he;exact⟨_,Zq1 A,λC H O δ fp ex D D' R h E=>s C H O δ fp ex _ _ R h λH' v r δ' fp' new r1 h1=>E.rt H' O v r δ' fp' new r1.rel (r1.own.wide λa l _=>l rfl) r1.nd (λa m=>(R.newOk (r1.fresh a m)).2.2) h1⟩
def Zwb(i:Nat):MSt:=λD δ=>match δ[i]? with|some (YB t)=>D.rt t (δ.set i YC)|_=>False
theorem Rel.take{C:MC G}{H:Hp}{O:St}{δ:Ze}{fp:Fp}{ex:YG->Prop}{i:Nat}{t:OT}(R:Rel C io H O δ fp ex)(hi:δ[i]? =YB (YB t)):Rel C io H O (δ.set i YC) (fpu fp i []) (exu ex (fp i)):=by
 have hil:i<δ.length:=(Xn.mp hi).1;have get:∀j (t':OT),(δ.set i YC)[j]? =YB (YB t')->j≠i/\δ[j]? =YB (YB t'):=λj t' e=>by
  by_cases ej:j=i
  .subst ej;rw[Qo hil]at e;cases e
  .rw[Qc (JW ej)]at e;exact⟨ej,e⟩
 have sub:∀j a,a∈fpu fp i [] j->j≠i/\a∈fp j:=λj a m=>by
  by_cases ej:j=i
  .subst ej;rw[Z2]at m;exact nomatch m
  .rw[Yj ej]at m;exact⟨ej,m⟩
 have lw:∀a,Lf C fp ex a->Lf C (fpu fp i []) (exu ex (fp i)) a:=λa l=>⟨λ⟨j,z⟩=>l.1 ⟨j,(sub j a z).2⟩,λz=>z.elim l.2.1 λz=>l.1 ⟨i,z⟩,l.2.2⟩;refine⟨by rw[Bo];exact R.len,λj t' e=>?_,λj h=>?_,λj=>?_,λj k a h1 h2=>R.dj j k a (sub j a h1).2 (sub k a h2).2,λj a h z=>?_,λa z w=>?_,R.fr,R.al,λj a h=>R.new j a (sub j a h).2,R.io⟩
 .obtain⟨ej,e⟩:=get j t' e
  obtain⟨w,e1,o⟩:=R.own j t' e;exact⟨w,e1,by rw[Yj ej];exact o.wide λa l _=>lw a l⟩
 .by_cases ej:j=i
  .subst ej;rw[Z2]
  .rw[Yj ej]
   exact R.emp j λt' z=>h t' (by rw[Qc (JW ej)];exact z)
 .by_cases ej:j=i
  .subst ej;rw[Z2];exact .nil
  .rw[Yj ej];exact R.nd j
 .obtain⟨ej,h⟩:=sub j a h
  rcases z with z|z
  .exact R.dx j a h z
  .exact ej (R.dj j i a h z)
 .rcases z with z|z
  .exact R.xa a z w
  .exact R.footSome w ⟨i,z⟩
theorem Zgb(i:Nat){px:Pos}(hio:i∉io:=by decide)(hN:X.N[i]? =YB x:=by rfl)(hv:Vis X.env.scope x:=by first|exact Qx rfl|exact Qm (Qx rfl)|exact Qm (Qm rfl))(hd:(x==("__debug__" : Str))=YF:=by decide)
  (hcd:(x==("__classdict__" : Str))=YF:=by decide):MS X io (.Return (YB (.Name x px)) pos) (Zwb i):=by
 refine⟨_,Zq1 (pv i hN hv hd hcd),λC H O δ fp ex D D' R h E=>?_⟩;unfold Zwb at h;split at h
 case h_2=>exact h.elim
 rename_i t hi;obtain⟨v,e,o⟩:=R.own i t hi;have lw:∀a,Lf C fp ex a->H a≠YC->Lf C (fpu fp i []) (exu ex (fp i)) a:=λa l _=>⟨λz=>by
  rcases z.of_u with z|⟨j,_,z⟩
  .exact nomatch z
  .exact l.1 ⟨j,z⟩,λz=>z.elim l.2.1 λz=>l.1 ⟨i,z⟩,l.2.2⟩
 have hn:∀a∈fp i,C.H₀ a=YC:=λa m=>by
  rcases R.new i a m with z|z
  .exact YX z.1 hio
  .exact z
 exact⟨v,e,E.rt H O v t _ _ (fp i) (R.take hi) (o.wide lw) (R.nd i) hn h⟩
def Ydt(t:MTt)(u w:MSt):MSt:=λD δ=>t δ λb δ'=>if b=YD then u D δ' else w D δ'
theorem Ybo{cnd:YJ}{ss ss':List YK}(hc:MT X io p cnd mt)(ha:MSs X io ss u)(hb:MSs X io ss' w):MS X io (.If cnd ss ss' pos) (Ydt mt u w):=by
 obtain⟨_,T,s⟩:=hc;obtain⟨_,A,sa⟩:=ha;obtain⟨_,B,sb⟩:=hb;exact⟨_,Z9v T A B,λC H O δ fp ex D D' R h E=>s C H O δ fp ex _ _ R h λH' b δ' fp' R' S h'=>by
  cases b with
  | true=>
   rw[YL rfl]at h'|-
   exact sa C H' O δ' fp' ex D D' R' h' (E.shift S.kp)
  | false=>
   rw[YM XC]at h'|-
   exact sb C H' O δ' fp' ex D D' R' h' (E.shift S.kp)⟩
theorem Rel.put{C:MC G}{O:St}{δ:Ze}{fp:Fp}{ex:YG->Prop}{r:OT}{new:List YG}(R:Rel C io H O δ fp (exu ex new))(hio:i∉io)(o:Own G H (Lf C fp (exu ex new)) v r new)(nd:new.Nodup)
  (hn:∀a∈new,C.H₀ a=YC/\¬ex a):∃fp',Rel C io H (O.set i (YB v)) (δ.set i (YB r)) fp' ex/\∀a,Foot fp' a->Foot fp a\/a∈new:=by
 by_cases hil:i<δ.length
 case neg=>
  refine⟨fp,?_,λa h=>.inl h⟩;have hl:=R.len;rw[List.set_eq_of_length_le (show δ.length<=i by omega),List.set_eq_of_length_le (show O.length<=i by omega)];exact R.drop λa z=>.inl z
 have hsl:i<O.length:=by rw[R.len];exact hil
 have sub:∀a,Foot (fpu fp i new) a->Foot fp a\/a∈new:=λa z=>by
  rcases z.of_u with z|⟨j,_,z⟩
  .exact .inr z
  .exact .inl ⟨j,z⟩
 have lw:∀a,Lf C fp (exu ex new) a->Lf C (fpu fp i new) ex a:=λa l=>⟨λz=>(sub a z).elim l.1 λz=>l.2.1 (.inr z),λz=>l.2.1 (.inl z),l.2.2⟩;refine⟨fpu fp i new,⟨by rw[Bo,Bo];exact R.len,λj t' e=>?_,λj h=>?_,λj=>?_,λj k a h1 h2=>?_,λj a h z=>?_,λa z=>R.xa a (.inl z),R.fr,R.al,λj a h=>?_,λj hj=>?_⟩,sub⟩
 .by_cases ej:j=i
  .subst ej
   rw[Qo hil]at e;cases e;exact⟨v,Qo hsl,by rw[Z2];exact o.wide λa l _=>lw a l⟩
  .rw[Qc (JW ej)]at e
   obtain⟨w,e1,o1⟩:=R.own j t' e;exact⟨w,by rw[Qc (JW ej)];exact e1,by rw[Yj ej];exact o1.wide λa l _=>lw a l⟩
 .by_cases ej:j=i
  .subst ej;exact YX (Qo hil) (h r)
  .rw[Yj ej]
   exact R.emp j λt' z=>h t' (by rw[Qc (JW ej)];exact z)
 .by_cases ej:j=i
  .subst ej;rw[Z2];exact nd
  .rw[Yj ej];exact R.nd j
 .by_cases ej:j=i
  .subst ej
   rw[Z2]at h1
   by_cases ek:k=j
   .exact ek.symm
   .rw[Yj ek]at h2
    exact YX (.inr h1) (R.dx k a h2)
  .rw[Yj ej]at h1
   by_cases ek:k=i
   .subst ek
    rw[Z2]at h2;exact YX (.inr h2) (R.dx j a h1)
   .rw[Yj ek]at h2
    exact R.dj j k a h1 h2
 .by_cases ej:j=i
  .subst ej
   rw[Z2]at h;exact(hn a h).2 z
  .rw[Yj ej]at h
   exact R.dx j a h (.inl z)
 .by_cases ej:j=i
  .subst ej
   rw[Z2]at h;exact .inr (hn a h).1
  .rw[Yj ej]at h
   exact R.new j a h
 .have ej:j≠i:=λz=>hio (z▸hj)
  rw[Qc (JW ej)];exact R.io j hj
theorem RE.put{C:MC G}{O:St}{δ δ':Ze}{fp fp':Fp}{ex:YG->Prop}{r:OT}{new:List YG}(R:RE C io p YD H O δ fp ex H' v r δ' fp' new)(R0:Rel C io H O δ fp ex)(hio:i∉io) :
  ∃fp2,Rel C io H' (O.set i (YB v)) (δ'.set i (YB r)) fp2 ex/\Kp H fp H' fp2:=by
 obtain⟨fp2,R2,g⟩:=R.rel.put hio (R.own.wide λa l _=>l rfl) R.nd λa m=>⟨(R0.newOk (R.fresh a m)).2.2,(R0.newOk (R.fresh a m)).2.1⟩;refine⟨fp2,R2,λb o e q=>R.stp.keep b o e (.inr (q.resolve_left (by decide))),λz=>(nomatch z),λa z=>?_,R.stp.al⟩;rcases g a z with z|z
 .exact R.stp.grow a z
 .exact .inr (R.fresh a z)
theorem RE.fzc{C:MC G}{O:St}{δ δ':Ze}{fp fp':Fp}{ex:YG->Prop}{r:OT}{new:List YG}(R:RE C io p c H O δ fp ex H' v r δ' fp' new)(R0:Rel C io H O δ fp ex) :
  RE C io p c H O δ fp ex H' v (.fz r.data) δ' fp' []:=.fz R.base R.stp (R.da R0)
theorem RE.fzs{C:MC G}{O:St}{δ δ':Ze}{fp fp':Fp}{ex:YG->Prop}{r:OT}{new:List YG}(R:RE C io p c H O δ fp ex H' v r δ' fp' new)(R0:Rel C io H O δ fp ex)(h:Za7 r.data=YD) :
  RE C io p YD H O δ fp ex H' v (.fz r.data) δ' fp' []:=.fz R.base R.stp ((R.da R0).flat h)
def Z3b(i:Nat)(m:MEt):MSt:=λD δ=>m δ λr δ'=>D.nx (δ'.set i (YB (.fz r.data)))
def Zp4(i:Nat)(m:MEt):MSt:=λD δ=>m δ λr δ'=>D.nx (δ'.set i (YB r))
section
variable {px:Pos}
theorem Yd4{t:TE}(s:SE G io p YD t m)(hio:i∉io):SS G io (Z6c t (Zt2 i)) (Z3b i m):=λC H O δ fp ex D D' R h E=>s C H O δ fp ex _ _ R h λH' v r δ' fp' new r1 h1=>by
 obtain⟨fp2,R2,k2⟩:=(r1.fzc R).put R hio;exact E.nx H' _ _ fp2 R2 k2 h1
theorem Z7w{t:TE}(s:SE G io p YD t m)(hio:i∉io):SS G io (Z6c t (Zt2 i)) (Zp4 i m):=λC H O δ fp ex D D' R h E=>s C H O δ fp ex _ _ R h λH' v r δ' fp' new r1 h1=>by
 obtain⟨fp2,R2,k2⟩:=r1.put R hio;exact E.nx H' _ _ fp2 R2 k2 h1
theorem Znv(hN:X.N.Nodup)(hi:X.N[i]? =YB x)(hx:Loc X.env.scope x)(he:ME X io p YD e m)(hio:i∉io:=by decide)(hs:Vn e (YB (.Name x px)) pos.line X.env=pure YF:=by rfl)(hf:X.fn x=YD\/X.env.scope.names.lookup x=YB .local:=by first|exact .inl rfl|exact .inr rfl|assumption) :
  MS X io (.Assign [.Name x px] e pos) (Z3b i m):=by
 obtain⟨_,A,s⟩:=he;exact⟨_,Zxk hN hi hx A hs hf,Yd4 s hio⟩
theorem Z0n(hN:X.N.Nodup)(hi:X.N[i]? =YB x)(hx:Loc X.env.scope x)(he:ME X io p YD e m)(hio:i∉io:=by decide)(hs:Vn e (YB (.Name x px)) pos.line X.env=pure YF:=by rfl)(hf:X.fn x=YD\/X.env.scope.names.lookup x=YB .local:=by first|exact .inl rfl|exact .inr rfl|assumption) :
  MS X io (.Assign [.Name x px] e pos) (Zp4 i m):=by
 obtain⟨_,A,s⟩:=he;exact⟨_,Zxk hN hi hx A hs hf,Z7w s hio⟩
end
def Zyl(t:MTt)(u:MSt):MSt:=λD δ=>∃W:Nat->Ze->Prop,(∃n,W n δ)/\∀n δ,W n δ->t δ λb δ'=>if b=YD then∃N:Ze->Prop,(∀δ',N δ'->∃n',n'<n/\W n' δ')/\u { D with nx:=N,ct:=N,bk:=D.nx } δ' else D.nx δ'
theorem Zn4{cnd:YJ}{ss:List YK}(hp:PassesOwn (XR X.prog X.w) X.A X.env X.xe)(hc:MT X io p cnd mt)(ha:MSs X io ss u):MS X io (.While cnd ss [] pos) (Zyl mt u):=by
 obtain⟨_,T,s⟩:=hc;obtain⟨_,A,sa⟩:=ha;refine⟨_,Zwx hp T A,λC H O δ fp ex D D' R h E=>?_⟩;obtain⟨W,⟨n0,w0⟩,turn⟩:=h;refine⟨λn O' H'=>∃δ' fp',Rel C io H' O' δ' fp' ex/\Kp H fp H' fp'/\W n δ',⟨n0,δ,fp,R,.refl _ _,w0⟩,?_⟩;rintro n O1 H1 ⟨δ1,fp1,R1,k1,w1⟩;refine s C H1 O1 δ1 fp1 ex _ _ R1 (turn n δ1 w1) λH2 b δ2 fp2 R2 S2 h2=>?_;have k2:=k1.trans S2.kp;cases b with
 | true=>
  rw[YL rfl]at h2|-
  obtain⟨N,hN,h2⟩:=h2;refine⟨λO' H'=>∃δ' fp',Rel C io H' O' δ' fp' ex/\Kp H fp H' fp'/\N δ',λO' H' ⟨δ',fp',R',k',n'⟩=>?_,?_⟩
  .obtain⟨n1,hn1,w1⟩:=hN δ' n'
   exact⟨n1,hn1,δ',fp',R',k',w1⟩
  .refine sa C H2 O1 δ2 fp2 ex _ _ R2 h2 ⟨λH' O' δ' fp' R' k' n'=>⟨δ',fp',R',k2.trans k',n'⟩,λH' O' δ' fp' R' k' n'=>E.nx H' O' δ' fp' R' (k2.trans k') n',λH' O' δ' fp' R' k' n'=>⟨δ',fp',R',k2.trans k',n'⟩,E.rt⟩
 | false=>
  rw[YM XC]at h2|-
  exact E.nx H2 O1 δ2 fp2 R2 k2 h2
end
def Zi8(N:List Str)(ds:List Xa):Ze:=ds.map (λd=>YB (.fz d))++By (N.length-ds.length) YC
def Zhz(N:List Str)(t:OT)(ds:List Xa):Ze:=YB t::(ds.map (λd=>YB (.fz d))++By (N.length-(ds.length+1)) YC)
variable {ex ex':YG->Prop}{c p p' c' p'':Bool}{cnd:YJ}{fp fp' fp1:Fp}{H'':Hp}{as:List YG}{io:List Nat}{ts:List OT}{sts ss:List YK}{mr:MAt}{ma mb:MEt}{t0:OT}{pp px:Pos}{δ δ' δ1:Ze}
section
theorem Zld{t:OT}{n:Nat}(h:(ds.map (λd=>YB (.fz d))++By n YC:Ze)[i]? =YB (YB t)):∃d,ds[i]? =YB d/\t= .fz d:=by
 rw[List.getElem?_append]at h;split at h
 .rw[Xp]at h
  cases e:ds[i]? with
  | none=>rw[e]at h;cases h
  | some d=>rw[e]at h;cases h;exact⟨d,rfl,rfl⟩
 .rw[List.getElem?_replicate]at h
  split at h
  .cases h
  .cases h
theorem Rel.entry(h:Das G H L vs ds):Rel (G:=G) ⟨H,λ_=>False,L,start N vs⟩ [] H (start N vs) (Zi8 N ds) (λ_=>[]) (λ_=>False):=by
 refine⟨?_,λi t e=>?_,λ_ _=>rfl,λ_=>.nil,λi j a m=>(nomatch m),λi a m=>(nomatch m),λa z=>z.elim,λb o e _=>e,λb e=>e,λi a m=>(nomatch m),λi m=>nomatch m⟩
 .unfold start Zi8
  simp[h.length]
 .obtain⟨d,e',rfl⟩:=Zld e
  obtain⟨x,e1,q⟩:=h.get e';refine⟨x,?_,.fz (q.wide λa l _=>⟨λ⟨j,z⟩=>(nomatch z),λz=>z,.inl l⟩)⟩;unfold L2.start;rw[Vg (by rw[Xg];exact(Xn.mp e1).1),Xp,e1];rfl
variable {base:YH}
def Z2b(k:OT->Prop):Zgm:={ nx:=λ_=>k (.fz .none),rt:=λr _=>k r }
theorem Fun.okD{f:YG}{fd:XF}{n:Nat}{S:List Xa->(OT->Prop)->Prop}(F:Fun K x qual st f fd)(Sc:Zq N ps (Zj st))(len:∀ds k,S ds k->ds.length=ps.length)
  (hbody:∀(cdv:Xd) (A:Qk) (outer:List Env) (s:Xe) (H:Hp) (E:XK),Room n (A.deeper (Uz qual (Zj st) s.heap.objs.size f cdv)) ->
   ∃m,MSs (Zqk CX0 P w K mg base N qual (Zj st) f cdv A outer s H E).nox [] (Jw st) m/\∀ds k,S ds k->m (Z2b k) (Zi8 N ds)):FnOk P w K mg base CX0 (n+1) f fd ps (spD K S):=by
 refine F.ok Sc (λvs H Q E h=>?_) (λcdv A outer s H vs Q E hr h=>?_)
 .obtain⟨L,ds,k,h1,h2,_⟩:=h
  rw[h1.length];exact len ds k h2
 .obtain⟨L,ds,k,h1,h2,h3⟩:=h
  obtain⟨m,⟨t,A1,s1⟩,q⟩:=hbody cdv A outer s H E hr;refine⟨t,A1,s1 ⟨H,λ_=>False,L,start N vs⟩ H _ _ _ _ (Z2b k) _ (Rel.entry h1) (q ds k h2) ⟨λH' O' δ' fp' R _ hk=>?_,λ_ _ _ _ _ _ z=>z.elim,λ_ _ _ _ _ _ z=>z.elim,λH' O' v r δ' fp' new R o nd hn hk=>?_⟩⟩
  .exact h3 _ .non H' [] hk (λb o e=>R.fr b o e id) (.fz .non) .nil λa m=>nomatch m
  .refine h3 r v H' new hk (λb o e=>R.fr b o e id) (o.wide λa l _=>⟨?_,λz=>l.2.1 (.inr z)⟩) nd hn
   exact l.2.2
theorem Rel.entryI{v0:V}(o:Own G H L v0 t0 as)(nd:as.Nodup)(hL:∀a∈as,¬L a)(h:Das G H L vs ds) :
  Rel (G:=G) ⟨H,λa=>a∈as,L,start N (v0::vs)⟩ [0] H (start N (v0::vs)) (Zhz N t0 ds) (λi=>if i=0 then as else[]) (λ_=>False):=by
 have lw:∀a,L a->H a≠YC->Lf (G:=G) ⟨H,λa=>a∈as,L,L2.start N (v0::vs)⟩ (λi=>if i=0 then as else[]) (λ_=>False) a:=λa l _=>⟨λq91=>by
  obtain⟨i,z⟩:=q91;dsimp only at z;split at z
  .exact hL a z l
  .exact(nomatch z),λz=>z,.inl l⟩
 have sub:∀i a,a∈(if i=0 then as else[])->i=0/\a∈as:=λi a m=>by
  split at m
  .exact⟨by assumption,m⟩
  .exact nomatch m
 refine⟨?_,λi t e=>?_,λi h=>?_,λi=>?_,λi j a m m'=>(sub i a m).1.trans (sub j a m').1.symm,λi a m z=>z,λa z=>z.elim,λb o e _=>e,λb e=>e,λi a m=>.inl ⟨by rw[(sub i a m).1];exact Xv.mpr rfl,(sub i a m).2⟩,λi _=>rfl⟩
 .unfold L2.start L2.Zhz
  simp[h.length]
 .cases i with
  | zero=>
   have e':t0=t:=by
    unfold L2.Zhz at e;simpa using e
   subst e';exact⟨v0,rfl,o.wide lw⟩
  | succ i=>
   have e':(ds.map (λd=>YB (.fz d))++By (N.length-(ds.length+1)) YC:Ze)[i]? =YB (YB t):=e;obtain⟨d,e2,rfl⟩:=Zld e';obtain⟨x,e1,q⟩:=h.get e2;refine⟨x,?_,.fz (q.wide lw)⟩;show(vs.map YB++_)[i]? =_;rw[Vg (by rw[Xg];exact(Xn.mp e1).1),Xp,e1];rfl
 .split
  .subst i
   exact YX rfl (h t0)
  .rfl
 .split
  .exact nd
  .exact .nil
def Zzx(k:OT->OT->Prop):Zgm:={ nx:=λδ=>match δ[0]? with|some (YB t)=>k (.fz .none) t|_=>False,rt:=λr δ=>match δ[0]? with|some (YB t)=>k r t|_=>False }
theorem Fun.okI{f:YG}{fd:XF}{n:Nat}{S:OT->List Xa->(OT->OT->Prop)->Prop}(F:Fun K x qual st f fd)(Sc:Zq N ps (Zj st))(len:∀t ds k,S t ds k->ds.length+1=ps.length)
  (hbody:∀(cdv:Xd) (A:Qk) (outer:List Env) (s:Xe) (H:Hp) (E:XK),Room n (A.deeper (Uz qual (Zj st) s.heap.objs.size f cdv)) ->
   ∃m,MSs (Zqk CX0 P w K mg base N qual (Zj st) f cdv A outer s H E).nox [0] (Jw st) m/\∀t ds k,S t ds k->m (Zzx k) (Zhz N t ds)):FnOk P w K mg base CX0 (n+1) f fd ps (spI K S):=by
 refine F.ok Sc (λvs H Q E h=>?_) (λcdv A outer s H vs Q E hr h=>?_)
 .obtain⟨L,v0,t0,as,vs',ds,k,rfl,_,_,_,h1,h2,_⟩:=h
  rw[QZ,h1.length];exact len t0 ds k h2
 .obtain⟨L,v0,t0,as,vs',ds,k,rfl,o0,nd0,hL,h1,h2,h3⟩:=h
  obtain⟨m,⟨t,A1,s1⟩,q⟩:=hbody cdv A outer s H E hr;have fin:∀H' O' v r δ' fp' new,Rel (G:=K) ⟨H,λa=>a∈as,L,L2.start N (v0::vs')⟩ [0] H' O' δ' fp' (exu (λ_=>False) new)->Own K H' (Lf (G:=K) ⟨H,λa=>a∈as,L,L2.start N (v0::vs')⟩ fp' (exu (λ_=>False) new)) v r new->new.Nodup->(∀a∈new,H a=YC) ->
    (match δ'[0]? with|some (YB t)=>k r t|_=>False)->Q v H':=by
   intro H' O' v r δ' fp' new R o nd hn hk;split at hk
   case h_2=>exact hk.elim
   rename_i t' e';obtain⟨u,eu,ou⟩:=R.own 0 t' e';have hio:=R.io 0 (by simp);rw[eu]at hio;have:u=v0:=by
    have e2:(L2.start N (v0::vs'))[0]? =YB (YB v0):=rfl;have hio':YB (YB u)=(L2.start N (v0::vs'))[0]?:=hio;rw[e2]at hio';cases hio';rfl
   subst this;refine h3 r t' v H' new (fp' 0) hk (λb ob e nb=>R.fr b ob e nb) (λb e=>R.al b e) (o.wide λa l _=>⟨l.2.2,λz=>l.2.1 (.inr z),λz=>l.1 ⟨0,z⟩⟩) (ou.wide λa l _=>⟨l.2.2,λz=>l.2.1 (.inr z),λz=>l.1 ⟨0,z⟩⟩) ?_ hn λa m=>?_
   .exact JS.mpr ⟨R.nd 0,nd,λa m b m' z=>by subst z;exact R.dx 0 a m (.inr m')⟩
   .rcases R.new 0 a m with z|z
    .exact .inl z.2
    .exact .inr z
  refine⟨t,A1,s1 ⟨H,λa=>a∈as,L,L2.start N (v0::vs')⟩ H _ _ _ _ (Zzx k) _ (Rel.entryI o0 nd0 hL h1) (q t0 ds k h2) ⟨λH' O' δ' fp' R _ hk=>?_,λ_ _ _ _ _ _ z=>z.elim,λ_ _ _ _ _ _ z=>z.elim,λH' O' v r δ' fp' new R o nd hn hk=>fin H' O' v r δ' fp' new R o nd hn hk⟩⟩;exact fin H' O' .non (.fz .none) δ' fp' [] (R.drop λa z=>Zbn.mp z) (.fz .non) .nil (λa m=>nomatch m) hk
end
abbrev MGt:=Xa->Ze->(Ze->Prop)->Prop
abbrev Zru:=List Xa->Ze->(Ze->Prop)->Prop
def SG(G:Xc)(io:List Nat)(c:Bool)(t:TG)(g:MGt):Prop:=∀(C:MC G) (H:Hp) (O:St) (δ:Ze) (fp:Fp) (ex:YG->Prop) (v:V) (d:Xa) (k:Ze->Prop) (Q:St->Hp->Prop),Rel C io H O δ fp ex->Da G H (λa=>c=YD->Lf C fp ex a) v d->g d δ k ->
 (∀ O' δ' fp',Rel C io H O' δ' fp' ex->Kp H fp H fp'->k δ'->Q O' H)->t v O H Q
def SGs(G:Xc)(io:List Nat)(c:Bool)(t:TGs)(g:Zru):Prop:=∀(C:MC G) (H:Hp) (O:St) (δ:Ze) (fp:Fp) (ex:YG->Prop) (v:List V) (d:List Xa) (k:Ze->Prop) (Q:St->Hp->Prop),Rel C io H O δ fp ex->Das G H (λa=>c=YD->Lf C fp ex a) v d->g d δ k ->
 (∀ O' δ' fp',Rel C io H O' δ' fp' ex->Kp H fp H fp'->k δ'->Q O' H)->t v O H Q
def MG(X:Cx)(io:List Nat)(c:Bool)(tg:YJ)(g:MGt):Prop:=∃t,PG X tg t/\SG X.K io c t g
def MGs(X:Cx)(io:List Nat)(c:Bool)(tg:List YJ)(g:Zru):Prop:=∃t,PGs X tg t/\SGs X.K io c t g
def dName(i:Nat):MGt:=λd δ k=>k (δ.set i (YB (.fz d)))
def Zyu(i:Nat):MGt:=λd δ k=>Za7 d=YD/\k (δ.set i (YB (.fz d)))
theorem Rel.putD{C:MC G}{O:St}{d:Xa}(R:Rel C io H O δ fp ex)(hio:i∉io)(q:Da G H (Lf C fp ex) v d) :
  ∃fp',Rel C io H (O.set i (YB v)) (δ.set i (YB (.fz d))) fp' ex/\Kp H fp H fp':=by
 obtain⟨fp',R',g⟩:=(R.drop λa z=>Zbn.mp z).put (new:=[]) hio (.fz (q.wide λa l _=>⟨l.1,λz=>l.2.1 (Zbn.mp z),l.2.2⟩)) .nil (λa m=>nomatch m);exact⟨fp',R',λb o e _=>e,λz=>(nomatch z),λa z=>(g a z).imp id λz=>(nomatch z),λb e=>e⟩
theorem Zy9(hN:X.N.Nodup)(hi:X.N[i]? =YB x:=by rfl)(hx:Loc X.env.scope x:=by first|exact Qx rfl|exact Qm rfl)(hio:i∉io:=by decide)(hf:X.fn x=YD\/X.env.scope.names.lookup x=YB .local:=by first|exact .inl rfl|exact .inr rfl|assumption):MG X io YD (.Name x pos) (dName i) :=
 ⟨_,Zmo hN hi hx hf,λC H O δ fp ex v d k Q R q h kk=>by
  obtain⟨fp',R',k'⟩:=R.putD hio (q.wide λa l _=>l rfl);exact kk _ _ fp' R' k' h⟩
theorem Zo5(hN:X.N.Nodup)(hi:X.N[i]? =YB x:=by rfl)(hx:Loc X.env.scope x:=by first|exact Qx rfl|exact Qm rfl)(hio:i∉io:=by decide)(hf:X.fn x=YD\/X.env.scope.names.lookup x=YB .local:=by first|exact .inl rfl|exact .inr rfl|assumption):MG X io c (.Name x pos) (Zyu i) :=
 ⟨_,Zmo hN hi hx hf,λC H O δ fp ex v d k Q R q h kk=>by
  obtain⟨fp',R',k'⟩:=R.putD hio (q.flat h.1);exact kk _ _ fp' R' k' h.2⟩
def Yep:Zru:=λds δ k=>ds=[]/\k δ
def Zzd(g:MGt)(gs:Zru):Zru:=λds δ k=>match ds with|d::r=>g d δ λδ'=>gs r δ' k|[]=>False
theorem Zsn:MGs X io c [] Yep:=⟨_,Zzs,λC H O δ fp ex v d k Q R q h kk=>by
 obtain⟨rfl,h⟩:=h;cases q;exact⟨rfl,kk O δ fp R (.refl _ _) h⟩⟩
theorem Rel.kp_das{C:MC G}{O:St}(R:Rel C io H O δ fp ex)(S:Kp H fp H' fp')(h:Das G H (Lf C fp ex) vs ds):Das G H' (Lf C fp' ex) vs ds:=by
 have S':Stp YF H δ fp H' δ fp':=⟨S.keep,λz=>(nomatch z),S.grow,S.al⟩;obtain⟨f1,f2⟩:=R.frameL (c:=YD) (ex':=ex) S' (.inr rfl) λa z=>.inl z;exact h.frame (λa xs l q=>⟨(f1 a xs (λ_=>l) q).1 rfl,(f1 a xs (λ_=>l) q).2⟩) f2
theorem Zoc{g:MGt}{gs:Zru}(h1:MG X io YD e g)(h2:MGs X io YD es gs)
  (hs:(JH (e::es) X.env).map (·.2)=Ut e X.env::(JH es X.env).map (·.2):=by rfl):MGs X io YD (e::es) (Zzd g gs):=by
 obtain⟨_,A,s⟩:=h1;obtain⟨_,B,s'⟩:=h2;exact⟨_,Zn7 A B hs,λC H O δ fp ex v d k Q R q h kk=>by
  cases q with
  | nil=>exact h.elim
  | cons q qs=>
   refine⟨_,_,rfl,s C H O δ fp ex _ _ _ _ R q h λO1 δ1 fp1 R1 k1 h1=>?_⟩;exact s' C H O1 δ1 fp1 ex _ _ _ _ R1 ((R.kp_das k1 (qs.wide λa l _=>l rfl)).wide λa l _ _=>l) h1 λO2 δ2 fp2 R2 k2 h2=>kk O2 δ2 fp2 R2 (k1.trans k2) h2⟩
theorem Zma{g:MGt}{gs:Zru}(h1:MG X io YF e g)(h2:MGs X io YF es gs)
  (hs:(JH (e::es) X.env).map (·.2)=Ut e X.env::(JH es X.env).map (·.2):=by rfl):MGs X io YF (e::es) (Zzd g gs):=by
 obtain⟨_,A,s⟩:=h1;obtain⟨_,B,s'⟩:=h2;exact⟨_,Zn7 A B hs,λC H O δ fp ex v d k Q R q h kk=>by
  cases q with
  | nil=>exact h.elim
  | cons q qs=>
   refine⟨_,_,rfl,s C H O δ fp ex _ _ _ _ R (q.wide λa _ _ z=>nomatch z) h λO1 δ1 fp1 R1 k1 h1=>?_⟩;exact s' C H O1 δ1 fp1 ex _ _ _ _ R1 (qs.wide λa _ _ z=>nomatch z) h1 λO2 δ2 fp2 R2 k2 h2=>kk O2 δ2 fp2 R2 (k1.trans k2) h2⟩
def dTup(n:Nat)(gs:Zru):MGt:=λd δ k=>match d with| .tuple ds=>ds.length=n/\gs ds δ k|_=>False
theorem Zy5{k:Nat}{gs:Zru}{n:Nat}(hc:X.calm=YD)(h:MGs X io c es gs)
  (hn:(JH es X.env).length=n:=by rfl) (hst:(JH es X.env).findIdx? (·.1)=YC:=by rfl):MG X io c (.Tuple es k pos) (dTup n gs):=by
 obtain⟨_,A,s⟩:=h;exact⟨_,Z6h hc A hn hst,λC H O δ fp ex v d k Q R q h kk=>by
  cases q with
  | tup e qs=>exact⟨_,_,rfl,.inl (.inl e),by rw[qs.length];exact h.1,s C H O δ fp ex _ _ _ _ R qs h.2 kk⟩
  | _=>exact h.elim⟩
def IterOk(C:MC G)(fp:Fp)(ex:YG->Prop)(H1:Hp)(c:Bool)(J:It)(ds:List Xa):Prop:=∀H':Hp,(∀b o,H1 b=YB o->(c=YF\/¬Foot fp b)->H' b=YB o)->∀i:Nat,
 (∀ d,ds[i]? =YB d->J.go i H'/\∀x H'',J.yld i H' x H''->Same H' H''/\Da G H'' (λa=>c=YD->(Lf C fp ex a/\H1 a≠YC)) x d)/\(ds[i]? =YC->J.stop i H')
abbrev MIt:=Ze->(List Xa->Ze->Prop)->Prop
def SI(G:Xc)(io:List Nat)(p c:Bool)(t:TI)(m:MIt):Prop:=∀(C:MC G) (H:Hp) (O:St) (δ:Ze) (fp:Fp) (ex:YG->Prop) (K:List Xa->Ze->Prop) (Q:It->Hp->Prop),Rel C io H O δ fp ex->m δ K ->
 (∀ J H1 ds δ1 fp1,Rel C io H1 O δ1 fp1 ex->Stp p H δ fp H1 δ1 fp1->IterOk C fp1 ex H1 c J ds->K ds δ1->Q J H1)->t O H Q
def MI(X:Cx)(io:List Nat)(p c:Bool)(tg iter:YJ)(m:MIt):Prop:=∃t,PI X tg iter t/\SI X.K io p c t m
section
variable {a:YJ}{m:MEt}
def iL(m:MEt):MIt:=λδ K=>m δ λr δ'=>match r.data with| .list ds=>K ds δ'|_=>False
def iT(m:MEt):MIt:=λδ K=>m δ λr δ'=>match r.data with| .tuple ds=>K ds δ'|_=>False
theorem Rel.kept{C:MC G}{H H':Hp}{O:St}{δ:Ze}{fp:Fp}{ex:YG->Prop}(R:Rel C io H O δ fp ex)(kp:∀b o,H b=YB o->(c=YF\/¬Foot fp b)->H' b=YB o) :
  (∀ a (xs:MuO),(c=YD->Lf C fp ex a)->Rd H a xs.ho->(c=YD->(Lf C fp ex a/\H a≠YC))/\Rd H' a xs.ho)/\(∀a (xs:ImO),H a=YB xs.ho->H' a=YB xs.ho):=by
 refine⟨λa xs l q=>⟨λhc=>⟨l hc,q.some⟩,?_⟩,λa xs q=>kp a _ q (.inr λz=>?_)⟩
 .have hk:c=YF\/¬Foot fp a:=by
   cases c with
   | false=>exact .inl rfl
   | true=>exact .inr (l rfl).1
  rcases q with q|⟨o,q⟩
  .exact .inl (kp a _ q hk)
  .exact .inr ⟨o,kp a _ q hk⟩
 .obtain⟨ys,e⟩:=R.foot z
  exact ImO.nm q e
theorem Z0l(h:ME X io p c e m):MI X io p c tg e (iL m):=by
 obtain⟨_,A,s⟩:=h;exact⟨_,Zv3 rfl A,λC H O δ fp ex K' Q R h kk=>s C H O δ fp ex _ _ R h λH1 v r δ1 fp1 new r1 h1=>by
  have q:=r1.da R;generalize r.data=d at q h1;cases q with
  | lst l e qs=>
   refine⟨_,rfl,⟨_,.inl e⟩,kk _ H1 _ δ1 fp1 r1.base r1.stp (λH' kp i=>?_) h1⟩;obtain⟨f1,f2⟩:=r1.base.kept kp;have e':=(f1 _ (.lst _) l e).2;have qs':=qs.frame f1 f2;refine⟨λd hd=>?_,λhd=>?_⟩
   .obtain⟨x,hx,qx⟩:=qs'.get hd
    refine⟨⟨_,x,.inl e',hx⟩,λy H'' hy=>?_⟩;obtain⟨rfl,hy⟩:=hy;have:=hy _ (.inl e');rw[hx]at this;cases this;exact⟨Same.refl _,qx⟩
   .exact⟨_,.inl e',by rw[qs'.length];exact Q6.mp hd⟩
  | scr ks=>
   refine⟨_,rfl,⟨_,ks.sq⟩,kk _ H1 _ δ1 fp1 r1.base r1.stp (λH' kp i=>?_) h1⟩;refine⟨λd hd=>?_,λhd=>?_⟩
   .obtain⟨x,hx,qx⟩:=(Das.ints (G:=X.K) (H:=H') (L:=λa=>c=YD->(Lf C fp1 ex a/\H1 a≠YC)) _).get hd
    refine⟨⟨_,x,ks.sq,hx⟩,λy H'' hy=>?_⟩;obtain⟨rfl,hy⟩:=hy;have:=hy _ ks.sq;rw[hx]at this;cases this;exact⟨Same.refl _,qx⟩
   .refine⟨_,ks.sq,?_⟩
    have:=Q6.mp hd;simpa using this
  | _=>exact h1.elim⟩
theorem Z6o(h:ME X io p c e m):MI X io p c tg e (iT m):=by
 obtain⟨_,A,s⟩:=h;exact⟨_,Zz0 rfl A,λC H O δ fp ex K' Q R h kk=>s C H O δ fp ex _ _ R h λH1 v r δ1 fp1 new r1 h1=>by
  have q:=r1.da R;generalize r.data=d at q h1;cases q with
  | tup e qs=>
   refine⟨_,rfl,⟨_,.inl (.inl e)⟩,kk _ H1 _ δ1 fp1 r1.base r1.stp (λH' kp i=>?_) h1⟩;obtain⟨f1,f2⟩:=r1.base.kept kp;have e':=f2 _ (.tup _) e;have qs':=qs.frame f1 f2;refine⟨λd hd=>?_,λhd=>?_⟩
   .obtain⟨x,hx,qx⟩:=qs'.get hd
    refine⟨⟨_,x,.inl (.inl e'),hx⟩,λy H'' hy=>?_⟩;obtain⟨rfl,hy⟩:=hy;have:=hy _ (.inl (.inl e'));rw[hx]at this;cases this;exact⟨Same.refl _,qx⟩
   .exact⟨_,.inl (.inl e'),by rw[qs'.length];exact Q6.mp hd⟩
  | _=>exact h1.elim⟩
def Zbs(lo:Int)(n:Nat):List Xa:=(Xu n).map λ(i:Nat)=>Xl (lo+(i:Int))
@[simp] theorem Zw(lo:Int)(n:Nat):(Zbs lo n).length=n:=by simp[Zbs]
theorem Yz{lo:Int}{n i:Nat}{d:Xa}(h:(Zbs lo n)[i]? =YB d):i<n/\d= .int (lo+i):=by
 have hi:i<n:=by
  have:=(Xn.mp h).1;simpa using this
 unfold Zbs at h;rw[Xp,Qy hi]at h;cases h;exact⟨hi,rfl⟩
theorem Zoz{C:MC G}{n:Nat}:IterOk C fp ex H1 YD (Itr lo n) (Zbs lo n):=λH' _ i=>by
 refine⟨λd hd=>?_,λhd=>?_⟩
 .obtain⟨hi,rfl⟩:=Yz hd
  refine⟨hi,λx H'' hy=>?_⟩;obtain⟨rfl,rfl⟩:=hy;exact⟨Same.refl _,.int _⟩
 .have:=Q6.mp hd
  show n<=i;simpa using this
def iR1(mr:MAt):MIt:=λδ K=>mr δ λrs δ'=>match OT.datas rs with|[.int j]=>(-(2^62)<=j/\j<2^62)/\K (Zbs 0 j.toNat) δ'|_=>False
def iR2(mr:MAt):MIt:=λδ K=>mr δ λrs δ'=>match OT.datas rs with|[.int i,.int j]=>(-(2^62)<=i/\i<2^62/\-(2^62)<=j/\j<2^62)/\K (Zbs i (j-i).toNat) δ'|_=>False
theorem Zz{p':Pos}(hg:Gl X "range")(hm:X.mg "range"=YC)(ha:MA X io p c [a] mr)(hs:Xr [a] X.env=[(YF,eval a X.env)]:=by rfl):MI X io p YD tg (.Call (.Name "range" p') [a] [] pos) (iR1 mr):=by
 obtain⟨_,A,s⟩:=ha;exact⟨_,Ztq hg hm A hs,λC H O δ fp ex K' Q R h kk=>s C H O δ fp ex _ _ R h λH1 vs rs δ1 fp1 new r1 h1=>by
  have q:=r1.das R;generalize OT.datas rs=d at q h1;split at h1
  case h_2=>exact h1.elim
  cases q with
  | cons q1 q2=>
   cases q1;cases q2;exact⟨_,rfl,h1.1.1,h1.1.2,kk _ H1 _ δ1 fp1 r1.base r1.stp Zoz h1.2⟩⟩
theorem Zh8{p':Pos}(hg:Gl X "range")(hm:X.mg "range"=YC)(ha:MA X io p c [a,b] mr)(hs:Xr [a,b] X.env=[(YF,eval a X.env),(YF,eval b X.env)]:=by rfl)(hs2:Xr [b] X.env=[(YF,eval b X.env)]:=by rfl):MI X io p YD tg (.Call (.Name "range" p') [a,b] [] pos) (iR2 mr):=by
 obtain⟨_,A,s⟩:=ha;exact⟨_,Zt8 hg hm A hs hs2,λC H O δ fp ex K' Q R h kk=>s C H O δ fp ex _ _ R h λH1 vs rs δ1 fp1 new r1 h1=>by
  have q:=r1.das R;generalize OT.datas rs=d at q h1;split at h1
  case h_2=>exact h1.elim
  cases q with
  | cons q1 q2=>
   cases q1;cases q2 with
   | cons q2 q3=>
    cases q2;cases q3;exact⟨_,_,rfl,h1.1,kk _ H1 _ δ1 fp1 r1.base r1.stp Zoz h1.2⟩⟩
theorem IterOk.at{C:MC G}{fp fp':Fp}{ex:YG->Prop}{H1 H' H'':Hp}{J:It}{ds:List Xa}{x:V}{d:Xa}(g:∀a,Foot fp' a->Foot fp a\/H1 a=YC)(h:Da G H'' (λa=>YD=YD->(Lf C fp ex a/\H1 a≠YC)) x d):Da G H'' (λa=>YD=YD->Lf C fp' ex a) x d :=
 h.wide λa l _ z=>⟨λw=>(g a w).elim (l z).1.1 (l z).2,(l z).1.2.1,(l z).1.2.2⟩
def Ya9(ds:List Xa)(g:MGt)(u:MSt)(D:Zgm)(δ1:Ze):Prop:=∃I:Nat->Ze->Prop,I 0 δ1/\(∀(i:Nat) (d:Xa) (δ':Ze),ds[i]? =YB d->I i δ'->g d δ' λδ2=>u { D with nx:=I (i+1),ct:=I (i+1),bk:=D.nx } δ2)/\∀δ',I ds.length δ'->D.nx δ'
def Ycz(mi:MIt)(g:MGt)(u:MSt):MSt:=λD δ=>mi δ λds δ1=>Ya9 ds g u D δ1
theorem Rel.mk0{C:MC G}{O:St}(R:Rel C io H O δ fp ex)(s:Same H H'):Rel C io H' O δ fp ex:=(R.made (new:=[]) s λa m=>nomatch m).drop λa z=>.inl z
theorem Z56{mi:MIt}{g:MGt}{u:MSt}(hp:PassesOwn (XR X.prog X.w) X.A X.env X.xe)(hc:X.calm=YD)(hi:MI X io p YD tg iter mi)(hg:MG X io YD tg g)(hb:MSs X io body u)
  (hs:∀x,JX iter X.env x=pure x:=by intro _;rfl):MS X io (.For tg iter body [] pos) (Ycz mi g u):=by
 obtain⟨_,A,s⟩:=hi;obtain⟨_,G,sg⟩:=hg;obtain⟨_,B,sb⟩:=hb;refine⟨_,Zyi hp hc A G B hs,λC H O δ fp ex D D' R h E=>s C H O δ fp ex _ _ R h λJ H1 ds δ1 fp1 R1 S1 it h1=>?_⟩;obtain⟨I,h0,turn,fin⟩:=h1;refine⟨λi n O' H'=>n=ds.length-i/\i<=ds.length/\∃δ' fp',Rel C io H' O' δ' fp' ex/\Kp H1 fp1 H' fp'/\I i δ',⟨ds.length,rfl,QG _,δ1,fp1,R1,.refl _ _,h0⟩,?_⟩;rintro i n O2 H2 ⟨rfl,hle,δ2,fp2,R2,k2,i2⟩;have itk:=it H2 (λb o e q=>k2.keep b o e (.inr (q.resolve_left (by decide)))) i
 by_cases hlt:i<ds.length
 .have hd:ds[i]? =YB ds[i]:=Xm hlt
  obtain⟨go,yl⟩:=itk.1 _ hd;refine .inr ⟨go,λO' H'=>∃δ' fp',Rel C io H' O' δ' fp' ex/\Kp H1 fp1 H' fp'/\I (i+1) δ',λO' H' ⟨δ',fp',R',k',i'⟩=>⟨ds.length-(i+1),by omega,rfl,hlt,δ',fp',R',k',i'⟩,λx H3 hy=>?_⟩;obtain⟨s3,q3⟩:=yl x H3 hy;have R3:=R2.mk0 s3;have k3:Kp H1 fp1 H3 fp2:=k2.trans ⟨λb o e _=>s3 _ _ e,λz=>(nomatch z),λa z=>.inl z,s3.al⟩;refine sg C H3 O2 δ2 fp2 ex x _ _ _ R3 (IterOk.at (H':=H2) (J:=J) (ds:=ds) k2.grow q3) (turn i _ δ2 hd i2) λO4 δ4 fp4 R4 k4 h4=>?_;have k5:=k3.trans k4;refine sb C H3 O4 δ4 fp4 ex _ _ R4 h4 ⟨λH' O' δ' fp' R' k' n'=>⟨δ',fp',R',k5.trans k',n'⟩,λH' O' δ' fp' R' k' n'=>E.nx H' O' δ' fp' R' (S1.kp.trans (k5.trans k')) n',λH' O' δ' fp' R' k' n'=>⟨δ',fp',R',k5.trans k',n'⟩,E.rt⟩
 .have e:i=ds.length:=by omega
  subst e;exact .inl ⟨itk.2 (by simp),E.nx H2 O2 δ2 fp2 R2 (S1.kp.trans k2) (fin δ2 i2)⟩
end
def gM(G:Xc)(io:List Nat)(c:Bool)(g:MGt):TG:=λv O H Q=>∃(C:MC G) (δ:Ze) (fp:Fp) (ex:YG->Prop) (d:Xa) (k:Ze->Prop),Rel C io H O δ fp ex/\Da G H (λa=>c=YD->Lf C fp ex a) v d/\g d δ k/\
 ∀O' δ' fp',Rel C io H O' δ' fp' ex->Kp H fp H fp'->k δ'->Q O' H
def tM(G:Xc)(io:List Nat)(p c:Bool)(m:MEt):TE:=λO H Q=>∃(C:MC G) (δ:Ze) (fp:Fp) (ex:YG->Prop) (K:OT->Ze->Prop),Rel C io H O δ fp ex/\m δ K/\∀H' v r δ' fp' new,RE C io p c H O δ fp ex H' v r δ' fp' new->K r δ'->Q v H'
def ttM(G:Xc)(io:List Nat)(p:Bool)(m:MTt):TT:=λO H Q=>∃(C:MC G) (δ:Ze) (fp:Fp) (ex:YG->Prop) (K:Bool->Ze->Prop),Rel C io H O δ fp ex/\m δ K/\∀H' b δ' fp',Rel C io H' O δ' fp' ex->Stp p H δ fp H' δ' fp'->K b δ'->Q b H'
def MIfs(X:Cx)(io:List Nat)(p:Bool)(ifs:List YJ)(m:MTt):Prop:=∃t,Z0j X ifs t/\STt X.K io p t m
section
variable {m:MEt}{mt:MTt}{g:MGt}
theorem MG.canon(h:MG X io c tg g):PG X tg (gM X.K io c g):=by
 obtain⟨t,A,s⟩:=h;rintro pins sh O H v u Q I r ⟨C,δ,fp,ex,d,k,R,q,h,kk⟩;exact A pins sh O H v u Q I r (s C H O δ fp ex v d k Q R q h kk)
theorem ME.canon(h:ME X io p c e m):PE X e (tM X.K io p c m):=by
 obtain⟨t,A,s⟩:=h;rintro pins sh O H Q I ⟨C,δ,fp,ex,K,R,h,kk⟩;exact A pins sh O H Q I (s C H O δ fp ex K Q R h kk)
theorem MIfs.canon(h:MIfs X io p ifs mt):Z0j X ifs (ttM X.K io p mt):=by
 obtain⟨t,A,s⟩:=h;rintro pins sh O H Q I ⟨C,δ,fp,ex,K,R,h,kk⟩;exact A pins sh O H Q I (s C H O δ fp ex K Q R h kk)
def Z40:MTt:=λδ K=>K YD δ
theorem Za4:MIfs X io YD [] Z40:=⟨_,Z3a,λC H O δ fp ex K Q R h kk=>kk H YD δ fp R (.refl _ _ _ _) h⟩
theorem Zfn(h:MT X io p cnd mt):MIfs X io p [cnd] mt:=by
 obtain⟨_,A,s⟩:=h;exact⟨_,Z00 A,s⟩
end
def blk(n:Nat)(caps:List Nat)(δ:Ze):Ze:=By n YC++caps.map λi=>(δ[i]?).getD YC
def W9(n:Nat)(caps:List Nat)(fp:Fp):Fp:=λk=>if k<n then[]else match caps[k-n]? with|some i=>fp i|none=>[]
def Zay(n:Nat)(caps:List Nat):List Nat:=(Xu caps.length).map (·+n)
def Zwv(C:MC G)(H1:Hp)(fp:Fp)(O0:St):MC G:=⟨H1,Foot fp,λa=>(C.L a\/C.H₀ a=YC)/\¬Foot fp a,O0⟩
def Zf2(ex:YG->Prop)(D:YG)(fp fpb:Fp)(a:YG):Prop:=ex a\/a=D\/(Foot fp a/\¬Foot fpb a)
section
variable {C:MC G}{O:St}{D:YG}{n:Nat}
theorem Zbc{k:Nat}(h:a∈W9 n caps fp k):∃i,n<=k/\caps[k-n]? =YB i/\a∈fp i:=by
 unfold W9 at h;split at h
 .exact nomatch h
 .split at h
  .rename_i i e
   exact⟨i,by omega,e,h⟩
  .exact nomatch h
theorem Zvl(h:caps[j]? =YB i):W9 n caps fp (n+j)=fp i:=by
 unfold W9;rw[YM (by omega),show n+j-n=j by omega,h]
theorem Z4u{k:Nat}{t:OT}(h:(blk n caps δ)[k]? =YB (YB t)):∃i,n<=k/\caps[k-n]? =YB i/\δ[i]? =YB (YB t):=by
 unfold blk at h;rw[List.getElem?_append]at h;split at h
 .rw[List.getElem?_replicate]at h
  split at h<;>cases h
 .rename_i hk
  rw[Ui]at hk h;rw[Xp]at h;cases e:caps[k-n]? with
  | none=>rw[e]at h;cases h
  | some i=>
   rw[e]at h;refine⟨i,by omega,rfl,?_⟩;simp only[Option.map_some]at h;cases e2:δ[i]? with
   | none=>rw[e2]at h;cases h
   | some o=>
    rw[e2]at h;simpa using h
theorem Rel.block(R:Rel C io H1 O δ fp ex)(nd:caps.Nodup)(hD:H1 D=YC) :
  Rel (Zwv C H1 fp (W7 own caps O)) (Zay own.length caps) (upd H1 D (.lst [])) (W7 own caps O) (blk own.length caps δ) (W9 own.length caps fp) (Zf2 ex D fp (W9 own.length caps fp)):=by
 have s:=Ye hD (.lst []);have sub:∀a,Foot (W9 own.length caps fp) a->Foot fp a:=λa q91=>by
  obtain⟨k,z⟩:=q91;obtain⟨i,_,_,z⟩:=Zbc z;exact⟨i,z⟩
 have neD:∀a,H1 a≠YC->a≠D:=λa h z=>h (z▸hD);refine⟨by unfold W7 blk;simp,λk t e=>?_,λk h=>?_,λk=>?_,λk l a h1 h2=>?_,λk a h z=>?_,λa z=>?_,λb o e _=>s _ _ e,λb e=>s.free e,λk a h=>?_,λk _=>rfl⟩
 .obtain⟨i,hk,e1,e2⟩:=Z4u e
  obtain⟨v,e3,o⟩:=R.own i t e2;refine⟨v,?_,?_⟩
  .unfold W7
   rw[Q0 (by simpa using hk),Xg,Xp,e1];simp[e3]
  .have ef:W9 own.length caps fp k=fp i:=by
    have:=Zvl (n:=own.length) (fp:=fp) e1
    rwa[show own.length+(k-own.length)=k by omega]at this
   rw[ef];refine(o.wide λa l q=>⟨λz=>l.1 (sub a z),λz=>?_,.inl ⟨l.2.2,l.1⟩⟩).same s;rcases z with z|z|z
   .exact l.2.1 z
   .exact neD a q z
   .exact l.1 z.1
 .unfold W9
  split
  .rfl
  .split
   .rename_i i e1
    refine R.emp i λt z=>h t ?_;unfold blk;rw[Q0 (by rw[Ui];omega),Ui,Xp,e1];simp[z]
   .rfl
 .unfold W9
  split
  .exact .nil
  .split
   .exact R.nd _
   .exact .nil
 .obtain⟨i,hk,e1,m1⟩:=Zbc h1
  obtain⟨j,hl,e2,m2⟩:=Zbc h2;have:=R.dj i j a m1 m2;subst this;have hlt:=(Xn.mp e1).1;have:=(List.getElem?_inj hlt nd).mp (e1.trans e2.symm);omega
 .obtain⟨i,hk,e1,m⟩:=Zbc h
  rcases z with z|z|z
  .exact R.dx i a m z
  .exact R.footSome (z▸hD) ⟨i,m⟩
  .exact z.2 ⟨k,h⟩
 .rcases z with z|z|z
  .intro q;exact R.xa a z (s.free q)
  .subst z;rw[Zu];intro q;cases q
  .obtain⟨xs,e⟩:=R.foot z.1
   rw[s _ _ e];intro q;cases q
 .obtain⟨i,hk,e1,m⟩:=Zbc h
  refine .inl ⟨?_,⟨i,m⟩⟩;have:=(Xn.mp e1).1;exact Qe.mpr ⟨k-own.length,by simpa using this,by omega⟩
theorem Zyy{O0:St}(hx:∀a,ex a->ex' a)(l:Lf (Zwv C H1 fp O0) fp' ex' a):Lf C fp ex a\/H1 a=YC:=by
 obtain⟨l1,l2,l3⟩:=l;rcases l3 with l3|l3
 .exact .inl ⟨l3.2,λz=>l2 (hx a z),l3.1⟩
 .exact .inr l3
theorem Rel.poke(R:Rel C io H' O δ fp ex)(hx:ex D)(hD:H' D=YB (.lst xs))(h0:C.H₀ D=YC):Rel C io (upd H' D (.lst ys)) O δ fp ex:=by
 have nf:¬Foot fp D:=λ⟨i,z⟩=>R.dx i D z hx;have kp:∀b o,b≠D->H' b=YB o->upd H' D (.lst ys) b=YB o:=λb o n e=>by rw[Zo n];exact e
 refine⟨R.len,λi t e=>?_,R.emp,R.nd,R.dj,R.dx,λa z=>?_,λb o e n=>?_,λb e=>?_,R.new,R.io⟩
 .obtain⟨v,e1,o⟩:=R.own i t e
  refine⟨v,e1,o.frame (λa zs l q=>⟨l,?_⟩) (λa zs q=>kp a _ (λz=>?_) q) λa m zs q=>kp a _ (λz=>nf ⟨i,z▸m⟩) q⟩
  .have na:a≠D:=λz=>l.2.1 (z▸hx)
   rcases q with q|⟨u,q⟩
   .exact .inl (kp a _ na q)
   .exact .inr ⟨u,kp a _ na q⟩
  .exact ImO.nl q (z▸hD)
 .by_cases e:a=D
  .subst e;rw[Zu];intro q;cases q
  .rw[Zo e];exact R.xa a z
 .refine kp b o (λz=>?_) (R.fr b o e n)
  rw[z,h0]at e;cases e
 .refine R.al b ?_
  by_cases q:b=D
  .subst q;rw[Zu]at e;cases e
  .rwa[Zo q]at e
theorem Owns.poke{rs:List OT}(o:Owns G H' L zs rs as)(hD:H' D=Qn (HO.lst xs))(hL:¬L D)(hn:D∉as):Owns G (upd H' D (.lst ys)) L zs rs as:=by
 refine o.frame (λa zs l q=>⟨l,?_⟩) (λa zs q=>?_) λa m zs q=>?_
 .have na:a≠D:=λz=>hL (z▸l)
  rcases q with q|⟨u,q⟩
  .exact .inl (by rw[Zo na];exact q)
  .exact .inr ⟨u,by rw[Zo na];exact q⟩
 .rw[Zo (λz=>ImO.nl q (z▸hD))];exact q
 .have na:a≠D:=λz=>hn (by rw[<-z];exact m)
  rw[Zo na];exact q
theorem Owns.snoc{rs:List OT}{bs:List YG}{x:V}{r:OT}(h:Owns G H' L xs rs as)(k:Own G H' L x r bs):Owns G H' L (xs++[x]) (rs++[r]) (as++bs) :=
 Owns.rec (motive_1:=λ_ _ _ _=>True) (motive_2:=λxs rs as _=>Owns G H' L (xs++[x]) (rs++[r]) (as++bs)) (λ_=>trivial) (λ_ _ _=>trivial) (λ_ _ _=>trivial) (λ_ _ _=>trivial) (by have:=Owns.cons k .nil;rwa[QW]at this) (λk _ _ ih=>by rw[Vz];exact .cons k ih) h
end
structure Zx9(C:MC G)(H1:Hp)(fp1:Fp)(ex:YG->Prop)(n:Nat)(caps:List Nat)(O0:St)(D:YG)(pb:Bool)(H':Hp)(O':St)(δ':Ze)(fp':Fp)(ys:List V)(rs:List OT)(new:List YG):Prop where
 keep:∀b o,H1 b=YB o->(pb=YD\/¬Foot (W9 n caps fp1) b)->H' b=YB o
 al:∀b,H' b=YC->H1 b=YC
 dat:H' D=YB (.lst ys)
 rel:Rel (Zwv C H1 fp1 O0) (Zay n caps) H' O' δ' fp' (exu (Zf2 ex D fp1 (W9 n caps fp1)) new)
 grow:∀a,Foot fp' a->Foot (W9 n caps fp1) a\/H1 a=YC
 own:Owns G H' (λa=>YD=YD->Lf (Zwv C H1 fp1 O0) fp' (exu (Zf2 ex D fp1 (W9 n caps fp1)) new) a) ys rs new
 nd:new.Nodup
 fresh:∀a∈new,H1 a=YC/\a≠D
section
variable {pt pe ci:Bool}{g:MGt}{mt:MTt}{me:MEt}
theorem Zlw{C:MC G}{O:St}{D:YG}{Qf:Hp->Prop}(I:Nat->List OT->Ze->Prop)(R1:Rel C io H1 O δ1 fp1 ex)
  (it:∀H':Hp,(∀b o,H1 b=YB o->((pt&&pe)=YD\/¬Foot (W9 own.length caps fp1) b)->H' b=YB o)->∀i:Nat,(∀d,ds[i]? =YB d->J.go i H'/\∀x H'',J.yld i H' x H''->Same H' H''/\Da G H'' (λa=>ci=YD->(Lf C fp1 ex a/\H1 a≠YC)) x d)/\(ds[i]? =YC->J.stop i H'))
  (nd:caps.Nodup) (hD:H1 D=YC) (hz:ds.length<=Xw) (h0:I 0 [] (blk own.length caps δ1))
  (turn:∀(i:Nat) (d:Xa) (rs:List OT) (δ':Ze),ds[i]? =YB d->I i rs δ'->g d δ' λδ2=>mt δ2 λb δ3=>if b=YD then me δ3 λr δ4=>I (i+1) (rs++[r]) δ4 else I (i+1) rs δ3)
  (fin:∀H' O' δ' fp' ys rs new,Zx9 C H1 fp1 ex own.length caps (W7 own caps O) D (pt&&pe) H' O' δ' fp' ys rs new->I ds.length rs δ'->Qf H') :
  Zzg J (gM G (Zay own.length caps) ci g) (ttM G (Zay own.length caps) pt mt) (tM G (Zay own.length caps) pe YD me) (W7 own caps O) D Qf H1:=by
 have hx:Zf2 ex D fp1 (W9 own.length caps fp1) D:=.inr (.inl rfl);refine⟨λi n O' H'=>n=ds.length-i/\i<=ds.length/\∃rs ys new δ' fp',Zx9 C H1 fp1 ex own.length caps (W7 own caps O) D (pt&&pe) H' O' δ' fp' ys rs new/\ys.length<=i/\I i rs δ',⟨ds.length,rfl,QG _,[],[],[],_,_,⟨λb o e _=>Ye hD _ _ _ e,(Ye hD _).al,Zu,?_,λa z=>.inl z,.nil,.nil,λa m=>(nomatch m)⟩,XQ _,h0⟩,?_⟩
 .exact(R1.block nd hD).drop λa z=>Zbn.mp z
 rintro i n O2 H2 ⟨rfl,hle,rs,ys,new,δ2,fp2,B,hl,i2⟩;have subB:∀b,Foot (W9 own.length caps fp1) b->Foot fp1 b:=λb q92=>by
  obtain⟨k,z⟩:=q92;obtain⟨i,_,_,z⟩:=Zbc z;exact⟨i,z⟩
 have itk:=it H2 B.keep i
 by_cases hlt:i<ds.length
 case neg=>
  have e:i=ds.length:=by omega
  subst e;exact .inl ⟨itk.2 (by simp),fin H2 O2 δ2 fp2 ys rs new B i2⟩
 have hd:ds[i]? =YB ds[i]:=Xm hlt;obtain⟨go,yl⟩:=itk.1 _ hd;refine .inr ⟨go,λx H3 hy=>?_⟩;obtain⟨s3,q3⟩:=yl x H3 hy;have R3:=B.rel.mk0 s3;have D3:H3 D=YB (.lst ys):=s3 _ _ B.dat
 -- the item,clean in the block
 have q3':Da G H3 (λa=>ci=YD->Lf (Zwv C H1 fp1 (W7 own caps O)) fp2 (exu (Zf2 ex D fp1 (W9 own.length caps fp1)) new) a) x ds[i]:=by
  refine q3.wide λa l _ z=>?_;obtain⟨⟨l1,l2,l3⟩,l4⟩:=l z;refine⟨λw=>?_,λw=>?_,.inl ⟨l3,l1⟩⟩
  .rcases B.grow a w with w|w
   .exact l1 (subB a w)
   .exact l4 w
  .rcases w with(w|w|w)|w
   .exact l2 w
   .subst w;exact l4 hD
   .exact l1 w.1
   .exact l4 (B.fresh a w).1
 refine⟨_,δ2,fp2,_,_,_,R3,q3',turn i _ rs δ2 hd i2,λO4 δ4 fp4 R4 k4 h4=>?_⟩;refine⟨_,δ4,fp4,_,_,R4,h4,λH5 b δ5 fp5 R5 S5 h5=>?_⟩
 -- the state behind the test
 have keep5:∀b o,H1 b=YB o->((pt&&pe)=YD\/¬Foot (W9 own.length caps fp1) b)->H5 b=YB o:=λb o e q=>by
  refine S5.keep b o (s3 _ _ (B.keep b o e q)) ?_;rcases q with q|q
  .rw[XM]at q;exact .inl q.1
  .refine .inr λz=>?_
   rcases k4.grow b z with z|z
   .rcases B.grow b z with z|z
    .exact q z
    .rw[e]at z;cases z
   .rw[s3 _ _ (B.keep b o e (.inr q))]at z;cases z
 have al5:∀b,H5 b=YC->H1 b=YC:=λb e=>B.al b (s3.al b (S5.al b e));have grow4:∀a,Foot fp4 a->Foot (W9 own.length caps fp1) a\/H1 a=YC:=λa z=>by
  rcases k4.grow a z with z|z
  .exact B.grow a z
  .exact .inr (B.al a (s3.al a z))
 have grow5:∀a,Foot fp5 a->Foot (W9 own.length caps fp1) a\/H1 a=YC:=λa z=>by
  rcases S5.grow a z with z|z
  .exact grow4 a z
  .exact .inr (B.al a (s3.al a z))
 have D5:H5 D=YB (.lst ys):=S5.keep D _ D3 (.inr λ⟨k,z⟩=>R4.dx k D z (.inl hx));have own3:=B.own.same s3
 -- the items so far behind the target and the test
 have own4:Owns G H3 (λa=>YD=YD->Lf (Zwv C H1 fp1 (W7 own caps O)) fp4 (exu (Zf2 ex D fp1 (W9 own.length caps fp1)) new) a) ys rs new:=by
  refine own3.wide λa l q z=>?_;obtain⟨l1,l2,l3⟩:=l z;exact⟨λw=>(k4.grow a w).elim l1 q,l2,l3⟩
 have own5:=R4.owns_step (ex':=exu (Zf2 ex D fp1 (W9 own.length caps fp1)) new) S5 (c:=YD) (.inr rfl) (λa z=>.inl z) (λa m=>.inr m) own4;dsimp only at h5|-
 cases b with
 | false=>
  rw[YM XC]at h5|-
  exact⟨ds.length-(i+1),by omega,rfl,hlt,rs,ys,new,δ5,fp5,⟨keep5,al5,D5,R5,grow5,own5,B.nd,B.fresh⟩,by omega,h5⟩
 | true=>
  rw[YL rfl]at h5|-
  refine⟨_,δ5,fp5,_,_,R5,h5,λH6 v r δ6 fp6 nr r6 h6=>?_⟩;have D6:H6 D=YB (.lst ys):=r6.stp.keep D _ D5 (.inr λ⟨k,z⟩=>R5.dx k D z (.inl hx));have hDnr:D∉nr:=λz=>by
   have:=r6.fresh D z;rw[D5]at this;cases this
  have own6:=R5.owns_step (ex':=exu (exu (Zf2 ex D fp1 (W9 own.length caps fp1)) new) nr) r6.stp (c:=YD) (.inr rfl) (λa z=>z.imp id λz=>r6.fresh a z) (λa m=>.inr m) own5;have eqx:∀a,exu (Zf2 ex D fp1 (W9 own.length caps fp1)) (new++nr) a->exu (exu (Zf2 ex D fp1 (W9 own.length caps fp1)) new) nr a:=λa z=>by
   rcases z with z|z
   .exact .inl (.inl z)
   .rcases Qt.mp z with z|z
    .exact .inl (.inr z)
    .exact .inr z
  have lw:∀a,(YD=YD->Lf (Zwv C H1 fp1 (W7 own caps O)) fp6 (exu (exu (Zf2 ex D fp1 (W9 own.length caps fp1)) new) nr) a)->H6 a≠YC->(YD=YD->Lf (Zwv C H1 fp1 (W7 own caps O)) fp6 (exu (Zf2 ex D fp1 (W9 own.length caps fp1)) (new++nr)) a) :=
   λa l _ z=>⟨(l z).1,λw=>(l z).2.1 (eqx a w),(l z).2.2⟩
  have ownA:=(own6.snoc r6.own).wide lw;refine⟨ys,D6,by omega,ds.length-(i+1),by omega,rfl,hlt,rs++[r],ys++[v],new++nr,δ6,fp6,⟨λb o e q=>?_,λb e=>?_,Zu,?_,λa z=>?_,?_,?_,λa m=>?_⟩,by rw[QL];show ys.length+1<=i+1;omega,h6⟩
  .have nD:b≠D:=λz=>by rw[z,hD]at e;cases e
   rw[Zo nD];refine r6.stp.keep b o (keep5 b o e q) ?_;rcases q with q|q
   .rw[XM]at q;exact .inl q.2
   .refine .inr λz=>?_
    rcases grow5 b z with z|z
    .exact q z
    .rw[e]at z;cases z
  .by_cases q:b=D
   .subst q;rw[Zu]at e;cases e
   .rw[Zo q]at e
    exact al5 b (r6.stp.al b e)
  .exact(r6.rel.drop eqx).poke (.inl hx) D6 hD
  .rcases r6.stp.grow a z with z|z
   .exact grow5 a z
   .exact .inr (al5 a z)
  .exact ownA.poke D6 (λz=>(z rfl).2.1 (.inl hx)) (λm=>by
    rcases Qt.mp m with m|m
    .exact(B.fresh D m).2 rfl
    .exact hDnr m)
  .refine JS.mpr ⟨B.nd,r6.nd,λa m b m' z=>?_⟩
   subst z;obtain⟨xs,e⟩:=own5.some a m;rw[r6.fresh a m']at e;cases e
  .rcases Qt.mp m with m|m
   .exact B.fresh a m
   .exact⟨al5 a (r6.fresh a m),λz=>hDnr (z▸m)⟩
end
section
variable {pt pe ci:Bool}{g:MGt}{mt:MTt}{me m:MEt}{mi:MIt}
def Z5v(m:MEt):MEt:=λδ K=>m δ λr δ'=>Za7 r.data=YD/\K (.fz r.data) δ'
theorem Zoo(h:ME X io p c e m):ME X io p YD e (Z5v m):=by
 obtain⟨_,A,s⟩:=h;exact⟨_,A,λC H O δ fp ex K Q R h k=>s C H O δ fp ex _ _ R h λH' v r δ' fp' new r1 h1=>k H' v _ δ' fp' [] (r1.fzs R h1.1) h1.2⟩
def Z7v(n:Nat)(caps:List Nat)(ds:List Xa)(g:MGt)(mt:MTt)(me:MEt)(δ1:Ze)(K:OT->Ze->Prop):Prop:=ds.length<=Xw/\∃I:Nat->List OT->Ze->Prop,I 0 [] (blk n caps δ1)/\
 (∀ (i:Nat) (d:Xa) (rs:List OT) (δ':Ze),ds[i]? =YB d->I i rs δ'->g d δ' λδ2=>mt δ2 λb δ3=>if b=YD then me δ3 λr δ4=>I (i+1) (rs++[r]) δ4 else I (i+1) rs δ3)/\
 ∀rs δ',I ds.length rs δ'->K (.nd rs) δ1
def Zie(n:Nat)(caps:List Nat)(mi:MIt)(g:MGt)(mt:MTt)(me:MEt):MEt:=λδ K=>mi δ λds δ1=>Z7v n caps ds g mt me δ1 K
theorem Z2w{wi:TI}(si:SI G io p ci wi mi)(nd:caps.Nodup)(hp:(pt&&pe)=YD) :
  SE G io p YD (Zvh own caps wi (gM G (Zay own.length caps) ci g) (ttM G (Zay own.length caps) pt mt) (tM G (Zay own.length caps) pe YD me)) (Zie own.length caps mi g mt me):=by
 intro C H O δ fp ex K Q R h k;refine si C H O δ fp ex _ _ R h λJ H1 ds δ1 fp1 R1 S1 it h1 D hD=>?_;obtain⟨hz,I,h0,turn,fin⟩:=h1;refine Zlw I R1 (λH' kp=>it H' λb o e _=>kp b o e (.inl hp)) nd hD hz h0 turn λH' O' δ' fp' ys rs new B i'=>?_;have s:Same H1 H':=λb o e=>B.keep b o e (.inl hp);refine k H' (.ref D) (.nd rs) δ1 fp1 (D::new) (RE.tree R R1 S1 s (λa m=>?_) (Qh.mpr ⟨λm=>(B.fresh D m).2 rfl,B.nd⟩) (.nd B.dat (B.own.wide λa l _=>?_))) (fin rs δ' i')
 .rcases Xi.mp m with rfl|m
  .exact hD
  .exact(B.fresh a m).1
 .refine⟨?_,λm=>?_⟩
  .rcases Zyy (λa z=>.inl (.inl z)) (l rfl)with z|z
   .exact .inl λ_=>z
   .exact .inr z
  .rcases Xi.mp m with z|z
   .exact(l rfl).2.1 (.inl (.inr (.inl z)))
   .exact(l rfl).2.1 (.inr z)
def Zlg(caps:List Nat)(o:Nat)(δ:Ze):Bool:=caps.all λi=>i==o||match δ[i]? with|some (YB (.nd _))=>YF|some (YB (.tp _))=>YF|some (YB (.dc _ _ _))=>YF|_=>YD
def Zzq(n:Nat)(caps:List Nat)(o q:Nat)(ds:List Xa)(g:MGt)(mt:MTt)(me:MEt)(δ1:Ze)(K:OT->Ze->Prop):Prop:=ds.length<=Xw/\Zlg caps o δ1=YD/\∃I:Nat->List OT->Ze->Prop,I 0 [] (blk n caps δ1)/\
 (∀ (i:Nat) (d:Xa) (rs:List OT) (δ':Ze),ds[i]? =YB d->I i rs δ'->g d δ' λδ2=>mt δ2 λb δ3=>if b=YD then me δ3 λr δ4=>I (i+1) (rs++[r]) δ4 else I (i+1) rs δ3)/\
 ∀rs δ',I ds.length rs δ'->match δ1[o]?,δ'[q]? with|some (YB _),YB (YB t)=>K (.nd rs) (δ1.set o (YB t))|_,_=>False
def Zn5(n:Nat)(caps:List Nat)(o q:Nat)(mi:MIt)(g:MGt)(mt:MTt)(me:MEt):MEt:=λδ K=>mi δ λds δ1=>Zzq n caps o q ds g mt me δ1 K
theorem Zlu{C:MC G}{O:St}{o:Nat}(R:Rel C io H O δ fp ex)(h:Zlg caps o δ=YD){k:Nat}{n:Nat}(m:a∈W9 n caps fp k):a∈fp o:=by
 obtain⟨i,_,e,m⟩:=Zbc m;have:=Va.mp h i (QF e);rw[Bool.or_eq_true]at this;rcases this with z|z
 .rw[YZ]at z;subst z;exact m
 .by_cases q:∃t,δ[i]? =YB (YB t)
  .obtain⟨t,q⟩:=q
   obtain⟨v,_,ow⟩:=R.own i t q;rw[q]at z;cases t with
   | nd ts=>cases z
   | tp ts=>cases z
   | dc _ _ _=>cases z
   | fz d=>
    generalize fp i=as at ow m;cases ow;exact nomatch m
  .rw[R.emp i λt w=>q ⟨t,w⟩]at m
   exact nomatch m
theorem Z76{wi:TI}{o q:Nat}(si:SI G io p YD wi mi)(nd:caps.Nodup)(ho:caps[q-own.length]? =YB o)(hq:own.length<=q) :
  SE G io YF YD (Zvh own caps wi (gM G (Zay own.length caps) YD g) (ttM G (Zay own.length caps) pt mt) (tM G (Zay own.length caps) pe YD me)) (Zn5 own.length caps o q mi g mt me):=by
 intro C H O δ fp ex K Q R h k;refine si C H O δ fp ex _ _ R h λJ H1 ds δ1 fp1 R1 S1 it h1 D hD=>?_;obtain⟨hz,hcap,I,h0,turn,fin⟩:=h1;refine Zlw I R1 (λH' kp=>it H' λb o e q=>kp b o e (q.elim (λz=>nomatch z) λq=>.inr λz=>q (by obtain⟨k,z⟩:=z;obtain⟨j,_,_,z⟩:=Zbc z;exact⟨j,z⟩))) nd hD hz h0 turn λH' O' δ' fp' ys rs new B i'=>?_;have h2:=fin rs δ' i';split at h2
 case h_2=>exact h2.elim
 rename_i t0 t' e0 e';obtain⟨v0,ev,_⟩:=R1.own o t0 e0;obtain⟨v1,ev1,o1⟩:=B.rel.own q t' e';have hql:q-own.length<caps.length:=(Xn.mp ho).1;have hio:=B.rel.io q (Qe.mpr ⟨q-own.length,by simpa using hql,by omega⟩);have hs:(W7 own caps O)[q]? =YB (YB v0):=by
  unfold W7;rw[Q0 (by simpa using hq),Xg,Xp,ho];simp[ev]
 have:v1=v0:=by
  rw[ev1]at hio;have hio':YB (YB v1)=(W7 own caps O)[q]?:=hio;rw[hs]at hio';cases hio';rfl
 subst this;have lw:∀a,Lf (Zwv C H1 fp1 (W7 own caps O)) fp' (exu (Zf2 ex D fp1 (W9 own.length caps fp1)) new) a->H' a≠YC->Lf C (fpu fp1 o (fp' q)) (exu ex (D::new)) a:=λa l _=>by
  have nD:a∉D::new:=λm=>by
   rcases Xi.mp m with z|z
   .exact l.2.1 (.inl (.inr (.inl z)))
   .exact l.2.1 (.inr z)
  have nq:a∉fp' q:=λz=>l.1 ⟨q,z⟩;rcases Zyy (C:=C) (fp:=fp1) (ex:=ex) (λa z=>.inl (.inl z)) l with z|z
  .exact⟨λw=>by
    rcases w.of_u with w|⟨j,_,w⟩
    .exact nq w
    .exact z.1 ⟨j,w⟩,λw=>w.elim z.2.1 nD,z.2.2⟩
  .have:=R1.newOk z
   exact⟨λw=>by
    rcases w.of_u with w|⟨j,_,w⟩
    .exact nq w
    .exact this.1 ⟨j,w⟩,λw=>w.elim this.2.1 nD,.inr this.2.2⟩
 obtain⟨R2,S2⟩:=R1.change (new:=D::new) (t':=t') e0 ev (λb ob eb nb=>B.keep b ob eb (.inr λ⟨k,z⟩=>nb (Zlu R1 hcap z))) B.al (o1.wide lw) (B.rel.nd q)
  (λa m=>by
   rcases B.grow a ⟨q,m⟩with⟨k,z⟩|z
   .exact .inl (Zlu R1 hcap z)
   .exact .inr z)
  (λa m=>by
   rcases Xi.mp m with rfl|m
   .refine⟨hD,λz=>?_,λz=>B.rel.dx q _ z (.inl (.inr (.inl rfl)))⟩
    rw[B.dat]at z;cases z
   .refine⟨(B.fresh a m).1,λz=>?_,λz=>B.rel.dx q _ z (.inr m)⟩
    obtain⟨xs,e⟩:=B.own.some a m;rw[z]at e;cases e)
 refine k H' (.ref D) (.nd rs) _ _ (D::new) ⟨R2,(S1.trans S2).cast (λz=>nomatch z),.nd B.dat (B.own.wide λa l q _=>lw a (l rfl) q),Qh.mpr ⟨λm=>(B.fresh D m).2 rfl,B.nd⟩,λa m=>?_⟩ h2;rcases Xi.mp m with rfl|m
 .exact S1.al _ hD
 .exact S1.al _ (B.fresh a m).1
variable {sc:U3}
theorem Zct(S:CompScope X own caps N' sc)(hc:X.calm=YD)(nd:caps.Nodup)(hi:MI X io p ci tg iter mi)
  (hg:∀C cells s₂ H₂ fp,MG (Wg X N' sc C cells s₂ H₂ fp) (Zay own.length caps) ci tg g) (ht:∀C cells s₂ H₂ fp,MIfs (Wg X N' sc C cells s₂ H₂ fp) (Zay own.length caps) pt ifs mt) (he:∀C cells s₂ H₂ fp,ME (Wg X N' sc C cells s₂ H₂ fp) (Zay own.length caps) pe YD elt me)
  (hp:(pt&&pe)=YD:=by rfl) (hs:∀x,JX iter X.env x=pure x:=by intro _;rfl):ME X io p YD (.ListComp elt [⟨tg,iter,ifs,0⟩] sc pos) (Zie own.length caps mi g mt me):=by
 obtain⟨_,A,si⟩:=hi;exact⟨_,Zrn S hc A (λC cells s₂ H₂ fp=>(hg C cells s₂ H₂ fp).canon) (λC cells s₂ H₂ fp=>(ht C cells s₂ H₂ fp).canon) (λC cells s₂ H₂ fp=>(he C cells s₂ H₂ fp).canon) hs,Z2w si nd hp⟩
theorem Z21{o q:Nat}(S:CompScope X own caps N' sc)(hc:X.calm=YD)(nd:caps.Nodup)(ho:caps[q-own.length]? =YB o)(hq:own.length<=q)(hi:MI X io p YD tg iter mi)
  (hg:∀C cells s₂ H₂ fp,MG (Wg X N' sc C cells s₂ H₂ fp) (Zay own.length caps) YD tg g) (ht:∀C cells s₂ H₂ fp,MIfs (Wg X N' sc C cells s₂ H₂ fp) (Zay own.length caps) pt ifs mt) (he:∀C cells s₂ H₂ fp,ME (Wg X N' sc C cells s₂ H₂ fp) (Zay own.length caps) pe YD elt me)
  (hs:∀x,JX iter X.env x=pure x:=by intro _;rfl):ME X io YF YD (.ListComp elt [⟨tg,iter,ifs,0⟩] sc pos) (Zn5 own.length caps o q mi g mt me):=by
 obtain⟨_,A,si⟩:=hi;exact⟨_,Zrn S hc A (λC cells s₂ H₂ fp=>(hg C cells s₂ H₂ fp).canon) (λC cells s₂ H₂ fp=>(ht C cells s₂ H₂ fp).canon) (λC cells s₂ H₂ fp=>(he C cells s₂ H₂ fp).canon) hs,Z76 si nd ho hq⟩
section
variable {spos:Pos}
theorem Zbx(own':Bool)(hN:X.N.Nodup)(hy:X.N[i]? =YB y)(hx:Loc X.env.scope y)(S:CompScope X own caps N' sc)(hc:X.calm=YD)(nd:caps.Nodup)(hi:MI X io p ci tg iter mi)
  (hg:∀C cells s₂ H₂ fp,MG (Wg X N' sc C cells s₂ H₂ fp) (Zay own.length caps) ci tg g) (ht:∀C cells s₂ H₂ fp,MIfs (Wg X N' sc C cells s₂ H₂ fp) (Zay own.length caps) pt ifs mt) (he:∀C cells s₂ H₂ fp,ME (Wg X N' sc C cells s₂ H₂ fp) (Zay own.length caps) pe YD elt me)
  (hp:(pt&&pe)=YD:=by rfl) (hio:i∉io:=by decide)
  (hsw:Vn (.ListComp elt [⟨tg,iter,ifs,0⟩] sc pos) (YB (.Name y py)) spos.line X.env=pure YD:=by rfl)
  (hs:∀x,JX iter X.env x=pure x:=by intro _;rfl) (hf:X.fn y=YD\/X.env.scope.names.lookup y=YB .local:=by first|exact .inl rfl|exact .inr rfl|assumption) :
  MS X io (.Assign [.Name y py] (.ListComp elt [⟨tg,iter,ifs,0⟩] sc pos) spos) (if own'=YD then Zp4 i (Zie own.length caps mi g mt me)else Z3b i (Zie own.length caps mi g mt me)):=by
 obtain⟨_,A,si⟩:=hi;refine⟨_,Zpd (g:=gM X.K (Zay own.length caps) ci g) (tt:=ttM X.K (Zay own.length caps) pt mt) (te:=tM X.K (Zay own.length caps) pe YD me) hN hy hx S hc A (λC cells s₂ H₂ fp=>(hg C cells s₂ H₂ fp).canon) (λC cells s₂ H₂ fp=>(ht C cells s₂ H₂ fp).canon) (λC cells s₂ H₂ fp=>(he C cells s₂ H₂ fp).canon) hsw hs hf,?_⟩;cases own'
 .exact Yd4 (Z2w si nd hp) hio
 .exact Z7w (Z2w si nd hp) hio
end
end
section
variable {O:St}
def Z4d(K:Xc):R2:=λx y H Q=>∃l b xs zs,x= .ref l/\y= .ref b/\SqL K H l xs/\SqL K H b zs/\xs.length+zs.length<=Xw/\∀p,H p=YC->Q (.ref p) (upd H p (.lst (xs++zs)))
theorem Inv.lstQ(hK:X.K=K)(I:Inv X pins O H s)(hH:SqL K H l xs):∃(its:List Xd) (n:Nat),Vals xs its/\xs.length=its.length/\∃o,s.heap.get? l=YB o/\o.cls= .type "list"/\o.dict=YC/\o.data= .seq its.toArray n:=by
 subst hK;obtain⟨its,r,⟨o,n,e,h1,h2,h3⟩,_⟩:=I.list hH;exact⟨its,n,r,r.length,o,e,h1,h2,h3⟩
theorem Zth(hK:X.K=K):OpR X (VD .Add) (Z4d K):=by
 intro pins s O H x y v u Q I rx ry h;obtain⟨l,b,xs,zs,rfl,rfl,hH,hB,hz,q⟩:=h;cases rx;cases ry;obtain⟨its,n,r,hl,⟨cls,dd,data,sl⟩,ho,hc,_,hd⟩:=I.lstQ hK hH;obtain⟨its2,n2,r2,hl2,⟨cls2,dd2,data2,sl2⟩,ho2,hc2,_,hd2⟩:=I.lstQ hK hB;simp only at hc hd hc2 hd2;subst hc hd hc2 hd2;have ea:its.toArray++its2.toArray=(its++its2).toArray:=by simp
 refine concat_meets ⟨_,ho,rfl⟩ ⟨_,ho2,rfl⟩ noFill_list_add seq_list_add PySem.F.slot_list_add PySem.F.entry_list_add (PySem.F.args_list_add_2 _ _) (list_addW l b its.toArray its2.toArray n n2 dd dd2 sl sl2 (by simp only[Qa];omega)) ⟨ho,ho2,?_⟩;rw[ea];exact⟨.ref _,_,I.lnew (t':=s.toks) (r.append r2) (by rw[QL];omega),rfl,q _ I.fresh⟩
end
def asI(d:Xa)(k:Int->Prop):Prop:=match d with| .int i=>k i|_=>False
def asL(d:Xa)(k:List Xa->Prop):Prop:=match d with| .list ds=>k ds|_=>False
section
variable {d:Xa}
theorem Da.intInv{k:Int->Prop}(q:Da G H L v d)(h:asI d k):∃i,v= .int i/\k i:=by
 cases q with
 | int b=>exact⟨b,rfl,h⟩
 | _=>exact h.elim
theorem Da.lstInv{k:List Xa->Prop}(q:Da G H L v d)(h:asL d k):∃a xs ds,v= .ref a/\SqL G H a xs/\Das G H L xs ds/\k ds:=by
 cases q with
 | lst l e r=>exact⟨_,_,_,rfl,.inl e,r,h⟩
 | scr s=>exact⟨_,_,_,rfl,s.sq,.ints _,h⟩
 | _=>exact h.elim
end
def d2I(C:Int->Int->Prop)(g:Int->Int->Xa):Xa->Xa->(Xa->Prop)->Prop:=λd e k=>asI d λi=>asI e λj=>C i j/\k (g i j)
def Zu8(g:Int->Int->Xa):Xa->Xa->(Xa->Prop)->Prop:=λd e k=>asI d λi=>asI e λj=>k (g i j)
theorem Zse{C:Int->Int->Prop}{f:Int->Int->Int}:P2s G (rI C λi j=>.int (f i j)) (d2I C λi j=>.int (f i j)):=λH L x y d e k Q hx hy h kk=>by
 obtain⟨i,rfl,h⟩:=hx.intInv h;obtain⟨j,rfl,h⟩:=hy.intInv h;exact⟨i,j,rfl,rfl,h.1,kk _ _ (.int _) h.2⟩
structure MulOk(i j:Int):Prop where
 ok:IntMulOk i j
structure Ycp(i j:Int):Prop where
 ok:DivOk i j
structure Z84(i j:Int):Prop where
 ok:Z3d i j
theorem Z65{f:Int->Int->Int}:P2s G (rI IntMulOk λi j=>.int (f i j)) (d2I MulOk λi j=>.int (f i j)):=λH L x y d e k Q hx hy h kk=>by
 obtain⟨i,rfl,h⟩:=hx.intInv h;obtain⟨j,rfl,h⟩:=hy.intInv h;exact⟨i,j,rfl,rfl,h.1.ok,kk _ _ (.int _) h.2⟩
theorem Z3u{f:Int->Int->Int}:P2s G (rI DivOk λi j=>.int (f i j)) (d2I Ycp λi j=>.int (f i j)):=λH L x y d e k Q hx hy h kk=>by
 obtain⟨i,rfl,h⟩:=hx.intInv h;obtain⟨j,rfl,h⟩:=hy.intInv h;exact⟨i,j,rfl,rfl,h.1.ok,kk _ _ (.int _) h.2⟩
theorem Zyn{f:Int->Int->Int}:P2s G (rI Z3d λi j=>.int (f i j)) (d2I Z84 λi j=>.int (f i j)):=λH L x y d e k Q hx hy h kk=>by
 obtain⟨i,rfl,h⟩:=hx.intInv h;obtain⟨j,rfl,h⟩:=hy.intInv h;exact⟨i,j,rfl,rfl,h.1.ok,kk _ _ (.int _) h.2⟩
theorem Zjq{f:Int->Int->Int}:P2s G (rI0 λi j=>.int (f i j)) (Zu8 λi j=>.int (f i j)):=λH L x y d e k Q hx hy h kk=>by
 obtain⟨i,rfl,h⟩:=hx.intInv h;obtain⟨j,rfl,h⟩:=hy.intInv h;exact⟨i,j,rfl,rfl,kk _ _ (.int _) h⟩
theorem Ztw{f:Int->Int->Bool}:P2s G (rI0 λi j=>.bl (f i j)) (Zu8 λi j=>.bool (f i j)):=λH L x y d e k Q hx hy h kk=>by
 obtain⟨i,rfl,h⟩:=hx.intInv h;obtain⟨j,rfl,h⟩:=hy.intInv h;exact⟨i,j,rfl,rfl,kk _ _ (.bl _) h⟩
def Ycr(K:Xc):R2:=λx y H Q=>∃(L L':YG->Prop) (d e:Xa),Da K H L x d/\Da K H L' y e/\Shp d/\Shp e/\Q (.bl (QJ d e)) H
def Ydi(K:Xc):R2:=λx y H Q=>∃(L L':YG->Prop) (d e:Xa),Da K H L x d/\Da K H L' y e/\Shp d/\Shp e/\Q (.bl (!QJ d e)) H
theorem Zx5(hu:X.A.units+64<cLine):OpR X (Bb .Eq) (Ycr X.K):=by
 intro pins s O H x y v u Q I rx ry h;obtain⟨L,L',d,e,h1,h2,s1,s2,q⟩:=h;obtain⟨as,k1⟩:=h1.reads rfl I rx (Ua s1);obtain⟨bs,k2⟩:=h2.reads rfl I ry (Ua s2);exact eq_dataH k1 k2 s1 s2 hu ⟨.bl _,H,I,rfl,q⟩
theorem Z78(hu:X.A.units+64<cLine):OpR X (Bb .NotEq) (Ydi X.K):=by
 intro pins s O H x y v u Q I rx ry h;obtain⟨L,L',d,e,h1,h2,s1,s2,q⟩:=h;obtain⟨as,k1⟩:=h1.reads rfl I rx (Ua s1);obtain⟨bs,k2⟩:=h2.reads rfl I ry (Ua s2);exact ne_dataH k1 k2 s1 s2 hu ⟨.bl _,H,I,rfl,q⟩
structure Z64(d:Xa):Prop where
 ok:Shp d
def dEq:Xa->Xa->(Xa->Prop)->Prop:=λd e k=>Z64 d/\Z64 e/\k (.bool (QJ d e))
def dNe:Xa->Xa->(Xa->Prop)->Prop:=λd e k=>Z64 d/\Z64 e/\k (.bool (!QJ d e))
theorem Z3r:P2s G (Ycr G) dEq:=λH L x y d e k Q hx hy h kk=>⟨L,L,d,e,hx,hy,h.1.ok,h.2.1.ok,kk _ _ (.bl _) h.2.2⟩
theorem Yab:P2s G (Ydi G) dNe:=λH L x y d e k Q hx hy h kk=>⟨L,L,d,e,hx,hy,h.1.ok,h.2.1.ok,kk _ _ (.bl _) h.2.2⟩
def Zd9:Xa->Bool
 | .none=>YD
 | _=>YF
theorem Da.isNone{d:Xa}(h:Da G H L v d):decide (v= .non)=Zd9 d:=by
 cases h<;>rfl
def Ydp:Xa->Xa->(Xa->Prop)->Prop:=λd e k=>e= .none/\k (.bool (Zd9 d))
def Z6x:Xa->Xa->(Xa->Prop)->Prop:=λd e k=>e= .none/\k (.bool (!Zd9 d))
theorem Zn3:P2s G (λx y H Q=>y= .non/\Q (.bl (decide (x= .non))) H) Ydp:=λH L x y d e k Q hx hy h kk=>by
 obtain⟨rfl,h⟩:=h;cases hy;exact⟨rfl,by rw[hx.isNone];exact kk _ _ (.bl _) h⟩
theorem Z2i:P2s G (λx y H Q=>y= .non/\Q (.bl (!decide (x= .non))) H) Z6x:=λH L x y d e k Q hx hy h kk=>by
 obtain⟨rfl,h⟩:=h;cases hy;exact⟨rfl,by rw[hx.isNone];exact kk _ _ (.bl _) h⟩
def scD:Xa->Bool
 | .none=>YD
 | .bool _=>YD
 | .int _=>YD
 | .str _=>YD
 | _=>YF
def eqS:Xa->Xa->Bool
 | .none,.none=>YD
 | .bool a,.bool b=>a==b
 | .bool a,.int b=>(if a then 1 else 0)==b
 | .int a,.bool b=>a==(if b then 1 else 0)
 | .int a,.int b=>a==b
 | .str a,.str b=>a==b
 | _,_=>YF
def memS(d:Xa)(ds:List Xa):Bool:=ds.any λe=>eqS e d
theorem Da.toSc{d:Xa}(h:Da G H L v d)(s:scD d=YD):ScD v d:=by
 cases h with
 | non=>exact .non
 | bl b=>exact .bl b
 | int i=>exact .int i
 | str x=>exact .str x
 | _=>cases s
theorem Da.sc{d:Xa}(h:Da G H L v d)(s:scD d=YD):Zg9 v=YD:=by
 cases h.toSc s<;>rfl
theorem Das.sc(h:Das G H L vs ds):ds.all scD=YD->vs.all Zg9=YD :=
 Das.ind (Q:=λvs ds=>ds.all scD=YD->vs.all Zg9=YD) (λ_=>rfl) (λh _ r s=>by
  rw[List.all_cons,XM]at s;rw[List.all_cons,h.sc s.1,r s.2];rfl) h
theorem Da.eqS{u:V}{d e:Xa}(h:Da G H L v d)(g:Da G H L u e)(s:scD d=YD)(t:scD e=YD):eqV v u=L2.eqS d e:=by
 cases h.toSc s<;>cases g.toSc t<;>rfl
theorem Das.memS{d:Xa}(h:Da G H L v d)(s:scD d=YD)(g:Das G H L vs ds):ds.all scD=YD->inV v vs=L2.memS d ds :=
 Das.ind (Q:=λvs ds=>ds.all scD=YD->inV v vs=L2.memS d ds) (λ_=>rfl) (λg _ r t=>by
  rw[List.all_cons,XM]at t;have:=r t.2;unfold inV L2.memS at*
  rw[List.any_cons,List.any_cons,this,g.eqS h t.1 s]) g
def dIn(neg:Bool):Xa->Xa->(Xa->Prop)->Prop:=λd e k=>scD d=YD/\match e with
 | .list ds=>ds.all scD=YD/\k (.bool (if neg then !memS d ds else memS d ds))
 | .tuple ds=>ds.all scD=YD/\k (.bool (if neg then !memS d ds else memS d ds))
 | _=>False
theorem Zwc{neg:Bool}:P2s G (rIn G neg) (dIn neg):=λH L x y d e k Q hx hy h kk=>by
 obtain⟨s,h⟩:=h;cases hy with
 | lst l e r=>exact⟨_,_,rfl,.inl (.inl e),hx.sc s,r.sc h.1,by rw[Das.memS hx s r h.1];exact kk _ _ (.bl _) h.2⟩
 | tup e r=>exact⟨_,_,rfl,.inr (.inl (.inl e)),hx.sc s,r.sc h.1,by rw[Das.memS hx s r h.1];exact kk _ _ (.bl _) h.2⟩
 | scr ks=>exact⟨_,_,rfl,.inl ks.sq,hx.sc s,(Das.ints (G:=G) (H:=H) (L:=L) _).sc h.1,by rw[Das.memS hx s (Das.ints (G:=G) (H:=H) (L:=L) _) h.1];exact kk _ _ (.bl _) h.2⟩
 | _=>exact h.elim
def ixD(d e:Xa):Option Xa:=match d,e with
 | .list ds,.int i=>atI ds i
 | .tuple ds,.int i=>atI ds i
 | _,_=>YC
def dIx:Xa->Xa->(OT->Prop)->Prop:=λd e k=>match ixD d e with|some x=>k (.fz x)|none=>False
theorem Das.atI{i:Int}{d:Xa}(h:Das G H L xs ds)(e:L2.atI ds i=YB d):∃x,L2.atI xs i=YB x/\Da G H L x d:=by
 unfold L2.atI at*
 rw[h.length];cases q:ixN ds.length i with
 | none=>rw[q]at e;cases e
 | some j=>
  rw[q]at e;exact h.get e
theorem Ya4:P2 G (rIx G) dIx:=λH L x y d e k Q hx hy h kk=>by
 unfold dIx at h;split at h
 case h_2=>exact h.elim
 rename_i z ez;have fin:∀v,Da G H L v z->Q v H:=λv q=>kk H v (.fz z) [] (Same.refl _) (.fz (q.wide λa l _=>⟨.inl l,λm=>nomatch m⟩)) .nil (λa m=>nomatch m) h;cases hx with
 | lst l e1 r=>
  cases hy with
  | int i=>
   obtain⟨v,e2,q⟩:=r.atI (show L2.atI _ i=YB z from ez);exact .inl ⟨_,_,i,v,rfl,rfl,.inl e1,e2,fin v q⟩
  | _=>cases ez
 | tup e1 r=>
  cases hy with
  | int i=>
   obtain⟨v,e2,q⟩:=r.atI (show L2.atI _ i=YB z from ez);exact .inr (.inl ⟨_,_,i,v,rfl,rfl,.inl (.inl e1),e2,fin v q⟩)
  | _=>cases ez
 | scr ks=>
  cases hy with
  | int i=>
   obtain⟨v,e2,q⟩:=(Das.ints (G:=G) (H:=H) (L:=L) _).atI (show L2.atI _ i=YB z from ez);exact .inl ⟨_,_,i,v,rfl,rfl,ks.sq,e2,fin v q⟩
  | _=>cases ez
 | _=>cases ez
theorem Own.list{H:Hp}{L:YG->Prop}{p:YG}{xs:List V}{ds:List Xa}(hp:H p=YC)(h:Das G H L xs ds):Own G (upd H p (.lst xs)) (λa=>(L a\/H a=YC)/\a∉[p]) (.ref p) (.nd (ds.map OT.fz)) [p] :=
 .nd Zu (((h.wide λa l q=>⟨.inl l,λm=>q (by rw[Xv.mp m];exact hp)⟩).same (Ye hp _)).owns)
theorem Zjw{p:YG}(hp:H p=YC):∀a∈[p],H a=YC:=λa m=>by rw[Xv.mp m];exact hp
theorem Znq(p:YG):[p].Nodup:=Qh.mpr ⟨λm=>(nomatch m),.nil⟩
def dCat:Xa->Xa->(OT->Prop)->Prop:=λd e k=>asL d λds=>asL e λes=>ds.length+es.length<=Xw/\k (.nd ((ds++es).map OT.fz))
theorem Zx7:P2 G (Z4d G) dCat:=λH L x y d e k Q hx hy h kk=>by
 obtain⟨a,xs,ds,rfl,e1,r1,h⟩:=hx.lstInv h;obtain⟨b,ys,es,rfl,e2,r2,h⟩:=hy.lstInv h;exact⟨a,b,xs,ys,rfl,rfl,e1,e2,by rw[r1.length,r2.length];exact h.1,λp hp=>kk _ _ _ [p] (Ye hp _) (Own.list hp (r1.append r2)) (Znq p) (Zjw hp) h.2⟩
def n1(k:Xa->Prop)(ds:List Xa):Prop:=match ds with|[d]=>k d|_=>False
def n2(k:Xa->Xa->Prop)(ds:List Xa):Prop:=match ds with|[d,e]=>k d e|_=>False
theorem Das.one{k:Xa->Prop}(q:Das G H L vs ds)(h:n1 k ds):∃v d,vs=[v]/\ds=[d]/\Da G H L v d/\k d:=by
 cases q with
 | nil=>exact h.elim
 | cons q r=>
  cases r with
  | nil=>exact⟨_,_,rfl,rfl,q,h⟩
  | cons _ _=>exact h.elim
theorem Das.two{k:Xa->Xa->Prop}(q:Das G H L vs ds)(h:n2 k ds):∃v u d e,vs=[v,u]/\ds=[d,e]/\Da G H L v d/\Da G H L u e/\k d e:=by
 cases q with
 | nil=>exact h.elim
 | cons q r=>
  cases r with
  | nil=>exact h.elim
  | cons q' r'=>
   cases r' with
   | nil=>exact⟨_,_,_,_,rfl,rfl,q,q',h⟩
   | cons _ _=>exact h.elim
def Zvr:Xa->Option Nat
 | .list ds=>YB ds.length
 | .tuple ds=>YB ds.length
 | _=>YC
def Yd2:List Xa->(Xa->Prop)->Prop:=λds k=>n1 (λd=>match Zvr d with|some n=>k (.int n)|none=>False) ds
theorem Z4p:PNs G (Yee G) Yd2:=λH L xs ds k Q hx h kk=>by
 obtain⟨v,d,rfl,rfl,q,h⟩:=hx.one h;cases q with
 | lst l e r=>exact⟨_,_,rfl,.inl (.inl e),by rw[r.length];exact kk _ _ (.int _) h⟩
 | tup e r=>exact⟨_,_,rfl,.inr (.inl (.inl e)),by rw[r.length];exact kk _ _ (.int _) h⟩
 | scr ks=>exact⟨_,_,rfl,.inl ks.sq,by rw[(Das.ints (G:=G) (H:=H) (L:=L) _).length];exact kk _ _ (.int _) h⟩
 | _=>exact h.elim
def Yed:List Xa->(Xa->Prop)->Prop:=λds k=>n1 (λd=>asI d λi=>k (.int (if i<0 then -i else i))) ds
theorem Zhk:PNs G (λxs H Q=>∃i,xs=[.int i]/\Q (.int (if i<0 then -i else i)) H) Yed:=λH L xs ds k Q hx h kk=>by
 obtain⟨v,d,rfl,rfl,q,h⟩:=hx.one h;obtain⟨i,rfl,h⟩:=q.intInv h;exact⟨i,rfl,kk _ _ (.int _) h⟩
def Ydn:List Xa->(Xa->Prop)->Prop:=λds k=>n2 (λd e=>asI d λi=>asI e λj=>k (.int (if j<i then j else i))) ds
theorem Z1i:PNs G (λxs H Q=>∃i j,xs=[.int i,.int j]/\Q (.int (if j<i then j else i)) H) Ydn:=λH L xs ds k Q hx h kk=>by
 obtain⟨v,u,d,e,rfl,rfl,q,q',h⟩:=hx.two h;obtain⟨i,rfl,h⟩:=q.intInv h;obtain⟨j,rfl,h⟩:=q'.intInv h;exact⟨i,j,rfl,kk _ _ (.int _) h⟩
def Ydu:List Xa->(Xa->Prop)->Prop:=λds k=>n1 (λd=>match d with| .int i=>k (.int i)| .bool b=>k (.int (if b then 1 else 0))|_=>False) ds
theorem Zxl:PNs G (λxs H Q=>(∃i,xs=[.int i]/\Q (.int i) H)\/∃k,xs=[.bl k]/\Q (.int (if k then 1 else 0)) H) Ydu:=λH L xs ds k Q hx h kk=>by
 obtain⟨v,d,rfl,rfl,q,h⟩:=hx.one h;cases q with
 | int i=>exact .inl ⟨i,rfl,kk _ _ (.int _) h⟩
 | bl b=>exact .inr ⟨b,rfl,kk _ _ (.int _) h⟩
 | _=>exact h.elim
def Zyf:Xa->Option (List Xa)
 | .list ds=>YB ds
 | .tuple ds=>YB ds
 | _=>YC
section
variable {a:YJ}
def Ycu(m:MEt):MEt:=λδ K=>m δ λr δ'=>asI r.data λi=>K (.fz (.int (-i))) δ'
theorem Z55(ha:ME X io p c a ma):ME X io p YD (.UnaryOp .USub a pos) (Ycu ma):=by
 obtain⟨_,A,s⟩:=ha;exact⟨_,Ybe Z63 A,λC H O δ fp ex K Q R h k=>s C H O δ fp ex _ _ R h λH' v r δ' fp' new r1 h1=>by
  obtain⟨i,rfl,h1⟩:=(r1.da R).intInv h1;exact⟨i,rfl,k H' _ _ δ' fp' [] (.fz r1.base r1.stp (.int _)) h1⟩⟩
def Zql(T:String):Xa->Bool
 | .none=>YF
 | .bool _=>T=="bool"||T=="int"
 | .int _=>T=="int"
 | .str _=>T=="str"
 | .list _=>T=="list"
 | .tuple _=>T=="tuple"
 | .dict _=>YF
def Yeh(T:String)(m:MEt):MEt:=λδ K=>m δ λr δ'=>Zim r.data=YF/\K (.fz (.bool (Zql T r.data))) δ'
end
variable {mi:MIt}{q:Nat}{tk:Tok}{gs:Zru}
section
variable {g:Array GenState}{d:Drawn}{t:Nat}{os:OsState}
theorem Z1y(M:Model)(hx:h.get? a=YB o)(hc:o.cls= .ref C):Q9 M h (typeOf (.ref a)) (.ref C):=hc▸(Q9.ld hx).andThen .now
theorem Zv9{R:Result->Xe->Prop}(X:K.In h)(Z:Zbl K C)(hx:h.get? a=YB o)(hc:o.cls= .ref C)(hq:R (.ok (.ret (.ref C))) ⟨h,g,d,t,os⟩) :
  UT (XR prog w) A (.call (.builtin "getset_descriptor.__get__") ⟨[.builtin "object.__class__",.ref a,.ref C],[]⟩) R ⟨h,g,d,t,os⟩:=by
 have L1:Q9 (XR prog w) h (isSubtype (.ref C) (.type (".".intercalate ("object.__class__".cutAt '.').dropLast))) YD:=by
  rw[F.owner_object_class];exact PySem.W.looks_subIn X Z.isO
 have T5:(⟨h,g,d,t,os⟩:Xe).TypeIs (.builtin "object.__class__") "getset_descriptor" :=F.typeOf_object_class;refine codeAny_call_builtin F.slot_gs_get.plain F.entry_gs_get (F.slot_gs_get.check _ _ _ _ _ _ _ _ T5 (F.args_gs_get _ _ _) ?_)
 repeat (any_goals (first|assumption|(with_reducible refine Vp hx ?_;rw[hc])|(with_reducible refine Xb (Q9.at L1 ?_))|(with_reducible refine Q9.at L1 ?_)|wp_step))
 refine⟨Code.quiet_builtin _ (by decide +kernel),BV F.entry_object_class ?_⟩
 repeat (any_goals (first|assumption|(with_reducible refine Vp hx ?_;rw[hc])|wp_step))
theorem Zpj{Q:Fin->Xe->Prop}(X:K.In h)(Z:Zbl K C)(hx:h.get? a=YB o)(hc:o.cls= .ref C)(hq:Q (.done (.ret (.ref C))) ⟨h,g,d,t,os⟩) :
  Xy (XR prog w) A (Ve.«object.__getattribute__» ⟨[.ref a,.str "__class__" tk],[]⟩) Q E ⟨h,g,d,t,os⟩:=by
 have T5:(⟨h,g,d,t,os⟩:Xe).TypeIs (.builtin "object.__class__") "getset_descriptor" :=F.typeOf_object_class;have g5:=F.typeOf_object_class;have g6:=F.slot_gs_get.lookup;have g7:=F.slot_gs_set.lookup;have L4:=PySem.W.looks_findIn (M:=XR prog w) X Z.cl
 repeat (any_goals (first|assumption|(with_reducible refine Vp hx ?_;rw[hc])|(with_reducible refine Xb (Q9.at L4 ?_))|(with_reducible refine Q9.at L4 ?_)|wp_step))
 refine Zv9 X Z hx hc ?_
 repeat (any_goals (first|assumption|wp_step))
theorem Zpz{nameV:Xd}{Q:Unit->Xe->Prop}(X:K.In h)(Z:Zbl K C)(hx:h.get? a=YB o)(hc:o.cls= .ref C)(hq:Q () ⟨h,g,d,t,os⟩) :
  Xy M A (checkBuiltinCall "BaseException.__getattribute__" ⟨[.ref a,nameV],[]⟩) Q E ⟨h,g,d,t,os⟩:=by
 have e1:builtinKind "BaseException.__getattribute__"=YB .slot:=by decide +kernel
 have e2:splitId "BaseException.__getattribute__"=YB ("BaseException","__getattribute__"):=by decide +kernel
 have L1:=PySem.W.looks_subIn (M:=M) X Z.isB;have e3:=F.args_bexc_ga (.ref a) nameV;simp only[checkBuiltinCall,e1,e2];refine Xb ?_;unfold isInstance
 repeat (first|(with_reducible refine Vp hx ?_;rw[hc])|(with_reducible refine Xb (Q9.at L1 ?_))|(with_reducible refine Q9.at L1 ?_)|wp_step)
 exact hq
theorem Zsl{R:Result->Xe->Prop}(X:K.In h)(Z:Zbl K C)(hx:h.get? a=YB o)(hc:o.cls= .ref C)(hq:R (.ok (.ret (.ref C))) ⟨h,g,d,t,os⟩) :
  UT (XR prog w) A (.call (.builtin "BaseException.__getattribute__") ⟨[.ref a,.str "__class__" tk],[]⟩) R ⟨h,g,d,t,os⟩ :=
 codeAny_call_builtin F.excAttr_ValueError.ga.plain F.entry_bexc_ga (Zpz X Z hx hc (Zpj X Z hx hc hq))
theorem Z0d{fill expr:Bool}(X:K.In h)(Z:Zbl K C)(hx:h.get? a=YB o)(hc:o.cls= .ref C)(hq:Q (.ref C) ⟨h,g,d,t,os⟩) :
  Xy (XR prog w) A (getAttrBy (.ref a) (.str "__class__" tk) fill expr) Q E ⟨h,g,d,t,os⟩:=by
 have f3:=F.excAttr_ValueError.ga.bind (.ref a);have y0:(expr&&onTheHeap (Value.builtin "BaseException.__getattribute__"))=YF:=by cases expr<;>rfl
 have y2:(Value.builtin "BaseException.__getattribute__"==Value.builtin "object.__getattribute__")=YF:=by decide +kernel
 have y1:(onTheHeap (Qj C)&&Value.builtin "BaseException.__getattribute__"==Value.builtin "object.__getattribute__")=YF:=by rw[y2];rfl
 have L2:=PySem.W.looks_findIn (M:=XR prog w) X Z.ga;have L3:=PySem.W.looks_findIn (M:=XR prog w) X Z.gt
 repeat (any_goals (first|assumption|(with_reducible refine Vp hx ?_;rw[hc])|(with_reducible refine Q9.at L2 ?_)|(with_reducible refine Q9.at L3 ?_)|(with_reducible refine Xb (Q9.at L2 ?_))|(with_reducible refine Xb (Q9.at L3 ?_))|wp_step))
 refine Zsl X Z hx hc ?_
 repeat (any_goals (first|assumption|wp_step))
theorem Zrw{Q:Option Xd->Xe->Prop}(X:K.In h)(Z:Zbl K C)(hx:h.get? a=YB o)(hc:o.cls= .ref C)(hq:Q (YB (.ref C)) ⟨h,g,d,t+1,os⟩) :
  Xy (XR prog w) A (getAttr? (.ref a) "__class__") Q E ⟨h,g,d,t,os⟩:=by
 unfold getAttr? getAttrBy?
 repeat (any_goals (first|assumption|with_reducible apply Z0d X Z hx hc|wp_step))
end
theorem Zj2(Z:Zbl K C):PySem.W.KitX K (.ref a) (.ref C) (λh=>∃o,h.get? a=YB o/\o.cls= .ref C) where
 ty:=λM h _ p=>let⟨_,hx,hc⟩:=p;Z1y M hx hc
 it:=λM h X _=>by
  have z:=Z.isC;unfold PySem.W.clsIn at z;split at z
  .rename_i ho
   intro A' Q' E' s' k q;unfold isType loadHead;exact Xb (wpAny_loadPart (k _ _ (X _ _ ho)) (Xo q))
  .cases z
 ne:=λh tp dd its n sl X htp=>by
  have z:=Z.isC;refine Ud.mpr λq=>?_;have e:C=tp:=Qj.inj (YZ.mp q);subst e;unfold PySem.W.clsIn at z;split at z
  .rename_i ho
   have z:=(X _ _ ho).symm.trans htp;cases z
  .cases z
 ca:=fun{_ _ _ _ _ s} X p k=>by
  obtain⟨h,g,d,t,os⟩:=s;obtain⟨_,hx,hc⟩:=p;exact Zrw X Z hx hc k
def tyD:Xa->String
 | .none=>"NoneType"
 | .bool _=>"bool"
 | .int _=>"int"
 | .str _=>"str"
 | .list _=>"list"
 | .tuple _=>"tuple"
 | .dict _=>"dict"
theorem Zyr{T:String}{d:Xa}(h:T="int"\/T="bool"\/T="str"\/T="list"\/T="tuple")(hd:∀kvs,d≠ .dict kvs):Qi K (.type (tyD d)) (.type T)=YB (Zql T d):=by
 rcases h with rfl|rfl|rfl|rfl|rfl<;>cases d<;>first|rfl|(exact YX rfl (hd _))|(unfold Qi PySem.W.kitCls;rfl)|(simp only[tyD,Zql];decide +kernel)
def Yb3(G:Xc):List V->Hp->VK->Prop:=λxs H Q=>∃(x:V) (T:String) (L:YG->Prop) (d:Xa),xs=[x,.ty T]/\Da G H L x d/\Zim d=YF/\(T="int"\/T="bool"\/T="str"\/T="list"\/T="tuple")/\Q (.bl (Zql T d)) H
theorem Zsk(hK:X.K=G):Zec X (.builtin "isinstance") (Yb3 G):=by
 subst hK;intro pins s O H xs us Q I r h;obtain⟨x,T,L,d,rfl,q,hf,hT,h⟩:=h;obtain⟨u,w',rfl,r1,r2⟩:=vals2 r;cases(show w'=Value.type T from r2);have fin:∀tk:Nat,EP X pins O Q (.bool (Zql T d)) { s with toks:=tk }:=λtk=>⟨.bl _,H,I.tok tk,rfl,h⟩;cases q with
 | non=>exact Zaz I r1 .non (Zyr (d:=.none) hT λ_ z=>by cases z) fin
 | bl b=>exact Zaz I r1 (.bl b) (Zyr (d:=.bool b) hT λ_ z=>by cases z) fin
 | int b=>exact Zaz I r1 (.int b) (Zyr (d:=.int b) hT λ_ z=>by cases z) fin
 | str b=>exact Zaz I r1 (.str b) (Zyr (d:=.str b) hT λ_ z=>by cases z) fin
 | lst l e qs=>
  rename_i ds;rcases e with e|⟨o,e⟩
  .exact Zaz I r1 (.lst e) (Zyr (d:=.list ds) hT λ_ z=>by cases z) fin
  .exact Zaz I r1 (.frz e) (Zyr (d:=.list ds) hT λ_ z=>by cases z) fin
 | tup e qs=>
  rename_i ds;exact Zaz I r1 (.tup e) (Zyr (d:=.tuple ds) hT λ_ z=>by cases z) fin
 | scr ks=>
  rename_i a ns;cases(show u=Qj a from r1);obtain⟨its,vs,⟨o,n,ho,hc,hd,hs⟩,_⟩:=I.list (ks.sq (H:=H));exact QR PySem.W.kitx_list I.kIn ⟨o,ho,hc⟩ (Zyr (d:=.list (ns.map Xl)) hT λ_ z=>by cases z) (λz=>nomatch z) fin
 | exc Z hn e=>
  rename_i a C x;cases(show u=Qj a from r1);obtain⟨⟨o,vs,ho,hc,_⟩,_,_⟩:=(show ObjOk X.prog X.w H s.heap a (.ext (ExO C a))from I.hok a _ e);refine QR (Zj2 Z) I.kIn ⟨o,ho,hc⟩ (b:=Zql T (exD x)) ?_ (λz=>nomatch z) fin;rcases hT with rfl|rfl|rfl|rfl|rfl
  .exact Z.k1
  .exact Z.k2
  .exact Z.k3
  .exact Z.k4
  .exact Z.k5
 | fn _=>cases hf
 | dic _ _ _ _=>unfold dcD Zim at hf;cases hf
section
variable {a:YJ}{m:MEt}
theorem Zpy{T:Str}{T':String}(hT:T'="int"\/T'="bool"\/T'="str"\/T'="list"\/T'="tuple")(hg:Gl X "isinstance")(hm:X.mg "isinstance"=YC)(hv:X4 "isinstance"=YB (.builtin "isinstance"))
  (hg2:Gl X T) (hm2:X.mg T=YC) (hv2:X4 T=YB (.type T')) (ha:ME X io p c a ma) (hn:T≠"__name__" :=by decide) (hd:(T==("__debug__" : Str))=YF:=by decide)
  (he:Xr [a,.Name T p2] X.env=(YF,eval a X.env)::Xr [.Name T p2] X.env:=by rfl) (he2:Xr [.Name T p2] X.env=(YF,eval (.Name T p2) X.env)::Xr [] X.env:=by rfl) (hpl:(JG pos (Xr [.Name T p2] X.env)).any (·.1)=YF:=by rfl) :
  ME X io p YD (.Call (.Name "isinstance" pp) [a,.Name T p2] [] pos) (Yeh T' ma):=by
 obtain⟨_,A,s⟩:=ha;refine⟨_,Zes (Zsk rfl) hg hm hv (Ys A (Ys (Zsq (v:=.ty T') hg2 hm2 hv2 rfl hn hd) Zdq he2) he) (by decide) (by decide) he hpl,?_⟩;intro C H O δ fp ex K' Q R h k;refine s C H O δ fp ex _ _ R h λH' v r δ' fp' new r1 h1=>?_;exact⟨v,T',_,_,rfl,r1.da R,h1.1,hT,k H' _ _ δ' fp' [] (.fz r1.base r1.stp (.bl _)) h1.2⟩
abbrev MOt:=Ze->(Option Int->Ze->Prop)->Prop
def MO(X:Cx)(io:List Nat)(p:Bool)(e:Option YJ)(m:MOt):Prop:=∃t,PO X e t/\∀(C:MC X.K) (H:Hp) (O:St) (δ:Ze) (fp:Fp) (ex:YG->Prop) (K:Option Int->Ze->Prop) (Q:Option Int->Hp->Prop),Rel C io H O δ fp ex->m δ K ->
 (∀ H' b δ' fp',Rel C io H' O δ' fp' ex->Stp p H δ fp H' δ' fp'->K b δ'->Q b H')->t O H Q
def Ztd:MOt:=λδ K=>K YC δ
def Z5b(m:MEt):MOt:=λδ K=>m δ λr δ'=>asI r.data λi=>K (YB i) δ'
theorem Zrd:MO X io YD YC Ztd:=⟨_,Z20,λC H O δ fp ex K Q R h k=>k H YC δ fp R (.refl _ _ _ _) h⟩
theorem Zr0(h:ME X io p c e m):MO X io p (YB e) (Z5b m):=by
 obtain⟨_,A,s⟩:=h;exact⟨_,Zz4 A,λC H O δ fp ex K Q R h k=>s C H O δ fp ex _ _ R h λH' v r δ' fp' new r1 h1=>by
  obtain⟨i,rfl,h1⟩:=(r1.da R).intInv h1;exact⟨i,rfl,k H' _ δ' fp' r1.base r1.stp h1⟩⟩
def cutD(ds:List Xa)(lo hi:Option Int):List Xa:=(ds.drop (HT.sIx ds.length 0 lo)).take (HT.sIx ds.length ds.length hi-HT.sIx ds.length 0 lo)
theorem Das.cut(h:Das G H L xs ds)(lo hi:Option Int):Das G H L (Z3e xs lo hi) (cutD ds lo hi):=by
 unfold Z3e cutD;rw[h.length];exact(h.drop _).take _
def mSl(m:MEt)(ml mh:MOt):MEt:=λδ K=>m δ λr δ1=>ml δ1 λlo δ2=>mh δ2 λhi δ3=>asL r.data λds=>K (.nd ((cutD ds lo hi).map OT.fz)) δ3
theorem Z8q{lo hi:Option YJ}{ml mh:MOt}(ha:ME X io YD c a ma)(hl:MO X io YD lo ml)(hh:MO X io YD hi mh):ME X io YD c (.Subscript a (.Slice lo hi YC p2) pos) (mSl ma ml mh):=by
 obtain⟨_,A,s⟩:=ha;obtain⟨_,B,sl⟩:=hl;obtain⟨_,D,sh⟩:=hh;refine⟨_,Zuq (Zup rfl) A B D,?_⟩;intro C H O δ fp ex K' Q R h k;refine s C H O δ fp ex _ _ R h λH1 v r δ1 fp1 new r1 h1=>?_;refine sl C H1 O δ1 fp1 ex _ _ r1.base h1 λH2 l δ2 fp2 R2 S2 h2=>?_;refine sh C H2 O δ2 fp2 ex _ _ R2 h2 λH3 u δ3 fp3 R3 S3 h3=>?_;have s2:Same H1 H2:=λb o e=>S2.keep b o e (.inl rfl);have s3:Same H2 H3:=λb o e=>S3.keep b o e (.inl rfl);obtain⟨e1,e2⟩:=r1.stp.env rfl;obtain⟨e3,e4⟩:=S2.env rfl;obtain⟨e5,e6⟩:=S3.env rfl;have q:=((r1.da R).same s2).same s3;obtain⟨a',xs,ds,rfl,e,qs,h3⟩:=q.lstInv h3;refine⟨a',xs,rfl,e,λp hp=>?_⟩;have S:=(r1.stp.trans S2).trans S3;refine k _ _ _ δ3 fp3 [p] (RE.tree R R3 S (Ye hp _) (Zjw hp) (Znq p) (Own.list hp ((qs.cut l u).wide λa l _=>?_))) h3;rw[e6,e4];exact l
theorem Owns.set{x:V}{r:OT}(hr:Own G H L x r []):∀{xs:List V} {ts:List OT} {as:List YG} (j:Nat),Owns G H L xs ts as->∃bs,Owns G H L (xs.set j x) (ts.set j r) bs/\bs.Sublist as
 | _,_,_,_,.nil=>⟨[],.nil,.refl _⟩
 | _,_,_,0,.cons k t=>⟨_,.cons hr t,by simp⟩
 | _,_,_,j+1,.cons (as:=as) k t=>by
  obtain⟨bs,o,s⟩:=Owns.set hr j t;exact⟨as++bs,.cons k o,Ux s as⟩
theorem Owns.get:∀{xs:List V} {ts:List OT} {as:List YG} {j:Nat} {t:OT},Owns G H L xs ts as->ts[j]? =Qn t->∃x bs,xs[j]? =Qn x/\Own G H L x t bs/\bs.Sublist as
 | _,_,_,_,_,.nil,e=>by simp at e
 | _,_,_,0,_,.cons k _,e=>by simp at e;subst e;exact⟨_,_,rfl,k,List.sublist_append_left _ _⟩
 | _,_,_,j+1,t,.cons _ r,e=>by
  obtain⟨x,bs,h1,h2,h3⟩:=Owns.get (j:=j) (t:=t) r (by simpa using e);exact⟨x,bs,by simpa using h1,h2,h3.trans (List.sublist_append_right _ _)⟩
theorem Rel.top{C:MC G}{O:St}{ts':List OT}{a':YG}{bs bs':List YG}(R:Rel C io H O δ fp ex)(hi:δ[i]? =YB (YB (.nd ts)))(hv:O[i]? =YB (YB (.ref a')))
  (hf:fp i=a'::bs) (hx:H a'=YB (.lst xs)) (o:Owns G H (Lf C fp ex) ys ts' bs') (hs:bs'.Sublist bs) :
  Rel C io (upd H a' (.lst ys)) O (δ.set i (YB (.nd ts'))) (fpu fp i (a'::bs')) ex/\Stp YF H δ fp (upd H a' (.lst ys)) (δ.set i (YB (.nd ts'))) (fpu fp i (a'::bs')):=by
 have nd:=R.nd i;rw[hf]at nd;have hn:=Qh.mp nd;have hm:a'∈fp i:=by rw[hf];exact .head _
 have ne':∀a,¬Foot fp a->a≠a':=λa h z=>h ⟨i,by rw[z];exact hm⟩;have kp:∀b o,H b=YB o->b≠a'->upd H a' (.lst ys) b=YB o:=λb o e n=>by rw[Zo n];exact e
 have sub:∀a,a∈a'::bs'->a∈fp i:=λa m=>by
  rw[hf];rcases Xi.mp m with rfl|m
  .exact .head _
  .exact .tail _ (hs.subset m)
 have o':Owns G (upd H a' (.lst ys)) (Lf C (fpu fp i (a'::bs')) (exu ex [])) ys ts' bs':=by
  have f0:∀a,¬Foot fp a->¬Foot (fpu fp i (a'::bs')) a:=λa h z=>by
   rcases z.of_u with z|⟨j,_,z⟩
   .exact h ⟨i,sub a z⟩
   .exact h ⟨j,z⟩
  have f1:∀a (zs:MuO),Lf C fp ex a->Rd H a zs.ho->Lf C (fpu fp i (a'::bs')) (exu ex []) a/\Rd (upd H a' (.lst ys)) a zs.ho:=λa zs l q=>by
   refine⟨⟨f0 a l.1,λz=>l.2.1 (Zbn.mp z),l.2.2⟩,?_⟩;rcases q with q|⟨u,q⟩
   .exact .inl (kp a _ q (ne' a l.1))
   .exact .inr ⟨u,kp a _ q (ne' a l.1)⟩
  have f2:∀a (zs:ImO),H a=YB zs.ho->upd H a' (.lst ys) a=YB zs.ho:=λa zs q=>kp a _ q λz=>ImO.nl q (z▸hx);exact o.frame f1 f2 λa m zs q=>kp a _ q λz=>hn.1 (hs.subset (z▸m))
 have key:=R.change (new:=[]) (as':=a'::bs') (t':=.nd ts') (H':=upd H a' (.lst ys)) hi hv (λb o e nb=>kp b o e λz=>nb (by rw[z];exact hm)) (λb e=>by
   by_cases q:b=a'
   .subst q;rw[Zu]at e;cases e
   .rwa[Zo q]at e) (.nd Zu o') (Qh.mpr ⟨λm=>hn.1 (hs.subset m),hn.2.sublist hs⟩) (λa m=>.inl (sub a m)) (λa m=>nomatch m)
 exact⟨key.1.drop λa z=>.inl z,key.2⟩
end
section
variable {a:YJ}{m mi mj:MEt}
theorem Rel.ownNd{C:MC G}{O:St}(R:Rel C io H O δ fp ex)(hi:δ[i]? =YB (YB (.nd ts))) :
  ∃a' xs bs,O[i]? =YB (YB (.ref a'))/\H a'=YB (.lst xs)/\Owns G H (Lf C fp ex) xs ts bs/\fp i=a'::bs:=by
 obtain⟨v,e,o⟩:=R.own i _ hi;generalize hf:fp i=as at o;cases o with
 | nd h r=>exact⟨_,_,_,e,h,r,rfl⟩
def Zkl(i:Nat)(m:MEt):MSt:=λD δ=>match δ[i]? with
 | some (YB (.nd _))=>m δ λr δ1=>match δ1[i]? with
  | some (YB (.nd ts))=>ts.length<Xw/\D.nx (δ1.set i (YB (.nd (ts++[.fz r.data]))))
  | _=>False
 | _=>False
theorem Ze1(i:Nat)(he:ME X io p YD e m)(hN:X.N[i]? =YB x:=by rfl)(hv:Vis X.env.scope x:=by first|exact Qx rfl|exact Qm (Qx rfl)|exact Qm (Qm rfl))(hd:(x==("__debug__" : Str))=YF:=by decide)
  (hcd:(x==("__classdict__" : Str))=YF:=by decide)
  (hbase:UW (.Name x px) "append" X.env (eval (.Name x px) X.env)=eval (.Name x px) X.env:=by rfl)
  (hfew:((JG cpos (Xr [e] X.env)).all (λx=>!x.1)&&(backToKw cpos (keywordEach [] X.env)).all (λx=>x.1.isSome)
   &&decide ([e].length+([]:List Uu).length+(if([]:List Uu).isEmpty then 0 else 1)<30))=YD:=by rfl)
  (hline:(apos.endLine==cpos.line)=YD:=by rfl) (hs:Xr [e] X.env=(YF,eval e X.env)::Xr [] X.env:=by rfl) (hplain:(JG cpos (Xr [] X.env)).any (·.1)=YF:=by rfl)
  (hsw:Vn (.Call (.Attribute (.Name x px) "append" apos) [e] [] cpos) YC pos.line X.env=pure YF:=by rfl) :
  MS X io (.Expr (.Call (.Attribute (.Name x px) "append" apos) [e] [] cpos) pos) (Zkl i m):=by
 obtain⟨_,A,s⟩:=he;refine⟨_,Zjk (Zzb PySem.F.plainAttrs_list PySem.F.slot_list_append PySem.F.type_list_append Zep (pv i hN hv hd hcd) (Ys A Zdq hs) hbase hfew hline hs hplain) hsw,λC H O δ fp ex D D' R h E=>?_⟩;unfold Zkl at h;split at h
 case h_2=>exact h.elim
 rename_i ts0 hi0;obtain⟨a',xs0,bs0,hv0,hx0,_,_⟩:=R.ownNd hi0;refine⟨_,hv0,.inl ⟨rfl,xs0,.inl (.inl hx0)⟩,?_⟩;refine s C H O δ fp ex _ _ R h λH1 v r δ1 fp1 new r1 h1=>?_;split at h1
 case h_2=>exact h1.elim
 rename_i ts1 hi1;have R1:=r1.base;obtain⟨a1,xs1,bs1,hv1,hx1,o1,hf1⟩:=R1.ownNd hi1;rw[hv0]at hv1;cases hv1;have q:=(r1.da R).wide (L':=Lf C fp1 ex) λa l _=>l rfl;refine⟨a',xs1,v,rfl,rfl,hx1,by rw[o1.length];exact h1.1,?_⟩;have o2:=o1.snoc (.fz q);obtain⟨R2,S2⟩:=R1.top hi1 hv0 hf1 hx1 o2 (by simp);exact E.nx _ O _ _ R2 (r1.stp.kp.trans S2.kp) h1.2
def Yc8(i:Nat)(m mi:MEt):MSt:=λD δ=>m δ λr δ1=>match δ1[i]? with
 | some (YB (.nd ts))=>mi δ1 λn _=>asI n.data λk=>match ixN ts.length k with
  | some j=>D.nx (δ1.set i (YB (.nd (ts.set j (.fz r.data)))))
  | none=>False
 | _=>False
def Z3m(i:Nat)(m mi mj:MEt):MSt:=λD δ=>m δ λr δ1=>match δ1[i]? with
 | some (YB (.nd ts))=>mi δ1 λn _=>asI n.data λk=>match ixN ts.length k with
  | some j=>match ts[j]? with
   | some (.nd us)=>mj δ1 λn' _=>asI n'.data λk'=>match ixN us.length k' with
    | some j'=>D.nx (δ1.set i (YB (.nd (ts.set j (.nd (us.set j' (.fz r.data)))))))
    | none=>False
   | _=>False
  | none=>False
 | _=>False
theorem SE.pureAfter{t:TE}{C:MC G}{O:St}{K':OT->Ze->Prop}{Q:VK}(s:SE G io YD c t m)(R:Rel C io H O δ fp ex)(h:m δ K')(k:∀H' v r,Rel C io H' O δ fp ex->Same H H'->Da G H' (λa=>c=YD->Lf C fp ex a) v r.data->K' r δ->Q v H'):t O H Q :=
 s C H O δ fp ex _ _ R h λH1 v r δ1 fp1 new r1 h1=>by
  obtain⟨e1,e2⟩:=r1.stp.env rfl;have q:=r1.da R;have R1:=r1.base;rw[e1]at R1 h1;rw[e2]at R1 q;exact k H1 v r R1 (λb o e=>r1.stp.keep b o e (.inl rfl)) q h1
theorem Zyz(i:Nat)(he:ME X io p YD e m)(hj:ME X io YD c a mi)(hN:X.N[i]? =YB x:=by rfl)(hv:Vis X.env.scope x:=by first|exact Qx rfl|exact Qm (Qx rfl)|exact Qm (Qm rfl))(hd:(x==("__debug__" : Str))=YF:=by decide)
  (hcd:(x==("__classdict__" : Str))=YF:=by decide)
  (hpg:∀{to ti:TE},PE X (.Name x px) to->PE X a ti->PG X (.Subscript (.Name x px) a pp) (Ybt to ti Z13):=by intro _ _ A B;exact Zy7 A B set_list)
  (hs:swapsWithSole [.Subscript (.Name x px) a pp] e pos.line X.env=pure YF:=by rfl) (hw:swappedStores [.Subscript (.Name x px) a pp] e X.env=pure YC:=by rfl)
  (h1:(JH [.Subscript (.Name x px) a pp] X.env).map (·.2)=[Ut (.Subscript (.Name x px) a pp) X.env]:=by rfl):MS X io (.Assign [.Subscript (.Name x px) a pp] e pos) (Yc8 i m mi):=by
 obtain⟨_,A,s⟩:=he;obtain⟨_,B,sj⟩:=hj;refine⟨_,Zxt A (hpg (pv i hN hv hd hcd) B) hs hw h1,λC H O δ fp ex D D' R h E=>?_⟩;refine s C H O δ fp ex _ _ R h λH1 v r δ1 fp1 new r1 h1=>?_;have R1:=r1.base;have q:=(r1.da R).wide (L':=Lf C fp1 ex) λa l _=>l rfl;split at h1
 case h_2=>exact h1.elim
 rename_i ts hi;obtain⟨a',_,_,hv0,_⟩:=R1.ownNd hi;refine⟨_,hv0,?_⟩;refine sj.pureAfter R1 h1 λH2 w n R2 s2 q2 h2=>?_;obtain⟨k,rfl,h2⟩:=q2.intInv h2;split at h2
 case h_2=>exact h2.elim
 rename_i j hj;obtain⟨a2,xs,bs,hv2,hx,o,hf⟩:=R2.ownNd hi;rw[hv0]at hv2;cases hv2;obtain⟨bs',o',hs'⟩:=Owns.set (.fz (q.same s2)) j o;refine⟨a',xs,k,j,rfl,rfl,hx,by rw[o.length];exact hj,?_⟩;obtain⟨R3,S3⟩:=R2.top hi hv0 hf hx o' hs';exact E.nx _ O _ _ R3 (r1.stp.kp.trans (Kp.trans ⟨λb o e _=>s2 _ _ e,λz=>(nomatch z),λa z=>.inl z,s2.al⟩ S3.kp)) h2
theorem Owns.deep{b':YG}{ws ws':List V}{us us':List OT}(hb:H b'=Qn (HO.lst ws))(hL:¬L b')(hc:∀cs,Owns G H L ws us cs->∃cs',Owns G H L ws' us' cs'/\cs'.Sublist cs) :
  ∀{xs:List V} {ts:List OT} {as:List YG} {j:Nat},Owns G H L xs ts as->as.Nodup->xs[j]? =Qn (.ref b')->ts[j]? =Qn (.nd us)->∃as',Owns G (upd H b' (.lst ws')) L xs (ts.set j (.nd us')) as'/\as'.Sublist as/\b'∈as
 | _,_,_,_,.nil,_,e,_=>by simp at e
 | _,_,_,0,.cons (as:=as) (bs:=bs) k t,nd,e,e'=>by
  simp at e e';subst e e';have nd':=JS.mp nd;have kp:∀a o,a≠b'->H a=Qn o->upd H b' (.lst ws') a=Qn o:=λa o n q=>by rw[Zo n];exact q
  have f1:∀a (zs:MuO),L a->Rd H a zs.ho->L a/\Rd (upd H b' (.lst ws')) a zs.ho:=λa zs l q=>⟨l,by
   have na:a≠b':=λz=>hL (z▸l);rcases q with q|⟨u,q⟩
   .exact .inl (kp a _ na q)
   .exact .inr ⟨u,kp a _ na q⟩⟩
  have f2:∀a (zs:ImO),H a=Qn zs.ho->upd H b' (.lst ws') a=Qn zs.ho:=λa zs q=>kp a _ (λz=>ImO.nl q (z▸hb)) q;cases k with
  | nd h r=>
   rename_i xs0 as0;rw[hb]at h;cases h;have nd2:=Qh.mp nd'.1;obtain⟨cs',o',s'⟩:=hc _ r;refine⟨b'::cs'++bs,.cons (.nd Zu (o'.frame f1 f2 λa m zs q=>kp a _ (λz=>nd2.1 (s'.subset (z▸m))) q)) (t.frame f1 f2 λa m zs q=>kp a _ (λz=>nd'.2.2 b' (.head _) a m z.symm) q),List.Sublist.append_right (List.Sublist.cons₂ _ s') bs,JL _ (.head _)⟩
 | _,_,_,j+1,.cons (as:=as) (bs:=bs) k t,nd,e,e'=>by
  have nd':=JS.mp nd;obtain⟨as',o,s,m⟩:=Owns.deep hb hL hc (j:=j) t nd'.2.1 (by simpa using e) (by simpa using e');have nb:b'∉as:=λz=>nd'.2.2 b' z b' m rfl;refine⟨as++as',.cons ?_ o,Ux s as,XJ _ m⟩;have kp:∀a o,a≠b'->H a=Qn o->upd H b' (.lst ws') a=Qn o:=λa o n q=>by rw[Zo n];exact q
  refine k.frame (λa zs l q=>⟨l,?_⟩) (λa zs q=>kp a _ (λz=>ImO.nl q (z▸hb)) q) λa m' zs q=>kp a _ (λz=>nb (z▸m')) q;have na:a≠b':=λz=>hL (z▸l);rcases q with q|⟨u,q⟩
  .exact .inl (kp a _ na q)
  .exact .inr ⟨u,kp a _ na q⟩
theorem Zd1(i:Nat)(he:ME X io p YD e m)(hj:ME X io YD c a mi)(hk:ME X io YD c' b mj)(hPa:Zkj a)(hN:X.N[i]? =YB x:=by rfl)(hv:Vis X.env.scope x:=by first|exact Qx rfl|exact Qm (Qx rfl)|exact Qm (Qm rfl))(hd:(x==("__debug__" : Str))=YF:=by decide)
  (hcd:(x==("__classdict__" : Str))=YF:=by decide)
  (hpg:∀{to ti:TE},PE X (.Subscript (.Name x px) a pp) to->PE X b ti->PG X (.Subscript (.Subscript (.Name x px) a pp) b p2) (Ybt to ti Z13):=by intro _ _ A B;exact Zy7 A B set_list)
  (hs:swapsWithSole [.Subscript (.Subscript (.Name x px) a pp) b p2] e pos.line X.env=pure YF:=by rfl) (hw:swappedStores [.Subscript (.Subscript (.Name x px) a pp) b p2] e X.env=pure YC:=by rfl)
  (h1:(JH [.Subscript (.Subscript (.Name x px) a pp) b p2] X.env).map (·.2)=[Ut (.Subscript (.Subscript (.Name x px) a pp) b p2) X.env]:=by rfl) :
  MS X io (.Assign [.Subscript (.Subscript (.Name x px) a pp) b p2] e pos) (Z3m i m mi mj):=by
 obtain⟨_,A,s⟩:=he;obtain⟨_,B,sj⟩:=hj;obtain⟨_,B2,sk⟩:=hk;refine⟨_,Zxt A (hpg (Z28 (Zwi rfl) (pv i hN hv hd hcd) B hPa) B2) hs hw h1,λC H O δ fp ex D D' R h E=>?_⟩;refine s C H O δ fp ex _ _ R h λH1 v r δ1 fp1 new r1 h1=>?_;have R1:=r1.base;have q:=(r1.da R).wide (L':=Lf C fp1 ex) λa l _=>l rfl;split at h1
 case h_2=>exact h1.elim
 rename_i ts hi;obtain⟨a',_,_,hv0,_⟩:=R1.ownNd hi;refine⟨_,hv0,?_⟩;refine sj.pureAfter R1 h1 λH2 w n R2 s2 q2 h2=>?_;obtain⟨k,rfl,h2⟩:=q2.intInv h2;split at h2
 case h_2=>exact h2.elim
 rename_i j hj;split at h2
 case h_2=>exact h2.elim
 rename_i us hus
 -- the row
 obtain⟨a2,xs2,bs2,hv2,hx2,o2,hf2⟩:=R2.ownNd hi;rw[hv0]at hv2;cases hv2;obtain⟨xr,cr,hxr,orow,_⟩:=o2.get hus;obtain⟨b',rfl⟩:∃b',xr=V.ref b':=by
  cases orow with
  | nd h r=>exact⟨_,rfl⟩
 refine⟨a',xs2,k,V.ref b',rfl,rfl,.inl (.inl hx2),?_,?_⟩
 .unfold atI
  rw[o2.length,hj];exact hxr
 refine sk.pureAfter R2 h2 λH3 w' n' R3 s3 q3 h3=>?_;obtain⟨k',rfl,h3⟩:=q3.intInv h3;split at h3
 case h_2=>exact h3.elim
 rename_i j' hj';obtain⟨a3,xs3,bs3,hv3,hx3,o3,hf3⟩:=R3.ownNd hi;rw[hv0]at hv3;cases hv3;have exs:xs3=xs2:=by
  have:=s3 _ _ hx2;rw[hx3]at this;cases this;rfl
 subst exs;obtain⟨xr3,cr3,hxr3,orow3,hsub3⟩:=o3.get hus;rw[hxr]at hxr3;cases hxr3;have nd3:=R3.nd i;rw[hf3]at nd3;have hn3:=Qh.mp nd3;cases orow3 with
 | nd hb r3=>
  rename_i ws3 bs4;have hbm:b'∈bs3:=hsub3.subset (.head _);have hbf:b'∈fp1 i:=by rw[hf3];exact .tail _ hbm
  have hLb:¬Lf C fp1 ex b':=λl=>l.1 ⟨i,hbf⟩;obtain⟨as',oo,ss,_⟩:=Owns.deep (ws':=ws3.set j' v) (us':=us.set j' (.fz r.data)) hb hLb (λcs hcs=>Owns.set (.fz ((q.same s2).same s3)) j' hcs) o3 hn3.2 hxr hus;refine⟨b',ws3,k',j',rfl,rfl,hb,by rw[r3.length];exact hj',?_⟩;have hba:a'≠b':=λz=>hn3.1 (z▸hbm)
  -- the change
  have sub:∀a,a∈a'::as'->a∈fp1 i:=λa m=>by
   rw[hf3];rcases Xi.mp m with rfl|m
   .exact .head _
   .exact .tail _ (ss.subset m)
  have kp:∀b o,H3 b=YB o->b≠b'->upd H3 b' (.lst (ws3.set j' v)) b=YB o:=λb o e n=>by rw[Zo n];exact e
  have lw:∀a,Lf C fp1 ex a->upd H3 b' (.lst (ws3.set j' v)) a≠YC->Lf C (fpu fp1 i (a'::as')) (exu ex []) a:=λa l _=>⟨λz=>by
   rcases z.of_u with z|⟨j,_,z⟩
   .exact l.1 ⟨i,sub a z⟩
   .exact l.1 ⟨j,z⟩,λz=>l.2.1 (Zbn.mp z),l.2.2⟩
  obtain⟨R4,S4⟩:=R3.change (new:=[]) (as':=a'::as') (t':=.nd (ts.set j (.nd (us.set j' (.fz r.data))))) (H':=upd H3 b' (.lst (ws3.set j' v))) hi hv0 (λb o e nb=>kp b o e λz=>nb (by rw[z];exact hbf)) (λb e=>by
    by_cases q:b=b'
    .subst q;rw[Zu]at e;cases e
    .rwa[Zo q]at e) (.nd (by rw[Zo hba];exact hx3) (oo.wide lw)) (Qh.mpr ⟨λm=>hn3.1 (ss.subset m),hn3.2.sublist ss⟩) (λa m=>.inl (sub a m)) (λa m=>nomatch m)
  have k23:Kp H1 fp1 H3 fp1:=⟨λb o e _=>s3 _ _ (s2 _ _ e),λz=>(nomatch z),λa z=>.inl z,λb e=>s2.al b (s3.al b e)⟩;exact E.nx _ O _ _ (R4.drop λa z=>.inl z) (r1.stp.kp.trans (k23.trans S4.kp)) h3
end
mutual
def Z27:OT->Bool
 | .fz d=>Za7 d
 | .nd ts=>Zrs ts
 | .tp ts=>Zrs ts
 | .dc _ _ _=>YF
def Zrs:List OT->Bool
 | []=>YD
 | t::ts=>Z27 t&&Zrs ts
end
section
variable {m:MEt}
end
def Z8m(ds:List Xa)(k:OT->Prop):Prop:=∃ns:List Int,ds=[.list (ns.map Xl)]/\ns.length<=63/\k (.fz (.bool YD))
theorem Z6d{E:XK}(hl:ns.length<=63)(h:SqL G H a (ns.map V.int)):spD G Z8m [.ref a] H (λv _=>v= .bl YD) E:=by
 refine⟨λ_=>True,[.list (ns.map Xl)],λr=>r= .fz (.bool YD),.cons ?_ .nil,⟨ns,rfl,hl,rfl⟩,λr v H' new kr s o _ _=>?_⟩
 .rcases h with h|h
  .exact .lst trivial h (.ints ns)
  .exact .scr h
 .subst kr
  cases o with
  | fz q=>cases q;rfl
section
variable {base:YH}{n:Nat}{f:YG}{fd:XF}
theorem Da.ints_sq(h:Da G H L v (.list (ns.map Xl))):∃a,v= .ref a/\SqL G H a (ns.map V.int):=by
 generalize e:JB (ns.map Xl)=d at h;cases h with
 | lst l e1 r=>
  cases e;rw[r.int_inv]at e1;exact⟨_,rfl,.inl e1⟩
 | scr k=>
  rename_i a ms;have e':=PyData.list.inj e;have:ns=ms:=(List.map_inj_right (λ_ _ h=>by cases h;rfl)).mp e';subst this;exact⟨_,rfl,k.sq⟩
 | _=>cases e
end
@[simp] theorem Zef:OT.datas []=[]:=rfl
@[simp] theorem Zdk(t:OT)(ts:List OT):OT.datas (t::ts)=t.data::OT.datas ts:=rfl
theorem Zlm{xs:List Y}{i:Int}(h0:0<=i):atI xs i=xs[i.toNat]?:=by
 unfold atI ixN;rw[YL h0];split
 .rfl
 .rename_i h
  symm;exact Q6.mpr (by omega)
theorem Zqx{xs:List Y}:atI xs (i:Int)=xs[i]?:=by
 rw[Zlm (by omega),XX]
@[simp] theorem Ye4{Y:Type}(x:Y)(xs:List Y):atI (x::xs) 0=YB x:=by
 rw[Zlm (by decide)];rfl
@[simp] theorem Yfa{Y:Type}(x y:Y)(xs:List Y):atI (x::y::xs) 1=YB y:=by
 rw[Zlm (by decide)];rfl
@[simp] theorem Yfi{Y:Type}(x y z:Y)(xs:List Y):atI (x::y::z::xs) 2=YB z:=by
 rw[Zlm (by decide)];rfl
@[simp] theorem Z9o(ds:List Xa)(i:Int):ixD (.list ds) (.int i)=atI ds i:=rfl
@[simp] theorem Yaj(ds:List Xa)(i:Int):ixD (.tuple ds) (.int i)=atI ds i:=rfl
@[simp] theorem Z6i(ds:List Xa):Zvr (.list ds)=YB ds.length:=rfl
@[simp] theorem Z9j(ds:List Xa):Zvr (.tuple ds)=YB ds.length:=rfl
def Zk1(r:List Rat):Xa:=.list (r.map frD)
def tbD(T:List (List Rat)):Xa:=.list (T.map Zk1)
def Z95(r:List Rat):OT:=.nd (r.map λq=>.fz (frD q))
def tbT(T:List (List Rat)):OT:=.nd (T.map Z95)
@[simp] theorem Ztb(r:List Rat):(Z95 r).data=Zk1 r:=by
 unfold Z95 Zk1;rw[OT.data_nd,Qu];rfl
@[simp] theorem Z85(T:List (List Rat)):(tbT T).data=tbD T:=by
 unfold tbT tbD;rw[OT.data_nd,Qu];exact YT JB (XH λr _=>Ztb r)
def dd(T:List (List Rat))(i j:Nat):Rat:=(T.getD i []).getD j 0
@[simp] theorem Ycg(T:List (List Rat)):Zvr (tbD T)=YB T.length:=by unfold tbD Zvr;simp
@[simp] theorem Z9e(r:List Rat):Zvr (Zk1 r)=YB r.length:=by unfold Zk1 Zvr;simp
@[simp] theorem Z98(q:Rat):Za7 (frD q)=YD:=by unfold frD fr;simp[Za7,Zmi]
theorem Zts{n a:Nat}(h:a<n):ixN n (a:Int)=YB a:=by
 unfold ixN;rw[YL (by omega),YL (by omega)];simp
theorem Zk5:∀(r:List Rat),Ju (r.map frD)=YD
 | []=>rfl
 | q::r=>by
  show Ju (frD q::r.map frD)=YD;rw[Ju,Zk5 r];rfl
theorem Zl5:∀(T:List (List Rat)),Ju (T.map Zk1)=YD
 | []=>rfl
 | r::T=>by
  show Ju (Zk1 r::T.map Zk1)=YD;rw[Ju,Zl5 T,V4];unfold Zk1;rw[Yd];exact Zk5 r
theorem Zxa(T:List (List Rat)):Yd (tbD T)=YD:=by
 unfold tbD;rw[Yd];exact Zl5 T
theorem Znp{d:Xa}(h:Yd d=YD):QJ d d=YD:=Zyx h h rfl
structure Sh(n:Nat)(d:Xa):Prop where
 lay:Bv d=YD
 dep:PyData.depth d<=n
theorem Sh.shp{n:Nat}{d:Xa}(h:Sh n d)(hn:n<=64:=by decide):Z64 d:=⟨by
 show(Bv d&&decide (PyData.depth d<=64))=YD;rw[h.lay,YQ (Q7 h.dep hn)];rfl⟩
theorem Zl9{n:Nat}:∀{ds:List Xa},(∀d∈ds,Sh n d)->Bf ds=YD/\PyData.depthAll ds<=n
 | [],_=>⟨by rw[Bf],by rw[PyData.depthAll];exact QG _⟩
 | d::ds,h=>by
  obtain⟨h1,h2⟩:=Zl9 λe m=>h e (.tail _ m);have h3:=h d (.head _);refine⟨by rw[Bf,h3.lay,h1];rfl,?_⟩;rw[PyData.depthAll];exact Nat.max_le.mpr ⟨h3.dep,h2⟩
theorem Zkr{n:Nat}(h:∀d∈ds,Sh n d):Sh (n+1) (.list ds) :=
 ⟨by rw[Bv];exact(Zl9 h).1,by rw[PyData.depth];exact Nat.succ_le_succ (Zl9 h).2⟩
theorem Zou{n:Nat}(h:∀d∈ds,Sh n d):Sh (n+1) (.tuple ds) :=
 ⟨by rw[Bv];exact(Zl9 h).1,by rw[PyData.depth];exact Nat.succ_le_succ (Zl9 h).2⟩
theorem Zt1(i:Int):Sh 0 (.int i):=⟨rfl,Nat.le_of_eq rfl⟩
theorem Ybw(q:Rat):Sh 1 (frD q):=Zou λd m=>by
 simp at m;rcases m with rfl|rfl<;>exact Zt1 _
theorem Z8y(r:List Rat):Sh 2 (Zk1 r):=Zkr λd m=>by
 obtain⟨q,_,rfl⟩:=Qe.mp m;exact Ybw q
theorem Yag(T:List (List Rat)):Sh 3 (tbD T):=Zkr λd m=>by
 obtain⟨q,_,rfl⟩:=Qe.mp m;exact Z8y q
section
variable {O:St}
theorem Inv.turnTup{T:YG}{its:List Xd}(I:Inv X pins O H s)(f:∀b∈ch,Zi4 X pins H b)(k:∀b o,b∉ch->s.heap.get? b=YB o->h'.get? b=YB o)
  (th:∀b∈ch,∃o,h'.get? b=YB o) (hT:s.heap.objs.size<=T) (hz:xs.length<=Xw) (r:Vals xs its) (ht:IsTup h' T its.toArray):Inv X pins O (upd H T (.tup xs)) { s with heap:=h' }:=by
 have hn:H T=YC:=I.hok.fresh hT;have nch:∀b u,H b=YB u->b∉ch:=λb u e z=>by rw[(f b z).1]at e;cases e
 have new:ObjOk X.prog X.w (upd H T (.tup xs)) h' T (.tup xs):=⟨hz,its,r,ht⟩;refine I.call (ch:=ch) (g':=s.gens) (d':=s.drawn) (t':=s.toks) ⟨λb o e _ _ hc=>k b o hc e,λb o e _ _ hc=>⟨o.slots,k b o hc e⟩,λb o e n _=>?_,λb o e hc=>?_,λb ys e=>?_,λb o u e=>?_,λb ps e=>?_⟩ (λb u e=>?_) I.bare (λb hb=>?_)
 .rw[Zo (λz=>by rw[z]at e;exact YX (Xz e) (Nat.not_lt.mpr hT))];exact n
 .exact⟨o,k b o hc e⟩
 .rw[Zo (Yt e hn)];exact e
 .rw[Zo (Yt e hn)];exact e
 .exact⟨#[],by rw[Zo (Yt e hn),e];simp⟩
 .by_cases hb:b=T
  .subst hb;rw[Zu]at e;cases e;exact new
  .rw[Zo hb]at e
   refine(I.hok b u e).stay (λc v hc q=>k c v ?_ q) (λc q=>by rw[Zo (Yt q hn)];exact q) λc ys q=>by rw[Zo (Yt q hn)];exact q
   rcases hc with rfl|hc
   .exact nch _ _ e
   .exact nch _ _ hc
 .obtain⟨f0,f1,f2,f3,f4,f5⟩:=f b hb
  exact⟨f3,f1,f4,f5⟩
theorem Inv.turnAll(I:Inv X pins O H s)(f:∀b∈ch,Zi4 X pins H b)(k:∀b o,b∉ch->s.heap.get? b=YB o->h'.get? b=YB o):Inv X pins O H { s with heap:=h' }:=by
 have nch:∀b u,H b=YB u->b∉ch:=λb u e z=>by rw[(f b z).1]at e;cases e
 refine I.call (ch:=ch) (g':=s.gens) (d':=s.drawn) (t':=s.toks) ⟨λb o e _ _ hc=>k b o hc e,λb o e _ _ hc=>⟨o.slots,k b o hc e⟩,λb o e n _=>n,λb o e hc=>⟨o,k b o hc e⟩,λb ys e=>e,λb o u e=>e,λb ps e=>⟨#[],by rw[e];simp⟩⟩ (λb u e=>?_) I.bare (λb hb=>?_)
 .refine(I.hok b u e).stay (λc v hc q=>k c v ?_ q) (λc q=>q) λc ys q=>q
  rcases hc with rfl|hc
  .exact nch _ _ e
  .exact nch _ _ hc
 .obtain⟨f0,f1,f2,f3,f4,f5⟩:=f b hb
  exact⟨f3,f1,f4,f5⟩
end
section
variable {a:YJ}{m:MEt}
theorem Rel.keptList{C:MC G}{H:Hp}{O:St}{δ:Ze}{fp:Fp}{ex:YG->Prop}{v:V}{ds:List Xa}(R:Rel C io H O δ fp ex)(q:Da G H (λa=>c=YD->Lf C fp ex a) v (.list ds)) :
  ∃a xs,v= .ref a/\∀H':Hp,(∀b o,H b=YB o->(c=YF\/¬Foot fp b)->H' b=YB o)->SqL G H' a xs/\Das G H' (λa=>c=YD->(Lf C fp ex a/\H a≠YC)) xs ds:=by
 generalize hd:JB ds=d at q;cases q with
 | lst l e r=>
  cases hd;rename_i a0 xs0;refine⟨a0,xs0,rfl,λH' kp=>?_⟩;obtain⟨f1,f2⟩:=R.kept kp;exact⟨.inl (f1 _ (.lst _) l e).2,r.frame f1 f2⟩
 | scr k=>
  rename_i a ns;have:=PyData.list.inj hd;subst this;exact⟨a,_,rfl,λH' _=>⟨k.sq,.ints ns⟩⟩
 | _=>cases hd
def Zmj(as bs:List Xa):List Xa:=(as.zip bs).map λx=>.tuple [x.1,x.2]
theorem Zwq{as bs:List Xa}{d:Xa}(h:(Zmj as bs)[i]? =YB d):∃x y,as[i]? =YB x/\bs[i]? =YB y/\d= .tuple [x,y]:=by
 unfold Zmj at h;rw[Xp]at h;cases e:(as.zip bs)[i]? with
 | none=>rw[e]at h;cases h
 | some z=>
  rw[e]at h;cases h;obtain⟨h1,h2⟩:=List.getElem?_zip_eq_some.mp e;exact⟨z.1,z.2,h1,h2,rfl⟩
theorem Ztz{as bs:List Xa}(h:(Zmj as bs)[i]? =YC):as.length<=i\/bs.length<=i:=by
 unfold Zmj at h;have:=Q6.mp h;simp at this;omega
@[simp] theorem Z2y(as bs:List Xa):(Zmj as bs).length=min as.length bs.length:=by simp[Zmj]
end
section
variable {c1 c2 c3:Bool}{a:YJ}{mc:MEt}{f g:Int->Int->Bool}
def Zow(f g:Int->Int->Bool)(ma mb mc:MEt):MEt:=λδ K=>ma δ λx δ1=>mb δ1 λy δ2=>asI x.data λi=>asI y.data λj=>if f i j=YD then mc δ2 λz δ3=>asI z.data λk=>K (.fz (.bool (g j k))) δ3 else K (.fz (.bool YF)) δ2
theorem Z6q(ha:SE G io YD c1 ta ma)(hb:SE G io YD c2 tb mb)(hc:SE G io YD c3 tc mc):SE G io YD YD (Zxs (rI0 λi j=>.bl (f i j)) (rI0 λi j=>.bl (g i j)) ta tb tc) (Zow f g ma mb mc):=by
 intro C H O δ fp ex K Q R h k;refine ha.pureAfter R h λH1 x u R1 s1 q1 h1=>?_;refine hb.pureAfter R1 h1 λH2 y v R2 s2 q2 h2=>?_;obtain⟨i,rfl,h2⟩:=q1.intInv h2;obtain⟨j,rfl,h2⟩:=q2.intInv h2;refine⟨i,j,rfl,rfl,f i j,rfl,?_⟩
 by_cases hf:f i j=YD
 .rw[YL hf]at h2|-
  refine hc.pureAfter R2 h2 λH3 z w R3 s3 q3 h3=>?_;obtain⟨l,rfl,h3⟩:=q3.intInv h3;have s13:Same H H3:=(s1.trans s2).trans s3;exact⟨j,l,rfl,rfl,k H3 _ _ δ fp [] (.fz R3 (.same s13 s13.al) (.bl _)) h3⟩
 .rw[YM hf]at h2|-
  have s12:Same H H2:=s1.trans s2;exact k H2 _ _ δ fp [] (.fz R2 (.same s12 s12.al) (.bl _)) h2
theorem Zjx{op':CmpOp}(ho:OpR X (Bb op) (rI0 λi j=>.bl (f i j)))(ho':OpR X (Bb op') (rI0 λi j=>.bl (g i j)))(ha:ME X io YD c1 a ma)(hb:ME X io YD c2 b mb)(hc:ME X io YD c3 e mc)
  (hm:lastMarks [op,op'] [b,e]=YF:=by with_unfolding_all rfl):MT X io YD (.Compare a [op,op'] [b,e] pos) (λδ K=>Zow f g ma mb mc δ (kB K)):=by
 obtain⟨_,A,sa⟩:=ha;obtain⟨_,B,sb⟩:=hb;obtain⟨_,D,sc⟩:=hc;exact⟨_,Zwl ho ho' A B D hm,Z75 (Z6q sa sb sc)⟩
end
theorem Zi3:∀{ns:List Int} {its:List Xd},Vals (ns.map V.int) its->∃xs:List (Int×Tok),its=xs.map (λp=>Vt p.1 p.2)/\xs.map (·.1)=ns
 | [],_,.nil=>⟨[],rfl,rfl⟩
 | n::ns,_,.cons r rs=>by
  obtain⟨t,e⟩:=(show∃t,_=Vt n t from r);obtain⟨xs,h1,h2⟩:=Zi3 rs;exact⟨(n,t)::xs,by rw[e,h1];rfl,by rw[Qq,h2]⟩
section
variable {a:YJ}{m:MEt}{pl:Pos}
end
def Z0k:List V->Hp->VK->Prop:=λvs H Q=>∃j:Int,vs=[.int j]/\∀r,H r=YC->Q (.ref r) (upd H r (.rng 0 j))
theorem Zsh:Zec X (.type "range") Z0k:=by
 intro pins s O H vs us Q I r h;obtain⟨j,rfl,q⟩:=h;obtain⟨u,rfl,t,rfl⟩:=vals1 r;refine call_range_1 ?_;exact⟨.ref s.heap.objs.size,_,I.laid (o:=.rng 0 j) (λb o e=>Xf _ e) (XQ _) ⟨_,_,_,Xx _ rfl⟩,rfl,q _ I.fresh⟩
def Zxg(lo:Int)(n:Nat):List V:=(Xu n).map λ(i:Nat)=>V.int (lo+(i:Int))
def Zu6:List V->Hp->VK->Prop:=λvs H Q=>∃r lo hi,vs=[.ref r]/\H r=YB (.rng lo hi)/\(-(2^62)<=lo/\lo<2^62/\-(2^62)<=hi/\hi<2^62)/\(hi-lo).toNat<=Xw/\∀l,H l=YC->Q (.ref l) (upd H l (.lst (Zxg lo (hi-lo).toNat)))
theorem Zl2(lo:Int)(n:Nat):Zxg lo (n+1)= .int lo::Zxg (lo+1) n:=by
 unfold Zxg;rw[List.range_succ_eq_map,Qq,Qu];congr 1
 .simp
 .refine XH λi _=>?_
  show V.int (lo+((i+1:Nat):Int))=V.int (lo+1+(i:Int));congr 1;omega
theorem Zn0:∀(acc:List Xd) (lo:Int),(∀(i:Nat) (v:Xd),acc[i]? =YB v->∃t,v=Vt (lo+i) t)->Vals (Zxg lo acc.length) acc
 | [],_,_=>.nil
 | v::acc,lo,h=>by
  rw[QZ,Zl2];obtain⟨t,e⟩:=h 0 v rfl;refine .cons ⟨t,by rw[e];simp⟩ (Zn0 acc (lo+1) λi w hw=>?_);obtain⟨t',e'⟩:=h (i+1) w (by simpa using hw);refine⟨t',?_⟩;rw[e'];congr 1;omega
theorem Zkf(hc:X.calm=YD):Zec X (.type "list") Zu6:=by
 intro pins s O H vs us Q I r h;obtain⟨a,lo,hi,rfl,e,hb,hz,q⟩:=h;obtain⟨u,rfl,ru⟩:=vals1 r;cases(show u=Qj a from ru);obtain⟨t,u',v,e1⟩:=(show ObjOk X.prog X.w H s.heap a (.rng lo hi)from I.hok a _ e);refine call_list_range (n:=(hi-lo).toNat) (I.ok.hd hc) e1 ?_ ?_ hz λh' tk acc c' hk hS hacc=>?_
 .exact small_one hb.1 hb.2.1 hb.2.2.1 hb.2.2.2
 .rw[rangeSize_one];split<;>omega
 .refine⟨.ref s.heap.objs.size,_,I.laid (o:=.lst (Zxg lo (hi-lo).toNat)) (t':=tk) hk (XQ _) ⟨?_,acc.toList,c',?_,by simpa using hS⟩,rfl,q _ I.fresh⟩
  .simp[Zxg];omega
  .have:=Zn0 acc.toList lo λi v hv=>by
    obtain⟨t,e⟩:=hacc.2 i v (by simpa using hv);exact⟨t,by rw[e,Int.mul_one]⟩
   rwa[show acc.toList.length=(hi-lo).toNat by simpa using hacc.1]at this
end L2
namespace L2
open PySem PySem.Spec PyProof.Rows PySem.SeqAt
theorem Zry(lo:Int)(n:Nat):Zbs lo (n+1)= .int lo::Zbs (lo+1) n:=by
 unfold Zbs;rw[List.range_succ_eq_map,Qq,Qu];congr 1
 .simp
 .refine XH λi _=>?_
  show Xl (lo+((i+1:Nat):Int))=Xl (lo+1+(i:Int));congr 1;omega
theorem Das.rng:∀(n:Nat) (lo:Int),Das G H L (Zxg lo n) (Zbs lo n)
 | 0,_=>.nil
 | n+1,lo=>by
  rw[Zl2,Zry];exact .cons (.int _) (Das.rng n _)
section
variable {a:YJ}{m:MEt}{pl pr:Pos}
def Yen(mr:MAt):MEt:=λδ K=>mr δ λrs δ'=>n1 (λd=>asI d λj=>(-(2^62)<=j/\j<2^62/\j.toNat<=Xw)/\K (.nd ((Zbs 0 j.toNat).map OT.fz)) δ') (OT.datas rs)
theorem Z4i{C:MC G}{O:St}{r:YG}{n:Nat}(R:Rel C io H O δ fp ex)(R1:Rel C io H1 O δ1 fp1 ex)(S:Stp p H δ fp H1 δ1 fp1)(hr:H1 r=YC)
  (hl:upd H1 r (.rng lo hi) l=YC):RE C io p YD H O δ fp ex (upd (upd H1 r (.rng lo hi)) l (.lst (Zxg lo n))) (.ref l) (.nd ((Zbs lo n).map OT.fz)) δ1 fp1 [l]:=by
 have s1:=Ye hr (.rng lo hi);have S':Stp p H δ fp (upd H1 r (.rng lo hi)) δ1 fp1:=by
  have:=S.trans (p':=YD) (Stp.same (p:=YD) (δ:=δ1) (fp:=fp1) s1 s1.al)
  rwa[V4]at this
 exact RE.tree R (R1.mk0 s1) S' (Ye hl _) (Zjw hl) (Znq l) (Own.list hl (Das.rng n lo))
theorem Ztf(hc:X.calm=YD)(hgl:Gl X "list")(hml:X.mg "list"=YC)(hvl:X4 "list"=YB (.type "list"))(hg:Gl X "range")(hm:X.mg "range"=YC)(hv:X4 "range"=YB (.type "range"))(ha:MA X io p c [a] mr)
  (he:Xr [a] X.env=(YF,eval a X.env)::Xr [] X.env:=by rfl) (hpl:(JG pos' (Xr [] X.env)).any (·.1)=YF:=by rfl)
  (he':Xr [.Call (.Name "range" pr) [a] [] pos'] X.env=(YF,eval (.Call (.Name "range" pr) [a] [] pos') X.env)::Xr [] X.env:=by rfl) (hpl':(JG pos (Xr [] X.env)).any (·.1)=YF:=by rfl) :
  ME X io p YD (.Call (.Name "list" pl) [.Call (.Name "range" pr) [a] [] pos'] [] pos) (Yen mr):=by
 obtain⟨_,A,s⟩:=ha;refine⟨_,Zhc (Zkf hc) hgl hml hvl (Ys (Zhc Zsh hg hm hv A (he:=he) (hpl:=hpl)) Zdq he') (he:=he') (hpl:=hpl'),λC H O δ fp ex K Q R h kk=>s C H O δ fp ex _ _ R h λH1 vs rs δ1 fp1 new r1 h1=>?_⟩;obtain⟨v,d,rfl,e2,q,h2⟩:=(r1.das R).one h1;obtain⟨j,rfl,h2⟩:=q.intInv h2;refine⟨j,rfl,λr hr=>⟨r,0,j,rfl,Zu,⟨by decide,by decide,h2.1.1,h2.1.2.1⟩,by rw[Int.sub_zero];exact h2.1.2.2,λl hl=>?_⟩⟩;rw[Int.sub_zero];exact kk _ _ _ δ1 fp1 [l] (Z4i R r1.base r1.stp hr hl) h2.2
end
section
variable {a:YJ}{m:MEt}{pl pr:Pos}
end
end L2
namespace L2
open PySem PySem.Spec PyProof.Rows
theorem ObjOk.is{o:HO}(x:ObjOk P w H h a o):∃u,h.get? a=YB u:=by
 cases o with
 | lst xs=>obtain⟨_,_,_,_,e⟩:=x;exact⟨_,e⟩
 | tup xs=>obtain⟨_,_,_,ob,e,_⟩:=x;exact⟨_,e⟩
 | dK kvs=>obtain⟨_,_,_,_,o,_,_,e,_⟩:=x;exact⟨_,e⟩
 | dT kvs=>obtain⟨_,_,_,_,o,_,_,e,_⟩:=x;exact⟨_,e⟩
 | set S n=>obtain⟨o,_,_,_,e,_⟩:=x;exact⟨_,e⟩
 | ins C dx fs=>obtain⟨_,_,_,e,_⟩:=x;exact⟨_,e⟩
 | own y=>obtain⟨_,e⟩:=x;exact⟨_,e⟩
 | xd fs=>obtain⟨_,⟨_,_,_,e,_⟩,_⟩:=x;exact⟨_,e⟩
 | rng lo hi=>obtain⟨_,_,_,e⟩:=x;exact⟨_,e⟩
 | frz ob u=>obtain⟨e,_⟩:=x;exact⟨_,e⟩
 | tbl ps=>exact⟨_,(show h.get? a=YB _ from x)⟩
 | met f y=>exact⟨_,(show h.get? a=YB _ from x)⟩
 | ext φ=>obtain⟨_,⟨_,e⟩,_⟩:=x;exact⟨_,e⟩
structure Uh(X:Cx)(pins:List (YG×Obj))(H:Hp)(b:YG):Prop where
 fr:H b=YC
 new:X.s₀.heap.get? b=YC
 loc:b≠X.env.locals
 cel:∀x c,X.env.cells.lookup x=YB c->c≠b
 pin:∀p∈X.pn++pins,p.1≠b
end L2
variable {pl pr:Pos}{fl:Xd}
namespace L2
open PySem PySem.Spec PyProof.Rows
section
variable {O:St}{b:YG}
theorem Inv.apart(I:Inv X pins O H s)(hex:X.ex=[])(hb:s.heap.get? b=YC)(hH:H' b=YC):Uh X pins H' b:=by
 have ne:∀c o,s.heap.get? c=YB o->c≠b:=λc o e z=>by rw[z,hb]at e;cases e
 refine⟨hH,?_,?_,λx c e=>?_,λp hp=>?_⟩
 .cases q:X.s₀.heap.get? b with
  | none=>rfl
  | some o=>
   obtain⟨o',e⟩:=I.base.there b o q (by rw[hex];simp);rw[hb]at e;cases e
 .obtain⟨m,⟨o,_,_,ho,_⟩,_⟩:=I.loc
  exact(ne _ _ ho).symm
 .obtain⟨v,o,ho,_⟩:=I.cell x c e
  exact ne _ _ ho
 .exact ne _ _ (I.pin p hp).1
theorem Inv.unheld(I:Inv X pins O H s)(hb:s.heap.get? b=YC):H b=YC:=by
 cases q:H b with
 | none=>rfl
 | some u=>
  obtain⟨o,e⟩:=(I.hok b u q).is;rw[hb]at e;cases e
theorem Inv.nofrs(I:Inv X pins O H s)(hb:b≠X.env.locals)(hf:b∉X.fs):b∉frs X.stack:=λz=>(Xi.mp (I.stkSub b z)).elim hb hf
theorem Inv.flown(I:Inv X pins O H s)(hch:∀b∈ch,Uh X pins H b)(keep:∀b o,b∉frs X.stack->b∉ch->s.heap.get? b=YB o->h'.get? b=YB o)
  (slot:∀b o,b∈frs X.stack->s.heap.get? b=YB o->∃sl,h'.get? b=YB { o with slots:=sl }):Inv X pins O H { s with heap:=h',toks:=t' }:=by
 have any:∀b o,b∉ch->s.heap.get? b=YB o->∃sl,h'.get? b=YB { o with slots:=sl }:=λb o n e=>by
  by_cases hb:b∈frs X.stack
  .exact slot b o hb e
  .exact⟨o.slots,keep b o hb n e⟩
 have neL:∀b o,X.s₀.heap.get? b=YB o->b≠X.env.locals:=λb o e=>Xq (X8 (Xz e) I.ok.above);have neC:∀b o,X.s₀.heap.get? b=YB o->b∉ch:=λb o e hb=>by
  have:=(hch b hb).new;rw[this]at e;cases e
 have cellK:∀x c,X.env.cells.lookup x=YB c->∀v,s.heap.IsCell c v->h'.IsCell c v:=λx c e v q91=>by
  obtain⟨o,ho,hd⟩:=q91;obtain⟨sl,q⟩:=any c o (λz=>(hch c z).cel x c e rfl) ho;exact⟨_,q,hd⟩
 have nL:X.env.locals∉ch:=λz=>(hch _ z).loc rfl;refine⟨I.ok,I.os,I.bare,⟨λb o e n hb hx=>?_,λb o e n hb hx=>?_,I.base.free,λb o e hx=>?_,I.base.tups,I.base.frzs,I.base.tbls⟩,?_,λx c e=>?_,I.free,I.freeC,λp hp=>?_,λb u e=>?_,I.len⟩
 .exact keep b o (I.nofrs (neL b o e) hb) (neC b o e) (I.base.keep b o e n hb hx)
 .obtain⟨sl,e1⟩:=I.base.slot b o e n hb hx
  obtain⟨sl',e2⟩:=any b _ (neC b o e) e1;exact⟨sl',e2⟩
 .obtain⟨o',e1⟩:=I.base.there b o e hx
  obtain⟨sl,e2⟩:=any b o' (neC b o e) e1;exact⟨_,e2⟩
 .obtain⟨m,⟨o,es,ep,ho,r⟩,hl⟩:=I.loc
  obtain⟨sl,q⟩:=any _ o nL ho;refine⟨m,⟨_,es,ep,q,r⟩,λi x v e1 e2 e3=>?_⟩;obtain⟨u,rv,l⟩:=hl i x v e1 e2 e3;refine⟨u,rv,?_⟩;rcases l with l|⟨k,c,e,z⟩
  .exact .inl l
  .exact .inr ⟨k,c,e,cellK x c e _ z⟩
 .obtain⟨v,z⟩:=I.cell x c e
  exact⟨v,cellK x c e v z⟩
 .obtain⟨e,n,ne,nf,d⟩:=I.pin p hp
  exact⟨keep p.1 p.2 (I.nofrs ne nf) (λz=>(hch _ z).pin p hp rfl) e,n,ne,nf,d⟩
 .refine(I.hok b u e).stay (λc v hc q=>keep c v (λz=>?_) (λz=>?_) q) (λ_ q=>q) λ_ _ q=>q
  .have n:=I.stkFree c z
   rcases hc with rfl|hc
   .rw[n]at e;cases e
   .rw[n]at hc;cases hc
  .have n:=(hch c z).fr
   rcases hc with rfl|hc
   .rw[n]at e;cases e
   .rw[n]at hc;cases hc
def Fl(ap:YG->Prop)(C a:YG)(fl:Xd)(h:YH):Prop:=∃a0 oe vs T oT ts,h.get? a=YB oe/\(oe.cls= .ref C/\vs[0]? =YB a0)/\oe.data= .fields vs/\vs[1]? =YB (.ref T)/\T≠a/\h.get? T=YB oT/\oT.data= .fields ts/\ts[3]? =YB fl/\ap a/\ap T
def Fl0(ap:YG->Prop)(C a:YG)(h:YH):Prop:=∃a0 oe vs,h.get? a=YB oe/\(oe.cls= .ref C/\vs[0]? =YB a0)/\oe.data= .fields vs/\vs[1]? =YB .none/\ap a
def FlA(ap:YG->Prop)(fl:Xd)(C a:YG)(h:YH):Prop:=Fl ap C a .none h\/Fl0 ap C a h\/Fl ap C a fl h
theorem Fl.imp{ap ap':YG->Prop}{fl:Xd}{h:YH}(f:∀b,ap b->ap' b)(x:Fl ap C a fl h):Fl ap' C a fl h:=by
 obtain⟨a0,oe,vs,T,oT,ts,h1,h2,h3,h4,h5,h6,h7,h8,h9,h10⟩:=x;exact⟨a0,oe,vs,T,oT,ts,h1,h2,h3,h4,h5,h6,h7,h8,f _ h9,f _ h10⟩
theorem Fl.exO{ap:YG->Prop}(x:Fl ap C a fl h):ExO C a h:=by
 obtain⟨a0,oe,vs,T,oT,ts,h1,h2,h3,_⟩:=x;exact⟨oe,vs,h1,h2.1,h3⟩
section
variable {Q:Unit->Xe->Prop}
theorem Inv.hidFrames(I:Inv X pins O H s):s.heap.FunFrames (JT s.heap (frs X.stack++ch)) X.stack :=
 PySem.W.funFrames_hide I.stack λenv he b hb=>JL _ (List.mem_filterMap.mpr ⟨env,he,hb⟩)
theorem Inv.flyTo(I:Inv X pins O H s)(hch:∀b∈ch,Uh X pins H b)(k1:(JT s.heap (frs X.stack++ch)).StaysIn h')(k4:∀b o,s.heap.get? b=YB o->(∀vs,o.data≠ .fields vs)->∃sl,h'.get? b=YB { o with slots:=sl }) :
  Inv X pins O H { s with heap:=h' } :=
 I.flown (t':=s.toks) hch (λb o hf hc e=>k1 b o (PySem.W.hideAll_get _ e λz=>(Qt.mp z).elim hf hc)) λb o hb e=>by
  obtain⟨_,o',ho',hd⟩:=I.stack.mem hb;rw[e]at ho';cases ho';exact k4 b o e hd
theorem Inv.flyT(I:Inv X pins O H s)(hex:X.ex=[])(hch:∀b∈ch,Uh X pins H b){T:YG}{oT:Obj}{ts:Array Xd}(k4:∀b o,s.heap.get? b=YB o->(∀vs,o.data≠ .fields vs)->∃sl,h'.get? b=YB { o with slots:=sl })
  (hT:(JT s.heap (frs X.stack++ch)).get? T=YC) (h1:h'.get? T=YB oT) (h2:oT.data= .fields ts):Uh X pins H T:=by
 by_cases hc:T∈ch
 .exact hch T hc
 by_cases hf:T∈frs X.stack
 .obtain⟨_,o',ho',hd⟩:=I.stack.mem hf
  obtain⟨sl,e⟩:=k4 T o' ho' hd;rw[h1]at e;cases e;exact YX h2 (hd ts)
 have hn:s.heap.get? T=YC:=by
  cases q:s.heap.get? T with
  | none=>rfl
  | some o=>
   have:=PySem.W.hideAll_get (frs X.stack++ch) q λz=>(Qt.mp z).elim hf hc;rw[hT]at this;cases this
 exact I.apart hex hn (I.unheld hn)
theorem Zkh(I:Inv X pins O H s)(hex:X.ex=[])(hst:X.stack=X.env::X.outer)(hf:X.env.frame=YB X.env.locals)(hA:A.frames=YB X.stack)(F:FlA (Uh X pins H) (JD X.env.locals) C a s.heap)
  (h:∀s',Inv X pins O H s'->Fl (Uh X pins H) C a (JD X.env.locals) s'.heap->Q () s'):Xy M A (noteFrame (.ref a) X.env) Q E s:=by
 rcases F with F|F|F
 .obtain⟨a0,oe,vs,T,oT,ts,eA,cA,dA,v1,nT,eT,dT,t3,pA,pT⟩:=F
  have hch:∀b∈[a,T],Uh X pins H b:=λb hb=>by
   rcases Xi.mp hb with rfl|hb
   .exact pA
   .rw[Xv.mp hb];exact pT
  have hen:(JT s.heap (frs X.stack++[a,T])).get? a=YC:=Vy _ (XJ _ (.head _));have hTn:(JT s.heap (frs X.stack++[a,T])).get? T=YC:=Vy _ (XJ _ (.tail _ (.head _)));have fr:=I.hidFrames (ch:=[a,T]);refine wpAny_noteFrame_onW (base:=JT s.heap (frs X.stack++[a,T])) (outer:=X.outer) (hA.trans (by rw[hst])) (hst▸fr) hf ⟨oe,vs,T,oT,ts,eA,cA,dA,v1,hTn,nT,eT,dT,t3⟩ (λb o e=>UG _ e) hen λh' hN=>?_;obtain⟨k1,_,⟨oe',vs',T',oT',ts',e1,e2,e3,e4,e5,e6,e7,e8,e9⟩,k4⟩:=hN;exact h _ (I.flyTo hch k1 k4) ⟨a0,oe',vs',T',oT',ts',e1,e2,e3,e4,e6,e7,e8,e9,pA,I.flyT hex hch k4 e5 e7 e8⟩
 .obtain⟨a0,oe,vs,eA,cA,dA,v1,pA⟩:=F
  have hch:∀b∈[a],Uh X pins H b:=λb hb=>by rw[Xv.mp hb];exact pA
  have hen:(JT s.heap (frs X.stack++[a])).get? a=YC:=Vy _ (XJ _ (.head _));have fr:=I.hidFrames (ch:=[a]);unfold noteFrame;simp only[hf];refine Xb (JP eA dA v1 ?_);rw[YM (by decide)];refine wpAny_entryW (base:=JT s.heap (frs X.stack++[a])) (outer:=X.outer) (hA.trans (by rw[hst])) (hst▸fr) hf eA (λb o e=>UG _ e) hen dA (VG.mp v1).1 cA.2 λh' hN=>?_;obtain⟨k1,_,⟨oe',vs',T',oT',ts',e1,e2,e3,e4,e5,e6,e7,e8,e9⟩,k4⟩:=hN;exact h _ (I.flyTo hch k1 k4) ⟨a0,oe',vs',T',oT',ts',e1,⟨e2.1.trans cA.1,e2.2⟩,e3,e4,e6,e7,e8,e9,pA,I.flyT hex hch k4 e5 e7 e8⟩
 .have F':=F
  obtain⟨a0,oe,vs,T,oT,ts,eA,cA,dA,v1,nT,eT,dT,t3,pA,pT⟩:=F;unfold noteFrame;simp only[hf];refine Xb (JP eA dA v1 ?_);rw[YL (by rfl)];refine Xb (JP eT dT t3 ?_);rw[YL (by simp)];exact Xo (h s I F')
theorem Zjo(I:Inv X pins O H s)(hex:X.ex=[])(F:Fl (Uh X pins H) C a fl s.heap)
  (h:∀s',Inv X pins O H s'->Fl (Uh X pins H) C a .none s'.heap->Q () s'):Xy M A (setFlight (.ref a) YC) Q E s:=by
 obtain⟨a0,oe,vs,T,oT,ts,eA,cA,dA,v1,nT,eT,dT,t3,pA,pT⟩:=F;have hch:∀b∈[a,T],Uh X pins H b:=λb hb=>by
  rcases Xi.mp hb with rfl|hb
  .exact pA
  .rw[Xv.mp hb];exact pT
 have hTn:(JT s.heap (frs X.stack++[a,T])).get? T=YC:=Vy _ (XJ _ (.tail _ (.head _)));refine wpAny_setFlight_noneW (base:=JT s.heap (frs X.stack++[a,T])) (l:=X.stack) (λb o e=>UG _ e) I.hidFrames ⟨oe,vs,T,oT,ts,eA,cA,dA,v1,hTn,nT,eT,dT,t3⟩ λh' k1 _ k3 k4'=>?_;have k4:∀b o,s.heap.get? b=YB o->(∀vs,o.data≠ .fields vs)->∃sl,h'.get? b=YB { o with slots:=sl }:=λb o e n=>⟨o.slots,k4' b o e n⟩;obtain⟨oe',vs',T',oT',ts',e1,e2,e3,e4,e5,e6,e7,e8,e9⟩:=k3;exact h _ (I.flyTo hch k1 k4) ⟨a0,oe',vs',T',oT',ts',e1,e2,e3,e4,e6,e7,e8,e9,pA,I.flyT hex hch k4 e5 e7 e8⟩
theorem Zs9(I:Inv X pins O H s)(hex:X.ex=[])(hst:X.stack=X.env::X.outer)(hf:X.env.frame=YB X.env.locals)(hA:A.frames=YB X.stack)(F:FlA (Uh X pins H) (JD X.env.locals) C a s.heap)
  (h:∀s',Inv X pins O H s'->Fl (Uh X pins H) C a .none s'.heap->Q () s'):Xy M A (leaving X.env (.ref a)) Q E s:=by
 unfold leaving;exact Xb (Zkh I hex hst hf hA F λs1 I1 F1=>Zjo I1 hex F1 h)
end
end
def Zhi(K:Xc)(C:YG):Prop:=PySem.W.excIn K C [.type "ValueError",.type "Exception",.type "BaseException",.type "object"] "ValueError.__new__"=YD
theorem Zti{bmB:List Xd}{newId:String}(X:K.In h)(q:PySem.W.excIn K C bmB newId=YD) :
  ∃bm N nm qn bs hdct sn sub ab col dd k0 k1 k2 k3 k5 mN,h.get? C=YB (excClassObj nm qn C N bs bm hdct sn sub ab col dd k0 k1 k2 k3 k5 newId)/\h.Ns N mN/\mN "__init__"=YC/\OwnTail h bmB bm:=by
 unfold PySem.W.excIn at q;split at q
 case h_2=>cases q
 rename_i dd cd sl ho;split at q
 case h_2=>cases q
 rename_i C' bm k0 k1 k2 k3 n k5 hm hs;simp only[XM,YZ,Bool.not_eq_true']at q;obtain⟨⟨⟨⟨⟨rfl,rfl⟩,e1⟩,e2⟩,e3⟩,e4⟩:=q;obtain⟨nm,bs,mro,ns,qn,hd,sn,sub,ab,col,del⟩:=cd;dsimp only at hm e1 e3 e4;subst hm e1;obtain⟨l⟩:=sl;have e5:l=[k0,k1,k2,k3,YB (.builtin n),k5]:=hs;subst e5;exact⟨bm,ns,nm,qn,bs,hd,sn,sub,ab,col,dd,k0,k1,k2,k3,k5,_,X _ _ ho,.of_isNs (PySem.W.isNs_of_in X e3),PySem.W.nsMap_none_of_in X e3 e4,PySem.W.tail_of_in X e2⟩
abbrev MXt:=Ze->(YG->Ze->Prop)->Prop
def XW(X:Cx)(C:MC X.K)(io:List Nat)(pins:List (YG×Obj))(ex:YG->Prop)(H:Hp)(fp:Fp)(k:YG->Ze->Prop)(e:Xd)(s':Xe):Prop :=
 ∃a cl O' H' δ' fp',e= .ref a/\Inv X pins O' H' s'/\FlA (Uh X pins H') (JD X.env.locals) cl a s'.heap/\Rel C io H' O' δ' fp' ex/\Kp H fp H' fp'/\k cl δ'
def XE(X:Cx)(io:List Nat)(e:YJ)(m:MXt):Prop:=∀(C:MC X.K) (pins:List (YG×Obj)) (s:Xe) (O:St) (H:Hp) (δ:Ze) (fp:Fp) (ex:YG->Prop) (k:YG->Ze->Prop),Inv X pins O H s->Rel C io H O δ fp ex->m δ k ->
 Xy (XR X.prog X.w) X.A (eval e X.env) (λ_ _=>False) (XW X C io pins ex H fp k) s
def XS(X:Cx)(io:List Nat)(st:YK)(m:MXt):Prop:=∀(C:MC X.K) (pins:List (YG×Obj)) (s:Xe) (O:St) (H:Hp) (δ:Ze) (fp:Fp) (ex:YG->Prop) (k:YG->Ze->Prop),Inv X pins O H s->Rel C io H O δ fp ex->m δ k ->
 Xy (XR X.prog X.w) X.A (exec st X.env) (λ_ _=>False) (XW X C io pins ex H fp k) s
def XSs(X:Cx)(io:List Nat)(sts:List YK)(m:MXt):Prop:=∀(C:MC X.K) (pins:List (YG×Obj)) (s:Xe) (O:St) (H:Hp) (δ:Ze) (fp:Fp) (ex:YG->Prop) (k:YG->Ze->Prop),Inv X pins O H s->Rel C io H O δ fp ex->m δ k ->
 Xy (XR X.prog X.w) X.A (execs sts X.env) (λ_ _=>False) (XW X C io pins ex H fp k) s
theorem XW.shift{C:MC X.K}{k:YG->Ze->Prop}{e:Xd}(q:Kp H fp H1 fp1)(h:XW X C io pins ex H1 fp1 k e s):XW X C io pins ex H fp k e s:=by
 obtain⟨a,cl,O',H',δ',fp',e,I,F,R,K,hk⟩:=h;exact⟨a,cl,O',H',δ',fp',e,I,F,R,q.trans K,hk⟩
def Ztj:MXt:=λ_ _=>False
def Yah(u:MSt)(w:MXt):MXt:=λδ k=>u { nx:=λδ'=>w δ' k,rt:=λ_ _=>False } δ
def Yd5(t:MTt)(u w:MXt):MXt:=λδ k=>t δ λb δ'=>if b=YD then u δ' k else w δ' k
def Zq8(cl:YG):MXt:=λδ k=>k cl δ
section
variable {m:MXt}{a b:List YK}{u:MSt}{w v:MXt}{mt:MTt}
theorem Zrv:XSs X io sts Ztj:=λ_ _ _ _ _ _ _ _ _ _ _ h=>h.elim
theorem Zv7:XS X io st Ztj:=λ_ _ _ _ _ _ _ _ _ _ _ h=>h.elim
theorem Zoy(h:XS X io st w):XSs X io (st::sts) w:=λC pins s O H δ fp ex k I R hm=>wpAny_execs_cons (thn (h C pins s O H δ fp ex k I R hm) λ_ _ z=>z.elim)
theorem Zvo(h:MS X io st u)(g:XSs X io sts w)(hx:X.xe= λ_ _=>False:=by rfl):XSs X io (st::sts) (Yah u w):=by
 obtain⟨t,A,sS⟩:=h;intro C pins s O H δ fp ex k I R hm;refine wpAny_execs_cons (Qw (A pins s O H { nx:=λO1 H1=>∃δ1 fp1,Rel C io H1 O1 δ1 fp1 ex/\Kp H fp H1 fp1/\w δ1 k,rt:=λ_ _=>False } I
  (sS C H O δ fp ex _ _ R hm ⟨λH' O' δ' fp' R' k' h'=>⟨δ',fp',R',k',h'⟩,λ_ _ _ _ _ _ z=>z.elim,λ_ _ _ _ _ _ z=>z.elim,λ_ _ _ _ _ _ _ _ _ _ _ z=>z.elim⟩)) (λf s1 q=>?_) λe s1 q=>by rw[hx]at q;exact q.elim)
 cases f with
 | next=>
  obtain⟨O1,H1,I1,δ1,fp1,R1,k1,h1⟩:=q;exact Qw (g C pins s1 O1 H1 δ1 fp1 ex k I1 R1 h1) (λ_ _ z=>z) λe s2 z=>z.shift k1
 | ret v=>obtain⟨_,_,_,_,_,z⟩:=q;exact z.elim
 | brk=>obtain⟨_,_,_,z⟩:=q;exact z.elim
 | cont=>obtain⟨_,_,_,z⟩:=q;exact z.elim
theorem Zwg(ht:MT X io p e mt)(ha:XSs X io a w)(hb:XSs X io b v)(hx:X.xe= λ_ _=>False:=by rfl):XS X io (.If e a b pos) (Yd5 mt w v):=by
 obtain⟨t,A,sT⟩:=ht;intro C pins s O H δ fp ex k I R hm;refine wpAny_If (Qw (A pins s O H (λr H1=>∃δ1 fp1,Rel C io H1 O δ1 fp1 ex/\Kp H fp H1 fp1/\if r=YD then w δ1 k else v δ1 k) I
  (sT C H O δ fp ex _ _ R hm λH' r δ' fp' R' S' h'=>⟨δ',fp',R',S'.kp,h'⟩)) (λr s1 q=>?_) λe s1 q=>by rw[hx]at q;exact q.elim)
 obtain⟨H1,I1,δ1,fp1,R1,k1,h1⟩:=q;cases r with
 | true=>exact Qw (ha C pins s1 O H1 δ1 fp1 ex k I1 R1 h1) (λ_ _ z=>z) λe s2 z=>z.shift k1
 | false=>exact Qw (hb C pins s1 O H1 δ1 fp1 ex k I1 R1 h1) (λ_ _ z=>z) λe s2 z=>z.shift k1
theorem Z1k(he:XE X io e m)(hs:Vn e YC pos.line X.env=pure YF:=by rfl):XS X io (.Expr e pos) m:=λC pins s O H δ fp ex k I R hm=>
 wpAny_Expr_any (thn (he C pins s O H δ fp ex k I R hm) λ_ _ z=>z.elim) I.quiet hs
theorem Z4a(he:XE X io e m):XS X io (.Return (YB e) pos) m:=λC pins s O H δ fp ex k I R hm=>wpAny_Return_some (thn (he C pins s O H δ fp ex k I R hm) λ_ _ z=>z.elim)
theorem Z6s(he:XE X io e m)(hs:Vn e (YB (.Name x pos')) pos.line X.env=pure YF:=by rfl):XS X io (.Assign [.Name x pos'] e pos) m:=λC pins s O H δ fp ex k I R hm=>
 wpAny_Assign_Name (thn (he C pins s O H δ fp ex k I R hm) λ_ _ z=>z.elim) hs
theorem Zgs{j:Str}{jk:Nat}{np kp:Pos}(hex:X.ex=[])(hh:X.A.handled=YC)(hg:Gl X x)(hm:X.mg x=YB (.ref C))(q:Zhi X.K C)(hd:(x==("__debug__" : Str))=YF:=by decide) :
  XS X io (.Raise (YB (.Call (.Name x np) [.Constant (.str j) jk kp] [] cpos)) YC pos) (Zq8 C):=by
 intro M pins s O H δ fp ex k I R hk;obtain⟨tl,N,nm,qn,bs,hdct,sn,sub,ab,col,dd,k0,k1,k2,k3,k5,mN,hC,hN,hni,TL⟩:=Zti I.ok.mod.kin q;refine wpAny_Raise_call_subT (C:=C) (nm:=nm) (q:=qn) (N:=N) (bs:=bs) (bm:=tl) (hdct:=hdct) (sn:=sn) (sub:=sub) (ab:=ab) (col:=col) (dd:=dd) (k0:=k0) (k1:=k1) (k2:=k2) (k3:=k3) (k5:=k5)
  UJ (mN:=mN) (TL.hasType UJ.hasBase) hh rfl hni (Zhx I hg hm ⟨rfl,?_⟩ hd)
 refine Calls.evalArgs_plain ?_;refine Calls.spliced_cons ?_;show Xy _ _ (eval (.Constant (.str j) jk kp) X.env) _ _ _;refine Calls.Constant_str ?_;refine Calls.spliced_nil ?_;have I1:=I.tok (s.toks+1);refine⟨rfl,by show 1<=Xw;decide,I1.bk _ _ hC,hN.keeps I1.bk,TL.keeps I1.bk,λh' e hx=>?_⟩;obtain⟨t,e1,_,_⟩:=hx.there;have I2:=I1.kept (t':=s.toks+1) hx.keeps;exact⟨e,C,O,H,δ,fp,rfl,I2,.inr (.inl ⟨_,_,_,e1,⟨rfl,rfl⟩,rfl,rfl,I1.apart hex hx.new (I1.unheld hx.new)⟩),R,.refl _ _,hk⟩
end
def CX1(P:X6)(w:Qp):CXT:=λouter H s E e s'=>∃a C H',e= .ref a/\s'.os=s.os/\AllBare s'.gens/\Un (frs outer) [] H H' s.heap s'.heap/\HOk P w H' s'.heap/\Fl (λb=>H' b=YC/\s.heap.get? b=YC) C a .none s'.heap/\E (.ref C) YC H'
def spX(G:Xc)(S:List Xa->YG->Prop):Sp:=λvs H Q E=>∃L ds cl,Das G H L vs ds/\S ds cl/\∀H',Same H H'->E (.ref cl) YC H'
section
variable {base:YH}
theorem Fun.okX{f:YG}{fd:XF}{n:Nat}{S:List Xa->YG->Prop}(F:Fun K x qual st f fd)(Sc:Zq N ps (Zj st))(len:∀ds cl,S ds cl->ds.length=ps.length)
  (hbody:∀(cdv:Xd) (A:Qk) (outer:List Env) (s:Xe) (H:Hp) (E:XK),Room n (A.deeper (Uz qual (Zj st) s.heap.objs.size f cdv)) ->
   ∃m,XSs (Zqk (CX1 P w) P w K mg base N qual (Zj st) f cdv A outer s H E).nox [] (Jw st) m/\∀ds cl,S ds cl->m (Zi8 N ds) (λc _=>c=cl)):FnOk P w K mg base (CX1 P w) (n+1) f fd ps (spX K S):=by
 obtain⟨oc,od,kV,doc,pm,an,cdv,ct,osl,rfl,lk,hcd⟩:=F.ex;refine Z3y lk hcd Sc (λvs H Q E h=>?_) λA outer s H vs Q E hr hsp=>?_
 .obtain⟨L,ds,cl,h1,h2,_⟩:=h
  rw[h1.length];exact len ds cl h2
 obtain⟨L,ds,cl,h1,h2,h3⟩:=hsp;obtain⟨m,hX,q⟩:=hbody cdv A outer s H E hr;refine⟨λ_ O' H'=>O'=start N vs/\H'=H,λpins s1 O1 H1 D I e=>?_,rfl,rfl⟩;obtain⟨rfl,rfl⟩:=e;refine Qw (hX ⟨H1,λ_=>False,L,start N vs⟩ pins s1 _ _ _ _ _ (λc _=>c=cl) (I.wish _) (Rel.entry h1) (q ds cl h2)) (λ_ _ z=>z.elim) λe s' z=>?_;obtain⟨a,cl',O',H',δ',fp',rfl,I',F',R',K',rfl⟩:=z;exact Zs9 I' rfl rfl rfl I'.ok.frames F' λs'' J FF=>⟨a,cl',H',rfl,J.os,J.bare,J.base,J.hok,FF.imp λb ap=>⟨ap.fr,ap.new⟩,h3 H' λb o e=>R'.fr b o e id⟩
end
theorem Rel.grown{C:MC G}{io:List Nat}{O:St}(R:Rel C io H O δ fp ex)(s:Same H H'):Rel C io H' O δ fp ex :=
 (R.made (new:=[]) s (λa m=>nomatch m)).drop λa z=>.inl z
def Zxq(S:List Xa->YG->Prop)(mr:MAt):MXt:=λδ k=>mr δ λrs δ1=>∃cl,S (OT.datas rs) cl/\k cl δ1
section
variable {k:Nat}{f:YG}{fd:XF}
theorem Znf{S}(F:FnOk X.prog X.w X.K X.mg X.base (CX1 X.prog X.w) k f fd ps (spX X.K S))(hr:Room k X.A)(hg:Gl X x)(hm:X.mg x=YB (.ref f))(hk:BW X.K (.ref f)=YD)(hb:Binds X.K fd ps [])
  (ha:MA X io p c (e::es) mr) (hex:X.ex=[]:=by rfl) (hx:X.xe= λ_ _=>False:=by rfl) (hdb:(x==("__debug__" : Str))=YF:=by decide) (he:Xr (e::es) X.env=(YF,eval e X.env)::Xr es X.env:=by rfl) (hpl:(JG pos (Xr es X.env)).any (·.1)=YF:=by rfl) :
  XE X io (.Call (.Name x pp) (e::es) [] pos) (Zxq S mr):=by
 obtain⟨t,A,sA⟩:=ha;intro C pins s O H δ fp ex kk I R hm';refine BJ (Zhx I hg hm ?_ hdb);refine PySem.W.callWith_K (h₀:=X.base) I.ok.mod.kin hk (Qw (A pos pins s O H (λvs H1=>∃δ1 fp1 L ds cl,Rel C io H1 O δ1 fp1 ex/\Kp H fp H1 fp1/\Das X.K H1 L vs ds/\S ds cl/\kk cl δ1) I
  (sA C H O δ fp ex _ _ R hm' λH1 vs rs δ1 fp1 new r1 h1=>let⟨cl,h2,h3⟩:=h1;⟨δ1,fp1,_,_,cl,r1.base,r1.stp.kp,r1.das R,h2,h3⟩)) (λus s1 ⟨vs,H1,I1,r,q⟩=>⟨I1.kIn,?_⟩) λe s1 z=>by rw[hx]at z;exact z.elim) he hpl
 obtain⟨δ1,fp1,L,ds,cl,R1,k1,hd,hS,hkk⟩:=q;have hsp:spX X.K S vs H1 (λ_ _=>False) (λc _ H'=>c= .ref cl/\Same H1 H'):=⟨L,ds,cl,hd,hS,λH' s=>⟨rfl,s⟩⟩;have hl:(us++[]).length=ps.length:=by rw[QW,<-r.length];exact F.len _ _ _ _ hsp
 have hB:=hb s1 us I1.kIn hl;rw[QW]at hB;refine wpAny_call (codeAny_mono (F.run X.A X.stack s1 H1 ⟨us,[]⟩ us vs _ _ hr I1.env0 hB r hsp) λres s' hq=>?_);cases res with
 | error e=>
  obtain⟨a,C',H',rfl,ho,bare,un,hok,FF,eC,same⟩:=hq;cases eC;have J:=I1.call' (ch:=[]) ho un hok bare λb z=>nomatch z;exact⟨a,cl,O,H',δ1,fp1,rfl,J,.inl (FF.imp λb z=>I1.apart hex z.2 z.1),R1.grown same,k1.trans (Stp.same same same.al),hkk⟩
 | ok fl=>
  cases fl with
  | ret u=>obtain⟨_,_,_,_,_,_,_,z⟩:=hq;exact z.elim
  | next=>exact Vc hq
  | brk=>exact Vc hq
  | cont=>exact Vc hq
end
section
variable {O:St}
theorem Inv.track(I:Inv X pins O H s)(A:Uh X pins H a){φ:YH->Prop}(h1:φ s.heap)(h2:∃o,s.heap.get? a=YB o)(h3:∀g1 g2:YH,φ g1->(∀o,g1.get? a=YB o->g2.get? a=YB o)->φ g2):Inv X pins O (upd H a (.ext φ)) s:=by
 have ne:∀b u,H b=YB u->b≠a:=λb u e=>Yt e A.fr;refine⟨I.ok,I.os,I.bare,⟨I.base.keep,I.base.slot,λb o e n hx=>?_,I.base.there,λb xs e=>?_,λb o u e=>?_,λb ps e=>?_⟩,I.loc,I.cell,?_,λx c e=>?_,λp hp=>?_,λb u e=>?_,I.len⟩
 .rw[Zo (λz=>by rw[z,A.new]at e;cases e)];exact I.base.free b o e n hx
 .have:=I.base.tups b xs e;rw[Zo (ne _ _ this)];exact this
 .have:=I.base.frzs b o u e;rw[Zo (ne _ _ this)];exact this
 .obtain⟨m,q⟩:=I.base.tbls b ps e;exact⟨m,by rw[Zo (ne _ _ q)];exact q⟩
 .rw[Zo (JW A.loc)];exact I.free
 .rw[Zo (A.cel x c e)];exact I.freeC x c e
 .obtain⟨e,n,r⟩:=I.pin p hp
  exact⟨e,by rw[Zo (A.pin p hp)];exact n,r⟩
 .by_cases hb:b=a
  .subst hb;rw[Zu]at e;cases e;exact⟨h1,h2,h3⟩
  .rw[Zo hb]at e
   exact(I.hok b u e).stay (λc v _ q=>q) (λc q=>by rw[Zo (ne _ _ q)];exact q) λc xs q=>by rw[Zo (ne _ _ q)];exact q
abbrev Cx.suite(X:Cx)(a:YG):Cx:={ X with A:=X.A.mark (YB (.ref a)),calm:=YF }
theorem Inv.suite(I:Inv X pins O H s)(a:YG):Inv (X.suite a) pins O H s :=
 ⟨⟨I.ok.mod,I.ok.kind,I.ok.glob,I.ok.blt,I.ok.above,I.ok.inj,I.ok.has,I.ok.cab,λz=>(nomatch z),I.ok.frames,I.ok.stk,I.ok.exf,I.ok.bs,I.ok.bsz,I.ok.noex,I.ok.exfs,I.ok.funs,I.ok.frf⟩,I.os,I.bare,I.base,I.loc,I.cell,I.free,I.freeC,I.pin,I.hok,I.len⟩
theorem Inv.unsuite(ok:X.Ok)(I:Inv (X.suite a) pins O H s):Inv X pins O H s:=⟨ok,I.os,I.bare,I.base,I.loc,I.cell,I.free,I.freeC,I.pin,I.hok,I.len⟩
theorem name_goes{Q:Unit->Xe->Prop}(I:Inv X pins O H s)(hN:X.N.Nodup)(hi:X.N[i]? =YB x)(hk:X.env.scope.names.lookup x=YB .local)
  (h:∀s',Inv X pins (O.set i YC) H s'->Q () s'):Xy M A (do bindName X.env x .none;unbindBehindTheSuite X.env x pos) Q E s:=by
 obtain⟨m,hn,hl⟩:=id I.loc;have hcls:(X.env.scope.kind== .class||(X.env.scope.kind== .module&&X.env.locals !=X.env.globals))=YF:=by rw[I.ok.kind];rfl
 refine wpAny_nameGoes_keeps hk hn hcls λh' u hn' hs=>?_;obtain⟨oL,_,_,hoL,_⟩:=id hn;have neL:∀b o,X.s₀.heap.get? b=YB o->b≠X.env.locals:=λb o e=>Xq (X8 (Xz e) I.ok.above);refine h _ ⟨I.ok,I.os,I.bare,⟨λb o e n hb hx=>?_,λb o e n hb hx=>?_,I.base.free,λb o e hx=>?_,I.base.tups,I.base.frzs,I.base.tbls⟩,⟨_,hn',λj y v' e1 e2 e3=>?_⟩,λy c e=>?_,I.free,I.freeC,λp hp=>?_,λb ob e=>?_,by simpa using I.len⟩
 .exact(hs.2 b (neL b o e)).trans (I.base.keep b o e n hb hx)
 .obtain⟨sl,e1⟩:=I.base.slot b o e n hb hx
  exact⟨sl,(hs.2 b (neL b o e)).trans e1⟩
 .obtain⟨o',e1⟩:=I.base.there b o e hx
  exact⟨o',(hs.2 b (neL b o e)).trans e1⟩
 .by_cases hj:j=i
  .subst hj
   have:j<O.length:=by
    have z:=(Xn.mp e2).1;simpa using z
   rw[Qo this]at e2;cases e2
  .rw[Qc (JW hj)]at e2
   obtain⟨u',r',q⟩:=hl j y v' e1 e2 e3;refine⟨u',r',?_⟩;rcases q with⟨k,e⟩|⟨k,c,e,z⟩
   .refine .inl ⟨k,?_⟩
    have:y≠x:=λe=>hj (Zjr hN e1 (e▸hi));simp[this,e]
   .exact .inr ⟨k,c,e,z.sameBut hs (I.cne y c e)⟩
 .obtain⟨w',z⟩:=I.cell y c e
  exact⟨w',z.sameBut hs (I.cne y c e)⟩
 .obtain⟨e,n,ne,nf,d⟩:=I.pin p hp
  exact⟨(hs.2 p.1 ne).trans e,n,ne,nf,d⟩
 .refine(I.hok b ob e).stay (λc w' hc q=>(hs.2 c ?_).trans q) (λ_ q=>q) λ_ _ q=>q
  rintro rfl;rcases hc with rfl|hc
  .rw[I.free]at e;cases e
  .rw[I.free]at hc;cases hc
end
theorem Rel.forget{C:MC G}{io:List Nat}{O:St}(R:Rel C io H O δ fp ex)(hio:i∉io):∃fp',Rel C io H (O.set i YC) (δ.set i YC) fp' ex/\Kp H fp H fp':=by
 have get:∀j (t':OT),(δ.set i YC)[j]? =YB (YB t')->j≠i/\δ[j]? =YB (YB t'):=λj t' e=>by
  by_cases ej:j=i
  .subst ej
   have hl:j<δ.length:=by simpa using(Xn.mp e).1
   rw[Qo hl]at e;cases e
  .rw[Qc (JW ej)]at e;exact⟨ej,e⟩
 have sub:∀j a,a∈fpu fp i [] j->j≠i/\a∈fp j:=λj a m=>by
  by_cases ej:j=i
  .subst ej;rw[Z2]at m;exact nomatch m
  .rw[Yj ej]at m;exact⟨ej,m⟩
 have lw:∀a,Lf C fp ex a->Lf C (fpu fp i []) ex a:=λa l=>⟨λ⟨j,z⟩=>l.1 ⟨j,(sub j a z).2⟩,l.2⟩;refine⟨fpu fp i [],⟨by rw[Bo,Bo];exact R.len,λj t' e=>?_,λj h=>?_,λj=>?_,λj k a h1 h2=>R.dj j k a (sub j a h1).2 (sub k a h2).2,λj a h z=>R.dx j a (sub j a h).2 z,R.xa,R.fr,R.al,λj a h=>R.new j a (sub j a h).2,λj h=>?_⟩,λb o e _=>e,λz=>(nomatch z),λa ⟨j,z⟩=>.inl ⟨j,(sub j a z).2⟩,λb e=>e⟩
 .obtain⟨ej,e⟩:=get j t' e
  obtain⟨w,e1,o⟩:=R.own j t' e;exact⟨w,by rw[Qc (JW ej)];exact e1,by rw[Yj ej];exact o.wide λa l _=>lw a l⟩
 .by_cases ej:j=i
  .subst ej;rw[Z2]
  .rw[Yj ej]
   exact R.emp j λt' z=>h t' (by rw[Qc (JW ej)];exact z)
 .by_cases ej:j=i
  .subst ej;rw[Z2];exact .nil
  .rw[Yj ej];exact R.nd j
 .rw[Qc (λz=>hio (by rw[z];exact h))];exact R.io j h
theorem Zvn{g:Array GenState}{d:Drawn}{t:Nat}{os:OsState}{e D:YG}{oe:Obj}{Q:Bool->Xe->Prop}(X:K.In h)(q:Zhi K D)
  (hs:Be K (.ref C) (.ref D)=YB YD) (he:h.get? e=YB oe) (hc:oe.cls= .ref C) (hQ:Q YD ⟨h,g,d,t,os⟩):Xy M A (excMatches (.ref e) (.ref D)) Q E ⟨h,g,d,t,os⟩:=by
 obtain⟨bm,N,nm,qn,bs,hdct,sn,sub,ab,col,dd,k0,k1,k2,k3,k5,mN,hC,hN,hni,TL⟩:=Zti X q;have L:=PySem.W.looks_subIn (M:=M) X hs;have f:=tc_notTuple;have hB:(Qj D::bm).contains (.type "BaseException")=YD:=by rw[List.contains_cons,TL.hasType UJ.hasBase,Bool.or_true]
 unfold excMatches
 repeat (first|(with_reducible refine Vp he ?_;rw[hc])|with_reducible refine Vp hC ?_|(with_reducible refine Xb (Q9.at L ?_))|(with_reducible refine Q9.at L ?_)|(with_reducible refine wpAny_isSubtype_exc hC ?_;rw[hB])|wp_step)
 exact hQ
def Ya6(G:Xc)(Dc:YG)(i:Nat)(u:MSt)(x:MXt)(h:MSt):MSt:=λD δ=>u D δ\/x δ λcl δ'=>∃xn,Uy G xn cl/\(Zbl G cl/\Be G (.ref cl) (.ref Dc)=YB YD)/\
 h { nx:=λδ2=>D.nx (δ2.set i YC),rt:=λ_ _=>False } (δ'.set i (YB (.fz (exD xn))))
section
variable {n:Str}{Dc:YG}{b₀:YK}{suite:List YK}{hpos np:Pos}{u h:MSt}{x:MXt}
theorem Z32(hN:X.N.Nodup)(hi:X.N[i]? =YB n)(hk:X.env.scope.names.lookup n=YB .local)(hg:Gl X y)(hm:X.mg y=YB (.ref Dc))(q:Zhi X.K Dc)(hb:MSs X io body u)(hbx:XSs X io body x)(hs:∀a,MSs (X.suite a) io (b₀::suite) h)
  (hio:i∉io:=by decide) (hex:X.ex=[]:=by rfl) (hst:X.stack=X.env::X.outer:=by rfl) (hf:X.env.frame=YB X.env.locals:=by rfl) (hx:X.xe= λ_ _=>False:=by rfl) (hdb:(y==("__debug__" : Str))=YF:=by decide) :
  MS X io (.Try body [.ExceptHandler (YB (.Name y np)) (YB n) (b₀::suite) hpos] [] [] pos) (Ya6 X.K Dc i u x h):=by
 refine⟨λD' O H=>∃(C:MC X.K) (δ:Ze) (fp:Fp) (ex:YG->Prop) (D:Zgm),Rel C io H O δ fp ex/\Ya6 X.K Dc i u x h D δ/\RelEnds C io ex H fp D D',?_,λC H O δ fp ex D D' R hm E=>⟨C,δ,fp,ex,D,R,hm,E⟩⟩;intro pins s O H D' I hq;obtain⟨C,δ,fp,ex,D,R,hm',EE⟩:=hq;rcases hm' with hu|hr
 .obtain⟨tb,Ab,sb⟩:=hb
  refine wpAny_Try_except (Qw (Ab pins s O H D' I (sb C H O δ fp ex D D' R hu EE)) (λf s1 z=>?_) λe s1 z=>by rw[hx]at z;exact z.elim);cases f with
  | next=>exact U9 z
  | ret v=>exact z
  | brk=>exact z
  | cont=>exact z
 refine wpAny_Try_except (Qw (hbx C pins s O H δ fp ex _ I R hr) (λ_ _ z=>z.elim) λe s1 z=>?_);obtain⟨a,cl,O1,H1,δ1,fp1,rfl,I1,F1,R1,K1,xn,hxn,⟨Z,hsub⟩,hh⟩:=z;refine Zkh I1 hex hst hf I1.ok.frames F1 λs2 I2 F2=>Zjo I2 hex F2 λs3 I3 F3=>?_;refine wpAny_handleBy_cons (codeAny_handlers_test (Zhx (X:=X.suite a) (I3.suite a) hg hm ?_ hdb)) (by intro z;cases z);obtain⟨oe,vs,e1,e2,e3⟩:=F3.exO;have KI:=I3.kIn;obtain⟨g3,gg3,d3,t3,os3⟩:=s3;refine Zvn KI q hsub e1 e2 (codeAny_handlers_suite_as ?_);refine Zjo I3 hex F3 λs4 I4 F4=>?_;have ap:Uh X pins H1 a:=by obtain⟨_,_,_,_,_,_,_,_,_,_,_,_,_,_,z,_⟩:=F4;exact z
 have x4:=F4.exO;have I5:Inv X pins O1 (upd H1 a (.ext (ExO cl a))) s4:=I4.track ap x4 (let⟨o,_,e,_⟩:=x4;⟨o,e⟩) λg1 g2 ⟨o,vs,z1,z2⟩ k=>⟨o,vs,k o z1,z2⟩;have sm:Same H1 (upd H1 a (.ext (ExO cl a))):=Ye ap.fr _;have R5:=R1.grown sm;obtain⟨fp2,R6,K6⟩:=RE.put (p:=YD) (RE.fz (c:=YD) R5 (Stp.refl YD _ _ _) (.exc Z hxn Zu)) R5 hio;refine Zkq (X:=X.suite a) (v:=.ref a) (I5.suite a) hN hi (.inl hk) rfl (λs5 I6=>?_) (.inr hk);obtain⟨ts,As,ss⟩:=hs a;refine Qw (As pins s5 _ _ { nx:=λO' H'=>∃δ' fp',Rel C io H' O' δ' fp' ex/\Kp (upd H1 a (.ext (ExO cl a))) fp2 H' fp'/\D.nx (δ'.set i YC),rt:=λ_ _=>False } I6
  (ss C _ _ _ fp2 ex _ _ R6 hh ⟨λH' O' δ' fp' R' k' h'=>⟨δ',fp',R',k',h'⟩,λ_ _ _ _ _ _ z=>z.elim,λ_ _ _ _ _ _ z=>z.elim,λ_ _ _ _ _ _ _ _ _ _ _ z=>z.elim⟩)) (λf s6 z=>?_) λe s6 z=>by
   have z':X.xe e s6:=z;rw[hx]at z';exact z'.elim
 cases f with
 | next=>
  obtain⟨O7,H7,I7,δ7,fp7,R7,K7,h7⟩:=z;obtain⟨fp8,R8,K8⟩:=R7.forget hio;exact name_goes (I7.unsuite I4.ok) hN hi hk λs8 I8=>⟨_,_,I8,EE.nx H7 _ _ fp8 R8 (K1.trans ((Stp.same sm sm.al:Kp H1 fp1 _ fp1).trans (K6.trans (K7.trans K8)))) h7⟩
 | ret v=>obtain⟨_,_,_,_,_,w⟩:=z;exact w.elim
 | brk=>obtain⟨_,_,_,w⟩:=z;exact w.elim
 | cont=>obtain⟨_,_,_,w⟩:=z;exact w.elim
end
theorem Zx2(b:Bool)(k:Bool->Prop):asB (.bool b) k=k b:=rfl
theorem Da.exInv(q:Da G H L v (exD x)):∃a C,v= .ref a/\Zbl G C/\Uy G x C/\H a=YB (.ext (ExO C a)):=by
 generalize e:exD x=d at q;cases q with
 | exc Z n h=>
  have e':=e;unfold exD at e';injection e' with e';injection e' with e' _;injection e' with e' _;injection e' with e';subst e';exact⟨_,_,rfl,Z,n,h⟩
 | _=>unfold exD at e;cases e
inductive ClsV:V->Xd->Prop where
 | own (D:YG):ClsV (.ref D) (.ref D)
 | ty (T:String):ClsV (.ty T) (.type T)
theorem ClsV.val{c:Xd}(h:ClsV v c)(r:RelV v u):u=c:=by
 cases h with
 | own D=>exact r
 | ty T=>exact r
inductive ClsVs:List V->List Xd->Prop where
 | nil:ClsVs [] []
 | cons {v:V} {c:Xd} {vs:List V} {cs:List Xd}:ClsV v c->ClsVs vs cs->ClsVs (v::vs) (c::cs)
theorem ClsVs.vals{cs:List Xd}(h:ClsVs vs cs)(k:Vals vs us):us=cs:=by
 induction h generalizing us with
 | nil=>cases k;rfl
 | cons h t ih=>
  cases k with
  | cons r q=>rw[h.val r,ih q]
theorem ClsVs.length:∀{vs:List V} {cs:List Xd},ClsVs vs cs->vs.length=cs.length
 | _,_,.nil=>rfl
 | _,_,.cons _ t=>by simp[t.length]
def Yb2(G:Xc):List V->Hp->VK->Prop:=λxs H Q=>∃a C v c b,xs=[.ref a,v]/\Zbl G C/\H a=YB (.ext (ExO C a))/\ClsV v c/\Qi G (.ref C) c=YB b/\Q (.bl b) H
def Z6v(G:Xc):List V->Hp->VK->Prop:=λxs H Q=>∃a C p vs cs b,xs=[.ref a,.ref p]/\Zbl G C/\H a=YB (.ext (ExO C a))/\H p=YB (.tup vs)/\ClsVs vs cs/\Bu G (.ref C) cs=YB b/\Q (.bl b) H
theorem Zrl:Zec X (.builtin "isinstance") (Yb2 X.K):=by
 intro pins s O H xs us Q I r h;obtain⟨a,C,v,c,b,rfl,Z,e,hc,hb,h⟩:=h;obtain⟨u,w',rfl,r1,r2⟩:=vals2 r;cases(show u=Qj a from r1);rw[hc.val r2];obtain⟨⟨o,vs,ho,hcl,_⟩,_,_⟩:=(show ObjOk X.prog X.w H s.heap a (.ext (ExO C a))from I.hok a _ e);exact QR (Zj2 Z) I.kIn ⟨o,ho,hcl⟩ hb (λz=>nomatch z) λtk=>⟨.bl _,H,I.tok tk,rfl,h⟩
theorem Zqa:Zec X (.builtin "isinstance") (Z6v X.K):=by
 intro pins s O H xs us Q I r h;obtain⟨a,C,p,vs,cs,b,rfl,Z,e,ep,hc,hb,h⟩:=h;obtain⟨u,w',rfl,r1,r2⟩:=vals2 r;cases(show u=Qj a from r1);cases(show w'=Qj p from r2);obtain⟨⟨o,vs',ho,hcl,_⟩,_,_⟩:=(show ObjOk X.prog X.w H s.heap a (.ext (ExO C a))from I.hok a _ e);obtain⟨_,its,q,⟨⟨oc,od,oda,osl⟩,hp,hpc,n,hpd⟩⟩:=(show ObjOk X.prog X.w H s.heap p (.tup vs)from I.hok p _ ep);dsimp only at hpc hpd;subst hpc hpd;rw[hc.vals q]at hp;exact PySem.W.kia_tup (Zj2 Z) I.kIn ⟨o,ho,hcl⟩ hp hb (λz=>nomatch z) λtk=>⟨.bl _,H,I.tok tk,rfl,h⟩
def Z31(G:Xc)(c:Xd)(m:MEt):MEt:=λδ K=>m δ λr δ'=>∃x C b,r.data=exD x/\Uy G x C/\Qi G (.ref C) c=YB b/\K (.fz (.bool b)) δ'
def Zy0(G:Xc)(cs:List Xd)(m:MEt):MEt:=λδ K=>m δ λr δ'=>∃x C b,r.data=exD x/\Uy G x C/\Bu G (.ref C) cs=YB b/\K (.fz (.bool b)) δ'
section
variable {a:YJ}
theorem Zya{cv:Xd}(hb:PE X b (tC v))(hv:ClsV v cv)(hg:Gl X "isinstance")(hm:X.mg "isinstance"=YC)(hbv:X4 "isinstance"=YB (.builtin "isinstance"))(ha:ME X io p c a ma)
  (he:Xr [a,b] X.env=(YF,eval a X.env)::Xr [b] X.env:=by rfl) (he2:Xr [b] X.env=(YF,eval b X.env)::Xr [] X.env:=by rfl) (hpl:(JG pos (Xr [b] X.env)).any (·.1)=YF:=by rfl) :
  ME X io p YD (.Call (.Name "isinstance" pp) [a,b] [] pos) (Z31 X.K cv ma):=by
 obtain⟨_,A,s⟩:=ha;refine⟨_,Zes Zrl hg hm hbv (Ys A (Ys hb Zdq he2) he) (by decide) (by decide) he hpl,?_⟩;intro C H O δ fp ex K' Q R h k;refine s C H O δ fp ex _ _ R h λH' v r δ' fp' new r1 h1=>?_;obtain⟨xn,Cx,bb,e,hn,hk,h2⟩:=h1;have q:=r1.da R;rw[e]at q;obtain⟨a,C0,rfl,Z,hn0,eh⟩:=q.exInv;have eC:C0=Cx:=by
  have:=hn0.symm.trans hn;injection this with this;injection this with this;injection this
 subst eC;exact⟨a,C0,_,cv,bb,rfl,Z,eh,hv,hk,k H' _ _ δ' fp' [] (.fz r1.base r1.stp (.bl _)) h2⟩
theorem Z14{bs:List YJ}{x1}{t:TA}{cs:List Xd}(hb:PA X bs t)(ht:∀O H Q,Q vs H->t O H Q)(hv:ClsVs vs cs)(hl:vs.length<=Xw)(hg:Gl X "isinstance")(hm:X.mg "isinstance"=YC)(hbv:X4 "isinstance"=YB (.builtin "isinstance"))(ha:ME X io p c a ma)
  (he:Xr [a,.Tuple bs x1 p2] X.env=(YF,eval a X.env)::Xr [.Tuple bs x1 p2] X.env:=by rfl) (he2:Xr [.Tuple bs x1 p2] X.env=(YF,eval (.Tuple bs x1 p2) X.env)::Xr [] X.env:=by rfl) (hpl:(JG pos (Xr [.Tuple bs x1 p2] X.env)).any (·.1)=YF:=by rfl) :
  ME X io p YD (.Call (.Name "isinstance" pp) [a,.Tuple bs x1 p2] [] pos) (Zy0 X.K cs ma):=by
 obtain⟨_,A,s⟩:=ha;refine⟨_,Zes Zqa hg hm hbv (Ys A (Ys (Zsm hb) Zdq he2) he) (by decide) (by decide) he hpl,?_⟩;intro C H O δ fp ex K' Q R h k;refine s C H O δ fp ex _ _ R h λH' v r δ' fp' new r1 h1=>?_;obtain⟨xn,Cx,bb,e,hn,hk,h2⟩:=h1;have q:=r1.da R;rw[e]at q;obtain⟨a,C0,rfl,Z,hn0,eh⟩:=q.exInv;have eC:C0=Cx:=by
  have:=hn0.symm.trans hn;injection this with this;injection this with this;injection this
 subst eC;refine ht _ _ _ ⟨hl,λtp hp=>?_⟩;have sm:Same H' (upd H' tp (.tup vs)):=Ye hp _;refine⟨a,C0,tp,vs,cs,bb,rfl,Z,sm _ _ eh,Zu,hv,hk,k _ _ _ δ' fp' [] (.fz (r1.base.grown sm) ?_ (.bl _)) h2⟩;have z:=r1.stp.trans (p':=YD) (Stp.same (p:=YD) (δ:=δ') (fp:=fp') sm sm.al)
 rwa[V4]at z
end
end L2
namespace L2
open PySem PySem.Spec PyProof.Rows PySem.P
section
variable {e t0:YG}{vs:Array Xd}{m:Str}
structure Ye0(s:Xe)(e C t0:YG)(m:Str)(tk:Tok):Prop where
 ob:∃o vs,s.heap.get? e=YB o/\o.cls= .ref C/\o.data= .fields vs/\vs[0]? =YB (.ref t0)
 tx:s.heap.TupAt t0 [.str m tk]
end
section
variable {j:Str}{jk:Nat}{np kp p1:Pos}
end
end L2
namespace L2
open PySem PySem.Spec PyProof.Rows
variable {G:Xc}
theorem Rel.topN{io:List Nat}{C:MC G}{O:St}{ts':List OT}{a':YG}{bs bs' new:List YG}(R:Rel C io H O δ fp (exu ex new))(hi:δ[i]? =YB (YB (.nd ts)))(hv:O[i]? =YB (YB (.ref a')))
  (hf:fp i=a'::bs) (hx:H a'=YB (.lst xs)) (o:Owns G H (Lf C fp (exu ex new)) ys ts' bs') (hs:∀a∈bs',a∈bs\/a∈new) (ndb:(a'::bs').Nodup) (hn:∀a∈new,C.H₀ a=YC/\¬ex a) :
  Rel C io (upd H a' (.lst ys)) O (δ.set i (YB (.nd ts'))) (fpu fp i (a'::bs')) ex/\∀a,Foot (fpu fp i (a'::bs')) a->Foot fp a\/a∈new:=by
 have hil:i<δ.length:=(Xn.mp hi).1;have hm:a'∈fp i:=by rw[hf];exact .head _
 have kp:∀b o,H b=YB o->b≠a'->upd H a' (.lst ys) b=YB o:=λb o e n=>by rw[Zo n];exact e
 have mem:∀a,a∈a'::bs'->a∈fp i\/a∈new:=λa m=>by
  rw[hf];rcases Xi.mp m with rfl|m
  .exact .inl (.head _)
  .exact(hs a m).imp (λz=>.tail _ z) id
 have sub:∀a,Foot (fpu fp i (a'::bs')) a->Foot fp a\/a∈new:=λa z=>by
  rcases z.of_u with z|⟨j,_,z⟩
  .exact(mem a z).imp (λz=>⟨i,z⟩) id
  .exact .inl ⟨j,z⟩
 have lw:∀a,Lf C fp (exu ex new) a->Lf C (fpu fp i (a'::bs')) ex a:=λa l=>⟨λz=>(sub a z).elim l.1 λz=>l.2.1 (.inr z),λz=>l.2.1 (.inl z),l.2.2⟩;have f1:∀a (zs:MuO),Lf C fp (exu ex new) a->Rd H a zs.ho->Lf C (fpu fp i (a'::bs')) ex a/\Rd (upd H a' (.lst ys)) a zs.ho:=λa zs l q=>by
  have na:a≠a':=λz=>l.1 ⟨i,by rw[z];exact hm⟩;refine⟨lw a l,?_⟩;rcases q with q|⟨u,q⟩
  .exact .inl (kp a _ q na)
  .exact .inr ⟨u,kp a _ q na⟩
 have f2:∀a (zs:ImO),H a=YB zs.ho->upd H a' (.lst ys) a=YB zs.ho:=λa zs q=>kp a _ q λz=>ImO.nl q (z▸hx);have hn':=Qh.mp ndb;refine⟨⟨by rw[Bo];exact R.len,λj t' e=>?_,λj h=>?_,λj=>?_,λj k a h1 h2=>?_,λj a h z=>?_,λa z=>?_,λb ob e nb=>?_,λb e=>?_,λj a h=>?_,R.io⟩,sub⟩
 .by_cases ej:j=i
  .subst ej
   rw[Qo hil]at e;cases e;exact⟨_,hv,by rw[Z2];exact .nd Zu (o.frame f1 f2 λa m zs q=>kp a _ q λz=>hn'.1 (z▸m))⟩
  .rw[Qc (JW ej)]at e
   obtain⟨w,e1,o1⟩:=R.own j t' e;exact⟨w,e1,by rw[Yj ej];exact o1.frame f1 f2 λa m zs q=>kp a _ q λz=>ej (R.dj j i a m (z▸hm))⟩
 .by_cases ej:j=i
  .subst ej;exact YX (Qo hil) (h _)
  .rw[Yj ej]
   exact R.emp j λt' z=>h t' (by rw[Qc (JW ej)];exact z)
 .by_cases ej:j=i
  .subst ej;rw[Z2];exact ndb
  .rw[Yj ej];exact R.nd j
 .have one:∀k,k≠i->a∈a'::bs'->a∈fp k->False:=λk ek m1 m2=>by
   rcases mem a m1 with z|z
   .exact ek (R.dj k i a m2 z)
   .exact R.dx k a m2 (.inr z)
  by_cases ej:j=i
  .by_cases ek:k=i
   .rw[ej,ek]
   .rw[ej,Z2]at h1
    rw[Yj ek]at h2;exact(one k ek h1 h2).elim
  .rw[Yj ej]at h1
   by_cases ek:k=i
   .rw[ek,Z2]at h2
    exact(one j ej h2 h1).elim
   .rw[Yj ek]at h2
    exact R.dj j k a h1 h2
 .by_cases ej:j=i
  .rw[ej,Z2]at h
   rcases mem a h with m|m
   .exact R.dx i a m (.inl z)
   .exact(hn a m).2 z
  .rw[Yj ej]at h
   exact R.dx j a h (.inl z)
 .by_cases e:a=a'
  .subst e;rw[Zu];intro q;cases q
  .rw[Zo e];exact R.xa a (.inl z)
 .refine kp b ob (R.fr b ob e nb) λz=>?_
  rcases R.new i a' hm with y|y
  .exact nb (z▸y.2)
  .rw[z,y]at e;cases e
 .refine R.al b ?_
  by_cases q:b=a'
  .subst q;rw[Zu]at e;cases e
  .rwa[Zo q]at e
 .by_cases ej:j=i
  .rw[ej,Z2]at h
   rcases mem a h with m|m
   .rw[ej];exact R.new i a m
   .exact .inr (hn a m).1
  .rw[Yj ej]at h
   exact R.new j a h
def Zg1(i:Nat)(m:MEt):MSt:=λD δ=>match δ[i]? with
 | some (YB (.nd _))=>m δ λr δ1=>match δ1[i]? with
  | some (YB (.nd ts))=>ts.length<Xw/\D.nx (δ1.set i (YB (.nd (ts++[r]))))
  | _=>False
 | _=>False
section
variable {X:Cx}{io:List Nat}{p c:Bool}{e:YJ}{m:MEt}{pos apos cpos px:Pos}{i:Nat}{x:Str}
theorem Zpu(i:Nat)(he:ME X io p YD e m)(hN:X.N[i]? =YB x:=by rfl)(hv:Vis X.env.scope x:=by first|exact Qx rfl|exact Qm (Qx rfl)|exact Qm (Qm rfl))(hd:(x==("__debug__" : Str))=YF:=by decide)
  (hcd:(x==("__classdict__" : Str))=YF:=by decide)
  (hbase:UW (.Name x px) "append" X.env (eval (.Name x px) X.env)=eval (.Name x px) X.env:=by rfl)
  (hfew:((JG cpos (Xr [e] X.env)).all (λx=>!x.1)&&(backToKw cpos (keywordEach [] X.env)).all (λx=>x.1.isSome)
   &&decide ([e].length+([]:List Uu).length+(if([]:List Uu).isEmpty then 0 else 1)<30))=YD:=by rfl)
  (hline:(apos.endLine==cpos.line)=YD:=by rfl) (hs:Xr [e] X.env=(YF,eval e X.env)::Xr [] X.env:=by rfl) (hplain:(JG cpos (Xr [] X.env)).any (·.1)=YF:=by rfl)
  (hsw:Vn (.Call (.Attribute (.Name x px) "append" apos) [e] [] cpos) YC pos.line X.env=pure YF:=by rfl) :
  MS X io (.Expr (.Call (.Attribute (.Name x px) "append" apos) [e] [] cpos) pos) (Zg1 i m):=by
 obtain⟨_,A,s⟩:=he;refine⟨_,Zjk (Zzb PySem.F.plainAttrs_list PySem.F.slot_list_append PySem.F.type_list_append Zep (pv i hN hv hd hcd) (Ys A Zdq hs) hbase hfew hline hs hplain) hsw,λC H O δ fp ex D D' R h E=>?_⟩;unfold Zg1 at h;split at h
 case h_2=>exact h.elim
 rename_i ts0 hi0;obtain⟨a',xs0,bs0,hv0,hx0,_,_⟩:=R.ownNd hi0;refine⟨_,hv0,.inl ⟨rfl,xs0,.inl (.inl hx0)⟩,?_⟩;refine s C H O δ fp ex _ _ R h λH1 v r δ1 fp1 new r1 h1=>?_;split at h1
 case h_2=>exact h1.elim
 rename_i ts1 hi1;have R1:=r1.rel;obtain⟨a1,xs1,bs1,hv1,hx1,o1,hf1⟩:=R1.ownNd hi1;rw[hv0]at hv1;cases hv1;refine⟨a',xs1,v,rfl,rfl,hx1,by rw[o1.length];exact h1.1,?_⟩;have ow:Own X.K H1 (Lf C fp1 (exu ex new)) v r new:=r1.own.wide λa l _=>l rfl;have o2:=o1.snoc ow;have nd1:=R1.nd i;rw[hf1]at nd1;have hn1:=Qh.mp nd1;have hm1:∀a,a∈a'::bs1->a∈fp1 i:=λa m=>by rw[hf1];exact m
 have apart:∀a,a∈new->a∉a'::bs1:=λa m z=>R1.dx i a (hm1 a z) (.inr m);obtain⟨R2,sub⟩:=R1.topN hi1 hv0 hf1 hx1 o2 (λa m=>Qt.mp m) (Qh.mpr ⟨λm=>by
   rcases Qt.mp m with z|z
   .exact hn1.1 z
   .exact apart a' z (.head _),JS.mpr ⟨hn1.2,r1.nd,λa m b m' z=>apart b m' (by rw[<-z];exact .tail _ m)⟩⟩) λa m=>⟨(R.newOk (r1.fresh a m)).2.2,(R.newOk (r1.fresh a m)).2.1⟩
 refine E.nx _ O _ _ R2 ⟨λb o eb q=>?_,λz=>(nomatch z),λa z=>?_,λb eb=>?_⟩ h1.2
 .have q':=q.resolve_left (by decide)
  rw[Zo]
  .exact r1.stp.keep b o eb (.inr q')
  .rintro rfl
   rcases r1.stp.grow b ⟨i,hm1 b (.head _)⟩with z|z
   .exact q' z
   .rw[eb]at z;cases z
 .rcases sub a z with z|z
  .exact r1.stp.grow a z
  .exact .inr (r1.fresh a z)
 .refine r1.stp.al b ?_
  by_cases q:b=a'
  .subst q;rw[Zu]at eb;cases eb
  .rwa[Zo q]at eb
end
variable {G:Xc}
theorem Rel.forget2{io:List Nat}{C:MC G}{O O':St}(R:Rel C io H O δ fp ex)(hio:i∉io)(hl:O'.length=O.length)(hσ:∀q,q≠i->O'[q]? =O[q]?) :
  ∃fp',Rel C io H O' (δ.set i YC) fp' ex/\Kp H fp H fp':=by
 obtain⟨fp',R',K'⟩:=R.forget hio;refine⟨fp',⟨by rw[hl,<-R'.len,Bo],λj t e=>?_,R'.emp,R'.nd,R'.dj,R'.dx,R'.xa,R'.fr,R'.al,R'.new,λj hj=>?_⟩,K'⟩
 .obtain⟨v,e1,o⟩:=R'.own j t e
  have ej:j≠i:=λz=>by
   subst z
   by_cases q:j<δ.length
   .rw[Qo q]at e;cases e
   .rw[QB (by simpa using Nat.le_of_not_lt q)]at e;cases e
  rw[Qc (JW ej)]at e1;exact⟨v,by rw[hσ j ej];exact e1,o⟩
 .have ej:j≠i:=λz=>hio (z▸hj)
  rw[hσ j ej];exact R.io j hj
section
variable {X:Cx}{io:List Nat}{e:YJ}{pos apos cpos px pt pl p2:Pos}{i j:Nat}{x y:Str}
end
section
variable {X:Cx}{io:List Nat}{e:YJ}{i:Nat}{y:Str}
end
section
variable {X:Cx}{pins:List (YG×Obj)}{O:St}{H:Hp}{s:Xe}{M:Model}{A:Qk}{E:Xd->Xe->Prop}{Q:Unit->Xe->Prop}{C a L:YG}{fl:Xd}
theorem Zxc(I:Inv X pins O H s)(F:Fl (Uh X pins H) C a fl s.heap)
  (h:∀s',Inv X pins O H s'->Fl (Uh X pins H) C a (JD L) s'.heap->Q () s'):Xy M A (setFlight (.ref a) (YB L)) Q E s:=by
 obtain⟨a0,oe,vs,T,oT,ts,eA,cA,dA,v1,nT,eT,dT,t3,pA,pT⟩:=F;have hsz:3<ts.size:=(VG.mp t3).1;unfold setFlight;refine Xb (JP eA dA v1 ?_);rw[YL (show(Qj T !=QD)=YD from by simp)];refine wpAny_setField eT dT hsz ?_;have hm:Obj.mapFields (λz=>z.setIfInBounds 3 ((YB L:Option YG).elim QD λf=>JD f)) oT={ oT with data:=.fields (ts.setIfInBounds 3 (JD L)) }:=by
  obtain⟨c1,c2,c3,c4⟩:=oT;have dT':c3= .fields ts:=dT;subst dT';rfl
 have self:=Uk (Obj.mapFields (λz=>z.setIfInBounds 3 ((YB L:Option YG).elim QD λf=>JD f))) eT (by rw[hm];rfl);have other:∀b o,b≠T->s.heap.get? b=YB o->(s.heap.update T (Obj.mapFields (λz=>z.setIfInBounds 3 ((YB L:Option YG).elim QD λf=>JD f)))).get? b=YB o:=λb o n e=>(Heap.get?_update_other _ _ (JW n)).trans e;rw[hm]at self;refine h _ (I.flown (t':=s.toks) (ch:=[T]) (λb hb=>by rw[Xv.mp hb];exact pT) (λb o hf hc e=>other b o (λz=>hc (by simp[z])) e) λb o hb e=>?_) ⟨a0,oe,vs,T,_,_,other a oe (JW nT) eA,cA,dA,v1,nT,self,rfl,?_,pA,pT⟩
 .obtain⟨_,o',ho',hd⟩:=I.stack.mem hb
  have hbT:b≠T:=λz=>by
   subst z;rw[eT]at ho';cases ho';exact hd ts dT
  exact⟨o.slots,other b o hbT e⟩
 .simp[hsz]
theorem Zs2{Cm:MC X.K}{k:YG->Ze->Prop}(hex:X.ex=[]:=by rfl)(hst:X.stack=X.env::X.outer:=by rfl)(hf:X.env.frame=YB X.env.locals:=by rfl) :
  PassesOwn (XR X.prog X.w) X.A X.env (XW X Cm io pins ex H fp k):=by
 rintro e s' ⟨a,cl,O',H',δ',fp',rfl,I,F,R,Kp,hk⟩;refine Zkh I hex hst hf I.ok.frames F λs1 I1 F1=>?_;have F1':=F1;obtain⟨a0,oe,vs,T,oT,ts,eA,cA,dA,v1,nT,eT,dT,t3,pA,pT⟩:=F1;show Xy _ _ _ _ _ s1;refine Xb (JP eA dA v1 ?_);rw[YM (by simp)];rw[hf];exact Zxc I1 F1' λs2 I2 F2=>⟨a,cl,O',H',δ',fp',rfl,I2,.inr (.inr F2),R,Kp,hk⟩
end
def Z4g(ds:List Xa)(g:MGt)(u:MSt)(x:MXt)(δ:Ze)(k:YG->Ze->Prop):Prop:=∃(I:Nat->Ze->Prop) (r:Nat),r<ds.length/\I 0 δ/\
 (∀ i d δ',i<r->ds[i]? =YB d->I i δ'->g d δ' λδ2=>u { nx:=I (i+1),ct:=I (i+1),rt:=λ_ _=>False } δ2)/\∀d δ',ds[r]? =YB d->I r δ'->g d δ' λδ2=>x δ2 k
def Z8h(mi:MIt)(g:MGt)(u:MSt)(x:MXt):MXt:=λδ k=>mi δ λds δ1=>Z4g ds g u x δ1 k
section
variable {X:Cx}{io:List Nat}{p:Bool}{tg iter:YJ}{body:List YK}{mi:MIt}{g:MGt}{u:MSt}{x:MXt}{pos:Pos}
theorem XW.unpin{C:MC X.K}{more:List (YG×Obj)}{k:YG->Ze->Prop}{e:Xd}(h:XW X C io (pins++more) ex H fp k e s):XW X C io pins ex H fp k e s:=by
 obtain⟨a,cl,O',H',δ',fp',rfl,I,F,R,K,hk⟩:=h;have ap:∀b,Uh X (pins++more) H' b->Uh X pins H' b:=λb z=>⟨z.fr,z.new,z.loc,z.cel,λq hq=>z.pin q ((Qt.mp hq).elim (λm=>JL _ m) λm=>XJ _ (JL _ m))⟩;refine⟨a,cl,O',H',δ',fp',rfl,I.unpinned,?_,R,K,hk⟩;rcases F with F|F|F
 .exact .inl (F.imp ap)
 .obtain⟨a0,oe,vs,eA,cA,dA,v1,pA⟩:=F
  exact .inr (.inl ⟨a0,oe,vs,eA,cA,dA,v1,ap _ pA⟩)
 .exact .inr (.inr (F.imp ap))
theorem Z6n(hc:X.calm=YD)(hi:MI X io p YD tg iter mi)(hg:MG X io YD tg g)(hb:MSs X io body u)(hbx:XSs X io body x)(hx:X.xe= λ_ _=>False:=by rfl)
  (hex:X.ex=[]:=by rfl) (hst:X.stack=X.env::X.outer:=by rfl) (hf:X.env.frame=YB X.env.locals:=by rfl) (hs:∀x,JX iter X.env x=pure x:=by intro _;rfl):XS X io (.For tg iter body [] pos) (Z8h mi g u x):=by
 obtain⟨_,A,sI⟩:=hi;obtain⟨gt,G,sg⟩:=hg;obtain⟨tb,B,sb⟩:=hb;intro C pins s O H δ fp ex k I R hm;have hp:PassesOwn (XR X.prog X.w) X.A X.env (XW X C io pins ex H fp k):=Zs2 hex hst hf;have no:∀(E:Xd->Xe->Prop) (e:Xd) (s':Xe),X.xe e s'->E e s':=λE e s' z=>by rw[hx]at z;exact z.elim
 refine wpAny_For (Qw (A pins s O H (λJ H1=>∃W:Nat->Nat->St->Hp->Prop,(∃m,W 0 m O H1)/\∀i m O' H',W i m O' H'->J.go i H'/\∃N:St->Hp->Prop,(∀O2 H2,N O2 H2->∃m',m'<m/\W (i+1) m' O2 H2)/\
   ∀x' H3,J.yld i H' x' H3->gt x' O' H3 λO4 H4=>tb { nx:=N,ct:=N,bk:=λ_ _=>False,rt:=λ_ _=>False } O4 H4\/∃δ4 fp4,Rel C io H4 O4 δ4 fp4 ex/\Kp H fp H4 fp4/\x δ4 k) I (sI C H O δ fp ex _ _ R hm λJ H1 ds δ1 fp1 R1 S1 it h1=>?_)) (λv s1 h1=>Qw h1 (λitv s2 h2=>?_) (no _)) (no _)) hs
 .obtain⟨I0,r,hr,h0,turn,last⟩:=h1
  refine⟨λi n O' H'=>n=r-i/\i<=r/\∃δ' fp',Rel C io H' O' δ' fp' ex/\Kp H1 fp1 H' fp'/\I0 i δ',⟨r,rfl,QG _,δ1,fp1,R1,.refl _ _,h0⟩,?_⟩;rintro i n O2 H2 ⟨rfl,hle,δ2,fp2,R2,k2,i2⟩;have itk:=it H2 (λb o e q=>k2.keep b o e (.inr (q.resolve_left (by decide)))) i;have hlt:i<ds.length:=by omega
  have hd:ds[i]? =YB ds[i]:=Xm hlt;obtain⟨go,yl⟩:=itk.1 _ hd;refine⟨go,λO' H'=>i<r/\∃δ' fp',Rel C io H' O' δ' fp' ex/\Kp H1 fp1 H' fp'/\I0 (i+1) δ',λO' H' ⟨hir,δ',fp',R',k',i'⟩=>⟨r-(i+1),by omega,rfl,hir,δ',fp',R',k',i'⟩,λx' H3 hy=>?_⟩;obtain⟨s3,q3⟩:=yl x' H3 hy;have R3:=R2.mk0 s3;have k3:Kp H1 fp1 H3 fp2:=k2.trans ⟨λb o e _=>s3 _ _ e,λz=>(nomatch z),λa z=>.inl z,s3.al⟩
  by_cases hir:i<r
  .refine sg C H3 O2 δ2 fp2 ex x' _ _ _ R3 (IterOk.at (H':=H2) (J:=J) (ds:=ds) k2.grow q3) (turn i _ δ2 hir hd i2) λO4 δ4 fp4 R4 k4 h4=>?_
   have k5:=k3.trans k4;exact .inl (sb C H3 O4 δ4 fp4 ex _ _ R4 h4 ⟨λH' O' δ' fp' R' k' n'=>⟨hir,δ',fp',R',k5.trans k',n'⟩,λ_ _ _ _ _ _ z=>z.elim,λH' O' δ' fp' R' k' n'=>⟨hir,δ',fp',R',k5.trans k',n'⟩,λ_ _ _ _ _ _ _ _ _ _ _ z=>z.elim⟩)
  .have e:i=r:=by omega
   subst e;refine sg C H3 O2 δ2 fp2 ex x' _ _ _ R3 (IterOk.at (H':=H2) (J:=J) (ds:=ds) k2.grow q3) (last _ δ2 hd i2) λO4 δ4 fp4 R4 k4 h4=>?_;exact .inr ⟨δ4,fp4,R4,S1.kp.trans (k3.trans k4),h4⟩
 .obtain⟨it,fpi,tn,J,H2,e,I2,T,st2,f2,W,⟨m0,w0⟩,turn⟩:=h2
  subst e;have stat:∀{H':Hp},(∀b∈fpi,H' b=YC)->∀b∈fpi,Zi4 X pins H' b:=λhn b hb=>⟨hn b hb,(f2 b hb).2⟩;refine codeAny_forLoop_any (λn s'=>∃i O' H',Inv X pins O' H' s'/\tn i s'.heap/\(∀b∈fpi,H' b=YC)/\W i n O' H') ?_ m0 ⟨0,O,H2,I2,st2,λb hb=>(f2 b hb).1,w0⟩;rintro n s3 ⟨i,O3,H3,I3,st3,fr3,w3⟩;obtain⟨go,N,hN,step⟩:=turn i n O3 H3 w3;refine JR hp (Qw (T.item X rfl rfl rfl hc i pins s3 O3 H3 X.xe I3 (stat fr3) st3 go) (λr s4 qz9=>?_) (no _));obtain⟨u',hr,h4⟩:=qz9;subst hr;refine JR hp (Qw h4 (λ_ s5 qz9=>?_) (no _));obtain⟨x5,H5,I5,r5,y5,st5,fr5⟩:=qz9;have I5':=I5.pinned (stat fr5) (T.obj _ _ st5);refine JR hp (Qw (G _ s5 O3 H5 x5 u' _ I5' r5 (step x5 H5 y5)) (λ_ s6 qz9=>?_) (no _));obtain⟨O6,H6,I6,q6⟩:=qz9;rcases q6 with q6|⟨δ4,fp4,R4,K4,h4⟩
  .refine JR hp (Qw (B _ s6 O6 H6 _ I6 q6) (λf s7 q7=>?_) (no _))
   have again:∀{O7:St} {H7:Hp},Inv X (pins++Zit fpi s5.heap) O7 H7 s7->N O7 H7->∃m,m<n/\∃i O' H',Inv X pins O' H' s7/\tn i s7.heap/\(∀b∈fpi,H' b=YC)/\W i m O' H':=fun{O7 H7} I7 n7=>by
    obtain⟨m',hm,w7⟩:=hN O7 H7 n7;refine⟨m',hm,i+1,O7,H7,I7.unpinned,T.keep _ _ _ st5 λb hb o e=>(I7.pin (b,o) (XJ _ (XJ _ (Zai hb e)))).1,λb hb=>?_,w7⟩;obtain⟨o,e,d⟩:=T.obj _ _ st5 b hb;exact(I7.pin (b,o) (XJ _ (XJ _ (Zai hb e)))).2.1
   cases f with
   | next=>obtain⟨O7,H7,I7,n7⟩:=q7;exact again I7 n7
   | cont=>obtain⟨O7,H7,I7,n7⟩:=q7;exact again I7 n7
   | brk=>obtain⟨_,_,_,z⟩:=q7;exact z.elim
   | ret v=>obtain⟨_,_,_,_,_,z⟩:=q7;exact z.elim
  .exact JR hp (Qw (hbx C _ s6 O6 H6 δ4 fp4 ex k I6 R4 h4) (λ_ _ z=>z.elim) λe s7 z=>(z.shift K4).unpin)
end
abbrev FE:=Ze->Option (OT×Ze)
abbrev FA:=Ze->Option (List OT×Ze)
abbrev FT:=Ze->Option (Bool×Ze)
abbrev FI:=Ze->Option (List Xa×Ze)
abbrev FO:=Ze->Option (Option Int×Ze)
abbrev FG:=Xa->Ze->Option Ze
abbrev FGs:=List Xa->Ze->Option Ze
def o2(f:Ze->Option (Y×Ze)):Ze->(Y->Ze->Prop)->Prop:=λδ K=>∃r δ',f δ=YB (r,δ')/\K r δ'
def oG(g:FG):MGt:=λd δ k=>∃δ',g d δ=YB δ'/\k δ'
def oGs(g:FGs):Zru:=λd δ k=>∃δ',g d δ=YB δ'/\k δ'
section
variable {X:Cx}{io:List Nat}{p c:Bool}{e tg:YJ}{es:List YJ}{m m':MEt}{mr mr':MAt}{mt mt':MTt}{mi mi':MIt}{g g':MGt}{gs gs':Zru}{mo mo':MOt}{st:YK}{sts:List YK}{u u':MSt}{eo:Option YJ}
theorem ME.weak(h:ME X io p c e m)(w:∀δ K,m' δ K->m δ K):ME X io p c e m':=let⟨t,A,s⟩:=h;⟨t,A,λC H O δ fp ex K Q R h k=>s C H O δ fp ex K Q R (w δ K h) k⟩
theorem MA.weak(h:MA X io p c es mr)(w:∀δ K,mr' δ K->mr δ K):MA X io p c es mr':=let⟨t,A,s⟩:=h;⟨t,A,λC H O δ fp ex K Q R h k=>s C H O δ fp ex K Q R (w δ K h) k⟩
theorem MT.weak(h:MT X io p e mt)(w:∀δ K,mt' δ K->mt δ K):MT X io p e mt':=let⟨t,A,s⟩:=h;⟨t,A,λC H O δ fp ex K Q R h k=>s C H O δ fp ex K Q R (w δ K h) k⟩
theorem MW.weak(h:MW X io p e mt)(w:∀δ K,mt' δ K->mt δ K):MW X io p e mt':=let⟨t,A,s⟩:=h;⟨t,A,λC H O δ fp ex K Q R h k=>s C H O δ fp ex K Q R (w δ K h) k⟩
theorem MIfs.weak(h:MIfs X io p es mt)(w:∀δ K,mt' δ K->mt δ K):MIfs X io p es mt':=let⟨t,A,s⟩:=h;⟨t,A,λC H O δ fp ex K Q R h k=>s C H O δ fp ex K Q R (w δ K h) k⟩
theorem MI.weak(h:MI X io p c tg e mi)(w:∀δ K,mi' δ K->mi δ K):MI X io p c tg e mi':=let⟨t,A,s⟩:=h;⟨t,A,λC H O δ fp ex K Q R h k=>s C H O δ fp ex K Q R (w δ K h) k⟩
theorem MO.weak(h:MO X io p eo mo)(w:∀δ K,mo' δ K->mo δ K):MO X io p eo mo':=let⟨t,A,s⟩:=h;⟨t,A,λC H O δ fp ex K Q R h k=>s C H O δ fp ex K Q R (w δ K h) k⟩
theorem MG.weak(h:MG X io c tg g)(w:∀d δ K,g' d δ K->g d δ K):MG X io c tg g':=let⟨t,A,s⟩:=h;⟨t,A,λC H O δ fp ex v d k Q R q h kk=>s C H O δ fp ex v d k Q R q (w d δ k h) kk⟩
theorem MGs.weak(h:MGs X io c es gs)(w:∀d δ K,gs' d δ K->gs d δ K):MGs X io c es gs':=let⟨t,A,s⟩:=h;⟨t,A,λC H O δ fp ex v d k Q R q h kk=>s C H O δ fp ex v d k Q R q (w d δ k h) kk⟩
theorem MS.weak(h:MS X io st u)(w:∀D δ,u' D δ->u D δ):MS X io st u':=let⟨t,A,s⟩:=h;⟨t,A,λC H O δ fp ex D D' R h E=>s C H O δ fp ex D D' R (w D δ h) E⟩
theorem MSs.weak(h:MSs X io sts u)(w:∀D δ,u' D δ->u D δ):MSs X io sts u':=let⟨t,A,s⟩:=h;⟨t,A,λC H O δ fp ex D D' R h E=>s C H O δ fp ex D D' R (w D δ h) E⟩
end
def Zd(i:Nat):FE:=λδ=>match δ[i]? with|some (YB (.fz d))=>YB (.fz d,δ)|_=>YC
def Zcm(i:Nat):FE:=λδ=>match δ[i]? with|some (YB t)=>YB (.fz t.data,δ)|_=>YC
def fC(d:Xa):FE:=λδ=>YB (.fz d,δ)
def Zg(g:Xa->Xa->Option Xa)(a b:FE):FE:=λδ=>(a δ).bind λp=>(b p.2).bind λq=>(g p.1.data q.1.data).bind λd=>YB (.fz d,q.2)
def Yk(g:Xa->Xa->Option OT)(a b:FE):FE:=λδ=>(a δ).bind λp=>(b p.2).bind λq=>(g p.1.data q.1.data).bind λd=>YB (d,q.2)
def fUn(g:Xa->Option Xa)(a:FE):FE:=λδ=>(a δ).bind λp=>(g p.1.data).bind λd=>YB (.fz d,p.2)
def Z3h(a b:FE):FE:=λδ=>(a δ).bind λp=>match p.1.data with| .bool YD=>b p.2| .bool YF=>YB (.fz (.bool YF),p.2)|_=>YC
def fOr(a b:FE):FE:=λδ=>(a δ).bind λp=>match p.1.data with| .bool YD=>YB (.fz (.bool YD),p.2)| .bool YF=>b p.2|_=>YC
def fIf(t:FT)(a b:FE):FE:=λδ=>(t δ).bind λp=>if p.1=YD then a p.2 else b p.2
def tV(e:FE):FT:=λδ=>(e δ).bind λp=>match p.1 with| .fz (.bool b)=>YB (b,p.2)|_=>YC
def tNo(t:FT):FT:=λδ=>(t δ).bind λp=>YB (!p.1,p.2)
def tAn(t u:FT):FT:=λδ=>(t δ).bind λp=>if p.1=YD then u p.2 else YB (YF,p.2)
def tO(t u:FT):FT:=λδ=>(t δ).bind λp=>if p.1=YD then YB (YD,p.2)else u p.2
def tD(e:FE):FT:=λδ=>(e δ).bind λp=>(Zur p.1.data).bind λb=>YB (b,p.2)
def Zn:FA:=λδ=>YB ([],δ)
def Zc(e:FE)(a:FA):FA:=λδ=>(e δ).bind λp=>(a p.2).bind λq=>YB (p.1::q.1,q.2)
def Zsj(a:FA):FE:=λδ=>(a δ).bind λp=>if p.1.length<=Xw then YB (.fz (.tuple (OT.datas p.1)),p.2)else YC
def Zez(a:FA):FE:=λδ=>(a δ).bind λp=>if p.1.length<=Xw then YB (.nd p.1,p.2)else YC
def Zjm(e:FE):FE:=λδ=>(e δ).bind λp=>if Za7 p.1.data=YD then YB (.fz p.1.data,p.2)else YC
def Z7n(e:FE):FE:=λδ=>(e δ).bind λp=>if Z27 p.1=YD then YB (p.1,p.2)else YC
inductive RF where
 | ok (r:OT)
 | exn (c:Str)
 | bad
abbrev FD:=List Xa->RF
abbrev FIO:=OT->List Xa->Option (OT×OT)
def Z4(F:FD)(a:FA):FE:=λδ=>(a δ).bind λp=>match F (OT.datas p.1)with| .ok r=>YB (r,p.2)|_=>YC
def Z6(i:Nat)(F:FIO)(a:FA):FE:=λδ=>match δ[i]? with
 | some (YB _)=>(a δ).bind λp=>match p.2[i]? with
  | some (YB t)=>(F t (OT.datas p.1)).bind λq=>YB (q.1,p.2.set i (YB q.2))
  | _=>YC
 | _=>YC
def Zbt(g:List Xa->Option Xa)(a:FA):FE:=λδ=>(a δ).bind λp=>(g (OT.datas p.1)).bind λd=>YB (.fz d,p.2)
def fBl(g:List Xa->Option OT)(a:FA):FE:=λδ=>(a δ).bind λp=>(g (OT.datas p.1)).bind λd=>YB (d,p.2)
def Zul(T:String)(e:FE):FE:=λδ=>(e δ).bind λp=>if Zim p.1.data=YD then YC else YB (.fz (.bool (Zql T p.1.data)),p.2)
def oN:FO:=λδ=>YB (YC,δ)
def oI(e:FE):FO:=λδ=>(e δ).bind λp=>match p.1.data with| .int i=>YB (YB i,p.2)|_=>YC
def fSl(e:FE)(lo hi:FO):FE:=λδ=>(e δ).bind λp=>(lo p.2).bind λq=>(hi q.2).bind λr=>match p.1.data with| .list ds=>YB (.nd ((cutD ds q.1 r.1).map OT.fz),r.2)|_=>YC
def Zix(f g:Int->Int->Bool)(a b c:FE):FE:=λδ=>(a δ).bind λp=>(b p.2).bind λq=>match p.1.data,q.1.data with
 | .int i,.int j=>if f i j=YD then(c q.2).bind λr=>match r.1.data with| .int k=>YB (.fz (.bool (g j k)),r.2)|_=>YC else YB (.fz (.bool YF),q.2)
 | _,_=>YC
def Zji(e:FE):FI:=λδ=>(e δ).bind λp=>match p.1.data with| .list ds=>YB (ds,p.2)|_=>YC
def iTp(e:FE):FI:=λδ=>(e δ).bind λp=>match p.1.data with| .tuple ds=>YB (ds,p.2)|_=>YC
def rOk(j:Int):Bool:=decide (-(2^62)<=j)&&decide (j<2^62)
theorem Zd8{j:Int}(h:rOk j=YD):-(2^62)<=j/\j<2^62:=by
 unfold rOk at h;rw[XM]at h;exact⟨YW h.1,YW h.2⟩
theorem Zoq{j:Int}(h0:-1000000<=j)(h1:j<=1000000):rOk j=YD:=by
 unfold rOk;rw[YQ (show -(2^62)<=j by omega),YQ (show j<2^62 by omega)];rfl
def iRa(a:FA):FI:=λδ=>(a δ).bind λp=>match OT.datas p.1 with|[.int j]=>if rOk j=YD then YB (Zbs 0 j.toNat,p.2)else YC|_=>YC
def iRb(a:FA):FI:=λδ=>(a δ).bind λp=>match OT.datas p.1 with|[.int i,.int j]=>if(rOk i&&rOk j)=YD then YB (Zbs i (j-i).toNat,p.2)else YC|_=>YC
def Z8u(a:FA):FI:=λδ=>(a δ).bind λp=>match OT.datas p.1 with|[.list as,.list bs]=>YB (Zmj as bs,p.2)|_=>YC
def gNm(i:Nat):FG:=λd δ=>YB (δ.set i (YB (.fz d)))
def Z2t(i:Nat):FG:=λd δ=>if Za7 d=YD then YB (δ.set i (YB (.fz d)))else YC
def gNl:FGs:=λds δ=>match ds with|[]=>YB δ|_=>YC
def gCn(g:FG)(gs:FGs):FGs:=λds δ=>match ds with|d::r=>(g d δ).bind (gs r)|[]=>YC
def gTp(n:Nat)(gs:FGs):FG:=λd δ=>match d with| .tuple ds=>if ds.length=n then gs ds δ else YC|_=>YC
def gLs(n:Nat)(gs:FGs):FG:=λd δ=>match d with| .list ds=>if ds.length=n then gs ds δ else YC|_=>YC
def compLoop(g:FG)(t:FT)(e:FE):List Xa->Ze->Option (List OT×Ze)
 | [],δ=>YB ([],δ)
 | d::ds,δ=>(g d δ).bind λδ1=>(t δ1).bind λp=>if p.1=YD then(e p.2).bind λq=>(compLoop g t e ds q.2).bind λz=>YB (q.1::z.1,z.2)else compLoop g t e ds p.2
def Y9(n:Nat)(caps:List Nat)(it:FI)(g:FG)(t:FT)(e:FE):FE:=λδ=>(it δ).bind λp=>if p.1.length<=Xw then(compLoop g t e p.1 (blk n caps p.2)).bind λz=>YB (.nd z.1,p.2)else YC
def Zlv(n:Nat)(caps:List Nat)(o q:Nat)(it:FI)(g:FG)(t:FT)(e:FE):FE:=λδ=>(it δ).bind λp=>if p.1.length<=Xw/\Zlg caps o p.2=YD then
  (compLoop g t e p.1 (blk n caps p.2)).bind λz=>match p.2[o]?,z.2[q]? with|some (YB _),YB (YB t)=>YB (.nd z.1,p.2.set o (YB t))|_,_=>YC
 else YC
def Zgn:FT:=λδ=>YB (YD,δ)
inductive RS where
 | nx (δ:Ze)
 | rt (r:OT) (δ:Ze)
 | bk (δ:Ze)
 | ct (δ:Ze)
 | ex (c:Str) (δ:Ze)
 | bad
abbrev FS:=Ze->RS
def RS.fits(D:Zgm):RS->Prop
 | .nx δ=>D.nx δ
 | .rt r δ=>D.rt r δ
 | .bk δ=>D.bk δ
 | .ct δ=>D.ct δ
 | _=>False
def oS(f:FS):MSt:=λD δ=>(f δ).fits D
def xS(K:Xc)(f:FS):MXt:=λδ k=>∃c C δ',f δ= .ex c δ'/\Uy K c C/\k C δ'
def Zy(f g:FS):FS:=λδ=>match f δ with| .nx δ'=>g δ'|r=>r
def fNx:FS:=λδ=>.nx δ
def Yfh:FS:=λδ=>.bk δ
def Ye9:FS:=λδ=>.ct δ
def wE(e:FE)(k:OT->Ze->RS):FS:=λδ=>match e δ with|some (r,δ')=>k r δ'|none=>.bad
def wX(F:FD)(a:FA)(k:OT->Ze->RS):FS:=λδ=>match a δ with
 | some (rs,δ1)=>match F (OT.datas rs)with
  | .ok r=>k r δ1
  | .exn c=>.ex c δ1
  | .bad=>.bad
 | none=>.bad
def Zj1:OT->Ze->RS:=λ_ δ=>.nx δ
def Jp:OT->Ze->RS:=λr δ=>.rt r δ
def Ybl:OT->Ze->RS:=λr δ=>if Za7 r.data=YD then .rt (.fz r.data) δ else .bad
def Wt(i:Nat):OT->Ze->RS:=λr δ=>.nx (δ.set i (YB (.fz r.data)))
def Yb1(i:Nat):OT->Ze->RS:=λr δ=>if Za7 r.data=YD then .nx (δ.set i (YB (.fz r.data)))else .bad
def J2(i:Nat):OT->Ze->RS:=λr δ=>.nx (δ.set i (YB r))
def Yf2(g:FG):OT->Ze->RS:=λr δ=>match g r.data δ with|some δ'=>.nx δ'|none=>.bad
def Yad:FS:=λδ=>.rt (.fz .none) δ
def Ze5(i:Nat):FS:=λδ=>match δ[i]? with|some (YB t)=>.rt t (δ.set i YC)|_=>.bad
def J7(t:FT)(u w:FS):FS:=λδ=>match t δ with|some (b,δ')=>if b=YD then u δ' else w δ'|none=>.bad
def Zgg(c:Str):FS:=λδ=>.ex c δ
def Js(i:Nat)(e:FE):FS:=λδ=>match δ[i]? with
 | some (YB (.nd _))=>wE e (λr δ1=>match δ1[i]? with
  | some (YB (.nd ts))=>if ts.length<Xw then .nx (δ1.set i (YB (.nd (ts++[.fz r.data]))))else .bad
  | _=>.bad) δ
 | _=>.bad
def Zag(i:Nat)(e:FE):FS:=λδ=>match δ[i]? with
 | some (YB (.nd _))=>wE e (λr δ1=>match δ1[i]? with
  | some (YB (.nd ts))=>if ts.length<Xw then .nx (δ1.set i (YB (.nd (ts++[r]))))else .bad
  | _=>.bad) δ
 | _=>.bad
def Z2a(i:Nat)(e j:FE):FS:=wE e λr δ1=>match δ1[i]? with
 | some (YB (.nd ts))=>wE j (λn _=>match n.data with
  | .int k=>match ixN ts.length k with
   | some j=>.nx (δ1.set i (YB (.nd (ts.set j (.fz r.data)))))
   | none=>.bad
  | _=>.bad) δ1
 | _=>.bad
def Zcn(i:Nat)(e j j2:FE):FS:=wE e λr δ1=>match δ1[i]? with
 | some (YB (.nd ts))=>wE j (λn _=>match n.data with
  | .int k=>match ixN ts.length k with
   | some j=>match ts[j]? with
    | some (.nd us)=>wE j2 (λn' _=>match n'.data with
     | .int k'=>match ixN us.length k' with
      | some j'=>.nx (δ1.set i (YB (.nd (ts.set j (.nd (us.set j' (.fz r.data)))))))
      | none=>.bad
     | _=>.bad) δ1
    | _=>.bad
   | none=>.bad
  | _=>.bad) δ1
 | _=>.bad
def Z0s(i:Nat)(u:FS):FS:=λδ=>match δ[i]? with|some (YB t)=>u (δ.set i (YB (.fz t.data)))|_=>.bad
def forLoop(g:FG)(u:FS):List Xa->Ze->RS
 | [],δ=>.nx δ
 | d::ds,δ=>match g d δ with
  | none=>.bad
  | some δ1=>match u δ1 with
   | .nx δ2=>forLoop g u ds δ2
   | .ct δ2=>forLoop g u ds δ2
   | .bk δ2=>.nx δ2
   | r=>r
def Zae(it:FI)(g:FG)(u:FS):FS:=λδ=>match it δ with|some (ds,δ1)=>forLoop g u ds δ1|none=>.bad
def whileLoop(t:FT)(u:FS):Nat->Ze->RS
 | 0,_=>.bad
 | n+1,δ=>match t δ with
  | none=>.bad
  | some (b,δ1)=>if b=YD then match u δ1 with
   | .nx δ2=>whileLoop t u n δ2
   | .ct δ2=>whileLoop t u n δ2
   | .bk δ2=>.nx δ2
   | .rt r δ2=>.rt r δ2
   | _=>.bad
   else .nx δ1
open Classical in
def Zi6(t:FT)(u:FS):FS:=λδ=>if h:∃n,whileLoop t u n δ≠ .bad then whileLoop t u (Classical.choose h) δ else .bad
def Zpf(c d:Str):Bool:=c==d||d==("CutError" : Str)||d==("ValueError" : Str)
def Zzk(xs:List Str)(u:FS)(D:Str)(i:Nat)(h:FS):FS:=λδ=>match u δ with
 | .ex c δ'=>if(xs.contains c&&Zpf c D)=YD then match h (δ'.set i (YB (.fz (exD c))))with
   | .nx δ2=>.nx (δ2.set i YC)
   | _=>.bad
  else .bad
 | r=>r
def Zc6(n:Nat)(ds:List Xa):Ze:=ds.map (λd=>YB (.fz d))++By (n-ds.length) YC
def Zjh(n:Nat)(t:OT)(ds:List Xa):Ze:=YB t::(ds.map (λd=>YB (.fz d))++By (n-(ds.length+1)) YC)
def RS.told:RS->RF
 | .nx _=>.ok (.fz .none)
 | .rt r _=>.ok r
 | .ex c _=>.exn c
 | _=>.bad
def Za6(np n:Nat)(S:FS):FD:=λds=>if ds.length=np then(S (Zc6 n ds)).told else .bad
def RS.toldI:RS->Option (OT×OT)
 | .nx δ=>match δ[0]? with|some (YB t)=>YB (.fz .none,t)|_=>YC
 | .rt r δ=>match δ[0]? with|some (YB t)=>YB (r,t)|_=>YC
 | _=>YC
def Zpi(np n:Nat)(S:FS):FIO:=λt ds=>if ds.length+1=np then(S (Zjh n t ds)).toldI else YC
def sD(F:FD):List Xa->(OT->Prop)->Prop:=λds k=>∃r,F ds= .ok r/\k r
def sI(F:FIO):OT->List Xa->(OT->OT->Prop)->Prop:=λt ds k=>∃r t',F t ds=YB (r,t')/\k r t'
def sX(K:Xc)(F:FD):List Xa->YG->Prop:=λds cl=>∃c,F ds= .exn c/\Uy K c cl
theorem bs{x:Option Y}{f:Y->Option β}{b:β}(h:x.bind f=YB b):∃a,x=YB a/\f a=YB b:=Option.bind_eq_some_iff.mp h
section
variable {X:Cx}{io:List Nat}{p c:Bool}{e tg:YJ}{es:List YJ}{st:YK}{sts:List YK}{eo:Option YJ}{fa fb fc:FE}{ra:FA}{ta tb:FT}{i:Nat}
theorem Z8b(h:ME X io p c e (Z9h i)):ME X io p c e (o2 (Zd i)):=h.weak λδ K q91=>by
 obtain⟨r,δ',h,k⟩:=q91;unfold Zd at h;unfold Z9h;split at h
 .rename_i d hd;(try rw[hd]);cases h;exact k
 .cases h
theorem Z4c(h:ME X io p c e (Z9m i)):ME X io p c e (o2 (Zcm i)):=h.weak λδ K q92=>by
 obtain⟨r,δ',h,k⟩:=q92;unfold Zcm at h;unfold Z9m;split at h
 .rename_i d hd;(try rw[hd]);cases h;exact k
 .cases h
theorem Zgl{d:Xa}(h:ME X io p c e (mC d)):ME X io p c e (o2 (fC d)):=h.weak λδ K ⟨r,δ',h,k⟩=>by cases h;exact k
def ByS(g:Xa->Xa->Option Xa)(rp:Xa->Xa->(Xa->Prop)->Prop):Prop:=∀d e r k,g d e=YB r->k r->rp d e k
def ByO(g:Xa->Xa->Option OT)(rp:Xa->Xa->(OT->Prop)->Prop):Prop:=∀d e r k,g d e=YB r->k r->rp d e k
theorem Zye{g rp}(G:ByS g rp){K:OT->Ze->Prop}(h:o2 (Zg g fa fb) δ K):Zmt rp (o2 fa) (o2 fb) δ K:=by
 obtain⟨r,δ',h,k⟩:=h;obtain⟨⟨x,δ1⟩,h1,h⟩:=bs h;obtain⟨⟨y,δ2⟩,h2,h⟩:=bs h;obtain⟨d,h3,h⟩:=bs h;cases h;exact⟨x,δ1,h1,y,δ2,h2,G _ _ _ _ h3 k⟩
theorem J5{g rp}(G:ByS g rp)(h:ME X io p c e (Zmt rp (o2 fa) (o2 fb))):ME X io p c e (o2 (Zg g fa fb)):=h.weak λδ K z=>Zye G z
theorem Yc1{f:FE}{K:Bool->Ze->Prop}(h:o2 (tV f) δ K):o2 f δ (kB K):=by
 obtain⟨b,δ',h,k⟩:=h;obtain⟨⟨x,δ1⟩,h1,h⟩:=bs h;refine⟨x,δ1,h1,?_⟩;unfold kB
 try dsimp only at h|-
 split at h
 .cases h;exact k
 .cases h
theorem Zbe{g rp}(G:ByS g rp)(h:MT X io p e (λδ K=>Zmt rp (o2 fa) (o2 fb) δ (kB K))):MT X io p e (o2 (tV (Zg g fa fb))):=h.weak λδ K z=>Zye G (Yc1 z)
theorem Zrm{g rp}(G:ByO g rp)(h:ME X io p c e (Z9g rp (o2 fa) (o2 fb))):ME X io p c e (o2 (Yk g fa fb)):=h.weak λδ K h=>by
 obtain⟨r,δ',h,k⟩:=h;obtain⟨⟨x,δ1⟩,h1,h⟩:=bs h;obtain⟨⟨y,δ2⟩,h2,h⟩:=bs h;obtain⟨d,h3,h⟩:=bs h;cases h;exact⟨x,δ1,h1,y,δ2,h2,G _ _ _ _ h3 k⟩
def Z60:Xa->Option Xa| .int i=>YB (.int (-i))|_=>YC
def Yax:Xa->Option Xa| .bool b=>YB (.bool (!b))|_=>YC
theorem Zx4(h:ME X io p c e (Ycu (o2 fa))):ME X io p c e (o2 (fUn Z60 fa)):=h.weak λδ K h=>by
 obtain⟨r,δ',h,k⟩:=h;obtain⟨⟨x,δ1⟩,h1,h⟩:=bs h;obtain⟨d,h3,h⟩:=bs h;cases h;refine⟨x,δ1,h1,?_⟩;dsimp only at h3|-
 cases q:x.data<;>rw[q]at h3<;>cases h3
 exact k
theorem Z10(h:ME X io p c e (Z57 (o2 fa))):ME X io p c e (o2 (fUn Yax fa)):=h.weak λδ K h=>by
 obtain⟨r,δ',h,k⟩:=h;obtain⟨⟨x,δ1⟩,h1,h⟩:=bs h;obtain⟨d,h3,h⟩:=bs h;cases h;refine⟨x,δ1,h1,?_⟩;dsimp only at h3|-
 cases q:x.data<;>rw[q]at h3<;>cases h3
 exact k
theorem Zsg(h:ME X io p c e (Z30 (o2 fa) (o2 fb))):ME X io p c e (o2 (Z3h fa fb)):=h.weak λδ K h=>by
 obtain⟨r,δ',h,k⟩:=h;obtain⟨⟨x,δ1⟩,h1,h⟩:=bs h;refine⟨x,δ1,h1,?_⟩
 try dsimp only at h|-
 split at h
 .rename_i q;(try rw[q]);rw[Zx2,YL rfl];exact⟨r,δ',h,k⟩
 .rename_i q;(try rw[q]);cases h;rw[Zx2,YM XC];exact k
 .cases h
theorem Yar(h:ME X io p c e (mIf (o2 ta) (o2 fa) (o2 fb))):ME X io p c e (o2 (fIf ta fa fb)):=h.weak λδ K h=>by
 obtain⟨r,δ',h,k⟩:=h;obtain⟨⟨x,δ1⟩,h1,h⟩:=bs h;refine⟨x,δ1,h1,?_⟩
 try dsimp only at h|-
 split at h
 .rename_i q;rw[YL q];exact⟨r,δ',h,k⟩
 .rename_i q;rw[YM q];exact⟨r,δ',h,k⟩
theorem Z3j(h:MT X io p e (Yek (o2 ta))):MT X io p e (o2 (tNo ta)):=h.weak λδ K h=>by
 obtain⟨r,δ',h,k⟩:=h;obtain⟨⟨x,δ1⟩,h1,h⟩:=bs h;cases h;exact⟨x,δ1,h1,k⟩
theorem Z8d(h:MW X io p e (Yd3 (o2 ta) (o2 tb))):MW X io p e (o2 (tAn ta tb)):=h.weak λδ K h=>by
 obtain⟨r,δ',h,k⟩:=h;obtain⟨⟨x,δ1⟩,h1,h⟩:=bs h;refine⟨x,δ1,h1,?_⟩
 try dsimp only at h|-
 split at h
 .rename_i q;rw[YL q];exact⟨r,δ',h,k⟩
 .rename_i q;rw[YM q];cases h;exact k
theorem Zdy(h:MW X io p e (mOr (o2 ta) (o2 tb))):MW X io p e (o2 (tO ta tb)):=h.weak λδ K h=>by
 obtain⟨r,δ',h,k⟩:=h;obtain⟨⟨x,δ1⟩,h1,h⟩:=bs h;refine⟨x,δ1,h1,?_⟩
 try dsimp only at h|-
 split at h
 .rename_i q;rw[YL q];cases h;exact k
 .rename_i q;rw[YM q];exact⟨r,δ',h,k⟩
theorem J0(h:MT X io p e (Ydd (o2 fa))):MT X io p e (o2 (tD fa)):=h.weak λδ K h=>by
 obtain⟨r,δ',h,k⟩:=h;obtain⟨⟨x,δ1⟩,h1,h⟩:=bs h;obtain⟨d,h3,h⟩:=bs h;cases h;refine⟨x,δ1,h1,?_⟩;dsimp only at h3|-
 rw[h3];exact k
theorem Z80(h:MA X io p c es Ycy):MA X io p c es (o2 Zn):=h.weak λδ K ⟨r,δ',h,k⟩=>by cases h;exact k
theorem Z2j(h:MA X io p c es (Z3q (o2 fa) (o2 ra))):MA X io p c es (o2 (Zc fa ra)):=h.weak λδ K h=>by
 obtain⟨r,δ',h,k⟩:=h;obtain⟨⟨x,δ1⟩,h1,h⟩:=bs h;obtain⟨⟨y,δ2⟩,h2,h⟩:=bs h;cases h;exact⟨x,δ1,h1,y,δ2,h2,k⟩
theorem Z43(h:ME X io p c e (Yd7 (o2 ra))):ME X io p c e (o2 (Zsj ra)):=h.weak λδ K h=>by
 obtain⟨r,δ',h,k⟩:=h;obtain⟨⟨x,δ1⟩,h1,h⟩:=bs h;refine⟨x,δ1,h1,?_⟩;dsimp only at h;split at h
 .rename_i q;cases h;exact⟨q,k⟩
 .cases h
theorem Z53(h:ME X io p c e (Yem (o2 ra))):ME X io p c e (o2 (Zez ra)):=h.weak λδ K h=>by
 obtain⟨r,δ',h,k⟩:=h;obtain⟨⟨x,δ1⟩,h1,h⟩:=bs h;refine⟨x,δ1,h1,?_⟩;dsimp only at h;split at h
 .rename_i q;cases h;exact⟨q,k⟩
 .cases h
theorem Zjs(h:ME X io p c e (Z5v (o2 fa))):ME X io p c e (o2 (Zjm fa)):=h.weak λδ K h=>by
 obtain⟨r,δ',h,k⟩:=h;obtain⟨⟨x,δ1⟩,h1,h⟩:=bs h;refine⟨x,δ1,h1,?_⟩;dsimp only at h;split at h
 .rename_i q;cases h;exact⟨q,k⟩
 .cases h
theorem Z0q{F:FD}(h:ME X io p c e (Zzz (sD F) (o2 ra))):ME X io p c e (o2 (Z4 F ra)):=h.weak λδ K h=>by
 obtain⟨r,δ',h,k⟩:=h;obtain⟨⟨x,δ1⟩,h1,h⟩:=bs h;refine⟨x,δ1,h1,?_⟩;dsimp only at h;split at h
 .rename_i q;cases h;exact⟨_,q,k⟩
 .cases h
theorem Z1{F:FIO}(h:ME X io p c e (Zmg i (sI F) (o2 ra))):ME X io p c e (o2 (Z6 i F ra)):=h.weak λδ K h=>by
 obtain⟨r,δ',h,k⟩:=h;unfold Z6 at h;unfold Zmg;split at h
 case h_2=>cases h
 rename_i t0 q0
 (try rw[q0])
 obtain⟨⟨x,δ1⟩,h1,h⟩:=bs h;refine⟨x,δ1,h1,?_⟩
 try dsimp only at h|-
 split at h
 case h_2=>cases h
 rename_i t q
 (try rw[q])
 obtain⟨⟨y,t'⟩,h2,h⟩:=bs h;cases h;exact⟨_,_,h2,k⟩
theorem Zc8{g rp}(G:∀ds r k,g ds=YB r->k r->rp ds k)(h:ME X io p c e (Z9k rp (o2 ra))):ME X io p c e (o2 (Zbt g ra)):=h.weak λδ K h=>by
 obtain⟨r,δ',h,k⟩:=h;obtain⟨⟨x,δ1⟩,h1,h⟩:=bs h;obtain⟨d,h3,h⟩:=bs h;cases h;exact⟨x,δ1,h1,G _ _ _ h3 k⟩
theorem Ziz{T:String}(h:ME X io p c e (Yeh T (o2 fa))):ME X io p c e (o2 (Zul T fa)):=h.weak λδ K h=>by
 obtain⟨r,δ',h,k⟩:=h;obtain⟨⟨x,δ1⟩,h1,h⟩:=bs h
 by_cases hf:Zim x.data=YD
 .have h':(if Zim x.data=YD then YC else YB (OT.fz (.bool (Zql T x.data)),δ1))=YB (r,δ'):=h
  rw[YL hf]at h';cases h'
 .have h':(if Zim x.data=YD then YC else YB (OT.fz (.bool (Zql T x.data)),δ1))=YB (r,δ'):=h
  rw[YM hf]at h';injection h' with h';injection h' with e1 e2;subst e1 e2;exact⟨x,_,h1,Ud.mpr hf,k⟩
theorem Zr1(h:MO X io p eo Ztd):MO X io p eo (o2 oN):=h.weak λδ K ⟨r,δ',h,k⟩=>by cases h;exact k
theorem Zui(h:MO X io p eo (Z5b (o2 fa))):MO X io p eo (o2 (oI fa)):=h.weak λδ K h=>by
 obtain⟨r,δ',h,k⟩:=h;obtain⟨⟨x,δ1⟩,h1,h⟩:=bs h;refine⟨x,δ1,h1,?_⟩
 try dsimp only at h|-
 split at h
 .rename_i q;(try rw[q]);cases h;exact k
 .cases h
theorem Z7j{lo hi:FO}(h:ME X io p c e (mSl (o2 fa) (o2 lo) (o2 hi))):ME X io p c e (o2 (fSl fa lo hi)):=h.weak λδ K h=>by
 obtain⟨r,δ',h,k⟩:=h;obtain⟨⟨x,δ1⟩,h1,h⟩:=bs h;obtain⟨⟨y,δ2⟩,h2,h⟩:=bs h;obtain⟨⟨z,δ3⟩,h3,h⟩:=bs h;refine⟨x,δ1,h1,y,δ2,h2,z,δ3,h3,?_⟩
 try dsimp only at h|-
 split at h
 .rename_i q;(try rw[q]);cases h;exact k
 .cases h
theorem Z2k{f g:Int->Int->Bool}{K:OT->Ze->Prop}(h:o2 (Zix f g fa fb fc) δ K):Zow f g (o2 fa) (o2 fb) (o2 fc) δ K:=by
 obtain⟨r,δ',h,k⟩:=h;obtain⟨⟨x,δ1⟩,h1,h⟩:=bs h;obtain⟨⟨y,δ2⟩,h2,h⟩:=bs h;refine⟨x,δ1,h1,y,δ2,h2,?_⟩
 try dsimp only at h|-
 split at h
 case h_2=>cases h
 rename_i i j q1 q2
 (try rw[q1,q2])
 show(if f i j=YD then _ else _);split at h
 .rename_i hf
  rw[YL hf];obtain⟨⟨z,δ3⟩,h3,h⟩:=bs h;refine⟨z,δ3,h3,?_⟩
  try dsimp only at h|-
  split at h
  .rename_i q;(try rw[q]);cases h;exact k
  .cases h
 .rename_i hf
  rw[YM hf];cases h;exact k
theorem Zj5{f g:Int->Int->Bool}(h:MT X io p e (λδ K=>Zow f g (o2 fa) (o2 fb) (o2 fc) δ (kB K))):MT X io p e (o2 (tV (Zix f g fa fb fc))):=h.weak λδ K z=>Z2k (Yc1 z)
theorem Zz8(h:MI X io p c tg e (iL (o2 fa))):MI X io p c tg e (o2 (Zji fa)):=h.weak λδ K h=>by
 obtain⟨r,δ',h,k⟩:=h;obtain⟨⟨x,δ1⟩,h1,h⟩:=bs h;refine⟨x,δ1,h1,?_⟩
 try dsimp only at h|-
 split at h
 .rename_i q;(try rw[q]);cases h;exact k
 .cases h
theorem Z8k(h:MI X io p c tg e (iT (o2 fa))):MI X io p c tg e (o2 (iTp fa)):=h.weak λδ K h=>by
 obtain⟨r,δ',h,k⟩:=h;obtain⟨⟨x,δ1⟩,h1,h⟩:=bs h;refine⟨x,δ1,h1,?_⟩
 try dsimp only at h|-
 split at h
 .rename_i q;(try rw[q]);cases h;exact k
 .cases h
theorem Za8(h:MI X io p c tg e (iR1 (o2 ra))):MI X io p c tg e (o2 (iRa ra)):=h.weak λδ K h=>by
 obtain⟨r,δ',h,k⟩:=h;obtain⟨⟨x,δ1⟩,h1,h⟩:=bs h;refine⟨x,δ1,h1,?_⟩
 try dsimp only at h|-
 split at h
 case h_2=>cases h
 rename_i q
 (try rw[q])
 try dsimp only
 split at h
 .rename_i b;cases h;exact⟨Zd8 b,k⟩
 .cases h
theorem Z07(h:MI X io p c tg e (iR2 (o2 ra))):MI X io p c tg e (o2 (iRb ra)):=h.weak λδ K h=>by
 obtain⟨r,δ',h,k⟩:=h;obtain⟨⟨x,δ1⟩,h1,h⟩:=bs h;refine⟨x,δ1,h1,?_⟩
 try dsimp only at h|-
 split at h
 case h_2=>cases h
 rename_i q
 (try rw[q])
 try dsimp only
 split at h
 .rename_i b
  cases h;rw[XM]at b;exact⟨⟨(Zd8 b.1).1,(Zd8 b.1).2,(Zd8 b.2).1,(Zd8 b.2).2⟩,k⟩
 .cases h
theorem Z1v(h:MG X io c tg (dName i)):MG X io c tg (oG (gNm i)):=h.weak λd δ K ⟨δ',h,k⟩=>by cases h;exact k
theorem Zo6(h:MG X io c tg (Zyu i)):MG X io c tg (oG (Z2t i)):=h.weak λd δ K q93=>by
 obtain⟨δ',h,k⟩:=q93;unfold Z2t at h;split at h
 .rename_i q;cases h;exact⟨q,k⟩
 .cases h
theorem Zri(h:MGs X io c es Yep):MGs X io c es (oGs gNl):=h.weak λd δ K q94=>by
 obtain⟨δ',h,k⟩:=q94;unfold gNl at h;split at h
 .cases h;exact⟨rfl,k⟩
 .cases h
theorem Zgu{g:FG}{gs:FGs}(h:MGs X io c es (Zzd (oG g) (oGs gs))):MGs X io c es (oGs (gCn g gs)):=h.weak λd δ K q95=>by
 obtain⟨δ',h,k⟩:=q95;unfold gCn at h;split at h
 .obtain⟨δ1,h1,h⟩:=bs h
  exact⟨δ1,h1,δ',h,k⟩
 .cases h
theorem Zy3{n:Nat}{gs:FGs}(h:MG X io c tg (dTup n (oGs gs))):MG X io c tg (oG (gTp n gs)):=h.weak λd δ K q96=>by
 obtain⟨δ',h,k⟩:=q96;unfold gTp at h;split at h
 case h_2=>cases h
 split at h
 .rename_i q;exact⟨q,δ',h,k⟩
 .cases h
theorem Zam(h:MIfs X io p es Z40):MIfs X io p es (o2 Zgn):=h.weak λδ K ⟨r,δ',h,k⟩=>by cases h;exact k
theorem Zqy{g:FG}{t:FT}{me:FE}{δ0:Ze}{zs:List OT}{δe:Ze}(h:compLoop g t me ds δ0=YB (zs,δe)) :
  ∃I:Nat->List OT->Ze->Prop,I 0 [] δ0/\
 (∀ (i:Nat) (d:Xa) (rs:List OT) (δ':Ze),ds[i]? =YB d->I i rs δ'->oG g d δ' λδ2=>o2 t δ2 λb δ3=>if b=YD then o2 me δ3 λr δ4=>I (i+1) (rs++[r]) δ4 else I (i+1) rs δ3)/\
 ∀rs δ',I ds.length rs δ'->rs=zs/\δ'=δe:=by
 refine⟨λi rs δ'=>∃ys,rs++ys=zs/\compLoop g t me (ds.drop i) δ'=YB (ys,δe),⟨zs,rfl,by rw[List.drop_zero];exact h⟩,?_,?_⟩
 .rintro i d rs δ' hd ⟨ys,e,hl⟩
  obtain⟨hi,hdi⟩:=Xn.mp hd;rw[Vh hi,hdi]at hl;unfold compLoop at hl;obtain⟨δ1,h1,hl⟩:=bs hl;obtain⟨⟨b,δ2⟩,h2,hl⟩:=bs hl;refine⟨δ1,h1,b,δ2,h2,?_⟩;dsimp only at hl;split at hl
  .rename_i hb
   rw[YL hb];obtain⟨⟨r,δ3⟩,h3,hl⟩:=bs hl;obtain⟨⟨ws,δ4⟩,h4,hl⟩:=bs hl;cases hl;exact⟨r,δ3,h3,ws,by rw[Vz];exact e,h4⟩
  .rename_i hb
   rw[YM hb];exact⟨ys,e,hl⟩
 .rintro rs δ' ⟨ys,e,hl⟩
  rw[List.drop_length]at hl;unfold compLoop at hl;cases hl;exact⟨by rw[<-e,QW],rfl⟩
theorem Ztk{n:Nat}{it:FI}{g:FG}{t:FT}{me:FE}{K:OT->Ze->Prop}(h:o2 (Y9 n caps it g t me) δ K):Zie n caps (o2 it) (oG g) (o2 t) (o2 me) δ K:=by
 obtain⟨r,δ',h,k⟩:=h;obtain⟨⟨ds,δ1⟩,h1,h⟩:=bs h;refine⟨ds,δ1,h1,?_⟩;dsimp only at h;split at h
 case isFalse=>cases h
 rename_i hz;obtain⟨⟨zs,δe⟩,h2,h⟩:=bs h;cases h;obtain⟨I,i0,st,en⟩:=Zqy h2;refine⟨hz,I,i0,st,λrs δ'' q=>?_⟩;obtain⟨rfl,rfl⟩:=en rs δ'' q;exact k
theorem Za5{n:Nat}{it:FI}{g:FG}{t:FT}{me:FE}(h:ME X io p c e (Zie n caps (o2 it) (oG g) (o2 t) (o2 me))):ME X io p c e (o2 (Y9 n caps it g t me)):=h.weak λδ K z=>Ztk z
theorem Z1p{n:Nat}{o:Nat}{it:FI}{g:FG}{t:FT}{me:FE}{K:OT->Ze->Prop}(h:o2 (Zlv n caps o q it g t me) δ K):Zn5 n caps o q (o2 it) (oG g) (o2 t) (o2 me) δ K:=by
 obtain⟨r,δ',h,k⟩:=h;obtain⟨⟨ds,δ1⟩,h1,h⟩:=bs h;refine⟨ds,δ1,h1,?_⟩;dsimp only at h;split at h
 case isFalse=>cases h
 rename_i hz;obtain⟨⟨zs,δe⟩,h2,h⟩:=bs h;obtain⟨I,i0,st,en⟩:=Zqy h2;refine⟨hz.1,hz.2,I,i0,st,λrs δ'' qq=>?_⟩;obtain⟨rfl,rfl⟩:=en rs δ'' qq;dsimp only at h;split at h
 .rename_i q1 q2
  (try rw[q1,q2])
  cases h;exact k
 .cases h
theorem Zv8{n:Nat}{o:Nat}{it:FI}{g:FG}{t:FT}{me:FE}(h:ME X io p c e (Zn5 n caps o q (o2 it) (oG g) (o2 t) (o2 me))):ME X io p c e (o2 (Zlv n caps o q it g t me)):=h.weak λδ K z=>Z1p z
end
section
variable {X:Cx}{io:List Nat}{p c:Bool}{e tg iter:YJ}{es:List YJ}{st:YK}{sts:List YK}{fa fb fc:FE}{ra:FA}{ta tb:FT}{i:Nat}{f g u w:FS}
theorem Z8i(h:MSs X io sts (Ya1 (oS f) (oS g))):MSs X io sts (oS (Zy f g)):=h.weak λD δ h=>by
 unfold oS Zy at h;unfold Ya1 oS;cases q:f δ<;>rw[q]at h<;>exact h
theorem Zzr(h:MSs X io sts Z4e):MSs X io sts (oS fNx):=h.weak λD δ h=>h
theorem Zpv{k:OT->Ze->RS}{D:Zgm}(h:oS (wE fa k) D δ):o2 fa δ λr δ'=>(k r δ').fits D:=by
 unfold oS wE at h;split at h
 .rename_i q;exact⟨_,_,q,h⟩
 .exact h.elim
theorem o2.imp{Y:Type}{f:Ze->Option (Y×Ze)}{δ:Ze}{K K':Y->Ze->Prop}(h:o2 f δ K)(k:∀r δ',K r δ'->K' r δ'):o2 f δ K':=let⟨r,δ',e,q⟩:=h;⟨r,δ',e,k r δ' q⟩
theorem Zeq{P:Prop}[Decidable P]{a:RS}{D:Zgm}(h:(if P then a else .bad:RS).fits D):P/\a.fits D:=by
 split at h
 .exact⟨‹_›,h⟩
 .exact h.elim
theorem Zke(h:MS X io st (Z66 (o2 fa))):MS X io st (oS (wE fa Zj1)):=h.weak λD δ h=>Zpv h
theorem Z51(h:MS X io st (Yda (o2 fa))):MS X io st (oS (wE fa Jp)):=h.weak λD δ h=>Zpv h
theorem Zf6(h:MS X io st (Zwb i)):MS X io st (oS (Ze5 i)):=h.weak λD δ h=>by
 unfold oS Ze5 at h;unfold Zwb;split at h
 .rename_i q;(try rw[q]);exact h
 .exact h.elim
theorem Yaw(h:MS X io st (Ydt (o2 ta) (oS u) (oS w))):MS X io st (oS (J7 ta u w)):=h.weak λD δ h=>by
 unfold oS J7 at h;split at h
 .rename_i b δ' q
  refine⟨b,δ',q,?_⟩;split at h
  .rename_i hb;rw[YL hb];exact h
  .rename_i hb;rw[YM hb];exact h
 .exact h.elim
theorem Zok(h:MS X io st (Z3b i (o2 fa))):MS X io st (oS (wE fa (Wt i))):=h.weak λD δ h=>Zpv h
theorem Zzh(h:MS X io st (Zp4 i (o2 fa))):MS X io st (oS (wE fa (J2 i))):=h.weak λD δ h=>Zpv h
section
variable {n:Nat}{o:Nat}{it:FI}{gg:FG}{t:FT}{me:FE}
theorem Zno(h:MS X io st (if YD=YD then Zp4 i (Zie n caps (o2 it) (oG gg) (o2 t) (o2 me))else Z3b i (Zie n caps (o2 it) (oG gg) (o2 t) (o2 me)))):MS X io st (oS (wE (Y9 n caps it gg t me) (J2 i))) :=
 h.weak λD δ h=>by rw[YL rfl];exact Ztk (Zpv h)
theorem Zm4(h:MS X io st (if YF=YD then Zp4 i (Zie n caps (o2 it) (oG gg) (o2 t) (o2 me))else Z3b i (Zie n caps (o2 it) (oG gg) (o2 t) (o2 me)))):MS X io st (oS (wE (Y9 n caps it gg t me) (Wt i))) :=
 h.weak λD δ h=>by rw[YM XC];exact Ztk (Zpv h)
end
theorem Zfd(h:MS X io st (Zkl i (o2 fa))):MS X io st (oS (Js i fa)):=h.weak λD δ h=>by
 unfold oS Js at h;unfold Zkl;split at h
 case h_2=>exact h.elim
 rename_i q;(try rw[q]);refine(Zpv h).imp λr δ' z=>?_;split at z
 .rename_i q2;(try rw[q2]);exact Zeq z
 .exact z.elim
theorem Zpr(h:MS X io st (Zg1 i (o2 fa))):MS X io st (oS (Zag i fa)):=h.weak λD δ h=>by
 unfold oS Zag at h;unfold Zg1;split at h
 case h_2=>exact h.elim
 rename_i q;(try rw[q]);refine(Zpv h).imp λr δ' z=>?_;split at z
 .rename_i q2;(try rw[q2]);exact Zeq z
 .exact z.elim
theorem Zyh(h:MS X io st (Yc8 i (o2 fa) (o2 fb))):MS X io st (oS (Z2a i fa fb)):=h.weak λD δ h=>by
 refine(Zpv h).imp λr δ' z=>?_;split at z
 case h_2=>exact z.elim
 rename_i q;(try rw[q]);refine(Zpv z).imp λn δ2 z=>?_;split at z
 case h_2=>exact z.elim
 rename_i k q2;(try rw[q2]);show match ixN _ k with|some j=>_|none=>_
 split at z
 .rename_i q3;(try rw[q3]);exact z
 .exact z.elim
theorem Zed(h:MS X io st (Z3m i (o2 fa) (o2 fb) (o2 fc))):MS X io st (oS (Zcn i fa fb fc)):=h.weak λD δ h=>by
 refine(Zpv h).imp λr δ' z=>?_;split at z
 case h_2=>exact z.elim
 rename_i q;(try rw[q]);refine(Zpv z).imp λn δ2 z=>?_;split at z
 case h_2=>exact z.elim
 rename_i k q2;(try rw[q2]);show match ixN _ k with|some j=>_|none=>_
 split at z
 case h_2=>exact z.elim
 rename_i q3;(try rw[q3])
 try dsimp only
 split at z
 case h_2=>exact z.elim
 rename_i q4;(try rw[q4]);refine(Zpv z).imp λn' δ3 z=>?_;split at z
 case h_2=>exact z.elim
 rename_i k' q5;(try rw[q5]);show match ixN _ k' with|some j=>_|none=>_
 split at z
 .rename_i q6;(try rw[q6]);exact z
 .exact z.elim
theorem Zba{gg:FG}{d:Xa}:forLoop gg u (d::ds) δ=match gg d δ with
  | none=>.bad
  | some δ1=>match u δ1 with
   | .nx δ2=>forLoop gg u ds δ2
   | .ct δ2=>forLoop gg u ds δ2
   | .bk δ2=>.nx δ2
   | r=>r:=rfl
theorem Z5z{it:FI}{gg:FG}(h:MS X io st (Ycz (o2 it) (oG gg) (oS u))):MS X io st (oS (Zae it gg u)):=h.weak λD δ h=>by
 unfold oS Zae at h;split at h
 case h_2=>exact h.elim
 rename_i ds δ1 q;refine⟨ds,δ1,q,λi δ'=>(forLoop gg u (ds.drop i) δ').fits D,by show RS.fits D (forLoop gg u (ds.drop 0) δ1);rw[List.drop_zero];exact h,λi d δ' hd z=>?_,λδ' z=>?_⟩
 .obtain⟨hi,hdi⟩:=Xn.mp hd
  replace z:RS.fits D (forLoop gg u (ds.drop i) δ'):=z;rw[Vh hi,hdi,Zba]at z;split at z
  case h_1=>exact z.elim
  rename_i δ2 q2;refine⟨δ2,q2,?_⟩;unfold oS;cases q3:u δ2<;>rw[q3]at z<;>(try rw[q3])<;>exact z
 .replace z:RS.fits D (forLoop gg u (ds.drop ds.length) δ'):=z
  rw[List.drop_length]at z;exact z
theorem Znx(h:MS X io st (Zyl (o2 ta) (oS u))):MS X io st (oS (Zi6 ta u)):=h.weak λD δ h=>by
 unfold oS Zi6 at h;split at h
 case isFalse=>exact h.elim
 rename_i hn;refine⟨λn δ'=>(whileLoop ta u n δ').fits D,⟨_,h⟩,λn δ' z=>?_⟩;cases n with
 | zero=>exact z.elim
 | succ n=>
  unfold whileLoop at z;split at z
  case h_1=>exact z.elim
  rename_i b δ1 q;refine⟨b,δ1,q,?_⟩;split at z
  .rename_i hb
   rw[YL hb];refine⟨λδ''=>(whileLoop ta u n δ'').fits D,λδ'' y=>⟨n,QH n,y⟩,?_⟩;unfold oS;cases q3:u δ1<;>rw[q3]at z<;>exact z
  .rename_i hb
   rw[YM hb];exact z
theorem Zds{n:Nat}:∀{δ:Ze},whileLoop ta u n δ≠ .bad->whileLoop ta u (n+m) δ=whileLoop ta u n δ:=by
 induction n with
 | zero=>intro δ h;exact YX rfl h
 | succ n ih=>
  intro δ h;rw[Nat.succ_add];unfold whileLoop at h|-
  cases q:ta δ with
  | none=>rfl
  | some x=>
   obtain⟨b,δ1⟩:=x;rw[q]at h
   try dsimp only at h|-
   split
   .rename_i hb
    rw[YL hb]at h;cases q3:u δ1<;>rw[q3]at h<;>first|exact ih h|rfl
   .rfl
theorem Zk0{r:RS}(n:Nat)(h:whileLoop ta u n δ=r)(hr:r≠ .bad):Zi6 ta u δ=r:=by
 have hn:∃n,whileLoop ta u n δ≠ .bad:=⟨n,by rw[h];exact hr⟩;unfold Zi6;rw[dif_pos hn];have h1:=Classical.choose_spec hn;have e1:=Zds (m:=n) h1;have e2:=Zds (m:=Classical.choose hn) (show whileLoop ta u n δ≠ .bad by rw[h];exact hr);rw[Nat.add_comm]at e2;rw[<-e1,e2,h]
theorem Zbg{cn:Str}:MS X io st (oS (Zgg cn)):=Zuw.weak λD δ h=>h
theorem Z86{F:FD}{k:OT->Ze->RS}(h:MS X io st (oS (wE (Z4 F ra) k))):MS X io st (oS (wX F ra k)):=h.weak λD δ h=>by
 unfold oS wX at h;unfold oS wE Z4;split at h
 case h_2=>exact h.elim
 rename_i rs δ1 q
 (try rw[q])
 dsimp only[Option.bind];split at h
 .rename_i q2;(try rw[q2]);exact h
 .exact h.elim
 .exact h.elim
theorem Z77{xs:List Str}{D:Str}{Dc:YG}{h0:FS}(hk:∀cn∈xs,Zpf cn D=YD->∃C,Uy X.K cn C/\Zbl X.K C/\Be X.K (.ref C) (.ref Dc)=YB YD)(h:MS X io st (Ya6 X.K Dc i (oS u) (xS X.K u) (oS h0))):MS X io st (oS (Zzk xs u D i h0)):=h.weak λDD δ h=>by
 unfold oS Zzk at h;split at h
 .rename_i cn δ' q
  refine .inr ?_;obtain⟨hc,h⟩:=Zeq h;rw[XM]at hc;obtain⟨C,k1,k2,k3⟩:=hk cn (by simpa using hc.1) hc.2;refine⟨cn,C,δ',q,k1,cn,k1,⟨k2,k3⟩,?_⟩;unfold oS;split at h
  .rename_i q2;(try rw[q2]);exact h
  .exact h.elim
 .exact .inl h
theorem XS.weak{m m':MXt}(h:XS X io st m)(w:∀δ k,m' δ k->m δ k):XS X io st m':=λC pins s O H δ fp ex k I R hm=>h C pins s O H δ fp ex k I R (w δ k hm)
theorem XSs.weak{m m':MXt}(h:XSs X io sts m)(w:∀δ k,m' δ k->m δ k):XSs X io sts m':=λC pins s O H δ fp ex k I R hm=>h C pins s O H δ fp ex k I R (w δ k hm)
theorem XE.weak{m m':MXt}(h:XE X io e m)(w:∀δ k,m' δ k->m δ k):XE X io e m':=λC pins s O H δ fp ex k I R hm=>h C pins s O H δ fp ex k I R (w δ k hm)
class NoEx (f:FS):Prop where
 no:∀δ cn δ',f δ≠ .ex cn δ'
class NoExK (k:OT->Ze->RS):Prop where
 no:∀r δ cn δ',k r δ≠ .ex cn δ'
theorem Z03(f:FS)[NoEx f]:XS X io st (xS X.K f):=Zv7.weak λδ k ⟨cn,_,δ',h,_⟩=>(NoEx.no δ cn δ' h).elim
theorem Zhv(f:FS)[NoEx f]:XSs X io sts (xS X.K f):=Zrv.weak λδ k ⟨cn,_,δ',h,_⟩=>(NoEx.no δ cn δ' h).elim
instance nx_kDrop_k:NoExK Zj1:=⟨λ_ _ _ _ h=>by cases h⟩
instance nx_kRet_k:NoExK Jp:=⟨λ_ _ _ _ h=>by cases h⟩
instance nx_kSet_k:NoExK (Wt i):=⟨λ_ _ _ _ h=>by cases h⟩
instance nx_kSetO_k:NoExK (J2 i):=⟨λ_ _ _ _ h=>by cases h⟩
instance nx_wE{k:OT->Ze->RS}[NoExK k]:NoEx (wE fa k):=⟨λδ cn δ' h=>by
 unfold wE at h;split at h
 .exact NoExK.no _ _ _ _ h
 .cases h⟩
instance nx_fSeq[NoEx f][NoEx g]:NoEx (Zy f g):=⟨λδ cn δ' h=>by
 unfold Zy at h;split at h
 .exact NoEx.no _ _ _ h
 .exact NoEx.no _ _ _ h⟩
instance nx_fNx:NoEx fNx:=⟨λ_ _ _ h=>by cases h⟩
instance nx_fRetO:NoEx (Ze5 i):=⟨λ_ _ _ h=>by unfold Ze5 at h;split at h<;>cases h⟩
instance nx_fIfS[NoEx u][NoEx w]:NoEx (J7 ta u w):=⟨λδ cn δ' h=>by
 unfold J7 at h;split at h
 .split at h
  .exact NoEx.no _ _ _ h
  .exact NoEx.no _ _ _ h
 .cases h⟩
theorem Zzi{k:OT->Ze->RS}(n:∀r δ cn δ',k r δ≠ .ex cn δ'){cn:Str}(h:wE fa k δ= .ex cn δ'):False:=by
 unfold wE at h;split at h
 .exact n _ _ _ _ h
 .cases h
instance nx_fAppendO:NoEx (Zag i fa):=⟨λδ cn δ' h=>by
 unfold Zag at h;split at h
 .exact Zzi (λr δ1 _ _ z=>by
   split at z
   .split at z<;>cases z
   .cases z) h
 .cases h⟩
theorem Zcy[NoEx u]{gg:FG}{cn:Str}:∀(ds:List Xa) (δ:Ze),forLoop gg u ds δ≠ .ex cn δ'
 | [],δ=>λh=>by cases h
 | d::ds,δ=>λh=>by
  rw[Zba]at h;split at h
  .cases h
  .split at h
   .exact Zcy ds _ h
   .exact Zcy ds _ h
   .cases h
   .exact NoEx.no _ _ _ h
instance nx_fFor[NoEx u]{it:FI}{gg:FG}:NoEx (Zae it gg u):=⟨λδ cn δ' h=>by
 unfold Zae at h;split at h
 .exact Zcy _ _ h
 .cases h⟩
theorem Zgw{cn:Str}(hc:Uy X.K cn C)(h:XS X io st (Zq8 C)):XS X io st (xS X.K (Zgg cn)):=h.weak λδ k z=>by
 obtain⟨c',C',δ',h,k1,k2⟩:=z;cases h;have:=k1.symm.trans hc;injection this with this;injection this with this;injection this with this;subst this;exact k2
theorem Zmw{F:FD}{k:OT->Ze->RS}[NoExK k](h:XE X io e (Zxq (sX X.K F) (o2 ra))):XE X io e (xS X.K (wX F ra k)):=h.weak λδ kk z=>by
 obtain⟨c',C',δ',h,k1,k2⟩:=z;unfold wX at h;split at h
 case h_2=>cases h
 rename_i rs δ1 q;refine⟨rs,δ1,q,?_⟩;split at h
 .exact(NoExK.no _ _ _ _ h).elim
 .rename_i q2
  cases h;exact⟨C',⟨_,q2,k1⟩,k2⟩
 .cases h
theorem Zha(h1:XS X io st (xS X.K f))(m1:MS X io st (oS f))(h2:XSs X io sts (xS X.K g))(hx:X.xe= λ_ _=>False:=by rfl):XSs X io (st::sts) (xS X.K (Zy f g)):=by
 intro C pins s O H δ fp ex k I R hm;obtain⟨cn,C',δ',h,k1,k2⟩:=hm;unfold Zy at h;split at h
 .rename_i δ1 q
  exact Zvo m1 h2 hx C pins s O H δ fp ex k I R (by
   show(f δ).fits _
   (try rw[q])
   exact⟨cn,C',δ',h,k1,k2⟩)
 .exact Zoy h1 C pins s O H δ fp ex k I R ⟨cn,C',δ',h,k1,k2⟩
theorem Zco(h1:XS X io st (xS X.K f)):XSs X io [st] (xS X.K f):=Zoy h1
theorem Zw2{a b:List YK}(h:XS X io (.If e a b pos) (Yd5 (o2 ta) (xS X.K u) (xS X.K w))):XS X io (.If e a b pos) (xS X.K (J7 ta u w)):=h.weak λδ k z=>by
 obtain⟨cn,C',δ',h,k1,k2⟩:=z;unfold J7 at h;split at h
 case h_2=>cases h
 rename_i b δ1 q;refine⟨b,δ1,q,?_⟩;split at h
 .rename_i hb;rw[YL hb];exact⟨cn,C',δ',h,k1,k2⟩
 .rename_i hb;rw[YM hb];exact⟨cn,C',δ',h,k1,k2⟩
theorem Zin{gg:FG}{cn:Str}:∀(ds:List Xa) (δ:Ze),forLoop gg u ds δ= .ex cn δ'->∃(S:Nat->Ze) (r:Nat),r<ds.length/\S 0=δ/\
  (∀ i d,i<r->ds[i]? =YB d->∃δ1,gg d (S i)=YB δ1/\(u δ1= .nx (S (i+1))\/u δ1= .ct (S (i+1))))/\∀d,ds[r]? =YB d->∃δ1,gg d (S r)=YB δ1/\u δ1= .ex cn δ'
 | [],δ,h=>by cases h
 | d::ds,δ,h=>by
  rw[Zba]at h;split at h
  .cases h
  rename_i δ1 q;have go:∀δ2,(u δ1= .nx δ2\/u δ1= .ct δ2)->forLoop gg u ds δ2= .ex cn δ'->∃(S:Nat->Ze) (r:Nat),r<(d::ds).length/\S 0=δ/\
    (∀ i d',i<r->(d::ds)[i]? =YB d'->∃δ1,gg d' (S i)=YB δ1/\(u δ1= .nx (S (i+1))\/u δ1= .ct (S (i+1))))/\∀d',(d::ds)[r]? =YB d'->∃δ1,gg d' (S r)=YB δ1/\u δ1= .ex cn δ':=λδ2 hu hl=>by
   obtain⟨S,r,h1,h2,h3,h4⟩:=Zin ds δ2 hl;refine⟨λi=>match i with|0=>δ|i+1=>S i,r+1,by simpa using h1,rfl,λi d' hi hd=>?_,λd' hd=>h4 d' (by simpa using hd)⟩;cases i with
   | zero=>
    have:d=d':=by simpa using hd
    subst this;exact⟨δ1,q,by show _=RS.nx (S 0)\/_=RS.ct (S 0);rw[h2];exact hu⟩
   | succ i=>exact h3 i d' (by omega) (by simpa using hd)
  split at h
  .rename_i q2;exact go _ (.inl q2) h
  .rename_i q2;exact go _ (.inr q2) h
  .cases h
  .rename_i q2 _ _ _
   exact⟨λ_=>δ,0,by simp,rfl,λi d' hi=>YX hi (Vj i),λd' hd=>by
    have:d=d':=by simpa using hd
    subst this;exact⟨δ1,q,h⟩⟩
theorem Z7u{it:FI}{gg:FG}(h:XS X io st (Z8h (o2 it) (oG gg) (oS u) (xS X.K u))):XS X io st (xS X.K (Zae it gg u)):=h.weak λδ k z=>by
 obtain⟨cn,C',δ',h,k1,k2⟩:=z;unfold Zae at h;split at h
 case h_2=>cases h
 rename_i ds δ1 q;refine⟨ds,δ1,q,?_⟩;obtain⟨S,r,h1,h2,h3,h4⟩:=Zin ds δ1 h;refine⟨λi δ=>δ=S i,r,h1,h2.symm,λi d δ2 hi hd e=>?_,λd δ2 hd e=>?_⟩
 .subst e
  obtain⟨δ3,a,b⟩:=h3 i d hi hd;refine⟨δ3,a,?_⟩;unfold oS;rcases b with b|b<;>rw[b]<;>rfl
 .subst e
  obtain⟨δ3,a,b⟩:=h4 d hd;exact⟨δ3,a,cn,C',δ',b,k1,k2⟩
end
end L2
variable {ra:FA}{F:FD}{fa fb fc me:FE}{g gg:FG}{it:FI}{m':MXt}{np:Nat}{D cn:Str}
namespace L2
open PySem PySem.Spec PyProof.Rows
section
variable {P:X6}{w:Qp}{K:Xc}{mg:Str->Option Xd}{base:YH}{x qual:Str}{st:YK}{f:YG}{fd:XF}{N ps:List Str}{n np nn:Nat}{S:FS}
theorem RS.told_fits{r:RS}{o:OT}{k:OT->Prop}(h:r.told= .ok o)(hk:k o):r.fits (Z2b k):=by
 cases r<;>unfold RS.told at h<;>first|(cases h;exact hk)|cases h
theorem Yr(F:Fun K x qual st f fd)(Sc:Zq N ps (Zj st))(hN:N.length=nn)(hp:np=ps.length)
  (hb:∀(cdv:Xd) (A:Qk) (outer:List Env) (s:Xe) (H:Hp) (E:XK),Room n (A.deeper (Uz qual (Zj st) s.heap.objs.size f cdv))->MSs (Zqk CX0 P w K mg base N qual (Zj st) f cdv A outer s H E).nox [] (Jw st) (oS S)) :
  FnOk P w K mg base CX0 (n+1) f fd ps (spD K (sD (Za6 np nn S))):=by
 subst hN hp;refine F.okD Sc (λds k h=>?_) λcdv A outer s H E hr=>⟨_,hb cdv A outer s H E hr,λds k h=>?_⟩
 .obtain⟨r,h,_⟩:=h
  unfold Za6 at h;split at h
  .assumption
  .cases h
 .obtain⟨r,h,hk⟩:=h
  unfold Za6 at h;split at h
  .exact RS.told_fits h hk
  .cases h
theorem Zl0(F:Fun K x qual st f fd)(Sc:Zq N ps (Zj st))(hN:N.length=nn)(hp:np=ps.length)
  (hb:∀(cdv:Xd) (A:Qk) (outer:List Env) (s:Xe) (H:Hp) (E:XK),Room n (A.deeper (Uz qual (Zj st) s.heap.objs.size f cdv))->XSs (Zqk (CX1 P w) P w K mg base N qual (Zj st) f cdv A outer s H E).nox [] (Jw st) (xS K S)) :
  FnOk P w K mg base (CX1 P w) (n+1) f fd ps (spX K (sX K (Za6 np nn S))):=by
 subst hN hp;refine F.okX Sc (λds cl h=>?_) λcdv A outer s H E hr=>⟨_,hb cdv A outer s H E hr,λds cl h=>?_⟩
 .obtain⟨r,h,_⟩:=h
  unfold Za6 at h;split at h
  .assumption
  .cases h
 .obtain⟨c,h,hc⟩:=h
  unfold Za6 at h;split at h
  case isFalse=>cases h
  have e:Zc6 N.length ds=Zi8 N ds:=rfl;rw[e]at h;cases q:S (Zi8 N ds)<;>rw[q]at h<;>unfold RS.told at h<;>cases h
  exact⟨_,cl,_,q,hc,rfl⟩
theorem Zg8(F:Fun K x qual st f fd)(Sc:Zq N ps (Zj st))(hN:N.length=nn)(hp:np=ps.length)
  (hb:∀(cdv:Xd) (A:Qk) (outer:List Env) (s:Xe) (H:Hp) (E:XK),Room n (A.deeper (Uz qual (Zj st) s.heap.objs.size f cdv))->MSs (Zqk CX0 P w K mg base N qual (Zj st) f cdv A outer s H E).nox [0] (Jw st) (oS S)) :
  FnOk P w K mg base CX0 (n+1) f fd ps (spI K (sI (Zpi np nn S))):=by
 subst hN hp;refine F.okI Sc (λt ds k h=>?_) λcdv A outer s H E hr=>⟨_,hb cdv A outer s H E hr,λt ds k h=>?_⟩
 .obtain⟨r,t',h,_⟩:=h
  unfold Zpi at h;split at h
  .assumption
  .cases h
 .obtain⟨r,t',h,hk⟩:=h
  unfold Zpi at h;split at h
  case isFalse=>cases h
  have e:Zjh N.length t ds=Zhz N t ds:=rfl;rw[e]at h;show(S (Zhz N t ds)).fits (Zzx k);cases q:S (Zhz N t ds)<;>rw[q]at h<;>unfold RS.toldI at h<;>first|cases h|skip
  .rename_i δ
   show match δ[0]? with|some (YB t)=>k (.fz .none) t|_=>False
   dsimp only at h;split at h
   .rename_i z;(try rw[z]);cases h;exact hk
   .cases h
  .rename_i r' δ
   show match δ[0]? with|some (YB t)=>k r' t|_=>False
   dsimp only at h;split at h
   .rename_i z;(try rw[z]);cases h;exact hk
   .cases h
end
def i2(g:Int->Int->Xa):Xa->Xa->Option Xa:=λd e=>match d,e with| .int i,.int j=>YB (g i j)|_,_=>YC
def i2c(c:Int->Int->Bool)(g:Int->Int->Xa):Xa->Xa->Option Xa:=λd e=>match d,e with| .int i,.int j=>if c i j=YD then YB (g i j)else YC|_,_=>YC
theorem Zpm{g:Int->Int->Xa}:ByS (i2 g) (Zu8 g):=λd e r k h hk=>by
 unfold i2 at h;split at h
 .cases h;exact hk
 .cases h
theorem Zir{c:Int->Int->Bool}{C:Int->Int->Prop}{g:Int->Int->Xa}(hc:∀i j,c i j=YD->C i j):ByS (i2c c g) (d2I C g):=λd e r k h hk=>by
 unfold i2c at h;split at h
 .split at h
  .cases h;exact⟨hc _ _ ‹_›,hk⟩
  .cases h
 .cases h
def Z3i(a b:Int):Bool:=!(decide (Bc a>shortFactorBits)&&decide (Bc b>shortFactorBits)&&Builtin.Int.intTooBig (Bc a+Bc b))
def Z8o(_ j:Int):Bool:=decide (j≠0)&&decide (j.natAbs.log2<9000)
def Yd0(_ j:Int):Bool:=decide (j≠0)
def Yef(i j:Int):Bool:=decide (0<=j/\j<=1000000/\i.natAbs<2^64)
theorem Zj0{a b:Int}:Z3i a b=YD↔IntMulOk a b:=by
 unfold Z3i IntMulOk;rw[Bool.not_eq_true',Bool.not_eq_true]
def Zdl:=i2 λi j=>.int (i+j)
def gSb:=i2 λi j=>.int (i-j)
def Zib:=i2c Z3i λi j=>.int (i*j)
def Za9:=i2c Z8o λi j=>.int (i.fdiv j)
def Zja:=i2c Yd0 λi j=>.int (i.fmod j)
def Zgp:=i2c Yef λi j=>.int (i^j.toNat)
def gLt:=i2 λi j=>.bool (decide (i<j))
def gLe:=i2 λi j=>.bool (decide (i<=j))
def gGt:=i2 λi j=>.bool (decide (j<i))
def gGe:=i2 λi j=>.bool (decide (j<=i))
theorem Z96:ByS Zdl (Zu8 λi j=>.int (i+j)):=Zpm
theorem Ybm:ByS gSb (Zu8 λi j=>.int (i-j)):=Zpm
theorem Ya0:ByS Zib (d2I MulOk λi j=>.int (i*j)):=Zir λi j h=>⟨Zj0.mp h⟩
theorem Z7b:ByS Za9 (d2I Ycp λi j=>.int (i.fdiv j)):=Zir λi j h=>⟨by
 unfold Z8o at h;rw[XM]at h;exact⟨YW h.1,YW h.2⟩⟩
theorem Ybd:ByS Zja (d2I (λ_ j=>j≠0) λi j=>.int (i.fmod j)):=Zir λi j h=>YW h
theorem Ycd:ByS Zgp (d2I Z84 λi j=>.int (i^j.toNat)):=Zir λi j h=>⟨(YW h:0<=j/\j<=1000000/\i.natAbs<2^64)⟩
theorem Yfn:ByS gLt (Zu8 λi j=>.bool (decide (i<j))):=Zpm
theorem Ye6:ByS gGt (Zu8 λi j=>.bool (decide (j<i))):=Zpm
theorem Ye2:ByS gGe (Zu8 λi j=>.bool (decide (j<=i))):=Zpm
def gEq:Xa->Xa->Option Xa:=λd e=>if(VJ d&&VJ e)=YD then YB (.bool (QJ d e))else YC
def gNe:Xa->Xa->Option Xa:=λd e=>if(VJ d&&VJ e)=YD then YB (.bool (!QJ d e))else YC
theorem Ydh:ByS gEq dEq:=λd e r k h hk=>by
 unfold gEq at h;split at h
 .rename_i q
  rw[XM]at q;cases h;exact⟨⟨q.1⟩,⟨q.2⟩,hk⟩
 .cases h
theorem Yfe:ByS gNe dNe:=λd e r k h hk=>by
 unfold gNe at h;split at h
 .rename_i q
  rw[XM]at q;cases h;exact⟨⟨q.1⟩,⟨q.2⟩,hk⟩
 .cases h
def gIs:Xa->Xa->Option Xa:=λd e=>match e with| .none=>YB (.bool (Zd9 d))|_=>YC
def Zov:Xa->Xa->Option Xa:=λd e=>match e with| .none=>YB (.bool (!Zd9 d))|_=>YC
theorem Z82:ByS gIs Ydp:=λd e r k h hk=>by
 unfold gIs at h;split at h
 .cases h;exact⟨rfl,hk⟩
 .cases h
theorem Z0c:ByS Zov Z6x:=λd e r k h hk=>by
 unfold Zov at h;split at h
 .cases h;exact⟨rfl,hk⟩
 .cases h
def Zsv(neg:Bool):Xa->Xa->Option Xa:=λd e=>match Zyf e with
 | some ds=>if(scD d&&ds.all scD)=YD then YB (.bool (if neg then !memS d ds else memS d ds))else YC
 | none=>YC
theorem Zvw{neg:Bool}:ByS (Zsv neg) (dIn neg):=λd e r k h hk=>by
 unfold Zsv at h;split at h
 case h_2=>cases h
 rename_i ds q;split at h
 case isFalse=>cases h
 rename_i q2;rw[XM]at q2;cases h;refine⟨q2.1,?_⟩;cases e<;>cases q
 .exact⟨q2.2,hk⟩
 .exact⟨q2.2,hk⟩
def gIx:Xa->Xa->Option OT:=λd e=>(ixD d e).bind λx=>YB (.fz x)
theorem Yfk:ByO gIx dIx:=λd e r k h hk=>by
 obtain⟨x,h1,h2⟩:=bs h;cases h2;unfold dIx;rw[h1];exact hk
def Zz1:Xa->Xa->Option OT:=λd e=>match d,e with| .list ds,.list es=>if ds.length+es.length<=Xw then YB (.nd ((ds++es).map OT.fz))else YC|_,_=>YC
theorem Z6j:ByO Zz1 dCat:=λd e r k h hk=>by
 unfold Zz1 at h;split at h
 .split at h
  .cases h;exact⟨‹_›,hk⟩
  .cases h
 .cases h
def Zdv:List Xa->Option Xa:=λds=>match ds with|[d]=>(Zvr d).bind λn=>YB (.int n)|_=>YC
theorem Ya7:∀ds r k,Zdv ds=YB r->k r->Yd2 ds k:=λds r k h hk=>by
 unfold Zdv at h;split at h
 .obtain⟨n,h1,h2⟩:=bs h
  cases h2;show match Zvr _ with|some n=>_|none=>_
  rw[h1];exact hk
 .cases h
def Zqj:List Xa->Option Xa:=λds=>match ds with|[.int i]=>YB (.int (if i<0 then -i else i))|_=>YC
theorem Znb:∀ds r k,Zqj ds=YB r->k r->Yed ds k:=λds r k h hk=>by
 unfold Zqj at h;split at h
 .cases h;exact hk
 .cases h
def Yf9:List Xa->Option Xa:=λds=>match ds with|[.int i,.int j]=>YB (.int (if j>i then j else i))|_=>YC
def Z8e:List Xa->Option Xa:=λds=>match ds with|[.int i,.int j]=>YB (.int (if j<i then j else i))|_=>YC
theorem Z94:∀ds r k,Z8e ds=YB r->k r->Ydn ds k:=λds r k h hk=>by
 unfold Z8e at h;split at h
 .cases h;exact hk
 .cases h
def Z1b:List Xa->Option Xa:=λds=>match ds with|[.int i]=>YB (.int i)|[.bool b]=>YB (.int (if b then 1 else 0))|_=>YC
theorem Z49:∀ds r k,Z1b ds=YB r->k r->Ydu ds k:=λds r k h hk=>by
 unfold Z1b at h;split at h
 .cases h;exact hk
 .cases h;exact hk
 .cases h
def Z5r:List Xa->Option OT:=λds=>match ds with|[d]=>(Zyf d).bind λes=>YB (.nd (es.map OT.fz))|_=>YC
def Zf0:List Xa->Option (List Int)
 | []=>YB []
 | .int i::r=>(Zf0 r).bind λl=>YB (i::l)
 | _::_=>YC
theorem Zgv:∀{ds:List Xa} {ns:List Int},Zf0 ds=YB ns->ds=ns.map Xl
 | [],_,h=>by cases h;rfl
 | .int i::r,_,h=>by
  obtain⟨l,h1,h2⟩:=bs h;cases h2;rw[Zgv h1];rfl
 | .none::_,_,h=>by cases h
 | .bool _::_,_,h=>by cases h
 | .str _::_,_,h=>by cases h
 | .list _::_,_,h=>by cases h
 | .tuple _::_,_,h=>by cases h
 | .dict _::_,_,h=>by cases h
@[simp] theorem Ze8:∀ns:List Int,Zf0 (ns.map Xl)=YB ns
 | []=>rfl
 | n::ns=>by rw[Qq,Zf0,Ze8 ns];rfl
section
variable {X:Cx}{io:List Nat}{p c:Bool}{e tg:YJ}{es:List YJ}{st:YK}{fa fb fc:FE}{ra:FA}{i:Nat}
def Z6a(a:FA):FE:=λδ=>(a δ).bind λp=>match OT.datas p.1 with|[.int j]=>if rOk j=YD/\j.toNat<=Xw then YB (.nd ((Zbs 0 j.toNat).map OT.fz),p.2)else YC|_=>YC
theorem Z67(h:ME X io p c e (Yen (o2 ra))):ME X io p c e (o2 (Z6a ra)):=h.weak λδ K h=>by
 obtain⟨r,δ',h,k⟩:=h;obtain⟨⟨x,δ1⟩,h1,h⟩:=bs h;refine⟨x,δ1,h1,?_⟩;dsimp only at h;split at h
 case h_2=>cases h
 rename_i q;split at h
 case isFalse=>cases h
 rename_i b;cases h
 (try rw[q])
 exact⟨⟨(Zd8 b.1).1,(Zd8 b.1).2,b.2⟩,k⟩
def Ydl(a b:FE):FE:=λδ=>(a δ).bind λp=>(b p.2).bind λq=>match q.1.data with| .int k=>if rOk k=YD/\k.toNat<=Xw then YB (.nd (By k.toNat (.fz p.1.data)),p.2)else YC|_=>YC
def Ziw:Xa->Option Str| .dict [(.str x,.none)]=>YB x|_=>YC
theorem Zk6{d:Xa}(h:Ziw d=YB x):d=exD x:=by
 unfold Ziw at h;split at h
 .cases h;rfl
 .cases h
def Zqn(xs:List Str)(D:Str)(a:FE):FE:=λδ=>(a δ).bind λp=>(Ziw p.1.data).bind λx=>if xs.contains x=YD then YB (.fz (.bool (Zpf x D)),p.2)else YC
def Zn6(xs Ds:List Str)(a:FE):FE:=λδ=>(a δ).bind λp=>(Ziw p.1.data).bind λx=>if xs.contains x=YD then YB (.fz (.bool (Ds.any (Zpf x))),p.2)else YC
theorem Zrk{xs:List Str}{cv:Xd}(hk:∀x∈xs,∃C,Uy X.K x C/\Qi X.K (.ref C) cv=YB (Zpf x D))(h:ME X io p c e (Z31 X.K cv (o2 fa))):ME X io p c e (o2 (Zqn xs D fa)):=h.weak λδ K h=>by
 obtain⟨r,δ',h,k⟩:=h;obtain⟨⟨x,δ1⟩,h1,h⟩:=bs h;obtain⟨n,h2,h⟩:=bs h;split at h
 case isFalse=>cases h
 rename_i q;cases h;obtain⟨C,k1,k2⟩:=hk n (by simpa using q);exact⟨x,δ1,h1,n,C,_,Zk6 h2,k1,k2,k⟩
theorem Zw4{xs Ds:List Str}{cs:List Xd}(hk:∀x∈xs,∃C,Uy X.K x C/\Bu X.K (.ref C) cs=YB (Ds.any (Zpf x)))(h:ME X io p c e (Zy0 X.K cs (o2 fa))):ME X io p c e (o2 (Zn6 xs Ds fa)):=h.weak λδ K h=>by
 obtain⟨r,δ',h,k⟩:=h;obtain⟨⟨x,δ1⟩,h1,h⟩:=bs h;obtain⟨n,h2,h⟩:=bs h;split at h
 case isFalse=>cases h
 rename_i q;cases h;obtain⟨C,k1,k2⟩:=hk n (by simpa using q);exact⟨x,δ1,h1,n,C,_,Zk6 h2,k1,k2,k⟩
end
variable {G:Xc}
section
variable {X:Cx}{io:List Nat}{p c:Bool}{e a b:YJ}{es:List YJ}{m ma mb:MEt}{mr:MAt}{pos apos cpos px py pt sp kp:Pos}{i j:Nat}{x y:Str}{fa fb:FE}{ra:FA}{st:YK}
def Z3x(m:MAt):MEt:=λδ K=>m δ λrs δ'=>rs.length<=Xw/\K (.tp rs) δ'
theorem Z3s{x1}(h:MA X io p c es mr):ME X io p c (.Tuple es x1 pos) (Z3x mr):=by
 obtain⟨tA,A,sa⟩:=h;refine⟨_,Zsm A,λC H O δ fp ex K Q R h k=>?_⟩;refine sa C H O δ fp ex _ _ R h λH1 vs rs δ1 fp1 new1 r1 h1=>⟨by rw[r1.own.length];exact h1.1,λq hq=>?_⟩;have s:=Ye hq (.tup vs);have S:=r1.stp.trans (p':=YD) (Stp.same (p:=YD) (δ:=δ1) (fp:=fp1) s s.al);rw[V4]at S;exact k _ _ _ δ1 fp1 new1 ⟨(r1.rel.made (new:=[]) s λa m=>nomatch m).drop λa z=>.inl z,S,.tp Zu (r1.own.same s),r1.nd,r1.fresh⟩ h1.2
def Zto(a:FA):FE:=λδ=>(a δ).bind λp=>if p.1.length<=Xw then YB (.tp p.1,p.2)else YC
theorem Zz9(h:ME X io p c e (Z3x (o2 ra))):ME X io p c e (o2 (Zto ra)):=h.weak λδ K h=>by
 obtain⟨r,δ',h,k⟩:=h;obtain⟨⟨x,δ1⟩,h1,h⟩:=bs h;refine⟨x,δ1,h1,?_⟩;dsimp only at h;split at h
 .rename_i q;cases h;exact⟨q,k⟩
 .cases h
def Zxr(i c:Nat)(e:FE):FS:=λδ=>match δ[i]? with
 | some (YB (.tp ts))=>match ts[c]? with
  | some (.nd us)=>wE e (λr _=>if us.length<Xw then .nx (δ.set i (YB (.tp (ts.set c (.nd (us++[.fz r.data]))))))else .bad) δ
  | _=>.bad
 | _=>.bad
def Yel(i j:Nat)(a:FA):FS:=λδ=>match a δ with
 | some (rs,δ1)=>match OT.datas rs with
  | [d,e]=>.nx ((δ1.set i (YB (.fz d))).set j (YB (.fz e)))
  | _=>.bad
 | none=>.bad
end
class NoStar (e:YJ):Prop where
 h:∀es env,Xr (e::es) env=(YF,eval e env)::Xr es env
instance nx_Name{p:Pos}:NoStar (.Name x p):=⟨λ_ _=>rfl⟩
instance nx_Constant{x k}{p:Pos}:NoStar (.Constant x k p):=⟨λ_ _=>rfl⟩
instance nx_BinOp{a o b}{p:Pos}:NoStar (.BinOp a o b p):=⟨λ_ _=>rfl⟩
instance nx_Compare{a o b}{p:Pos}:NoStar (.Compare a o b p):=⟨λ_ _=>rfl⟩
instance nx_Call{f a k}{p:Pos}:NoStar (.Call f a k p):=⟨λ_ _=>rfl⟩
instance nx_Tuple{a k}{p:Pos}:NoStar (.Tuple a k p):=⟨λ_ _=>rfl⟩
instance nx_Subscript{a b}{p:Pos}:NoStar (.Subscript a b p):=⟨λ_ _=>rfl⟩
instance nx_ListComp{a b s}{p:Pos}:NoStar (.ListComp a b s p):=⟨λ_ _=>rfl⟩
theorem Zk{p2 c2:Bool}[NoStar e](ha:ME X io p c e (o2 fa))(hr:MA X io p' c' es (o2 ra))(hc:p'=YD\/c=YD:=by first|exact Qx rfl|exact Qm rfl)(h2:(p&&p')=p2:=by rfl)(h3:(c&&c')=c2:=by rfl):MA X io p2 c2 (e::es) (o2 (Zc fa ra)) :=
 h2▸h3▸Z2j (Zzv ha hr hc (NoStar.h es X.env))
theorem Z0y{m:MEt}(h:ME X io p c e m)(h2:p=p':=by rfl)(h3:c=c':=by rfl):ME X io p' c' e m:=h2▸h3▸h
variable {G:Xc}
section
variable {X:Cx}{io:List Nat}{p c:Bool}{e a b:YJ}{es:List YJ}{m ma mb:MEt}{mr:MAt}{pos apos cpos px py pt sp kp:Pos}{i j:Nat}{x y:Str}{fa fb:FE}{ra:FA}{st:YK}{u:FS}
def Z9d:=i2c Yef λi j=>.int (i*2^j.toNat)
def Z4h:=i2c (λ_ j=>decide (0<=j)) λi j=>.int (i/2^j.toNat)
def Z9b:=i2 λi j=>.int (Builtin.bitAnd i j)
theorem Z6e{f:Int->Int->Int}:P2s G (rI Z3d λi j=>.int (f i j)) (d2I Z84 λi j=>.int (f i j)):=Zyn
theorem Ybc:ByS Z9d (d2I Z84 λi j=>.int (i*2^j.toNat)):=Zir λi j h=>⟨(YW h:0<=j/\j<=1000000/\i.natAbs<2^64)⟩
theorem Z3z:ByS Z4h (d2I (λ_ j=>0<=j) λi j=>.int (i/2^j.toNat)):=Zir λi j h=>YW h
theorem Z36:ByS Z9b (Zu8 λi j=>.int (Builtin.bitAnd i j)):=Zpm
def insI(x:Int):List Int->List Int
 | []=>[x]
 | y::ys=>if x<=y then x::y::ys else y::insI x ys
def Za0:List Int->List Int
 | []=>[]
 | x::xs=>insI x (Za0 xs)
theorem insI_perm(x:Int):∀l,(insI x l).Perm (x::l)
 | []=>.refl _
 | y::ys=>by
  unfold insI;split
  .exact .refl _
  .exact((insI_perm x ys).cons y).trans (.swap x y ys)
theorem Ww:∀l,(Za0 l).Perm l
 | []=>.refl _
 | x::xs=>(insI_perm x _).trans ((Ww xs).cons x)
theorem Zhg(x:Int):∀{l},l.Pairwise (·<=·)->(insI x l).Pairwise (·<=·)
 | [],_=>.cons (λ_ m=>nomatch m) .nil
 | y::ys,h=>by
  unfold insI;cases h with
  | cons h1 h2=>
   split
   .rename_i c
    refine .cons (λz m=>?_) (.cons h1 h2);rcases Xi.mp m with rfl|m
    .exact c
    .exact JQ c (h1 z m)
   .rename_i c
    refine .cons (λz m=>?_) (Zhg x h2);rcases Xi.mp ((insI_perm x ys).mem_iff.mp m)with rfl|m
    .omega
    .exact h1 z m
theorem W8:∀l,(Za0 l).Pairwise (·<=·)
 | []=>.nil
 | x::xs=>Zhg x (W8 xs)
theorem Zah:∀{l₁ l₂:List Int},l₁.Perm l₂->l₁.Pairwise (·<=·)->l₂.Pairwise (·<=·)->l₁=l₂
 | [],l₂,h,_,_=>h.nil_eq
 | a::l₁,[],h,_,_=>h.eq_nil
 | a::l₁,b::l₂,h,h1,h2=>by
  cases h1 with
  | cons p1 q1=>
   cases h2 with
   | cons p2 q2=>
    have e:a=b:=by
     have m1:a∈b::l₂:=h.mem_iff.mp (.head _);have m2:b∈a::l₁:=h.mem_iff.mpr (.head _);rcases Xi.mp m1 with e|m1
     .exact e
     .rcases Xi.mp m2 with e|m2
      .exact e.symm
      .have:=p2 a m1
       have:=p1 b m2;omega
    subst e;rw[Zah h.cons_inv q1 q2]
theorem Z7q:∀{its:List Xd} {ns:List Int},Bw its ns->Vals (ns.map V.int) its
 | [],_,h=>by cases h;exact .nil
 | v::its,_,h=>by
  cases h with
  | cons n t h=>exact .cons ⟨_,rfl⟩ (Z7q h)
end
structure Gives(P:X6)(w:Qp)(it:YG)(f:List YG)(St:YH->Prop)(x:Xd)(St':YH->Prop):Prop where
 mem:it∈f
 run:∀{A:Qk} {E:Xd->Xe->Prop} {s:Xe} {Q:Xd->Xe->Prop},St s.heap->(∀h',St' h'->Ba it s.heap h'->Q x { s with heap:=h' })->Xy (XR P w) A (QM (.ref it)) Q E s
 keep:∀h h',(∀c∈f,∀o,h.get? c=YB o->h'.get? c=YB o)->St h->St h'
 keep':∀h h',(∀c∈f,∀o,h.get? c=YB o->h'.get? c=YB o)->St' h->St' h'
structure Zip(P:X6)(w:Qp)(it:YG)(f:List YG)(St:YH->Prop):Prop where
 mem:it∈f
 run:∀{A:Qk} {E:Xd->Xe->Prop} {s:Xe} {Q:Xd->Xe->Prop},A.handled=YC->St s.heap->(∀h' e,Heap.ExtBut it s.heap h'->(∃o,h'.get? e=YB o/\o.cls= .type "StopIteration")->E (.ref e) { s with heap:=h' })->Xy (XR P w) A (QM (.ref it)) Q E s
 keep:∀h h',(∀c∈f,∀o,h.get? c=YB o->h'.get? c=YB o)->St h->St h'
structure ZA(z TI TO i1 i2:YG)(f1 f2:List YG):Prop where
 TIz:TI≠z
 TOz:TO≠z
 a1:∀c∈f1,c≠z/\c≠TO/\c≠i2
 a2:∀c∈f2,c≠z/\c≠TO/\c≠i1
section
variable {P:X6}{w:Qp}{A:Qk}{E:Xd->Xe->Prop}{s:Xe}
theorem Zjj{T:YG}{a b x:Xd}{k:Nat}{Q:Unit->Xe->Prop}(hT:Vd s.heap T a b)(h:∀h',h'.get? T=YB { cls:=.type "tuple",data:=.seq ((#[a,b]:Array Xd).setIfInBounds k x) }->Ba T s.heap h'->Q () { s with heap:=h' }) :
  Xy (XR P w) A (updateSeq T (·.setIfInBounds k x)) Q E s:=wpAny_updateSeq_pair hT h
theorem Zq0{z TI TO i1 i2:YG}{f1 f2:List YG}{S1 T1 S2 T2:YH->Prop}{x y a b:Xd}(D:ZA z TI TO i1 i2 f1 f2)(G1:Gives P w i1 f1 S1 x T1)(G2:Gives P w i2 f2 S2 y T2)
  (hz:IsZip s.heap z TI TO .none) (hTI:Vd s.heap TI (.ref i1) (.ref i2)) (hTO:Vd s.heap TO a b) (h1:S1 s.heap) (h2:S2 s.heap)
  (hQ:∀h',IsZip h' z TI TO (JD s.heap.objs.size)->Vd h' TO x y->T1 h'->T2 h'->Vd h' s.heap.objs.size x y ->
   (∀ c o,c∉[z,TO,i1,i2]->s.heap.get? c=YB o->h'.get? c=YB o)->Q (.ref s.heap.objs.size) { s with heap:=h' }) :
  Xy (XR P w) A (Ve.«zip.__next__» ⟨[.ref z],[]⟩) (λfin s'=>∃v,fin= .done (.ret v)/\Q v s') E s:=by
 obtain⟨i1z,i1O,i12⟩:=D.a1 i1 G1.mem;obtain⟨i2z,i2O,i21⟩:=D.a2 i2 G2.mem;have r1:z∉f1/\TO∉f1/\i2∉f1:=⟨λm=>(D.a1 z m).1 rfl,λm=>(D.a1 TO m).2.1 rfl,λm=>(D.a1 i2 m).2.2 rfl⟩;have r2:z∉f2/\TO∉f2/\i1∉f2:=⟨λm=>(D.a2 z m).1 rfl,λm=>(D.a2 TO m).2.1 rfl,λm=>(D.a2 i1 m).2.2 rfl⟩;have st:∀{b:YG} {h h':YH} {f:List YG},Ba b h h'->b∉f->∀c∈f,∀o,h.get? c=YB o->h'.get? c=YB o:=λsb hb c hc o e=>sb.extBut _ _ (λq=>hb (q▸hc)) e;show Xy _ _ (field (.ref z) 2>>=_) _ _ _;refine Xb (JP hz rfl (x:=.bool YF) rfl ?_);show Xy _ _ (field (.ref z) 3>>=_) _ _ _;refine Xb (JP hz rfl (x:=.ref TI) rfl (Xb (BL hTI rfl ?_)));show Xy _ _ (Br (.ref z)>>=_) _ _ _;refine Xb ?_;unfold Br;refine Xb (JP hz rfl (x:=.none) rfl (Xo ?_));simp only[if_true];refine Xb (Ue (Xb (JP hz rfl (x:=.ref TO) rfl (Xb (QS hz (by simp) λh3 z3 b3=>?_)))));replace z3:IsZip h3 z TI TO .ellipsis:=z3;refine Xb ?_;simp only[List.zipIdx_cons,List.zipIdx_nil,List.forIn_cons,U7];refine Xb (Xb (wpAny_onRaise ?_));show Xy _ _ (QM (.ref i1)>>=_) _ _ _;refine Xb (G1.run (s:={ s with heap:=h3 }) (G1.keep _ _ (st b3 r1.1) h1) λh4 k4 b4=>Xo ?_);have o4:Vd h4 TO a b:=b4.extBut _ _ i1O.symm (b3.extBut _ _ D.TOz hTO);refine Xb (BL o4 rfl (Xb (Zjj (s:={ s with heap:=h4 }) o4 λh5 o5 b5=>Xb (wpAny_letGo (Xo ?_)))));replace o5:Vd h5 TO x b:=o5;refine Xb (Xb (wpAny_onRaise ?_));show Xy _ _ (QM (.ref i2)>>=_) _ _ _;refine Xb (G2.run (s:={ s with heap:=h5 }) (G2.keep _ _ (st b5 r2.2.1) (G2.keep _ _ (st b4 r2.2.2) (G2.keep _ _ (st b3 r2.1) h2))) λh6 k6 b6=>Xo ?_);have o6:Vd h6 TO x b:=b6.extBut _ _ i2O.symm o5;refine Xb (BL o6 rfl (Xb (Zjj (s:={ s with heap:=h6 }) o6 λh7 o7 b7=>Xb (wpAny_letGo (Xo (Xo ?_))))));replace o7:Vd h7 TO x y:=o7;refine Xb (BL o7 rfl (Xb (wpAny_newTuple ?_)));have sz:h7.objs.size=s.heap.objs.size:=by rw[b7.1,b6.1,b5.1,b4.1,b3.1]
 have z7:IsZip h7 z TI TO .ellipsis:=b7.extBut _ _ D.TOz.symm (b6.extBut _ _ i2z.symm (b5.extBut _ _ D.TOz.symm (b4.extBut _ _ i1z.symm z3)));have t1:T1 h7:=G1.keep' _ _ (st b7 r1.2.1) (G1.keep' _ _ (st b6 r1.2.2) (G1.keep' _ _ (st b5 r1.2.1) k4));have t2:T2 h7:=G2.keep' _ _ (st b7 r2.2.1) k6;have old:∀c o,c∉[z,TO,i1,i2]->s.heap.get? c=YB o->h7.get? c=YB o:=λc o n e=>by
  simp only[Xi,Bs,or_false,not_or]at n;exact b7.extBut _ _ n.2.1 (b6.extBut _ _ n.2.2.2 (b5.extBut _ _ n.2.1 (b4.extBut _ _ n.2.2.1 (b3.extBut _ _ n.1 e))))
 show Xy _ _ (U8 (.ref z) (.ref h7.objs.size)>>=_) _ _ _;refine Xb ?_;unfold U8;have zp:IsZip (h7.push { cls:=.type "tuple",data:=.seq #[x,y] }) z TI TO .ellipsis:=Xf _ z7;refine Xb (QS zp (by simp) λh8 z8 b8=>?_);replace z8:IsZip h8 z TI TO (JD h7.objs.size):=z8;refine QS z8 (by simp) λh9 z9 b9=>?_;replace z9:IsZip h9 z TI TO (JD h7.objs.size):=z9;have up:∀c o,c≠z->h7.get? c=YB o->h9.get? c=YB o:=λc o n e=>b9.extBut _ _ n (b8.extBut _ _ n (Xf _ e));have nz:h7.objs.size≠z:=XD (Xz z7);have p9:Vd h9 h7.objs.size x y:=b9.extBut _ _ nz (b8.extBut _ _ nz (Xx _ rfl));refine Xo ⟨_,rfl,?_⟩;show Q (.ref h7.objs.size) _;rw[sz]at z9 p9|-
 exact hQ h9 z9 (up _ _ D.TOz o7) (G1.keep' _ _ (λc hc o e=>up c o (λq=>r1.1 (q▸hc)) e) t1) (G2.keep' _ _ (λc hc o e=>up c o (λq=>r2.1 (q▸hc)) e) t2) p9 λc o n e=>up c o (λq=>n (by simp[q])) (old c o n e)
theorem Zvb{z TI TO i1 i2:YG}{f1 f2:List YG}{S1 T1 S2:YH->Prop}{a b:Xd}{Q:Fin->Xe->Prop}(hh:A.handled=YC)(D:ZA z TI TO i1 i2 f1 f2)(g1:Zip P w i1 f1 S1\/(∃x,Gives P w i1 f1 S1 x T1)/\Zip P w i2 f2 S2)
  (hz:IsZip s.heap z TI TO .none) (hTI:Vd s.heap TI (.ref i1) (.ref i2)) (hTO:Vd s.heap TO a b) (h1:S1 s.heap) (h2:S2 s.heap)
  (hE:∀h' e,(∀c o,c∉[z,TO,i1,i2]->s.heap.get? c=YB o->h'.get? c=YB o)->(∃o,h'.get? e=YB o/\o.cls= .type "StopIteration")->E (.ref e) { s with heap:=h' }) :
  Xy (XR P w) A (Ve.«zip.__next__» ⟨[.ref z],[]⟩) Q E s:=by
 have r1:z∉f1/\TO∉f1/\i2∉f1:=⟨λm=>(D.a1 z m).1 rfl,λm=>(D.a1 TO m).2.1 rfl,λm=>(D.a1 i2 m).2.2 rfl⟩;have r2:z∉f2/\TO∉f2/\i1∉f2:=⟨λm=>(D.a2 z m).1 rfl,λm=>(D.a2 TO m).2.1 rfl,λm=>(D.a2 i1 m).2.2 rfl⟩;have st:∀{b:YG} {h h':YH} {f:List YG},Ba b h h'->b∉f->∀c∈f,∀o,h.get? c=YB o->h'.get? c=YB o:=λsb hb c hc o e=>sb.extBut _ _ (λq=>hb (q▸hc)) e;show Xy _ _ (field (.ref z) 2>>=_) _ _ _;refine Xb (JP hz rfl (x:=.bool YF) rfl ?_);show Xy _ _ (field (.ref z) 3>>=_) _ _ _;refine Xb (JP hz rfl (x:=.ref TI) rfl (Xb (BL hTI rfl ?_)));show Xy _ _ (Br (.ref z)>>=_) _ _ _;refine Xb ?_;unfold Br;refine Xb (JP hz rfl (x:=.none) rfl (Xo ?_));simp only[if_true];refine Xb (Ue (Xb (JP hz rfl (x:=.ref TO) rfl (Xb (QS hz (by simp) λh3 z3 b3=>?_)))));replace z3:IsZip h3 z TI TO .ellipsis:=z3;refine Xb ?_;simp only[List.zipIdx_cons,List.zipIdx_nil,List.forIn_cons,U7];refine Xb (Xb (wpAny_onRaise ?_));show Xy _ _ (QM (.ref i1)>>=_) _ _ _;rcases g1 with G1|⟨⟨x,G1⟩,G2⟩
 .obtain⟨i1z,i1O,i12⟩:=D.a1 i1 G1.mem
  refine Xb (G1.run (s:={ s with heap:=h3 }) hh (G1.keep _ _ (st b3 r1.1) h1) λh4 e b4 he=>?_);obtain⟨oe,hoe,hce⟩:=he;have z4:IsZip h4 z TI TO .ellipsis:=b4 _ _ i1z.symm z3;have ez:e≠z:=λq=>by subst q;rw[z4]at hoe;cases hoe;simp at hce
  refine QS z4 (by simp) λh5 _ b5=>hE h5 e (λc o n q=>?_) ⟨oe,b5.extBut _ _ ez hoe,hce⟩;simp only[Xi,Bs,or_false,not_or]at n;exact b5.extBut _ _ n.1 (b4 _ _ n.2.2.1 (b3.extBut _ _ n.1 q))
 .obtain⟨i1z,i1O,i12⟩:=D.a1 i1 G1.mem
  obtain⟨i2z,i2O,i21⟩:=D.a2 i2 G2.mem;refine Xb (G1.run (s:={ s with heap:=h3 }) (G1.keep _ _ (st b3 r1.1) h1) λh4 k4 b4=>Xo ?_);have o4:Vd h4 TO a b:=b4.extBut _ _ i1O.symm (b3.extBut _ _ D.TOz hTO);refine Xb (BL o4 rfl (Xb (Zjj (s:={ s with heap:=h4 }) o4 λh5 o5 b5=>Xb (wpAny_letGo (Xo ?_)))));refine Xb (Xb (wpAny_onRaise ?_));show Xy _ _ (QM (.ref i2)>>=_) _ _ _;refine Xb (G2.run (s:={ s with heap:=h5 }) hh (G2.keep _ _ (st b5 r2.2.1) (G2.keep _ _ (st b4 r2.2.2) (G2.keep _ _ (st b3 r2.1) h2))) λh6 e b6 he=>?_);obtain⟨oe,hoe,hce⟩:=he;have z6:IsZip h6 z TI TO .ellipsis:=b6 _ _ i2z.symm (b5.extBut _ _ D.TOz.symm (b4.extBut _ _ i1z.symm z3));have ez:e≠z:=λq=>by subst q;rw[z6]at hoe;cases hoe;simp at hce
  refine QS z6 (by simp) λh7 _ b7=>hE h7 e (λc o n q=>?_) ⟨oe,b7.extBut _ _ ez hoe,hce⟩;simp only[Xi,Bs,or_false,not_or]at n;exact b7.extBut _ _ n.1 (b6 _ _ n.2.2.2 (b5.extBut _ _ n.2.1 (b4.extBut _ _ n.2.2.1 (b3.extBut _ _ n.1 q))))
theorem Zpn{z TI TO i1 i2:YG}{f1 f2:List YG}{S1 T1 S2 T2:YH->Prop}{x y a b:Xd}{Q:Option Xd->Xe->Prop}(D:ZA z TI TO i1 i2 f1 f2)(G1:Gives P w i1 f1 S1 x T1)(G2:Gives P w i2 f2 S2 y T2)
  (hz:IsZip s.heap z TI TO .none) (hTI:Vd s.heap TI (.ref i1) (.ref i2)) (hTO:Vd s.heap TO a b) (h1:S1 s.heap) (h2:S2 s.heap)
  (hQ:∀h',IsZip h' z TI TO (JD s.heap.objs.size)->Vd h' TO x y->T1 h'->T2 h'->Vd h' s.heap.objs.size x y ->
   (∀ c o,c∉[z,TO,i1,i2]->s.heap.get? c=YB o->h'.get? c=YB o)->Q (YB (.ref s.heap.objs.size)) { s with heap:=h' }):Xy (XR P w) A (V7 (.ref z)) Q E s:=by
 have hT:s.TypeIs (.ref z) "zip" :=⟨_,hz,rfl⟩;unfold V7;exact Xb (UL (JN (name:=VP "__next__") hT F.slot_zip_next (JF F.slot_zip_next hT F.entry_zip_next (Zq0 D G1 G2 hz hTI hTO h1 h2 λh' a1 a2 a3 a4 a5 a6=>Xo (hQ h' a1 a2 a3 a4 a5 a6)) (F.args_zip_next_1 _))))
theorem Zss{z TI TO i1 i2:YG}{f1 f2:List YG}{S1 T1 S2:YH->Prop}{a b:Xd}{Q:Option Xd->Xe->Prop}(hh:A.handled=YC)(D:ZA z TI TO i1 i2 f1 f2)(g1:Zip P w i1 f1 S1\/(∃x,Gives P w i1 f1 S1 x T1)/\Zip P w i2 f2 S2)
  (hz:IsZip s.heap z TI TO .none) (hTI:Vd s.heap TI (.ref i1) (.ref i2)) (hTO:Vd s.heap TO a b) (h1:S1 s.heap) (h2:S2 s.heap)
  (hQ:∀h',(∀c o,c∉[z,TO,i1,i2]->s.heap.get? c=YB o->h'.get? c=YB o)->Q YC { s with heap:=h' }):Xy (XR P w) A (V7 (.ref z)) Q E s:=by
 have hT:s.TypeIs (.ref z) "zip" :=⟨_,hz,rfl⟩;unfold V7;refine Xb (UL (JN (name:=VP "__next__") hT F.slot_zip_next (JF F.slot_zip_next hT F.entry_zip_next (Zvb hh D g1 hz hTI hTO h1 h2 λh' e hk he=>?_) (F.args_zip_next_1 _))));obtain⟨o,ho,hc⟩:=he;exact Xb (wpAny_isInstance (T :="StopIteration") (b:=YD) ⟨o,ho,hc⟩ isSubtype_stop (Xo (hQ _ hk)))
theorem Zt6{it t:YG}{items:Array Xd}{x:Xd}(hx:items[i]? =YB x):Gives P w it [it,t] (λh=>IsTupIter h it t i/\IsTup h t items) x (λh=>IsTupIter h it t (i+1)) where
 mem:=by simp
 run:=fun{A E s Q} ⟨hit,ht⟩ hQ=>by
  obtain⟨o,ho,hc,hd⟩:=id hit;obtain⟨ol,hol,_,nl,hdl⟩:=ht;unfold QM;refine Xb (JN (name:=VP "__next__") hit.typeIs slot_tupleiter_next (JF slot_tupleiter_next hit.typeIs entry_tupleiter_next ?_ (args_tupleiter_next _)));show Xy _ _ (field (.ref it) 0>>=_) _ _ s;refine Xb (JP ho hd (x:=.ref t) rfl ?_);show Xy _ _ (if(Qj t==QD)=YD then _ else _) _ _ s;rw[YM (show¬((Qj t==QD)=YD)from XC)];show Xy _ _ (field (.ref it) 1>>=_) _ _ s;refine Xb (JP ho hd (x:=.int i 0) rfl ?_);show Xy _ _ (seqItems? (.ref t)>>=_) _ _ s;refine Xb (BL hol hdl ?_);simp only[XX,hx];refine Xb (wpAny_setField ho hd (by simp) (Xo ⟨x,rfl,Xo (hQ _ ?_ (JM ..))⟩));exact⟨_,Uk _ ho (Obj.isFreed_of_fields (Obj.data_mapFields hd _)),(Obj.cls_mapFields ..).trans hc,by rw[Obj.data_mapFields hd];simp[JD]⟩
 keep:=λh h' k ⟨⟨o,a1,a2⟩,⟨o',b1,b2⟩⟩=>⟨⟨o,k it (by simp) o a1,a2⟩,⟨o',k t (by simp) o' b1,b2⟩⟩
 keep':=λh h' k ⟨o,a1,a2⟩=>⟨o,k it (by simp) o a1,a2⟩
theorem Zvu{it t:YG}{items:Array Xd}(hx:items[i]? =YC):Zip P w it [it,t] (λh=>IsTupIter h it t i/\IsTup h t items) where
 mem:=by simp
 run:=fun{A E s Q} hh ⟨hit,ht⟩ hE=>by
  obtain⟨o,ho,hc,hd⟩:=id hit;obtain⟨ol,hol,_,nl,hdl⟩:=ht;unfold QM;refine Xb (JN (name:=VP "__next__") hit.typeIs slot_tupleiter_next (JF slot_tupleiter_next hit.typeIs entry_tupleiter_next ?_ (args_tupleiter_next _)));show Xy _ _ (field (.ref it) 0>>=_) _ _ s;refine Xb (JP ho hd (x:=.ref t) rfl ?_);show Xy _ _ (if(Qj t==QD)=YD then _ else _) _ _ s;rw[YM (show¬((Qj t==QD)=YD)from XC)];show Xy _ _ (field (.ref it) 1>>=_) _ _ s;refine Xb (JP ho hd (x:=.int i 0) rfl ?_);show Xy _ _ (seqItems? (.ref t)>>=_) _ _ s;refine Xb (BL hol hdl ?_);simp only[XX,hx];refine Xb (Ue (Xb (wpAny_setField ho hd (by simp) ?_)));show Xy _ _ (newExc (.type "StopIteration") []>>=_) _ _ _;refine Xb ?_;simp only[newExc,newTuple];refine Xb (JK ?_ (by size_fits));refine Xb (m:=Us _ _) (wpAny_of_eq (a:=QD) (by first|rfl|(simp only[Us];rfl)) ?_);refine JK ?_ (by size_fits);simp only[raiseNew];refine Xb (wpAny_handled ?_)
  first|rw[show A.in1.handled=YC from hh]|rw[hh]
  exact Xb (Xo (wpAny_throw (hE _ _ (((JM ..).extBut.push _).push _) ⟨_,Xx _ rfl,rfl⟩)))
 keep:=λh h' k ⟨⟨o,a1,a2⟩,⟨o',b1,b2⟩⟩=>⟨⟨o,k it (by simp) o a1,a2⟩,⟨o',k t (by simp) o' b1,b2⟩⟩
end
abbrev zT1(h:YH)(a:YG):YH:=h.push { cls:=.type "tuple_iterator",data:=.fields #[.ref a,.int 0 0] }
abbrev zT2(h:YH)(a b:YG):YH:=(zT1 h a).push { cls:=.type "tuple_iterator",data:=.fields #[.ref b,.int 0 0] }
abbrev zT3(h:YH)(a b:YG):YH:=(zT2 h a b).push { cls:=.type "tuple",data:=.seq #[.ref h.objs.size,.ref (zT1 h a).objs.size] }
abbrev zT4(h:YH)(a b:YG):YH:=(zT3 h a b).push { cls:=.type "tuple",data:=.seq #[.none,.none] }
abbrev zT5(h:YH)(a b:YG):YH:=(zT4 h a b).push { cls:=.type "zip",data:=.fields #[.none,.bool YF,.bool YF,.ref (zT2 h a b).objs.size,.ref (zT3 h a b).objs.size] }
theorem Zvf(a b:YG)(xs ys:Array Xd) :
  Meets (Ve.«zip.__new__» ⟨[.type "zip",.ref a,.ref b],[]⟩) (λ_ R s=>IsTup s.heap a xs/\IsTup s.heap b ys/\R (.ok (.ret (.ref (zT4 s.heap a b).objs.size))) { s with heap:=zT5 s.heap a b }) :=
 .of_wp λprog w A R s h=>by
  obtain⟨hp,g,d,tk,os⟩:=s;obtain⟨h1,h2,h⟩:=h;have hsub:=sub_zip;have hL1:IsTup (Xe.heap ⟨hp,g,d,tk,os⟩) a xs:=h1;have hL2:IsTup (Xe.heap ⟨hp.push { cls:=.type "tuple_iterator",data:=.fields #[.ref a,.int 0 0] },g,d,tk,os⟩) b ys:=h2.push _
  wp_walk using iter_tuple hL1,iter_tuple hL2
  exact⟨_,rfl,h⟩
section
variable {P:X6}{w:Qp}{A:Qk}{E:Xd->Xe->Prop}{s:Xe}
theorem Zr6{b:YG}{xs ys:Array Xd}(h1:IsTup s.heap a xs)(h2:IsTup s.heap b ys)
  (h:∀h' n,n=s.heap.objs.size->IsZip h' (n+4) (n+2) (n+3) .none->Vd h' (n+2) (.ref n) (.ref (n+1))->Vd h' (n+3) .none .none->IsTupIter h' n a 0->IsTupIter h' (n+1) b 0 ->
   (∀ c o,s.heap.get? c=YB o->h'.get? c=YB o)->Q (.ref (n+4)) { s with heap:=h' }):Xy (XR P w) A (call (.type "zip") [.ref a,.ref b]) Q E s:=by
 refine callType_new F.called_zip (by decide) (F.typeCall_zip_2 _ _) (F.newCall_zip_2 _ _) (λobj=>F.args_object_init_3 obj _ _) F.entry_zip_new (Zvf a b xs ys) ⟨h1,h2,?_⟩;have e1:(zT1 s.heap a).objs.size=s.heap.objs.size+1:=QC ..;have e2:(zT2 s.heap a b).objs.size=s.heap.objs.size+2:=by rw[QC,e1]
 have e3:(zT3 s.heap a b).objs.size=s.heap.objs.size+3:=by rw[QC,e2]
 have e4:(zT4 s.heap a b).objs.size=s.heap.objs.size+4:=by rw[QC,e3]
 have up:∀{c o},(zT1 s.heap a).get? c=YB o->(zT5 s.heap a b).get? c=YB o:=λx=>Xf _ (Xf _ (Xf _ (Xf _ x)));have p5:(zT5 s.heap a b).get? (zT4 s.heap a b).objs.size=YB _:=Xx _ rfl;have p4:(zT5 s.heap a b).get? (zT3 s.heap a b).objs.size=YB _:=Xf _ (Xx _ rfl);have p3:(zT5 s.heap a b).get? (zT2 s.heap a b).objs.size=YB _:=Xf _ (Xf _ (Xx _ rfl));have p2:(zT5 s.heap a b).get? (zT1 s.heap a).objs.size=YB _:=Xf _ (Xf _ (Xf _ (Xx _ rfl)));have p1:(zT5 s.heap a b).get? s.heap.objs.size=YB _:=up (Xx _ rfl);show _/\_;rw[e2,e3,e4]at p5;rw[e1,e2]at p3;rw[e3]at p4;rw[e1]at p2;rw[e4];exact⟨⟨_,p5,rfl⟩,h _ _ rfl p5 p3 p4 ⟨_,p1,rfl,rfl⟩ ⟨_,p2,rfl,rfl⟩ λc o x=>up (Xf _ x)⟩
end
theorem nn{n a b:Nat}(h:a≠b):n+a≠n+b:=λe=>h (Nat.add_left_cancel e)
theorem n0{n b:Nat}(h:0≠b):n≠n+b:=λe=>h (Nat.add_left_cancel (n:=n) e)
theorem nlt{n a c:Nat}(h:a<n):a≠n+c:=Xq (X8 h (Vb ..))
theorem ZA.new{n a b:Nat}(h1:a<n)(h2:b<n):ZA (n+4) (n+2) (n+3) n (n+1) [n,a] [n+1,b] where
 TIz:=(by first|exact nn (by decide)|exact n0 (by decide)|exact(n0 (by decide)).symm|exact nlt h1|exact nlt h2|exact(nlt h1).symm|exact(nlt h2).symm|exact Xq h1|exact Xq h2|exact XD h1|exact XD h2|omega)
 TOz:=(by first|exact nn (by decide)|exact n0 (by decide)|exact(n0 (by decide)).symm|exact nlt h1|exact nlt h2|exact(nlt h1).symm|exact(nlt h2).symm|exact Xq h1|exact Xq h2|exact XD h1|exact XD h2|omega)
 a1:=λc hc=>by
  simp only[Xi,Bs,or_false]at hc;rcases hc with rfl|rfl
  .exact⟨(by first|exact nn (by decide)|exact n0 (by decide)|exact(n0 (by decide)).symm|exact nlt h1|exact nlt h2|exact(nlt h1).symm|exact(nlt h2).symm|exact Xq h1|exact Xq h2|exact XD h1|exact XD h2|omega),(by first|exact nn (by decide)|exact n0 (by decide)|exact(n0 (by decide)).symm|exact nlt h1|exact nlt h2|exact(nlt h1).symm|exact(nlt h2).symm|exact Xq h1|exact Xq h2|exact XD h1|exact XD h2|omega),(by first|exact nn (by decide)|exact n0 (by decide)|exact(n0 (by decide)).symm|exact nlt h1|exact nlt h2|exact(nlt h1).symm|exact(nlt h2).symm|exact Xq h1|exact Xq h2|exact XD h1|exact XD h2|omega)⟩
  .exact⟨(by first|exact nn (by decide)|exact n0 (by decide)|exact(n0 (by decide)).symm|exact nlt h1|exact nlt h2|exact(nlt h1).symm|exact(nlt h2).symm|exact Xq h1|exact Xq h2|exact XD h1|exact XD h2|omega),(by first|exact nn (by decide)|exact n0 (by decide)|exact(n0 (by decide)).symm|exact nlt h1|exact nlt h2|exact(nlt h1).symm|exact(nlt h2).symm|exact Xq h1|exact Xq h2|exact XD h1|exact XD h2|omega),(by first|exact nn (by decide)|exact n0 (by decide)|exact(n0 (by decide)).symm|exact nlt h1|exact nlt h2|exact(nlt h1).symm|exact(nlt h2).symm|exact Xq h1|exact Xq h2|exact XD h1|exact XD h2|omega)⟩
 a2:=λc hc=>by
  simp only[Xi,Bs,or_false]at hc;rcases hc with rfl|rfl
  .exact⟨(by first|exact nn (by decide)|exact n0 (by decide)|exact(n0 (by decide)).symm|exact nlt h1|exact nlt h2|exact(nlt h1).symm|exact(nlt h2).symm|exact Xq h1|exact Xq h2|exact XD h1|exact XD h2|omega),(by first|exact nn (by decide)|exact n0 (by decide)|exact(n0 (by decide)).symm|exact nlt h1|exact nlt h2|exact(nlt h1).symm|exact(nlt h2).symm|exact Xq h1|exact Xq h2|exact XD h1|exact XD h2|omega),(by first|exact nn (by decide)|exact n0 (by decide)|exact(n0 (by decide)).symm|exact nlt h1|exact nlt h2|exact(nlt h1).symm|exact(nlt h2).symm|exact Xq h1|exact Xq h2|exact XD h1|exact XD h2|omega)⟩
  .exact⟨(by first|exact nn (by decide)|exact n0 (by decide)|exact(n0 (by decide)).symm|exact nlt h1|exact nlt h2|exact(nlt h1).symm|exact(nlt h2).symm|exact Xq h1|exact Xq h2|exact XD h1|exact XD h2|omega),(by first|exact nn (by decide)|exact n0 (by decide)|exact(n0 (by decide)).symm|exact nlt h1|exact nlt h2|exact(nlt h1).symm|exact(nlt h2).symm|exact Xq h1|exact Xq h2|exact XD h1|exact XD h2|omega),(by first|exact nn (by decide)|exact n0 (by decide)|exact(n0 (by decide)).symm|exact nlt h1|exact nlt h2|exact(nlt h1).symm|exact(nlt h2).symm|exact Xq h1|exact Xq h2|exact XD h1|exact XD h2|omega)⟩
theorem ZA.new2(n:Nat):(n+2:Nat)≠n+3/\(n+2:Nat)≠n/\(n+2:Nat)≠n+1:=⟨nn (by decide),(n0 (by decide)).symm,nn (by decide)⟩
section
variable {X:Cx}{io:List Nat}{p c:Bool}{a b:YJ}{mr:MAt}
def Z7k(ds:List Xa):Option (List Xa):=match ds with|[.list as,.list bs]=>YB (Zmj as bs)|[.tuple as,.tuple bs]=>YB (Zmj as bs)|_=>YC
def Zlc(a:FA):FI:=λδ=>(a δ).bind λp=>(Z7k (OT.datas p.1)).bind λds=>YB (ds,p.2)
end
variable {G:Xc}
section
variable {X:Cx}{io:List Nat}{p c:Bool}{a b e:YJ}{mr:MAt}{ra:FA}{i:Nat}
def isFn(y:Str)(d:Xa):Bool:=match d with| .dict [(.str x,.bool YD)]=>decide (x=y)|_=>YF
end
def Yd8(K:Xc)(l:YG):It :=
 ⟨λi H=>∃xs x,SqL K H l xs/\xs[i]? =YB x,
   λi H v H'=>∃p x,H p=YC/\v= .ref p/\H'=upd H p (.tup [.int i,x])/\∀xs,SqL K H l xs->xs[i]? =YB x,
   λi H=>∃xs,SqL K H l xs/\xs.length<=i⟩
def StE(z it l:YG)(i:Nat)(h:YH):Prop:=(∃old,IsEnum h z it (i:Int) old)/\h.IsListIter it l i
theorem Zr5{kk:Nat}{z it:YG}(hne:z≠it):Turn P w K (.Tuple es kk pos) (Yd8 K l) [z,it] z (StE z it l) where
 mem:=.head _
 obj:=λi h st b hb=>by
  obtain⟨⟨old,s1⟩,o4,e4,_,d4⟩:=st;rcases Xi.mp hb with rfl|hb
  .exact⟨_,s1,λv q=>by cases q⟩
  .rcases Xv.mp hb with rfl
   exact⟨_,e4,λv q=>by rw[d4]at q;cases q⟩
 keep:=λi h h' st k=>by
  obtain⟨⟨old,s1⟩,s4⟩:=st;exact⟨⟨old,k z (.head _) _ s1⟩,s4.at λo e=>k it (.tail _ (.head _)) o e⟩
 item:=by
  intro X hP hw hK hc i pins s O H E I hf st hg;subst hP hw hK;obtain⟨⟨old,s1⟩,s4⟩:=st;obtain⟨xs,x,hx,ex⟩:=hg;obtain⟨its,rx,px,hzx⟩:=I.list hx;obtain⟨u,hu,ru⟩:=rx.get ex;refine wpAny_pyNext_enum_item s1 s4 px.isList (by simpa using hu) hne λh' g1 g2 g3 g4 g5=>?_;refine⟨_,rfl,wpAny_letOwnedTupleGo_enum (s:={ s with heap:=h',toks:=s.toks+1 }) g1 λh2 z2 sb=>?_⟩;have hTz:s.heap.objs.size≠z:=XD (Xz s1);have up:∀c o,c≠z->h'.get? c=YB o->h2.get? c=YB o:=λc o n e=>(sb.2 c n).trans e;have kp:∀b o,b∉[z,it]->s.heap.get? b=YB o->h2.get? b=YB o:=λb o n e=>by
   have n1:b≠z:=λq=>n (q▸ .head _);exact up b o n1 (g5 b o n1 (λq=>n (q▸ .tail _ (.head _))) e)
  have t5:=up _ _ hTz g3;have g2':h2.IsListIter it l (i+1):=g2.at λo e=>up _ o (JW hne) e;have I2:Inv X pins O (upd H s.heap.objs.size (.tup [.int i,x])) { s with heap:=h2,toks:=s.toks+1 }:=by
   refine(I.tok (s.toks+1)).turnTup (ch:=[z,it]) (its:=[.int i s.toks,u]) (λb hb=>hf b hb) kp (λb hb=>?_) (XQ _) Zx6 (.cons ⟨_,rfl⟩ (.cons ru .nil)) ⟨_,t5,rfl,0,rfl⟩;rcases Xi.mp hb with rfl|hb
   .exact⟨_,z2⟩
   .rcases Xv.mp hb with rfl
    obtain⟨o4,e4,_⟩:=g2';exact⟨_,e4⟩
  refine⟨.ref s.heap.objs.size,_,I2,rfl,⟨_,x,I.fresh,rfl,rfl,λys hy=>by rw[I.list_inj hy hx];exact ex⟩,⟨⟨_,z2⟩,g2'⟩,λb hb=>?_⟩;have:b≠s.heap.objs.size:=by
   rcases Xi.mp hb with rfl|hb
   .exact Xq (Xz s1)
   .rcases Xv.mp hb with rfl
    obtain⟨o4,e4,_⟩:=s4;exact Xq (Xz e4)
  rw[Zo this];exact(hf b hb).1
 done:=by
  intro X hP hw hK hc i pins s O H E I hf st hg;subst hP hw hK;obtain⟨⟨old,s1⟩,s4⟩:=st;obtain⟨xs,hx,he⟩:=hg;obtain⟨its,rx,px,hzx⟩:=I.list hx;have l1:=rx.length;refine wpAny_pyNext_enum_end (I.ok.hd hc) s1 s4 px.isList (by simp;omega) λh' k=>⟨rfl,I.turnAll (ch:=[it]) (λb hb=>hf b (.tail _ hb)) λb o n e=>k b o (λq=>n (q▸ .head _)) e⟩
 self:=λ_ _ _ _ _ st h=>by
  obtain⟨⟨old,s1⟩,_⟩:=st;exact wpAny_pyIter_enum s1 h
def Yf7(K:Xc)(ta:TA):TI:=λO H R=>ta O H λvs H1=>∃l,vs=[.ref l]/\(∃xs,SqL K H1 l xs)/\R (Yd8 K l) H1
theorem Z0e{a:YJ}{ta:TA}{p pt:Pos}{kk:Nat}(hK:X.K=K)(hg:Gl X "enumerate")(hm:X.mg "enumerate"=YC)(hv:X4 "enumerate"=YB (.type "enumerate"))(ha:PA X [a] ta)
  (he:Xr [a] X.env=(YF,eval a X.env)::Xr [] X.env:=by rfl) (hpl:(JG pos (Xr [] X.env)).any (·.1)=YF:=by rfl) :
  PI X (.Tuple es kk pt) (.Call (.Name "enumerate" p) [a] [] pos) (Yf7 K ta):=by
 subst hK;intro pins s O H R I h;refine BJ (Ze9 I hg hm hv ?_ (by decide) (by decide));refine JV (thn (ha pos pins s O H _ I h) λus s1 q=>?_) he hpl;obtain⟨vs,H1,I1,r1,l,e1,⟨xs,hx⟩,q⟩:=q;subst e1;obtain⟨u,rfl,ru⟩:=vals1 r1;cases(show u=Qj l from ru);obtain⟨its,rx,px,hzx⟩:=I1.list hx;refine call_enumerate_list px.isList λh' g1 g2 g3 g4=>?_;have I2:Inv X pins O H1 { s1 with heap:=h' }:=I1.kept (t':=s1.toks) g4;refine wpAny_pyIter_enum (s:={ s1 with heap:=h' }) g1 ?_;refine⟨_,[_,_],StE _ _ _,_,H1,rfl,I2,Zr5 (XD (QH _)),⟨⟨_,g1⟩,g2⟩,λb hb=>?_,q⟩;have hb':s1.heap.objs.size<=b:=by
  rcases Xi.mp hb with rfl|hb
  .exact Nat.le_succ _
  .rcases Xv.mp hb with rfl
   exact XQ _
 exact I1.fpOk hb' (I1.hok.fresh hb')
def Zj9(as:List Xa):List Xa:=as.zipIdx.map λp=>.tuple [.int p.2,p.1]
theorem Zsz{as:List Xa}{d:Xa}(h:(Zj9 as)[i]? =YB d):∃x,as[i]? =YB x/\d= .tuple [.int i,x]:=by
 unfold Zj9 at h;rw[Xp,List.getElem?_zipIdx]at h;cases e:as[i]? with
 | none=>rw[e]at h;cases h
 | some x=>
  rw[e]at h;cases h;exact⟨x,rfl,by rw[Vk]⟩
theorem Zqc{as:List Xa}(h:(Zj9 as)[i]? =YC):as.length<=i:=by
 have:=Q6.mp h;unfold Zj9 at this;simpa using this
section
variable {X:Cx}{io:List Nat}{p c:Bool}{a:YJ}{mr:MAt}{ra:FA}
def iEn(mr:MAt):MIt:=λδ K=>mr δ λrs δ'=>match OT.datas rs with|[.list as]=>K (Zj9 as) δ'|_=>False
theorem Ztv{p' pt:Pos}{kk:Nat}(hg:Gl X "enumerate")(hm:X.mg "enumerate"=YC)(hv:X4 "enumerate"=YB (.type "enumerate"))(ha:MA X io p c [a] mr)
  (he:Xr [a] X.env=(YF,eval a X.env)::Xr [] X.env:=by rfl) (hpl:(JG pos (Xr [] X.env)).any (·.1)=YF:=by rfl):MI X io p c (.Tuple es kk pt) (.Call (.Name "enumerate" p') [a] [] pos) (iEn mr):=by
 obtain⟨_,A,s⟩:=ha;refine⟨_,Z0e rfl hg hm hv A he hpl,λC H O δ fp ex K' Q R h kk=>s C H O δ fp ex _ _ R h λH1 vs rs δ1 fp1 new r1 h1=>?_⟩;have q:=r1.das R;generalize OT.datas rs=ds at q h1;split at h1
 case h_2=>exact h1.elim
 rename_i as;cases q with
 | cons q1 q2=>
  cases q2;have R1:=r1.base;obtain⟨l1,xs,rfl,k1⟩:=R1.keptList q1;have e1:=k1 H1 λ_ _ e _=>e;refine⟨l1,rfl,⟨_,e1.1⟩,kk _ H1 _ δ1 fp1 R1 r1.stp (λH' kp i=>?_) h1⟩;obtain⟨s1,d1⟩:=k1 H' kp;refine⟨λd hd=>?_,λhd=>?_⟩
  .obtain⟨x,hx,rfl⟩:=Zsz hd
   obtain⟨u,hu,qu⟩:=d1.get hx;refine⟨⟨_,u,s1,hu⟩,λv H'' hyl=>?_⟩;obtain⟨t,u',ht,rfl,rfl,hu'⟩:=hyl;have eu:=hu' _ s1;rw[hu]at eu;cases eu;exact⟨Ye ht _,.tup Zu (.cons (.int _) (.cons (qu.same (Ye ht _)) .nil))⟩
  .exact⟨_,s1,by rw[d1.length];exact Zqc hd⟩
def Ztm(a:FA):FI:=λδ=>(a δ).bind λp=>match OT.datas p.1 with|[.list as]=>YB (Zj9 as,p.2)|_=>YC
theorem Zta(h:MI X io p c tg e (iEn (o2 ra))):MI X io p c tg e (o2 (Ztm ra)):=h.weak λδ K h=>by
 obtain⟨r,δ',h,k⟩:=h;obtain⟨⟨x,δ1⟩,h1,h⟩:=bs h;dsimp only at h;split at h
 .rename_i q
  injection h with h;injection h with e1 e2;subst e1 e2;refine⟨x,_,h1,?_⟩;dsimp only;rw[q];exact k
 .cases h
end
variable {G:Xc}
theorem Z7c{p:Y->Prop}{a b c d:Y}(h1:p a)(h2:p b)(h3:p c)(h4:p d):∀x∈[a,b,c,d],p x:=by
 intro x hx;rcases Xi.mp hx with rfl|hx
 .exact h1
 rcases Xi.mp hx with rfl|hx
 .exact h2
 rcases Xi.mp hx with rfl|hx
 .exact h3
 rcases Xv.mp hx with rfl;exact h4
theorem Ych{p:Y->Prop}{a b c d e:Y}(h1:p a)(h2:p b)(h3:p c)(h4:p d)(h5:p e):∀x∈[a,b,c,d,e],p x:=λx hx=>(Xi.mp hx).elim (λq=>q▸h1) (Z7c h2 h3 h4 h5 x)
theorem no4{a b c d x:Y}(h1:x≠a)(h2:x≠b)(h3:x≠c)(h4:x≠d):x∉[a,b,c,d]:=λhx=>Z7c (p:=λy=>x≠y) h1 h2 h3 h4 x hx rfl
def SqB(K:Xc)(t:Bool)(H:Hp)(a:YG)(xs:List V):Prop:=match t with|true=>H a=YB (.tup xs)|false=>SqL K H a xs
def IsB(t:Bool)(h:YH)(a:YG)(its:Array Xd):Prop:=match t with|true=>IsTup h a its|false=>h.IsList a its
def ItB(t:Bool)(h:YH)(it a:YG)(i:Nat):Prop:=match t with|true=>IsTupIter h it a i|false=>h.IsListIter it a i
theorem ItB.at{t:Bool}{h h':YH}{it a:YG}{i:Nat}(x:ItB t h it a i)(k:∀o,h.get? it=YB o->h'.get? it=YB o):ItB t h' it a i:=by
 cases t with
 | false=>exact Heap.IsListIter.at x k
 | true=>
  obtain⟨o,ho,r⟩:=x;exact⟨o,k o ho,r⟩
theorem ItB.obj{t:Bool}{it:YG}(x:ItB t h it a i):∃o,h.get? it=YB o/\∀v,o.data≠ .cell v:=by
 cases t with
 | false=>
  obtain⟨o,ho,_,d⟩:=x;exact⟨o,ho,λv q=>by rw[d]at q;cases q⟩
 | true=>
  obtain⟨o,ho,_,d⟩:=x;exact⟨o,ho,λv q=>by rw[d]at q;cases q⟩
theorem IsB.lt{t:Bool}{h:YH}{a:YG}{its:Array Xd}(x:IsB t h a its):a<h.objs.size:=by
 cases t with
 | false=>
  obtain⟨o,ho,_⟩:=x;exact Xz ho
 | true=>
  obtain⟨o,ho,_⟩:=x;exact Xz ho
theorem SqB.its{O:St}{t:Bool}(I:Inv X pins O H s)(h:SqB X.K t H a xs):∃its:List Xd,Vals xs its/\IsB t s.heap a its.toArray:=by
 cases t with
 | false=>
  obtain⟨its,r,p,_⟩:=I.list h;exact⟨its,r,p.isList⟩
 | true=>
  obtain⟨_,its,r,p⟩:=(show ObjOk X.prog X.w H s.heap a (.tup xs)from I.hok a _ h);exact⟨its,r,p⟩
theorem SqB.inj{O:St}{t:Bool}(I:Inv X pins O H s)(h:SqB X.K t H a xs)(k:SqB X.K t H a ys):xs=ys:=by
 cases t with
 | false=>exact I.list_inj h k
 | true=>
  have:=(show H a=YB (.tup xs)from h).symm.trans k;cases this;rfl
section
variable {P:X6}{w:Qp}
theorem Zuh{t:Bool}{it:YG}{items:Array Xd}{x:Xd}(hx:items[i]? =YB x):Gives P w it [it,a] (λh=>ItB t h it a i/\IsB t h a items) x (λh=>ItB t h it a (i+1)):=by
 cases t with
 | true=>exact Zt6 hx
 | false=>
  exact⟨.head _,λst hQ=>wpAny_nextOf_list_item st.1 st.2 hx hQ,λh h' k st=>⟨Heap.IsListIter.at st.1 λo e=>k it (.head _) o e,by
   obtain⟨o,ho,r⟩:=st.2;exact⟨o,k a (.tail _ (.head _)) o ho,r⟩⟩,λh h' k st=>Heap.IsListIter.at st λo e=>k it (.head _) o e⟩
theorem Z4r{t:Bool}{it:YG}{items:Array Xd}(hx:items[i]? =YC):Zip P w it [it,a] (λh=>ItB t h it a i/\IsB t h a items):=by
 cases t with
 | true=>exact Zvu hx
 | false=>
  exact⟨.head _,λhh st hE=>wpAny_nextOf_list_end hh st.1 st.2 hx hE,λh h' k st=>⟨Heap.IsListIter.at st.1 λo e=>k it (.head _) o e,by
   obtain⟨o,ho,r⟩:=st.2;exact⟨o,k a (.tail _ (.head _)) o ho,r⟩⟩⟩
end
def Ydo(K:Xc)(t:Bool)(a b:YG):It :=
 ⟨λi H=>∃xs ys x y,SqB K t H a xs/\SqB K t H b ys/\xs[i]? =YB x/\ys[i]? =YB y,
   λi H v H'=>∃p x y,H p=YC/\v= .ref p/\H'=upd H p (.tup [x,y])/\(∀xs,SqB K t H a xs->xs[i]? =YB x)/\∀ys,SqB K t H b ys->ys[i]? =YB y,
   λi H=>∃xs ys,SqB K t H a xs/\SqB K t H b ys/\(xs.length<=i\/ys.length<=i)⟩
def Yeb(t:Bool)(z TI TO i1 i2 a b:YG)(i:Nat)(h:YH):Prop:=IsZip h z TI TO .none/\Vd h TI (.ref i1) (.ref i2)/\(∃x y,Vd h TO x y)/\ItB t h i1 a i/\ItB t h i2 b i
theorem Ztn{kk:Nat}{t:Bool}{z TI TO i1 i2 b:YG}(D:ZA z TI TO i1 i2 [i1,a] [i2,b])(D2:TI≠TO/\TI≠i1/\TI≠i2):Turn P w K (.Tuple es kk pos) (Ydo K t a b) [z,TI,TO,i1,i2] z (Yeb t z TI TO i1 i2 a b) where
 mem:=.head _
 obj:=λi h st=>by
  obtain⟨s1,s2,⟨x,y,s3⟩,s4,s5⟩:=st;exact Ych ⟨_,s1,λv q=>by cases q⟩ ⟨_,s2,λv q=>by cases q⟩ ⟨_,s3,λv q=>by cases q⟩ s4.obj s5.obj
 keep:=λi h h' st k=>by
  obtain⟨s1,s2,⟨x,y,s3⟩,s4,s5⟩:=st;have m2:TI∈[z,TI,TO,i1,i2]:=.tail _ (.head _);have m3:TO∈[z,TI,TO,i1,i2]:=.tail _ (.tail _ (.head _));have m4:i1∈[z,TI,TO,i1,i2]:=.tail _ (.tail _ (.tail _ (.head _)));have m5:i2∈[z,TI,TO,i1,i2]:=.tail _ (.tail _ (.tail _ (.tail _ (.head _))));exact⟨k z (.head _) _ s1,k TI m2 _ s2,⟨x,y,k TO m3 _ s3⟩,s4.at (k i1 m4),s5.at (k i2 m5)⟩
 item:=by
  intro X hP hw hK hc i pins s O H E I hf st hg;subst hP hw hK;obtain⟨s1,s2,⟨x0,y0,s3⟩,s4,s5⟩:=st;obtain⟨xs,ys,x,y,hx,hy,ex,ey⟩:=hg;obtain⟨its,rx,px⟩:=hx.its I;obtain⟨its',ry,py⟩:=hy.its I;obtain⟨u,hu,ru⟩:=rx.get ex;obtain⟨u',hu',ru'⟩:=ry.get ey;rw[<-Uj]at hu hu';refine Zpn D (Zuh hu) (Zuh hu') s1 s2 s3 ⟨s4,px⟩ ⟨s5,py⟩ λh' g1 g2 g3 g4 g5 g6=>?_;refine⟨_,rfl,wpAny_letOwnedTupleGo_zip (s:={ s with heap:=h' }) g1 λh2 z2 sb=>?_⟩;have up:∀c o,c≠z->h'.get? c=YB o->h2.get? c=YB o:=λc o n e=>(sb.2 c n).trans e;have kp:∀c o,c∉[z,TO,i1,i2]->s.heap.get? c=YB o->h2.get? c=YB o:=λc o n e=>up c o (λq=>n (q▸ .head _)) (g6 c o n e);have t5:Vd h2 s.heap.objs.size u u':=up _ _ (XD (Xz s1)) g5;have i1z:=(D.a1 i1 (.head _)).1;have i2z:=(D.a2 i2 (.head _)).1;have n3:=g3.at (up i1 · i1z);have n4:=g4.at (up i2 · i2z);obtain⟨f1,f2,f3,f4,f5⟩:(Zi4 X pins H z/\Zi4 X pins H TI/\Zi4 X pins H TO/\Zi4 X pins H i1/\Zi4 X pins H i2):=⟨hf _ (.head _),hf _ (.tail _ (.head _)),hf _ (.tail _ (.tail _ (.head _))),hf _ (.tail _ (.tail _ (.tail _ (.head _)))),hf _ (.tail _ (.tail _ (.tail _ (.tail _ (.head _)))))⟩;have I2:Inv X pins O (upd H s.heap.objs.size (.tup [x,y])) { s with heap:=h2 } :=
   I.turnTup (ch:=[z,TO,i1,i2]) (its:=[u,u']) (Z7c f1 f3 f4 f5) kp (Z7c ⟨_,z2⟩ ⟨_,up _ _ D.TOz g2⟩ (n3.obj.imp λ_ q=>q.1) (n4.obj.imp λ_ q=>q.1)) (XQ _) Zx6 (.cons ru (.cons ru' .nil)) ⟨_,t5,rfl,0,rfl⟩
  have lt:∀{c:YG} {o:Obj},s.heap.get? c=YB o->Zi4 X pins H c->upd H s.heap.objs.size (.tup [x,y]) c=YC:=λe f=>by rw[Zo (Xq (Xz e))];exact f.1
  refine⟨.ref s.heap.objs.size,_,I2,rfl,⟨_,x,y,I.fresh,rfl,rfl,λzs hz=>by rw[hz.inj I hx];exact ex,λzs hz=>by rw[hz.inj I hy];exact ey⟩,⟨z2,kp TI _ (no4 D.TIz D2.1 D2.2.1 D2.2.2) s2,⟨_,_,up _ _ D.TOz g2⟩,n3,n4⟩,?_⟩;obtain⟨o4,e4,_⟩:=s4.obj;obtain⟨o5,e5,_⟩:=s5.obj;exact Ych (lt s1 f1) (lt s2 f2) (lt s3 f3) (lt e4 f4) (lt e5 f5)
 done:=by
  intro X hP hw hK hc i pins s O H E I hf st hg;subst hP hw hK;obtain⟨s1,s2,⟨x0,y0,s3⟩,s4,s5⟩:=st;obtain⟨xs,ys,hx,hy,he⟩:=hg;obtain⟨its,rx,px⟩:=hx.its I;obtain⟨its',ry,py⟩:=hy.its I;have l1:=rx.length;have l2:=ry.length;refine Zss (I.ok.hd hc) D (S1:=λh=>ItB t h i1 a i/\IsB t h a its.toArray) (T1:=λh=>ItB t h i1 a (i+1)) (S2:=λh=>ItB t h i2 b i/\IsB t h b its'.toArray) ?_ s1 s2 s3 ⟨s4,px⟩ ⟨s5,py⟩ λh' k=>⟨rfl,I.turnAll (ch:=[z,TO,i1,i2]) (Z7c (hf _ (.head _)) (hf _ (.tail _ (.tail _ (.head _)))) (hf _ (.tail _ (.tail _ (.tail _ (.head _))))) (hf _ (.tail _ (.tail _ (.tail _ (.tail _ (.head _))))))) k⟩;cases q:its.toArray[i]? with
  | none=>exact .inl (Z4r q)
  | some v=>
   refine .inr ⟨⟨v,Zuh q⟩,Z4r ?_⟩;have:=(VG.mp q).1;rw[Qa]at this;rw[Array.getElem?_eq_none_iff,Qa];omega
 self:=λ_ _ _ _ _ st h=>wpAny_pyIter_zip st.1 h
theorem Zq6{t:Bool}{b:YG}{xs ys:Array Xd}(h1:IsB t s.heap a xs)(h2:IsB t s.heap b ys)
  (h:∀h' n,n=s.heap.objs.size->IsZip h' (n+4) (n+2) (n+3) .none->Vd h' (n+2) (.ref n) (.ref (n+1))->Vd h' (n+3) .none .none->ItB t h' n a 0->ItB t h' (n+1) b 0 ->
   (∀ c o,s.heap.get? c=YB o->h'.get? c=YB o)->Q (.ref (n+4)) { s with heap:=h' }):Xy (XR P w) A (call (.type "zip") [.ref a,.ref b]) Q E s:=by
 cases t with
 | true=>exact Zr6 h1 h2 h
 | false=>exact call_zip_2 h1 h2 λh' g1 g2 g3 g4 g5 _ g7=>h h' _ rfl g1 g2 g3 g4 g5 g7
def Yca(K:Xc)(ta:TA):TI:=λO H R=>ta O H λvs H1=>∃t a b,vs=[.ref a,.ref b]/\(∃xs,SqB K t H1 a xs)/\(∃ys,SqB K t H1 b ys)/\R (Ydo K t a b) H1
theorem Z1l{a:YJ}{ta:TA}{p pt:Pos}{kk:Nat}(hK:X.K=K)(hg:Gl X "zip")(hm:X.mg "zip"=YC)(hv:X4 "zip"=YB (.type "zip"))(ha:PA X [a,b] ta)
  (he:Xr [a,b] X.env=(YF,eval a X.env)::Xr [b] X.env:=by rfl) (hpl:(JG pos (Xr [b] X.env)).any (·.1)=YF:=by rfl) :
  PI X (.Tuple es kk pt) (.Call (.Name "zip" p) [a,b] [] pos) (Yca K ta):=by
 subst hK;intro pins s O H R I h;refine BJ (Ze9 I hg hm hv ?_ (by decide) (by decide));refine JV (thn (ha pos pins s O H _ I h) λus s1 q=>?_) he hpl;obtain⟨vs,H1,I1,r1,t,l1,l2,e1,⟨xs,hx⟩,⟨ys,hy⟩,q⟩:=q;subst e1;obtain⟨u,u',rfl,ru,ru'⟩:=vals2 r1;cases(show u=Qj l1 from ru);cases(show u'=Qj l2 from ru');obtain⟨its,rx,px⟩:=hx.its I1;obtain⟨its',ry,py⟩:=hy.its I1;refine Zq6 px py λh' n en g1 g2 g3 g4 g5 g7=>?_;have I2:Inv X pins O H1 { s1 with heap:=h' }:=I1.kept (t':=s1.toks) g7;refine wpAny_pyIter_zip (s:={ s1 with heap:=h' }) g1 ?_;refine⟨_,[_,_,_,_,_],Yeb _ _ _ _ _ _ _ _,_,H1,rfl,I2,Ztn (ZA.new (en▸px.lt) (en▸py.lt)) (ZA.new2 n),⟨g1,g2,⟨_,_,g3⟩,g4,g5⟩,?_,q⟩;subst en;have ok:∀k:Nat,Zi4 X pins H1 (s1.heap.objs.size+k):=λk=>I1.fpOk (Vb _ _) (I1.hok.fresh (Vb _ _));exact Ych (ok 4) (ok 2) (ok 3) (ok 0) (ok 1)
section
variable {X:Cx}{io:List Nat}{p c:Bool}{a b:YJ}{mr:MAt}{ra:FA}
def Z9c(t:Bool)(as:List Xa):Xa:=match t with|true=>.tuple as|false=>.list as
theorem Rel.keptSq{C:MC G}{H:Hp}{O:St}{δ:Ze}{fp:Fp}{ex:YG->Prop}{v:V}{t:Bool}{ds:List Xa}(R:Rel C io H O δ fp ex)(q:Da G H (λa=>c=YD->Lf C fp ex a) v (Z9c t ds)) :
  ∃a xs,v= .ref a/\∀H':Hp,(∀b o,H b=YB o->(c=YF\/¬Foot fp b)->H' b=YB o)->SqB G t H' a xs/\Das G H' (λa=>c=YD->(Lf C fp ex a/\H a≠YC)) xs ds:=by
 cases t with
 | false=>exact R.keptList q
 | true=>
  generalize hd:Z9c YD ds=d at q;cases q with
  | tup e r=>
   cases hd;rename_i a0 xs0;refine⟨a0,xs0,rfl,λH' kp=>?_⟩;obtain⟨f1,f2⟩:=R.kept kp;exact⟨f2 _ (.tup _) e,r.frame f1 f2⟩
  | _=>cases hd
theorem Zuy{es:List Xa}(h:Z7k ds=YB es):∃t as bs,ds=[Z9c t as,Z9c t bs]/\es=Zmj as bs:=by
 unfold Z7k at h;split at h
 .cases h;exact⟨YF,_,_,rfl,rfl⟩
 .cases h;exact⟨YD,_,_,rfl,rfl⟩
 .cases h
def iZB(mr:MAt):MIt:=λδ K=>mr δ λrs δ'=>∃es,Z7k (OT.datas rs)=YB es/\K es δ'
theorem Zub{p' pt:Pos}{kk:Nat}(hg:Gl X "zip")(hm:X.mg "zip"=YC)(hv:X4 "zip"=YB (.type "zip"))(ha:MA X io p c [a,b] mr)
  (he:Xr [a,b] X.env=(YF,eval a X.env)::Xr [b] X.env:=by rfl) (hpl:(JG pos (Xr [b] X.env)).any (·.1)=YF:=by rfl):MI X io p c (.Tuple es kk pt) (.Call (.Name "zip" p') [a,b] [] pos) (iZB mr):=by
 obtain⟨_,A,s⟩:=ha;refine⟨_,Z1l rfl hg hm hv A he hpl,λC H O δ fp ex K' Q R h kk=>s C H O δ fp ex _ _ R h λH1 vs rs δ1 fp1 new r1 h1=>?_⟩;have q:=r1.das R;obtain⟨es,hz,h1⟩:=h1;obtain⟨t,as,bs,e,rfl⟩:=Zuy hz;rw[e]at q;cases q with
 | cons q1 q2=>
  cases q2 with
  | cons q2 q3=>
   cases q3;have R1:=r1.base;obtain⟨l1,xs,rfl,k1⟩:=R1.keptSq q1;obtain⟨l2,ys,rfl,k2⟩:=R1.keptSq q2;refine⟨t,l1,l2,rfl,⟨_,(k1 H1 λ_ _ e _=>e).1⟩,⟨_,(k2 H1 λ_ _ e _=>e).1⟩,kk _ H1 _ δ1 fp1 R1 r1.stp (λH' kp i=>?_) h1⟩;obtain⟨s1,d1⟩:=k1 H' kp;obtain⟨s2,d2⟩:=k2 H' kp;refine⟨λd hd=>?_,λhd=>⟨_,_,s1,s2,by rw[d1.length,d2.length];exact Ztz hd⟩⟩;obtain⟨x,y,hx,hy,rfl⟩:=Zwq hd;obtain⟨u,hu,qu⟩:=d1.get hx;obtain⟨w,hw,qw⟩:=d2.get hy;refine⟨⟨_,_,u,w,s1,s2,hu,hw⟩,λv H'' hyl=>?_⟩;obtain⟨t',u',w',ht,rfl,rfl,hu',hw'⟩:=hyl;cases hu.symm.trans (hu' _ s1);cases hw.symm.trans (hw' _ s2);exact⟨Ye ht _,.tup Zu (.cons (qu.same (Ye ht _)) (.cons (qw.same (Ye ht _)) .nil))⟩
theorem Zt7(g:MI X io p c tg e (iZB (o2 ra))):MI X io p c tg e (o2 (Zlc ra)):=g.weak λδ K h=>by
 obtain⟨r,δ',h,k⟩:=h;obtain⟨⟨x,δ1⟩,h1,h⟩:=bs h;obtain⟨ds,h2,h⟩:=bs h;cases h;exact⟨x,_,h1,_,h2,k⟩
end
end L2
namespace L2
open PySem PySem.Spec PyProof.Rows PySem.W
def kEv(lt:Nat->Nat->Bool):KasT Y->Y
 | .ret a=>a
 | .ask i j k=>kEv lt (k (lt i j))
def kGood(n:Nat)(P:Y->Prop):KasT Y->Prop
 | .ret a=>P a
 | .ask i j k=>i<n/\j<n/\∀b,kGood n P (k b)
theorem kGood.bind{n:Nat}{P:Y->Prop}{R:β->Prop}{f:Y->KasT β}(hf:∀a,P a->kGood n R (f a)){t:KasT Y}(h:kGood n P t):kGood n R (t.bind f):=by
 induction t with
 | ret a=>exact hf a h
 | ask i j k ih=>exact⟨h.1,h.2.1,λb=>ih b (h.2.2 b)⟩
theorem kGood.ev{Y:Type}{n:Nat}{P:Y->Prop}{lt:Nat->Nat->Bool}{t:KasT Y}(h:kGood n P t):P (kEv lt t):=by
 induction t with
 | ret a=>exact h
 | ask i j k ih=>exact ih _ (h.2.2 _)
theorem kGood.wp{n:Nat}{P:Y->Prop}{lt:Nat->Nat->Bool}{cmp:Nat->Nat->(Bool->Xe->Prop)->Xe->Prop}{Q:Y->Xe->Prop}(hc:∀i j C,i<n->j<n->C (lt i j) s->cmp i j C s){t:KasT Y}(h:kGood n P t)(q:Q (kEv lt t) s):t.kasWp cmp Q s:=by
 induction t with
 | ret a=>exact q
 | ask i j k ih=>exact hc i j _ h.1 h.2.1 (ih _ (h.2.2 _) q)
def kP(n:Nat)(p:Array Nat):Prop:=p.toList.Perm (Xu n)
theorem kP.at{n:Nat}{p:Array Nat}(h:kP n p)(h0:0<n)(i:Nat):p.getD i 0<n:=by
 by_cases c:i<p.size
 .have e:p.getD i 0=p[i]:=by simp[Array.getD,c]
  rw[e];exact Qd.mp (h.mem_iff.mp (Array.getElem_mem_toList c))
 .have e:p.getD i 0=0:=by simp[Array.getD,c]
  rw[e];exact h0
theorem kP.rev{n:Nat}{p:Array Nat}(h:kP n p)(i j:Nat):kP n (kas_rev p i j):=(Array.perm_iff_toList_perm.mp (mirror_perm p i j _)).trans h
theorem kP.bub{n:Nat}{p:Array Nat}(h:kP n p)(i j:Nat):kP n (bubble p i j):=(Array.perm_iff_toList_perm.mp (bubble_perm p i j)).trans h
theorem Znr{n:Nat}{p:Array Nat}(h:kP n p)(h0:0<n)(f m:Nat):kGood n (λ_=>True) (kas_asc p f m):=by
 induction f generalizing m with
 | zero=>exact trivial
 | succ f ih=>
  refine⟨h.at h0 _,h.at h0 _,λb=>?_⟩;cases b
  .exact ih _
  .exact trivial
theorem Zrc{n:Nat}(h0:0<n)(f:Nat){p:Array Nat}(h:kP n p)(m q:Nat):kGood n (λr:Array Nat×Nat×Nat=>kP n r.1) (kas_desc f p m q):=by
 induction f generalizing p m q with
 | zero=>exact h
 | succ f ih=>
  refine⟨h.at h0 _,h.at h0 _,λb=>?_⟩;cases b
  .refine⟨h.at h0 _,h.at h0 _,λb=>?_⟩
   cases b
   .exact ih h _ _
   .exact h
  .show kGood n _ (if q>0 then _ else _)
   split
   .exact ih (h.rev _ _) _ _
   .exact ih h _ _
theorem Zlq{n:Nat}{p:Array Nat}(h:kP n p)(h0:0<n)(m r:Nat):kGood n (λr:Nat×Array Nat=>kP n r.2) (kas_tail3 m r p):=by
 refine kGood.bind (P:=λ_=>True) (λa _=>?_) (Znr (h.rev _ _) h0 _ _);exact h.rev _ _
theorem Zew{n:Nat}{p:Array Nat}(h:kP n p)(h0:0<n)(m r:Nat):kGood n (λr:Nat×Array Nat=>kP n r.2) (kas_descPart m r p) :=
 (Zrc h0 _ h _ _).bind λx hx=>by
  show kGood n _ (if x.2.2>0 then _ else _);split
  .exact Zlq (hx.rev _ _) h0 _ _
  .exact Zlq hx h0 _ _
theorem Zqf{n:Nat}{p:Array Nat}(h:kP n p)(h0:0<n)(r:Nat):kGood n (λr:Nat×Array Nat=>kP n r.2) (kas_count r p) :=
 (Znr h h0 _ _).bind λm _=>by
  show kGood n _ (if(m==r)=YD then _ else if m>1 then _ else _);split
  .exact h
  .split
   .refine⟨h.at h0 _,h.at h0 _,λb=>?_⟩
    cases b
    .exact Zew (h.rev _ _) h0 _ _
    .exact h
   .exact Zew h h0 _ _
theorem Zqh{n:Nat}{p:Array Nat}(h:kP n p)(h0:0<n)(k f l r:Nat):kGood n (λ_=>True) (kas_place p k f l r):=by
 induction f generalizing l r with
 | zero=>exact trivial
 | succ f ih=>
  show kGood n _ (if l>=r then _ else _);split
  .exact trivial
  .refine⟨h.at h0 _,h.at h0 _,λb=>?_⟩
   cases b
   .exact ih _ _
   .exact ih _ _
theorem Zuv{n:Nat}(h0:0<n)(f:Nat){p:Array Nat}(h:kP n p)(k:Nat):kGood n (kP n) (kas_bin f p k):=by
 induction f generalizing p k with
 | zero=>exact h
 | succ f ih=>exact(Zqh h h0 _ _ _ _).bind λl _=>ih (h.bub _ _) _
theorem Zhb{n:Nat}(h0:0<n):kGood n (kP n) (kas_sort n) :=
 (Zqf (p:=VL (Xu n)) (.refl _) h0 n).bind λr hr=>by
  show kGood n _ (if r.1<n then _ else _);split
  .exact Zuv h0 _ hr _
  .exact hr
def Zum(lt:Nat->Nat->Bool)(n:Nat):List Nat:=(kEv lt (kas_sort n)).toList
theorem Zc1{lt:Nat->Nat->Bool}{n:Nat}(h0:0<n):(Zum lt n).Perm (Xu n):=(Zhb h0).ev (P:=kP n)
end L2
namespace L2
open PySem PySem.Spec PyProof.Rows PySem.W PySem.SeqAt
open PySem.AutoSeq1 (wpAny_loadPart')
open MeetsSeq MeetsSeq2 MeetsSeq3 SeqRoads2
def ltI:List Int->List Int->Bool
 | [],[]=>YF
 | [],_::_=>YD
 | _::_,[]=>YF
 | x::xs,y::ys=>if x=y then ltI xs ys else decide (x<y)
theorem Zn2{vs:List Xd}(h:Bw vs ns)(i:Nat)(hi:i<vs.length):∃x t,vs[i]? =YB (.int x t)/\ns.drop i=x::ns.drop (i+1):=by
 induction h generalizing i with
 | nil=>exact YX hi (Vj i)
 | cons n t h ih=>
  cases i with
  | zero=>exact⟨n,t,rfl,rfl⟩
  | succ i=>exact ih i (Nat.lt_of_succ_lt_succ hi)
theorem Zg0{vs:List Xd}(h:Bw vs ns):vs.length=ns.length:=by
 induction h with
 | nil=>rfl
 | cons n t h ih=>exact YT Nat.succ ih
theorem Zl6{xs ys:List Int}(h:xs=[]\/ys=[]):ltI xs ys=decide (xs.length<ys.length):=by
 cases xs<;>cases ys<;>first|rfl|(rcases h with h|h<;>cases h)|exact(YQ (Nat.succ_pos _)).symm
theorem Ztx(l b:YG)(items items2:Array Xd)(n n2:Nat)(dd dd2:Option YG)(sl sl2:Array (Option Xd)){xs ys:List Int}(h1:Bw items.toList xs)(h2:Bw items2.toList ys)(k:Nat) :
  ∀i:Nat,items.size-i=k->i<=items.size->i<=items2.size->Meets (Ve.«list.__eq__.loop» ⟨[.ref l,.ref b,JD i,JD 0],[]⟩)
   (λA R s=>s.heap.get? l=YB { cls:=.type "list",dict:=dd,data:=.seq items n,slots:=sl }/\s.heap.get? b=YB { cls:=.type "list",dict:=dd2,data:=.seq items2 n2,slots:=sl2 }/\
    R (.ok (.ret (.bool (ltI (xs.drop i) (ys.drop i))))) s):=by
 have e1:items.size=xs.length:=Zg0 h1;have e2:items2.size=ys.length:=Zg0 h2;have fin:∀i,i<=items.size->i<=items2.size->(i=items.size\/i=items2.size)->ltI (xs.drop i) (ys.drop i)=decide (items.size<items2.size):=λi u1 u2 c=>by
  rw[Zl6 (c.imp (λc=>Uc (by omega)) λc=>Uc (by omega)),BZ,BZ];exact decide_eq_decide.mpr (by omega)
 induction k with
 | zero=>
  intro i hk u1 u2 prog w A R s h;obtain⟨hp,g,d,tk,os⟩:=s;obtain⟨hl,hb,h⟩:=h
  wp_walk using Q3 hl,Q3 hb
  have hi1:items[((i:Nat):Int).toNat]? =YC:=by simp;omega
  rw[fin i u1 u2 (.inl (by omega))]at h;rw[hi1]
  wp_walk using Q3 hl,Q3 hb
  exact h
 | succ k ih=>
  intro i hk u1 u2 prog w A R s h;obtain⟨hp,g,d,tk,os⟩:=s;obtain⟨hl,hb,h⟩:=h;have hlt:i<items.size:=by omega
  obtain⟨x,t,q1,q2⟩:=Zn2 h1 i hlt;have hi1:items[((i:Nat):Int).toNat]? =YB (.int x t):=by rw[XX,<-q1,Qv]
  wp_walk using Q3 hl,Q3 hb
  by_cases c:i<items2.size
  .obtain⟨y,u,q3,q4⟩:=Zn2 h2 i c
   have hi2:items2[((i:Nat):Int).toNat]? =YB (.int y u):=by rw[XX,<-q3,Qv]
   have hc:((i:Int)+1)=((i+1:Nat):Int):=by push_cast;rfl
   rw[q2,q4]at h;unfold ltI at h;rw[hi1,hi2];refine Xb (EqAt.int_int x t y u prog w _ _ ?_)
   by_cases cx:x=y
   .rw[YL cx]at h
    rw[YZ.mpr cx]
    wp_walk
    rw[hc];exact⟨V9 plain_eq_loop _,BV entry_eq_loop (by
     rw[Bx plain_eq_loop _];exact ih (i+1) (by omega) (by omega) (by omega) prog w A R _ ⟨hl,hb,h⟩)⟩
   .rw[YM cx]at h
    rw[beq_eq_false_iff_ne.mpr cx]
    wp_walk using Q3 hl,Q3 hb
    rw[hi1,hi2];refine Xb (lt_int ?_)
    wp_walk
    exact h
  .have hi2:items2[((i:Nat):Int).toNat]? =YC:=by simp;omega
   rw[fin i u1 u2 (.inr (by omega))]at h;rw[hi1,hi2]
   wp_walk using Q3 hl,Q3 hb
   exact h
theorem Zs8(l b:YG)(items items2:Array Xd)(n n2:Nat)(dd dd2:Option YG)(sl sl2:Array (Option Xd)){xs ys:List Int}(h1:Bw items.toList xs)(h2:Bw items2.toList ys) :
  Meets (Ve.«list.__lt__» ⟨[.ref l,.ref b],[]⟩)
   (λA R s=>s.heap.get? l=YB { cls:=.type "list",dict:=dd,data:=.seq items n,slots:=sl }/\s.heap.get? b=YB { cls:=.type "list",dict:=dd2,data:=.seq items2 n2,slots:=sl2 }/\
    R (.ok (.ret (.bool (ltI xs ys)))) s):=by
 intro prog w A R s h;obtain⟨hp,g,d,tk,os⟩:=s;obtain⟨hl,hb,h⟩:=h;have f3:=AutoSeq1.sub_list_list
 wp_walk using Q3 hl,Q3 hb
 exact⟨V9 plain_eq_loop _,BV entry_eq_loop (by
  rw[Bx plain_eq_loop _];exact Ztx l b items items2 n n2 dd dd2 sl sl2 h1 h2 _ 0 rfl (QG _) (QG _) prog w A R _ ⟨hl,hb,h⟩)⟩
theorem Zpk{b:YG}{items items2:Array Xd}{xs ys:List Int}{Q:Bool->Xe->Prop}(hu:A.units<cLine)(hl:s.heap.IsList l items)(hb:s.heap.IsList b items2)(h1:Bw items.toList xs)(h2:Bw items2.toList ys)(h:Q (ltI xs ys) s) :
  Xy (XR prog w) A (oneLt' YD (.ref l) (.ref b)) Q E s:=by
 obtain⟨⟨cls,dd,data,sl⟩,hl,hc,n,hd⟩:=hl;obtain⟨⟨cls2,dd2,data2,sl2⟩,hb,hc2,n2,hd2⟩:=hb;simp only at hc hd hc2 hd2;subst hc hd hc2 hd2;rw[oneLt'_eq];simp only[if_true];refine Xb (wpAny_cRoomFor hu ?_);refine Xb (wpAny_callSpecialIfBound?_slot ⟨_,hl,rfl⟩ F.slot_list_lt (call_meets F.slot_list_lt ⟨_,hl,rfl⟩ F.entry_list_lt (F.args_list_lt_2 _ _) (Zs8 l b items items2 n n2 dd dd2 sl sl2 h1 h2) ⟨hl,hb,?_⟩));exact Vo h
theorem Z48{a b:Int}{t u:Tok}(h:Q (.bool (decide (a<b))) s):Xy (XR prog w) A (richCompare .Lt (.int a t) (.int b u)) Q E s:=lt_int h
theorem Zph(l b:YG)(items items2:Array Xd)(n n2:Nat)(dd dd2:Option YG)(sl sl2:Array (Option Xd)){xs ys:List Int}(h1:Bw items.toList xs)(h2:Bw items2.toList ys) :
  Meets (Ve.«tuple.__lt__» ⟨[.ref l,.ref b],[]⟩)
   (λA R s=>s.heap.get? l=YB { cls:=.type "tuple",dict:=dd,data:=.seq items n,slots:=sl }/\s.heap.get? b=YB { cls:=.type "tuple",dict:=dd2,data:=.seq items2 n2,slots:=sl2 }/\
    R (.ok (.ret (.bool (ltI xs ys)))) s) :=
 .of_wp λprog w A R s h=>by
  obtain⟨hp,g,d,tk,os⟩:=s;obtain⟨hl,hb,h⟩:=h;have f2:=AutoSeq1.sub_tuple_tuple;have e1:items.toList.length=xs.length:=Zg0 h1;have e2:items2.toList.length=ys.length:=Zg0 h2
  wp_walk using Q3 hl,Q3 hb,wpAny_forIn_list _ (λrest b s'=>b.1=YC/\s'=⟨hp,g,d,tk,os⟩/\∃i,rest=(items.toList.zip items2.toList).drop i/\i<=items.toList.length/\i<=items2.toList.length/\
   R (.ok (.ret (.bool (ltI (xs.drop i) (ys.drop i))))) ⟨hp,g,d,tk,os⟩) _
  case turn=>
   rintro⟨v,u⟩ rest b s' ⟨hb',rfl,i,hz,u1,u2,hR⟩;have hlt:i<(items.toList.zip items2.toList).length:=by
    rcases QT i (items.toList.zip items2.toList).length with h'|h'
    .exact h'
    .rw[List.drop_of_length_le h']at hz;cases hz
   have hm:=hlt;rw[List.length_zip]at hm;obtain⟨x,t,q1,q2⟩:=Zn2 h1 i (by omega);obtain⟨y,r,q3,q4⟩:=Zn2 h2 i (by omega);rw[Vh hlt]at hz;injection hz with hyx hrest;have hz0:(items.toList.zip items2.toList)[i]? =YB (.int x t,.int y r):=by rw[List.getElem?_zip_eq_some];exact⟨q1,q3⟩
   rw[Xm hlt]at hz0;injection hz0 with hz0;rw[hz0]at hyx;cases hyx;rw[q2,q4]at hR;unfold ltI at hR;refine Xb (EqAt.int_int x t y r prog w _ _ ?_)
   by_cases cx:x=y
   .rw[YL cx]at hR
    rw[YZ.mpr cx]
    wp_walk
    exact⟨rfl,rfl,i+1,hrest,by omega,by omega,hR⟩
   .rw[YM cx]at hR
    rw[beq_eq_false_iff_ne.mpr cx]
    wp_walk using Z48
    exact⟨_,rfl,hR⟩
  case fin=>
   rintro⟨b1,b2⟩ s' ⟨hb',rfl,i,hz,u1,u2,hR⟩;simp only at hb';subst hb';have hge:min items.toList.length items2.toList.length<=i:=by
    rcases QT i (items.toList.zip items2.toList).length with h'|h'
    .rw[Vh h']at hz;cases hz
    .rw[List.length_zip]at h';exact h'
   have hv:ltI (xs.drop i) (ys.drop i)=decide (items.size<items2.size):=by
    rw[Zl6 ((show i=items.toList.length\/i=items2.toList.length by omega).imp (λc=>Uc (by omega)) λc=>Uc (by omega)),BZ,BZ];rw[X5]at e1 e2 u1 u2;exact decide_eq_decide.mpr (by omega)
   rw[hv]at hR
   wp_walk
   exact⟨_,rfl,hR⟩
  case h=>
   exact⟨rfl,rfl,0,rfl,QG _,QG _,h⟩
theorem Zrp{b:YG}{items items2:Array Xd}{xs ys:List Int}{Q:Bool->Xe->Prop}(hu:A.units<cLine)(hl:s.heap.IsTuple l items)(hb:s.heap.IsTuple b items2)(h1:Bw items.toList xs)(h2:Bw items2.toList ys)(h:Q (ltI xs ys) s) :
  Xy (XR prog w) A (oneLt' YF (.ref l) (.ref b)) Q E s:=by
 obtain⟨⟨cls,dd,data,sl⟩,hl,hc,n,hd⟩:=hl;obtain⟨⟨cls2,dd2,data2,sl2⟩,hb,hc2,n2,hd2⟩:=hb;simp only at hc hd hc2 hd2;subst hc hd hc2 hd2;exact kat_one _ _ (richCompare_meets_room (op:=.Lt) ⟨_,hl,rfl⟩ ⟨_,hb,rfl⟩ F.slot_tuple_lt F.entry_tuple_lt (F.args_tuple_lt_2 _ _) (Zph l b items items2 n n2 dd dd2 sl sl2 h1 h2)
  ⟨hl,hb,show Value.bool (ltI xs ys)≠Xd.notImplemented/\_ from⟨(λx=>nomatch x),h⟩⟩ hu)
end L2
namespace L2
open PySem PySem.Spec PyProof.Rows PySem.W
def sLay(d:Y)(lt:Nat->Nat->Bool)(vs:List Y):List Y:=if vs.length<2 then vs else(Zum lt vs.length).map λi=>vs.getD i d
theorem Zpa(d:Y)(vs:List Y):((Xu vs.length).map λi=>vs.getD i d)=vs:=by
 refine Ub λi=>?_;rw[Xp]
 by_cases c:i<vs.length
 .rw[Qy c,Xm c]
  show YB (vs.getD i d)=_;rw[Xj,Xm c];rfl
 .rw[QB (by rw[Xk];omega),QB (by omega)];rfl
theorem Zek(d:Y)(lt:Nat->Nat->Bool)(vs:List Y):(sLay d lt vs).Perm vs:=by
 unfold sLay;split
 .exact .refl _
 .have:=(Zc1 (lt:=lt) (n:=vs.length) (by omega)).map λi=>vs.getD i d
  rwa[Zpa]at this
theorem Zob(f:Y->β)(d:Y)(lt:Nat->Nat->Bool)(vs:List Y):sLay (f d) lt (vs.map f)=(sLay d lt vs).map f:=by
 unfold sLay;rw[Xg];split
 .rfl
 .rw[Qu]
  refine XH λi _=>?_;show(vs.map f).getD i (f d)=f (vs.getD i d);rw[Xj,Xj,Xp];cases vs[i]? <;>rfl
theorem Zr7{lt:Nat->Nat->Bool}(h:Vals xs us):Vals (sLay .non lt xs) (sLay .none lt us):=by
 unfold sLay;rw[h.length];split
 .exact h
 .generalize Zum lt _=l
  induction l with
  | nil=>exact .nil
  | cons i l ih=>
   refine .cons ?_ ih;show RelV (xs.getD i V.non) (us.getD i QD);rw[Xj,Xj];cases e:xs[i]? with
   | some x=>
    obtain⟨u,e',r⟩:=h.get e;rw[e'];exact r
   | none=>
    have:us[i]? =YC:=QB (by rw[<-h.length];exact Q6.mp e);rw[this];exact rfl
theorem Zqb{κ:SortKind}{lt:Nat->Nat->Bool}{h0:YH}{vs:List Xd}{n:Nat}{P:PySem.Fin->Xe->Prop}(ho:s.heap.get? a=YB (BR "list" vs.toArray n))
  (k0:∀b o,h0.get? b=YB o->s.heap.get? b=YB o) (ha0:h0.get? a=YC) (h64:vs.length<64)
  (hk:2<=vs.length->∀s':Xe,(∀b o,h0.get? b=YB o->s'.heap.get? b=YB o)->∀Q:SortKind->Xe->Prop,Q κ s'->Xy (XR prog w) A (keyKind' vs.toArray) Q E s')
  (hc:2<=vs.length->∀s':Xe,(∀b o,h0.get? b=YB o->s'.heap.get? b=YB o)->∀i j C,i<vs.length->j<vs.length->C (lt i j) s'->kas_ask prog w A κ vs i j C s')
  (h:P (.done (.ret .none)) { s with heap:=sortedHeap s.heap a vs (VL (sLay QD lt vs)) }):Xy (XR prog w) A (Ve.«list.sort» ⟨[.ref a],[]⟩) P E s:=by
 have ha:a<s.heap.objs.size:=Xz ho;obtain⟨e1,ho1⟩:∃e1,(s.heap.update a (Bk λ_=>(#[]:Array Xd))).get? a=YB (BR "list" #[] e1):=⟨_,get?_update_seq ho λ_=>#[]⟩;have ho6:(((s.heap.update a (Bk λ_=>(#[]:Array Xd))).push (BR "tuple" vs.toArray 0)).push (BR "list" #[] 0)).get? a=YB (BR "list" #[] e1):=Xf _ (Xf _ ho1);have k6:∀b o,h0.get? b=YB o->(((s.heap.update a (Bk λ_=>(#[]:Array Xd))).push (BR "tuple" vs.toArray 0)).push (BR "list" #[] 0)).get? b=YB o:=λb o e=>by
  refine Xf _ (Xf _ ?_);rw[Heap.get?_update_ne _ _ _ _ (λq=>by rw[q,ha0]at e;cases e)];exact k0 b o e
 rw[list_sort_plain];refine Xb (listItems_at ho rfl ?_);refine Xb (listUpdate_at ho rfl ?_ (by rw[Qa,X7];omega) (QG _));refine Xb (seqEpoch_at ho1 rfl ?_);refine Xb (wpAny_newTuple ?_ (by show vs.length<=_;rw[X7];omega));refine Xb (wpAny_newList ?_ (QG _));refine BK ?_;show Xy (XR prog w) A _ P E { s with heap:=((s.heap.update a (Bk λ_=>(#[]:Array Xd))).push (BR "tuple" vs.toArray 0)).push (BR "list" #[] 0) };dsimp only;have hs:vs.toArray.size=vs.length:=Qa ..
 by_cases h2:vs.toArray.size<2
 .have el:sLay QD lt vs=vs:=YL (hs▸h2)
  rw[el]at h;rw[YL h2,YL h2];refine Xb (Xo ?_);rw[StateT.run_pure];refine Xb (Xo ?_);dsimp only;refine Xb (seqEpoch_at ho6 rfl ?_);have ez:((vs.toArray.zip vs.toArray).map (·.2))=vs.toArray:=by
   apply Array.toList_inj.mp;rw[Array.toList_map,Array.toList_zip,List.map_snd_zip (XQ _)]
  show Xy _ _ (Builtin.List.listUpdate _ (λ_=>(vs.toArray.zip vs.toArray).map (·.2))>>=_) _ _ _;rw[ez];refine Xb (listUpdate_at ho6 rfl ?_ (QG _) (by rw[hs,X7];omega));simp only[bne_self_eq_false,Qg,if_false];exact Xo h
 .rw[YM h2,YM h2]
  have h2':2<=vs.length:=by omega
  have el:sLay QD lt vs=(Zum lt vs.length).map λi=>vs.getD i QD:=YM (by omega);rw[el]at h;refine Xb (hk h2' _ k6 _ ?_);have est:SortSt.mk' κ (vs.toArray.zip vs.toArray) #[] 7 YC=kas_st κ (pairsOf vs) (VL (Xu vs.length)):=by
   have e:=kas_range (pairsOf vs);rw[pairsOf_size]at e;show SortSt.mk' κ (pairsOf vs) #[] 7 YC=SortSt.mk' κ ((VL (Xu vs.length)).map (kas_item (pairsOf vs))) #[] 7 YC;rw[e]
  have run:=kas_runs (prog:=prog) (w:=w) (A:=A) (κ:=κ) (it:=pairsOf vs) (E:=E) (s:={ s with heap:=((s.heap.update a (Bk λ_=>(#[]:Array Xd))).push (BR "tuple" vs.toArray 0)).push (BR "list" #[] 0) })
   (Q:=λ_ st' s'=>arrOf st'=(kEv lt (kas_sort vs.length)).map (kas_item (pairsOf vs))/\failedOf st'=YC/\s'={ s with heap:=((s.heap.update a (Bk λ_=>(#[]:Array Xd))).push (BR "tuple" vs.toArray 0)).push (BR "list" #[] 0) })
   (G:=λp s'=>p=kEv lt (kas_sort vs.length)/\s'={ s with heap:=((s.heap.update a (Bk λ_=>(#[]:Array Xd))).push (BR "tuple" vs.toArray 0)).push (BR "list" #[] 0) })
   h2' h64 (λp' st' s' _ a2 a3 a4=>⟨a4.1▸a2,a3,a4.2⟩) (by
    rw[<-kas_ask_eq];exact(Zhb (n:=vs.length) (by omega)).wp (hc h2' _ k6) ⟨rfl,rfl⟩)
  rw[<-est]at run;refine Xb (Qw run ?_ λ_ _ e=>e);intro r s' z;obtain⟨har,hf,rfl⟩:=z;have hout:(arrOf r.2).map (·.2)=VL ((Zum lt vs.length).map λi=>vs.getD i QD):=by
   apply Array.toList_inj.mp;rw[har,Array.map_map,Array.toList_map];exact XH λi _=>by show(kas_item (pairsOf vs) i).2=_;rw[kas_item_eq]
  rw[hout];refine Xb (seqEpoch_at ho6 rfl ?_);refine Xb (listUpdate_at ho6 rfl ?_ (QG _) (by rw[Qa,Xg,(Zc1 (by omega)).length_eq,Xk,X7];omega));rw[hf];simp only[bne_self_eq_false,Qg,if_false];exact Xo h
theorem Z1o{κ:SortKind}{lt:Nat->Nat->Bool}{vs:List Xd}(hl:s.heap.IsList l vs.toArray)(h64:vs.length<64)
  (hk:2<=vs.length->∀s':Xe,(∀b o,s.heap.get? b=YB o->s'.heap.get? b=YB o)->∀Q:SortKind->Xe->Prop,Q κ s'->Xy (XR prog w) A.in1.in1 (keyKind' vs.toArray) Q E s')
  (hc:2<=vs.length->∀s':Xe,(∀b o,s.heap.get? b=YB o->s'.heap.get? b=YB o)->∀i j C,i<vs.length->j<vs.length->C (lt i j) s'->kas_ask prog w A.in1.in1 κ vs i j C s')
  (h:Q (.ref (s.heap.objs.size+1)) { s with heap:=sortedAll s.heap vs (VL (sLay QD lt vs)) }):Xy (XR prog w) A (call (.builtin "sorted") [.ref l]) Q E s:=by
 refine Calls.call_function_entry kind_sorted plain_sorted entry_sorted (args_sorted1 _) ?_;unfold Ve.«sorted»;refine Xb (m:=checkCount "sorted" 1 1 _) (Xo ?_);refine Xb (collect_list hl ?_ (by rw[X7];omega));refine Xb (wpAny_newList ?_ (by rw[X7];omega));have hsz:((s.heap.push (BR "list" #[] 0)).update s.heap.objs.size (Bk (·++vs.toArray))).objs.size=s.heap.objs.size+1:=by
  rw[Heap.size_update,size_push']
 have hoL:(((s.heap.push (BR "list" #[] 0)).update s.heap.objs.size (Bk (·++vs.toArray))).push (BR "list" vs.toArray 0)).get? (s.heap.objs.size+1)=YB (BR "list" vs.toArray 0):=by
  rw[<-hsz];exact Xx _ rfl
 have keep:∀b o,s.heap.get? b=YB o->(((s.heap.push (BR "list" #[] 0)).update s.heap.objs.size (Bk (·++vs.toArray))).push (BR "list" vs.toArray 0)).get? b=YB o:=λb o q=>by
  have hlt:b<s.heap.objs.size:=Xz q;rw[Heap.get?_push_ne _ _ _ (by rw[hsz];exact Xq (Bl hlt)),Heap.get?_update_ne _ _ _ _ (Xq hlt),Heap.get?_push_ne _ _ _ (Xq hlt)];exact q
 show Xy _ _ _ _ _ { s with heap:=((s.heap.push (BR "list" #[] 0)).update s.heap.objs.size (Bk (·++vs.toArray))).push (BR "list" vs.toArray 0) };rw[hsz];refine Xb (BK (JF slot_list_sort ⟨_,hoL,rfl⟩ entry_list_sort (Zqb (h0:=s.heap) hoL keep (Heap.get?_none_of_le (Nat.le_succ _)) h64 hk hc ⟨_,rfl,?_⟩) (args_list_sort _)));exact Xo ⟨_,rfl,h⟩
end L2
namespace L2
open PySem PySem.Spec PyProof.Rows PySem.W
structure Yai{Y:Type}(kd:Xa->Option Y)(lt:Y->Y->Bool):Prop where
 lay:∀d k,kd d=YB k->d.canLay0=YD
 run:∃κ:SortKind,(∀(prog:X6) (w:Qp) (A:Qk) (E:Xd->Xe->Prop) (s:Xe) (vs:List Xd) (ds:List Xa) (as:List YG) (Q:SortKind->Xe->Prop),2<=vs.length->ReadsAll s.heap vs ds as->(∀d∈ds,∃k,kd d=YB k)->Q κ s->Xy (XR prog w) A (keyKind' vs.toArray) Q E s)/\
  ∀(prog:X6) (w:Qp) (A:Qk) (E:Xd->Xe->Prop) (s:Xe) (u v:Xd) (d e:Xa) (as bs:List YG) (k m:Y) (C:Bool->Xe->Prop),A.units+32<cLine->Reads s.heap u d as->Reads s.heap v e bs->kd d=YB k->kd e=YB m->C (lt k m) s->Xy (XR prog w) A (keyLt' κ u v) C E s
theorem readsAll_ints(ns:List Int){vs:List Xd}(r:ReadsAll h vs (ns.map Xl) as):Bw vs ns:=by
 induction ns generalizing vs as with
 | nil=>cases r;exact .nil
 | cons n ns ih=>
  cases r with
  | cons r q=>
   cases r;exact .cons _ _ (ih q)
theorem Zdm(r:Reads h u (.list (ns.map Xl)) as):∃a items,u= .ref a/\h.IsList a items/\Bw items.toList ns:=by
 cases r with
 | list e c d q=>exact⟨_,_,rfl,⟨_,e,c,_,d⟩,readsAll_ints ns q⟩
theorem Zfh(r:Reads h u (.tuple (ns.map Xl)) as):∃a items,u= .ref a/\h.IsTuple a items/\Bw items.toList ns:=by
 cases r with
 | tuple e c d q=>exact⟨_,_,rfl,⟨_,e,c,_,d⟩,readsAll_ints ns q⟩
theorem readsAll_get{vs:List Xd}(r:ReadsAll h vs ds as):vs.length=ds.length/\∀(i:Nat) d,ds[i]? =YB d->∃v bs,vs[i]? =YB v/\Reads h v d bs:=by
 induction ds generalizing vs as with
 | nil=>cases r;exact⟨rfl,λi d e=>by rw[List.getElem?_nil]at e;cases e⟩
 | cons d ds ih=>
  cases r with
  | cons r q=>
   obtain⟨z1,z2⟩:=ih q;refine⟨YT Nat.succ z1,λi e he=>?_⟩;cases i with
   | zero=>cases he;exact⟨_,_,rfl,r⟩
   | succ i=>exact z2 i e he
theorem lay_ints(ns:List Int):Sh 1 (.list (ns.map Xl)):=Zkr λd m=>by
 obtain⟨x,_,rfl⟩:=Qe.mp m;exact Zt1 x
theorem Zdi(ns:List Int):Sh 1 (.tuple (ns.map Xl)):=Zou λd m=>by
 obtain⟨x,_,rfl⟩:=Qe.mp m;exact Zt1 x
theorem Zp7{items:Array Xd}(e:h.IsList a items):Looks M h (typeOf (.ref a)) (.type "list"):=by
 obtain⟨o,e,c,_⟩:=e;have:Looks M h (typeOf (.ref a)) o.cls:=(Looks.ld e).andThen .now
 rwa[c]at this
def kdT:Xa->Option (List Int×List Int):=λd=>match d with| .tuple [.list es,.tuple fs]=>(Zf0 es).bind λns=>(Zf0 fs).bind λms=>YB (ns,ms)|_=>YC
def ltT:List Int×List Int->List Int×List Int->Bool:=λa b=>if a.1=b.1 then(if a.2=b.2 then YF else ltI a.2 b.2)else ltI a.1 b.1
theorem Zg3{d:Xa}{k:List Int×List Int}(h:kdT d=YB k):d= .tuple [.list (k.1.map Xl),.tuple (k.2.map Xl)]:=by
 unfold kdT at h;split at h
 case h_2=>cases h
 obtain⟨ns,h1,h⟩:=bs h;obtain⟨ms,h2,h⟩:=bs h;cases h;rw[Zgv h1,Zgv h2]
theorem Zna{k:List Int×List Int}(r:Reads h u (.tuple [.list (k.1.map Xl),.tuple (k.2.map Xl)]) as):∃t o n a b,u= .ref t/\h.get? t=YB o/\o.cls= .type "tuple"/\o.data= .seq #[.ref a,.ref b] n/\(∃bs,Reads h (.ref a) (.list (k.1.map Xl)) bs)/\∃bs,Reads h (.ref b) (.tuple (k.2.map Xl)) bs:=by
 cases r with
 | @tuple t o vs n xs as e c d q=>
  obtain⟨l,hl⟩:∃l,l=vs.toList:=⟨_,rfl⟩;rw[<-hl]at q;cases q with
  | cons r1 q=>
   cases q with
   | cons r2 q=>
    cases q;obtain⟨a,_,rfl,_⟩:=Zdm r1;obtain⟨b,_,rfl,_⟩:=Zfh r2;have:vs=#[.ref a,.ref b]:=Array.toList_inj.mp hl.symm;subst this;exact⟨t,o,n,a,b,rfl,e,c,d,⟨_,r1⟩,_,r2⟩
theorem Zh7(a b:List Int):QJ (.list (a.map Xl)) (.list (b.map Xl))=decide (a=b):=by
 have p:∀l:List Int,Yd (.list (l.map Xl))=YD:=λl=>by rw[Yd];induction l with|nil=>rfl|cons x l ih=>exact ih
 have inj:∀{l m:List Int},JB (l.map Xl)= .list (m.map Xl)->l=m:=λh=>by
  injection h with h;exact(List.map_inj_right λx y z=>by injection z).mp h
 by_cases c:a=b
 .rw[Zyx (p a) (p b) (by rw[c]),YQ c]
 .rw[Z33 (p a) (p b) λz=>c (inj z),YS c]
theorem Zq4(a b:List Int):QJ (.tuple (a.map Xl)) (.tuple (b.map Xl))=decide (a=b):=by
 have e:∀xs ys:List Xa,QJ (.tuple xs) (.tuple ys)=QJ (.list xs) (.list ys):=λxs ys=>by
  rw[QJ,QJ]
 rw[e,Zh7]
theorem Zy6:Yai kdT ltT:=by
 refine⟨λd k h=>?_,tuples' YD,λprog w A E s vs ds as Q h2 r hk q=>?_,λprog w A E s u v d e as bs k m C hu r1 r2 h1 h2 h=>?_⟩
 .rw[Zg3 h]
  exact(Zou (n:=1) λd m=>by
   rcases Xi.mp m with rfl|m
   .exact lay_ints _
   .rw[Xv.mp m];exact Zdi _).1
 .have key:∃fs:List Xd,KatTups s.heap vs fs/\fs.length=vs.length/\∀v∈fs,∃a items,v= .ref a/\s.heap.IsList a items:=by
   clear h2 q
   induction ds generalizing vs as with
   | nil=>cases r;exact⟨[],trivial,rfl,λ_ m=>nomatch m⟩
   | cons d ds ih=>
    cases r with
    | cons r q=>
     obtain⟨fs,t,l,z⟩:=ih _ _ q λd m=>hk d (.tail _ m);obtain⟨k,hk⟩:=hk d (.head _);rw[Zg3 hk]at r;obtain⟨t',o,n,a,b,rfl,e,c,hd,⟨_,x1⟩,_⟩:=Zna r;obtain⟨a',items,ea,ex,_⟩:=Zdm x1;cases ea;refine⟨.ref a::fs,KatTups.cons e c hd rfl t,YT Nat.succ l,λv hv=>?_⟩;rcases Xi.mp hv with rfl|hv
     .exact⟨a,items,rfl,ex⟩
     .exact z v hv
  obtain⟨fs,t,l,z⟩:=key;exact kat_kind (T:=.type "list") t (by omega) (λv hv=>by obtain⟨a,items,rfl,e⟩:=z v hv;exact Zp7 e) rfl q
 .rw[Zg3 h1]at r1
  rw[Zg3 h2]at r2;obtain⟨t1,o1,n1,a1,b1,rfl,g1,c1,d1,⟨_,x1⟩,_,y1⟩:=Zna r1;obtain⟨t2,o2,n2,a2,b2,rfl,g2,c2,d2,⟨_,x2⟩,_,y2⟩:=Zna r2;refine kat_lt g1 d1 g2 d2 (kat_cons ?_);refine SeqAt.eqAt_reads _ _ A s _ _ _ _ x1 x2 (lay_ints _).1 (lay_ints _).1 (by have:=(lay_ints k.1).2;omega) prog w _ _ ?_;rw[Zh7];unfold ltT at h;obtain⟨p1,i1,e1,l1,z1⟩:=Zdm x1;obtain⟨p2,i2,e2,l2,z2⟩:=Zdm x2;cases e1;cases e2
  by_cases c:k.1=m.1
  .rw[YL c]at h
   rw[YQ c];refine kat_yes (kat_cons ?_);refine SeqAt.eqAt_reads _ _ A s _ _ _ _ y1 y2 (Zdi _).1 (Zdi _).1 (by have:=(Zdi k.2).2;omega) prog w _ _ ?_;rw[Zq4];obtain⟨p1,i1,e1,l1,z1⟩:=Zfh y1;obtain⟨p2,i2,e2,l2,z2⟩:=Zfh y2;cases e1;cases e2
   by_cases c':k.2=m.2
   .rw[YL c']at h
    rw[YQ c'];exact kat_yes (kat_nil h)
   .rw[YM c']at h
    rw[YS c'];exact kat_no (Zrp (by omega) l1 l2 z1 z2 h)
  .rw[YM c]at h
   rw[YS c];exact kat_no (Zpk (by omega) l1 l2 z1 z2 h)
end L2
namespace L2
open PySem PySem.Spec PyProof.Rows PySem.W
def lk(kd:Xa->Option Y)(lt:Y->Y->Bool)(es:List Xa):Nat->Nat->Bool:=λi j=>((kd (es.getD i .none)).bind λa=>(kd (es.getD j .none)).map λb=>lt a b).getD YF
def keyed(kd:Xa->Option Y)(es:List Xa):Prop:=∀d∈es,∃k,kd d=YB k
theorem Zp8{es:List Xa}(h:∀d∈es,d.canLay0=YD):Bf es=YD:=by
 induction es with
 | nil=>rw[Bf]
 | cons d es ih=>rw[Bf,h d (.head _),ih λd m=>h d (.tail _ m)];rfl
def Z7y(kd:Xa->Option Y)(lt:Y->Y->Bool)(K:Xc):List V->Hp->VK->Prop:=λxs H Q=>∃(a:YG) (vs:List V) (L:YG->Prop) (es:List Xa),xs=[.ref a]/\SqL K H a vs/\Das K H L vs es/\vs.length<64/\keyed kd es/\∀l,H l=YC->Q (.ref l) (upd H l (.lst (sLay .non (lk kd lt es) vs)))
section
variable {kd:Xa->Option Y}{lt:Y->Y->Bool}
theorem Zp3(S:Yai kd lt)(hK:X.K=K)(hu:X.A.units+64<cLine):Zec X (.builtin "sorted") (Z7y kd lt K):=by
 subst hK;intro pins s O H xs us Q I r h;obtain⟨l,vs,L,es,rfl,hs,hd,h64,hk,q⟩:=h;obtain⟨u,rfl,ru⟩:=vals1 r;cases(show u=Qj l from ru);obtain⟨its,rv,pl,hz⟩:=I.list hs;have hl:=rv.length;obtain⟨as,ra⟩:=hd.reads rfl I rv (Zp8 λd m=>by obtain⟨k,e⟩:=hk d m;exact S.lay d k e);obtain⟨κ,S1,S2⟩:=S.run;obtain⟨z1,z2⟩:=readsAll_get ra;refine Z1o (κ:=κ) (lt:=lk kd lt es) pl.isList (by omega) (λh2 s' k Q q=>S1 _ _ _ _ s' _ es as Q h2 (ReadsAll.keeps k ra) hk q) (λh2 s' k i j C hi hj hc=>?_) ?_
 .rw[z1]at hi hj
  obtain⟨v,b1,e1,r1⟩:=z2 i _ (Xm hi);obtain⟨w,b2,e2,r2⟩:=z2 j _ (Xm hj);obtain⟨k1,q1⟩:=hk _ (Uq hi);obtain⟨k2,q2⟩:=hk _ (Uq hj);have ek:lk kd lt es i j=lt k1 k2:=by
   unfold lk;rw[Xj,Xj,Xm hi,Xm hj];show((kd es[i]).bind λa=>(kd es[j]).map λb=>lt a b).getD YF=_;rw[q1,q2];rfl
  rw[ek]at hc;unfold kas_ask;rw[Xj,Xj,e1,e2];exact S2 _ _ _ _ s' v w _ _ _ _ k1 k2 C (show X.A.units+1+1+32<cLine by omega) (Reads.keeps k r1) (Reads.keeps k r2) q1 q2 hc
 .obtain⟨e,he⟩:=sortedAll_at s.heap its (VL (sLay QD (lk kd lt es) its))
  refine⟨.ref (s.heap.objs.size+1),_,I.laid (t':=s.toks) (o:=.lst (sLay .non (lk kd lt es) vs)) (λb ob q=>sortedAll_old q) (by omega) ⟨?_,sLay QD (lk kd lt es) its,e,Zr7 rv,he⟩,rfl,q _ (I.hok.fresh (by omega))⟩;rw[(Zek _ _ _).length_eq,X7];omega
end
end L2
namespace L2
open PySem PySem.Spec PyProof.Rows
section
variable {q r:Bool}{a:YJ}{ss':List YK}{f g:FS}{ta:FT}
theorem xv(i:Nat)(hN:X.N[i]? =YB x:=by rfl)(hv:Vis X.env.scope x:=by first|exact Qx rfl|exact Qm (Qx rfl)|exact Qm (Qm rfl))(hd:(x==("__debug__" : Str))=YF:=by decide)(he:(x==("__classdict__" : Str))=YF:=by decide):ME X io YD YD (.Name x pos) (o2 (Zd i)):=Z8b (mv i hN hv hd he)
theorem xo(i:Nat)(hN:X.N[i]? =YB x:=by rfl)(hv:Vis X.env.scope x:=by first|exact Qx rfl|exact Qm (Qx rfl)|exact Qm (Qm rfl))(hd:(x==("__debug__" : Str))=YF:=by decide)(he:(x==("__classdict__" : Str))=YF:=by decide):ME X io YD YF (.Name x pos) (o2 (Zcm i)):=Z4c (mo i hN hv hd he)
theorem xci{i:Int}:ME X io YD YD (.Constant (.int i) j pos) (o2 (fC (.int i))):=Zgl Z5a
theorem xix(ha:ME X io p c a (o2 fa))(hb:ME X io p' c' b (o2 fb))(hc:p'=YD\/c=YD:=by first|exact Qx rfl|exact Qm rfl)(hs:Zkj b:=by exact λ_ _=>rfl)(h2:(p&&p')=q:=by rfl)(h3:(c&&c')=r:=by rfl):ME X io q r (.Subscript a b pos) (o2 (Yk gIx fa fb)):=h2▸h3▸Zrm Yfk (Yfj (Zqt rfl) Ya4 ha hb hc (hs:=hs))
theorem xa0:MA X io YD YD [] (o2 Zn):=Z80 Z8s
theorem xa1[NoStar e](ha:ME X io p c e (o2 fa))(h2:(p&&YD)=q:=by rfl)(h3:(c&&YD)=r:=by rfl):MA X io q r [e] (o2 (Zc fa Zn)):=Zk ha xa0 (.inl rfl) h2 h3
theorem xsq(h:MS X io st (oS f))(k:MSs X io sts (oS g)):MSs X io (st::sts) (oS (Zy f g)):=Z8i (Zvy h k)
theorem xst(i:Nat)(hN:X.N.Nodup)(he:ME X io p YD e (o2 fa))(hi:X.N[i]? =YB x:=by rfl)(hx:Loc X.env.scope x:=by first|exact Qx rfl|exact Qm rfl)(hio:i∉io:=by decide)(hs:Vn e (YB (.Name x px)) pos.line X.env=pure YF:=by rfl)(hf:X.fn x=YD\/X.env.scope.names.lookup x=YB .local:=by first|exact .inl rfl|exact .inr rfl|assumption):MS X io (.Assign [.Name x px] e pos) (oS (wE fa (Wt i))):=Zok (Znv hN hi hx he hio hs hf)
theorem xrt(h:ME X io p YD e (o2 fa)):MS X io (.Return (YB e) pos) (oS (wE fa Jp)):=Z51 (Z5x h)
theorem xg(i:Nat)(hN:X.N.Nodup)(hi:X.N[i]? =YB x:=by rfl)(hx:Loc X.env.scope x:=by first|exact Qx rfl|exact Qm rfl)(hio:i∉io:=by decide)(hf:X.fn x=YD\/X.env.scope.names.lookup x=YB .local:=by first|exact .inl rfl|exact .inr rfl|assumption):MG X io YD (.Name x pos) (oG (gNm i)):=Z1v (Zy9 hN hi hx hio hf)
theorem xif(h:MT X io p e (o2 ta))(k:MSs X io ss (oS f))(l:MSs X io ss' (oS g)):MS X io (.If e ss ss' pos) (oS (J7 ta f g)):=Yaw (Ybo h k l)
theorem xnl:MSs X io [] (oS fNx):=Zzr Zzw
theorem xtp{n:Nat}(h:MA X io p c es (o2 ra)):ME X io p c (.Tuple es n pos) (o2 (Zsj ra)):=Z43 (Yaa h)
theorem xls(h:MA X io p c es (o2 ra)):ME X io p c (.List es pos) (o2 (Zez ra)):=Z53 (Yau h)
theorem xil(h:ME X io p c e (o2 fa)):MI X io p c tg e (o2 (Zji fa)):=Zz8 (Z0l h)
theorem xno(h:MT X io p e (o2 ta)):MT X io p (.UnaryOp .Not e pos) (o2 (tNo ta)):=Z3j (Z8j h)
theorem Zjz(ha:ME X io p c a (o2 fa))(hb:ME X io p' c' b (o2 fb))(hc:p'=YD\/c=YD:=by first|exact Qx rfl|exact Qm rfl)(h2:(p&&p')=q:=by rfl):ME X io q YD (.BinOp a .Add b pos) (o2 (Zg Zdl fa fb)):=h2▸J5 Z96 (Zg7 Z5u Zjq ha hb hc)
theorem Zuk(ha:ME X io p c a (o2 fa))(hb:ME X io p' c' b (o2 fb))(hc:p'=YD\/c=YD:=by first|exact Qx rfl|exact Qm rfl)(h2:(p&&p')=q:=by rfl):ME X io q YD (.BinOp a .Sub b pos) (o2 (Zg gSb fa fb)):=h2▸J5 Ybm (Zg7 Z5j Zjq ha hb hc)
theorem Zs3(ha:ME X io p c a (o2 fa))(hb:ME X io p' c' b (o2 fb))(hc:p'=YD\/c=YD:=by first|exact Qx rfl|exact Qm rfl)(h2:(p&&p')=q:=by rfl):ME X io q YD (.BinOp a .Mult b pos) (o2 (Zg Zib fa fb)):=h2▸J5 Ya0 (Zg7 Z01 Z65 ha hb hc)
theorem Z4s(ha:ME X io p c a (o2 fa))(hb:ME X io p' c' b (o2 fb))(hc:p'=YD\/c=YD:=by first|exact Qx rfl|exact Qm rfl)(h2:(p&&p')=q:=by rfl):ME X io q YD (.BinOp a .Mod b pos) (o2 (Zg Zja fa fb)):=h2▸J5 Ybd (Zg7 Z11 Zse ha hb hc)
theorem Zx3(ha:ME X io p c a (o2 fa))(hb:ME X io p' c' b (o2 fb))(hc:p'=YD\/c=YD:=by first|exact Qx rfl|exact Qm rfl)(h2:(p&&p')=q:=by rfl):ME X io q YD (.BinOp a .FloorDiv b pos) (o2 (Zg Za9 fa fb)):=h2▸J5 Z7b (Zg7 Zwp Z3u ha hb hc)
theorem Zqi(ha:ME X io p c a (o2 fa))(hb:ME X io p' c' b (o2 fb))(hc:p'=YD\/c=YD:=by first|exact Qx rfl|exact Qm rfl)(h2:(p&&p')=q:=by rfl):ME X io q YD (.BinOp a .Pow b pos) (o2 (Zg Zgp fa fb)):=h2▸J5 Ycd (Zg7 Z0p Zyn ha hb hc)
theorem xeq(hu:X.A.units+64<cLine)(ha:ME X io p c a (o2 fa))(hb:ME X io p' c' b (o2 fb))(hc:p'=YD\/c=YD:=by first|exact Qx rfl|exact Qm rfl)(h2:(p&&p')=q:=by rfl):MT X io q (.Compare a [.Eq] [b] pos) (o2 (tV (Zg gEq fa fb))):=h2▸Zbe Ydh (Zbb (Zx5 hu) Z3r ha hb hc (hm:=Zcv _))
theorem xne(hu:X.A.units+64<cLine)(ha:ME X io p c a (o2 fa))(hb:ME X io p' c' b (o2 fb))(hc:p'=YD\/c=YD:=by first|exact Qx rfl|exact Qm rfl)(h2:(p&&p')=q:=by rfl):MT X io q (.Compare a [.NotEq] [b] pos) (o2 (tV (Zg gNe fa fb))):=h2▸Zbe Yfe (Zbb (Z78 hu) Yab ha hb hc (hm:=Zcv _))
theorem xlt(ha:ME X io p c a (o2 fa))(hb:ME X io p' c' b (o2 fb))(hc:p'=YD\/c=YD:=by first|exact Qx rfl|exact Qm rfl)(h2:(p&&p')=q:=by rfl):MT X io q (.Compare a [.Lt] [b] pos) (o2 (tV (Zg gLt fa fb))):=h2▸Zbe Yfn (Zbb Zwu Ztw ha hb hc (hm:=Zcv _))
theorem xgt(ha:ME X io p c a (o2 fa))(hb:ME X io p' c' b (o2 fb))(hc:p'=YD\/c=YD:=by first|exact Qx rfl|exact Qm rfl)(h2:(p&&p')=q:=by rfl):MT X io q (.Compare a [.Gt] [b] pos) (o2 (tV (Zg gGt fa fb))):=h2▸Zbe Ye6 (Zbb Ya5 Ztw ha hb hc (hm:=Zcv _))
theorem xge(ha:ME X io p c a (o2 fa))(hb:ME X io p' c' b (o2 fb))(hc:p'=YD\/c=YD:=by first|exact Qx rfl|exact Qm rfl)(h2:(p&&p')=q:=by rfl):MT X io q (.Compare a [.GtE] [b] pos) (o2 (tV (Zg gGe fa fb))):=h2▸Zbe Ye2 (Zbb Z9w Ztw ha hb hc (hm:=Zcv _))
theorem xfr(hp:PassesOwn (XR X.prog X.w) X.A X.env X.xe)(hc:X.calm=YD)(hi:MI X io p YD tg e (o2 it))(hg:MG X io YD tg (oG gg))(hb:MSs X io ss (oS f))(hs:∀x,JX e X.env x=pure x:=by intro _;rfl):MS X io (.For tg e ss [] pos) (oS (Zae it gg f)):=Z5z (Z56 hp hc hi hg hb hs)
theorem xg2{n:Nat}{g1 g2:FG}(hc:X.calm=YD)(ha:MG X io YD a (oG g1))(hb:MG X io YD b (oG g2))(h1:List.map (λx=>x.snd) (JH [a,b] X.env)=Ut a X.env::List.map (λx=>x.snd) (JH [b] X.env):=by rfl)(h2:List.map (λx=>x.snd) (JH [b] X.env)=Ut b X.env::List.map (λx=>x.snd) (JH [] X.env):=by rfl)(h3:(JH [a,b] X.env).length=2:=by rfl)(h4:List.findIdx? (λx=>x.fst) (JH [a,b] X.env)=YC:=by rfl):MG X io YD (.Tuple [a,b] n pos) (oG (gTp 2 (gCn g1 (gCn g2 gNl)))):=Zy3 (Zy5 (n:=2) hc (Zgu (Zoc ha (Zgu (Zoc hb (Zri Zsn) h2)) h1)) h3 h4)
theorem xso(i:Nat)(hN:X.N.Nodup)(he:ME X io p YD e (o2 fa))(hi:X.N[i]? =YB x:=by rfl)(hx:Loc X.env.scope x:=by first|exact Qx rfl|exact Qm rfl)(hio:i∉io:=by decide)(hs:Vn e (YB (.Name x px)) pos.line X.env=pure YF:=by rfl)(hf:X.fn x=YD\/X.env.scope.names.lookup x=YB .local:=by first|exact .inl rfl|exact .inr rfl|assumption):MS X io (.Assign [.Name x px] e pos) (oS (wE fa (J2 i))):=Zzh (Z0n hN hi hx he hio hs hf)
theorem xcl{k:Nat}{f:YG}{fd:XF}(G:FnOk X.prog X.w X.K X.mg X.base CX0 k f fd ps (spD X.K (sD F)))(hr:Room k X.A)(hm:X.mg x=YB (.ref f))(hk:BW X.K (.ref f)=YD)(hb:Binds X.K fd ps [])(ha:MA X io p c (e::es) (o2 ra))(hg:Gl X x:=by rfl)(h1:(x==("__debug__" : Str))=YF:=by decide)(h2:Xr (e::es) X.env=(YF,eval e X.env)::Xr es X.env:=by rfl)(h3:((JG pos (Xr es X.env)).any λx=>x.fst)=YF:=by rfl):ME X io p c (.Call (.Name x pp) (e::es) [] pos) (o2 (Z4 F ra)):=Z0q (Z7a G hr hg hm hk hb J4 ha h1 h2 h3)
theorem xln(hm:X.mg "len"=YC)(ha:MA X io p c [e] (o2 ra))(hg:Gl X "len" :=by rfl)(h2:Xr [e] X.env=(YF,eval e X.env)::Xr [] X.env:=by rfl):ME X io p YD (.Call (.Name "len" pp) [e] [] pos) (o2 (Zbt Zdv ra)):=Zc8 Ya7 (Zkk Z4p (Zq2 rfl) hg hm L2.B.boot_len ha (by decide) (by decide) h2 (by rfl))
end
def tbl(P:List Nat)(led:Bool):Q4:={ mask:=7,place:=P.toArray,dummies:=#[],finger:=0,led,moves:=0,plain:=YD }
def hT(k:List Int):Int:=reduceHash (Builtin.Tuple.tupleHashOf (k.map hashInt))
def hAt(ks:List (List Int))(i:Nat):Int:=(ks[i]?.map hT).getD 0
def Z99(P:List Nat)(j:Nat):List Nat:=((tbl P YF).put j).1.place.toList
def Ydb(P:List Nat)(j:Nat):Nat:=((tbl P YF).put j).2
def Yf4(ks:List (List Int))(p:Nat)(k:List Int):List (List Int):=ks.take p++k::ks.drop p
def Yft(P:List Nat)(ks:List (List Int))(k:List Int):Option (List Nat×List (List Int)) :=
 match(tbl P YF).probe (hAt ks) (hT k) ((tbl P YF).probeStart (hT k))with
 | some (.empty j YC)=>if(tbl (Z99 P j) YF).tooFull=YF/\(Z99 P j).length=ks.length+1/\ks.length<=6/\Ydb P j<=ks.length then YB (Z99 P j,Yf4 ks (Ydb P j) k)else YC
 | some (.candidate _ i _)=>if ks[i]? =YB k then YB (P,ks)else YC
 | _=>YC
def grow(K:List (List Int)):Nat->List (List Nat×List (List Int))->List (List Nat×List (List Int))
 | 0,S=>S
 | n+1,S=>grow K n (S++(S.flatMap λs=>K.filterMap λk=>Yft s.1 s.2 k).filter λs=>!S.contains s)
def K2:List (List Int):=[[0,0],[0,1],[1,0],[1,1]]
def S2:List (List Nat×List (List Int)):=(grow K2 4 [([],[])]).eraseDups
inductive KeysIn(U:YG->List Int->Prop):List (List Int)->List (Int×Xd)->Prop
 | nil:KeysIn U [] []
 | cons {k:List Int} {a:YG} {ks:List (List Int)} {l:List (Int×Xd)} (h:U a k) (t:KeysIn U ks l):KeysIn U (k::ks) ((hT k,.ref a)::l)
theorem KeysIn.hash{U:YG->List Int->Prop}{ks:List (List Int)}{l:List (Int×Xd)}(h:KeysIn U ks l):l.map (·.1)=ks.map hT:=by
 induction h with
 | nil=>rfl
 | cons _ _ ih=>rw[Qq,Qq,ih]
abbrev IK(prog:X6)(w:Qp)(h:YH)(k:List Int)(a:YG):Prop:=IsTupleKey (Vx prog w) h k a
theorem items_int{ks:List Int}{vs:List Xd}(h:ItemsAre (Vx prog w) ks vs):∀v∈vs,∃i t,v= .int i t:=by
 induction h with
 | nil=>exact λ_ m=>nomatch m
 | cons h _ ih=>
  intro v hv;rcases Xi.mp hv with rfl|hv
  .obtain⟨t,e⟩:=Value.isInt_shape h
   exact⟨_,t,e⟩
  .exact ih v hv
theorem KeysIn.at{U:YG->List Int->Prop}{ks:List (List Int)}{es:Array (Int×Xd)}(h:KeysIn U ks es.toList)(i:Nat):(es[i]?.map (·.1)).getD 0=hAt ks i:=by
 unfold hAt;rw[<-Xp,<-h.hash,Xp,Qv]
end L2
variable {z i1 I:YG}{items:Array Xd}{S1 T1:YH->Prop}{wr:List YG}{ks:List Int}{kk:Nat}
namespace L2
open PySem PySem.Spec PyProof.Rows
section
variable {R:Result->Xe->Prop}{fp:List YG}{n:Nat}{Pv:Nat->Xd->Prop}{St:Nat->YH->Prop}
end
inductive Yae(H:Hp):List V->List (List Int)->Prop
 | nil:Yae H [] []
 | cons {a:YG} {k:List Int} {xs:List V} {ks:List (List Int)} (h:H a=YB (.tup (k.map V.int))) (t:Yae H xs ks):Yae H (.ref a::xs) (k::ks)
section
variable {a:YJ}{t:TA}
end
abbrev Yey(h:YH)(T:YG)(a b c:Xd):Prop:=h.get? T=YB { cls:=.type "tuple",data:=.seq #[a,b,c] }
structure Z3A(z TI TO i1 i2 i3:YG)(f1 f2 f3:List YG):Prop where
 TIz:TI≠z
 TOz:TO≠z
 a1:∀c∈f1,c≠z/\c≠TO/\c≠i2/\c≠i3
 a2:∀c∈f2,c≠z/\c≠TO/\c≠i1/\c≠i3
 a3:∀c∈f3,c≠z/\c≠TO/\c≠i1/\c≠i2
abbrev z3A(h:YH)(a:YG):YH:=h.push { cls:=.type "list_iterator",data:=.fields #[.ref a,.int 0 0] }
abbrev z3B(h:YH)(a b:YG):YH:=z3A (z3A h a) b
abbrev z3C(h:YH)(a b c:YG):YH:=z3A (z3B h a b) c
abbrev z3D(h:YH)(a b c:YG):YH:=(z3C h a b c).push { cls:=.type "tuple",data:=.seq #[.ref h.objs.size,.ref (z3A h a).objs.size,.ref (z3B h a b).objs.size] }
abbrev z3E(h:YH)(a b c:YG):YH:=(z3D h a b c).push { cls:=.type "tuple",data:=.seq #[.none,.none,.none] }
abbrev z3F(h:YH)(a b c:YG):YH:=(z3E h a b c).push { cls:=.type "zip",data:=.fields #[.none,.bool YF,.bool YF,.ref (z3C h a b c).objs.size,.ref (z3D h a b c).objs.size] }
section
variable {a:YJ}
end
def Up(xs:List Nat):Prop:=xs.Pairwise (·<·)
theorem Zw3{xs:List Nat}(h:Up xs){a b:Nat}(ha:xs[i]? =YB a)(hb:xs[j]? =YB b)(l:i<j):a<b:=by
 obtain⟨hi,rfl⟩:=Xn.mp ha;obtain⟨hj,rfl⟩:=Xn.mp hb;exact VR.mp h i j hi hj l
theorem getD_at{xs:Array Nat}{d:Nat}(h:i<xs.size):xs.toList[i]? =YB (xs.getD i d):=by
 rw[Qv,VN h,Array.getD,dif_pos h];rfl
theorem Zuu{xs:Array Nat}(up:Up xs.toList):∀(fuel lo hi:Nat),hi-lo<=fuel->lo<=hi->hi<=xs.size->(∀i a,i<lo->xs.toList[i]? =YB a->a<j)->(∀i a,hi<=i->xs.toList[i]? =YB a->j<=a) ->
  ∃p,SetTable.below.go xs j fuel lo hi=p/\p<=xs.size/\(∀i a,i<p->xs.toList[i]? =YB a->a<j)/\∀i a,p<=i->xs.toList[i]? =YB a->j<=a:=by
 intro fuel
 induction fuel with
 | zero=>
  intro lo hi f l z h1 h2;have e:lo=hi:=by omega
  exact⟨lo,rfl,by omega,h1,λi a q=>h2 i a (by omega)⟩
 | succ fuel ih=>
  intro lo hi f l z h1 h2;rw[SetTable.below.go]
  by_cases c:lo<hi
  .rw[YL c]
   have hm:(lo+hi)/2<xs.size:=by omega
   have em:=getD_at (xs:=xs) (d:=j) hm
   by_cases q:xs.getD ((lo+hi)/2) j<j
   .simp only[YL q]
    refine ih _ _ (by omega) (by omega) z (λi a li ea=>?_) h2
    by_cases e:i=(lo+hi)/2
    .subst e
     rw[em]at ea;cases ea;exact q
    .exact Vr (Zw3 up ea em (by omega)) q
   .simp only[YM q]
    refine ih _ _ (by omega) (by omega) (by omega) h1 λi a li ea=>?_
    by_cases e:i=(lo+hi)/2
    .subst e
     rw[em]at ea;cases ea;omega
    .have:=Zw3 up em ea (by omega)
     omega
  .rw[YM c]
   have e:lo=hi:=by omega
   exact⟨lo,rfl,by omega,h1,λi a q=>h2 i a (by omega)⟩
theorem Zjp{xs:Array Nat}(up:Up xs.toList)(j:Nat):QQ xs j<=xs.size/\(∀i a,i<QQ xs j->xs.toList[i]? =YB a->a<j)/\∀i a,QQ xs j<=i->xs.toList[i]? =YB a->j<=a:=by
 obtain⟨p,e,h⟩:=Zuu (j:=j) up xs.size 0 xs.size (by omega) (QG _) (XQ _) (λi a q=>YX q (Vj _)) λi a q ea=>by
  have:=(Xn.mp ea).1;rw[X5]at this;omega
 unfold QQ;rw[e];exact h
theorem Zp6{xs:Array Nat}(up:Up xs.toList){a:Nat}(h:xs.toList[i]? =YB a):QQ xs (a+1)=i+1:=by
 obtain⟨b0,b1,b2⟩:=Zjp up (a+1);have hi:=(Xn.mp h).1;rw[X5]at hi;rcases VB (QQ xs (a+1)) (i+1)with c|c|c
 .have:=b2 i a (by omega) h
  omega
 .exact c
 .have hs:i+1<xs.toList.length:=by rw[X5];omega
  have e1:=Xm hs;have:=b1 (i+1) _ c e1;have:=Zw3 up h e1 (QH _);omega
theorem Zp9{xs:Array Nat}(up:Up xs.toList):QQ xs 0=0:=by
 obtain⟨b0,b1,_⟩:=Zjp up 0;cases e:QQ xs 0 with
 | zero=>rfl
 | succ k=>
  rw[e]at b0 b1;have hs:0<xs.toList.length:=by rw[X5];omega
  exact YX (b1 0 _ (Nat.zero_lt_succ _) (Xm hs)) (Vj _)
theorem Z6g{xs:List Nat}(up:Up xs){p:Nat}(h1:∀i a,i<p->xs[i]? =YB a->a<j)(h2:∀i a,p<=i->xs[i]? =YB a->j<a):Up (xs.take p++j::xs.drop p):=by
 refine List.pairwise_append.mpr ⟨up.sublist (List.take_sublist ..),V5.mpr ⟨λa ha=>?_,up.sublist (List.drop_sublist ..)⟩,λa ha b hb=>?_⟩
 .obtain⟨i,hi⟩:=VH ha
  rw[List.getElem?_drop]at hi;exact h2 _ a (Vb _ _) hi
 .obtain⟨i,hi⟩:=VH ha
  have ip:i<p:=by
   have:=(Xn.mp hi).1;rw[Um]at this;omega
  rw[List.getElem?_take_of_lt ip]at hi;have aj:=h1 i a ip hi;rcases Xi.mp hb with rfl|hb
  .exact aj
  .obtain⟨k,hk⟩:=VH hb
   rw[List.getElem?_drop]at hk;exact Vr aj (h2 _ b (Vb _ _) hk)
def Zfz(t:Q4)(j:Nat):Prop:=t.place[QQ t.place j]? ≠YB j
structure Tb(b:Bool)(t:Q4):Prop where
 led:t.led=b
 up:t.plain=YD->Up t.place.toList
theorem Zn8{t:Q4}(h:t.slot j= .empty\/t.slot j= .dummy):Zfz t j:=λz=>by
 have:t.slot j= .live (QQ t.place j):=by
  unfold Q4.slot;rw[YL (YZ.mpr z)]
 rcases h with h|h<;>rw[this]at h<;>cases h
theorem Zt4{t:Q4}{f:Nat->Int}{h:Int}:∀(fuel:Nat) (p:SetTable.Probe),(∀d,p.dummy=YB d->Zfz t d)->∀j dm,SetTable.probe.go t f h fuel p=YB (.empty j dm)->Zfz t j/\∀d,dm=YB d->Zfz t d:=by
 intro fuel
 induction fuel with
 | zero=>intro p _ j dm e;cases e
 | succ fuel ih=>
  have adv:∀q:SetTable.Probe,(t.advance q).dummy=q.dummy:=λq=>by
   unfold Q4.advance;split<;>rfl
  intro p hp j dm e;rw[SetTable.probe.go]at e;split at e
  .rename_i c
   cases e;exact⟨Zn8 (.inl c),hp⟩
  .rename_i c
   refine ih _ (λd hd=>?_) j dm e;rw[adv]at hd;cases hd;exact Zn8 (.inr c)
  .split at e
   .cases e
   .exact ih _ (λd hd=>hp d (by rw[adv]at hd;exact hd)) j dm e
theorem Zva{t:Q4}{h:Int}{d:Bool}(e:t.freeSlot h=YB (j,d)):Zfz t j:=by
 unfold Q4.freeSlot at e;split at e
 .rename_i j' dm q
  cases e;obtain⟨h1,h2⟩:=Zt4 _ _ (λd hd=>by cases hd) _ _ q;cases dm with
  | none=>exact h1
  | some d=>exact h2 d rfl
 .cases e
theorem Z8f{t:Q4}(up:Up t.place.toList)(n:Zfz t j):Up (t.put j).1.place.toList:=by
 show Up (Q4.insertAt t.place (QQ t.place j) j).toList;obtain⟨b0,b1,b2⟩:=Zjp up j;rw[SetTable.toList_insertAt];refine Z6g up b1 λi a l ea=>?_;have ja:=b2 i a l ea;rcases QT j a with c|c
 .exact c
 .have e:a=j:=by omega
  subst e;exfalso;rcases QT (QQ t.place a) i with c2|c2
  .have hs:QQ t.place a<t.place.toList.length:=Vr c2 (Xn.mp ea).1
   have e1:=Xm hs;have:=Zw3 up e1 ea c2;have:=b2 _ _ (XQ _) e1;omega
  .have e:i=QQ t.place a:=by omega
   subst e;exact n (by rw[<-Qv];exact ea)
theorem Tb.stand{b:Bool}{t:Q4}(h:Tb b t)(n:Nat):Tb b (t.standIn n):=⟨h.led,λz=>nomatch z⟩
theorem Tb.lay{b:Bool}{t:Q4}(h:Tb b t)(es:Array (Int×Xd))(k:Int)(x:Xd):Tb b (layNew t es k x).2.1:=by
 unfold layNew;split
 .rename_i j d e
  dsimp only;unfold Q4.orStandIn;split
  .exact⟨h.led,λz=>Z8f (h.up z) (Zva e)⟩
  .exact⟨h.led,λz=>nomatch z⟩
 .exact h.stand _
theorem Z1q(f:Nat->Option Nat)(n:Nat):Up (((Xu n).filterMap λj=>(f j).map (j,·)).map (·.1)):=by
 have e:∀l:List Nat,((l.filterMap λj=>(f j).map (j,·)).map (·.1)).Sublist l:=λl=>by
  induction l with
  | nil=>exact .slnil
  | cons a l ih=>
   rw[V0];cases f a with
   | none=>exact ih.cons a
   | some v=>exact ih.cons_cons a
 exact List.Pairwise.sublist (e _) List.pairwise_lt_range
theorem Tb.relay{b:Bool}{t:Q4}(h:Tb b t)(es:Array (Int×Xd))(n:Nat):Tb b (relayAll t es n).2.1:=by
 unfold relayAll;split
 .rename_i t' order e
  dsimp only;split
  .unfold Q4.relaid Q4.laid at e
   obtain⟨ow,_,e⟩:=Option.bind_eq_some_iff.mp e;cases e;exact⟨h.led,λ_=>Z1q _ _⟩
  .exact h.stand _
 .exact h.stand _
def vI:Xd->Int
 | .int k _=>k
 | _=>0
def SetI(prog:X6)(w:Qp)(b:Bool)(h:YH)(S:YG)(ks:List Int):Prop :=
 ∃o es ep t,h.get? S=YB o/\o.ExactSet/\o.data= .set es ep t/\ElemsOf (Vx prog w) es.toList/\es.size<Ug/\t.fits es.size=YD/\Tb b t/\es.toList.map (λe=>vI e.2)=ks
section
variable {b:Bool}
theorem Zsr{k:Int}{v:Xd}(h:(Vx prog w).is k v=YD):∃t,v= .int k t:=by
 cases v<;>simp_all [Vx,Xd.isInt]
theorem SetI.stay{S:YG}(hS:SetI prog w b h S ks)(k:∀o,h.get? S=YB o->h'.get? S=YB o):SetI prog w b h' S ks:=by
 obtain⟨o,es,ep,t,ho,r⟩:=hS;exact⟨o,es,ep,t,k o ho,r⟩
theorem SetI.put{S:YG}{es es':Array (Int×Xd)}{ep:Nat}{t t':Q4}(ho:h.get? S=YB o)(hex:o.ExactSet)(hd:o.data= .set es ep t)(he:ElemsOf (Vx prog w) es'.toList)(hb:es'.size<Ug)(hf:t'.fits es'.size=YD)(ht:Tb b t') :
  (h.update S (Obj.putSet es' t')).get? S=YB { o with data:=.set es' (ep+1) t' }/\SetI prog w b (h.update S (Obj.putSet es' t')) S (es'.toList.map λe=>vI e.2):=by
 have g:=Uk (Obj.putSet es' t') ho (by rw[putSet_of es' t' hd];rfl);rw[putSet_of es' t' hd]at g;exact⟨g,_,es',ep+1,t',g,hex,rfl,he,hb,hf,ht,rfl⟩
theorem Zxx{g:Bool->Sem Unit}(hg:∀(c:Bool) (s₁:Xe) (Q':Unit->Xe->Prop),Q' () s₁->Xy (XR prog w) A (g c) Q' E s₁){S:YG}{es es1:Array (Int×Xd)}{ep:Nat}{t t1:Q4}{wasDummy:Bool}{R:Option Bool->Xe->Prop}
  (ho:s.heap.get? S=YB o) (hex:o.ExactSet) (hd:o.data= .set es ep t) (he:ElemsOf (Vx prog w) es1.toList) (hb:es1.size<Ug) (hf:t1.fits es1.size=YD) (ht:Tb b t1)
  (q:∀h' ks',Ba S s.heap h'->SetI prog w b h' S ks'->ks'.Perm (es1.toList.map λe=>vI e.2)->R (YB YD) { s with heap:=h' }) :
  Xy (XR prog w) A (do
    storeSet S es1 t1
    if(!wasDummy&&t1.tooFull)=YD then do
      g (relayAll t1 es1 (Vv es1.size)).2.2
      storeSet S (relayAll t1 es1 (Vv es1.size)).1 (relayAll t1 es1 (Vv es1.size)).2.1
      pure (YB YD)
     else pure (YB YD)) R E s:=by
 refine Xb (wpAny_storeSet_of ho hd ?_ (fits_of_scanBound hb));obtain⟨g1,S1⟩:=SetI.put (b:=b) ho hex hd he hb hf ht;split
 .have pm:=relayAll_perm t1 es1 (Vv es1.size)
  have ff:=relayAll_fits t1 es1 (Vv es1.size);have tt:=ht.relay es1 (Vv es1.size);generalize relayAll t1 es1 (Vv es1.size)=Rl at pm ff tt|-
  obtain⟨es2,t3,gv⟩:=Rl;have sz:es2.size=es1.size:=by rw[<-X5,pm.length_eq,X5]
  have b2:es2.size<Ug:=by rw[sz];exact hb
  refine Xb (hg _ _ _ (Xb (wpAny_storeSet_of g1 rfl ?_ (fits_of_scanBound b2))));obtain⟨_,S2⟩:=SetI.put (b:=b) g1 hex rfl (he.perm pm) b2 ff tt;exact Xo (q _ _ ((JM s.heap S _).trans (JM _ S _)) S2 (pm.map _))
 .exact Xo (q _ _ (JM s.heap S _) S1 (.refl _))
theorem Z92{S:YG}{k:Int}{u:Tok}{Q:Bool->Xe->Prop}(hS:SetI prog w b s.heap S ks)(hr:ks.length+1<Ug)
  (q:∀v h' tk ks',Ba S s.heap h'->SetI prog w b h' S ks'->(k∈ks->ks'=ks)->(k∉ks->ks'.Perm (ks++[k]))->Q v { s with heap:=h',toks:=tk }):Xy (XR prog w) A (setAdd S (.int k u)) Q E s:=by
 have hS0:=hS;obtain⟨o,es,ep,t,ho,hex,hd,he,hb,hf,ht,rfl⟩:=hS;unfold setAdd;refine BK (Xb ((Vx prog w).pyHash (k:=k) (intKind_is _ _ _ _) ?_));show Xy _ _ (setAddHashed S (.int k u) ((Vx prog w).hash k)) Q E { s with toks:=s.toks+1 };unfold setAddHashed setAddHashedIn;refine BK (Xb (Ur (s:={ s with toks:=s.toks+1 }) ho hd hf ?_));dsimp only;rw[byScan_of (x:=.int k u) rfl hb he,YL rfl];unfold setAddByScan;refine Xb (Xb (Ue (Xb (wpAny_setScan_of (s:={ s with toks:=s.toks+1 }) (intKind_is prog w k u) ho hd hf he ?_))));cases hx:List.findIdx? (λe=>(Vx prog w).is k e.2) es.toList with
 | some j=>
  dsimp only;obtain⟨hj,pj,_⟩:=List.findIdx?_eq_some_iff_getElem.mp hx;obtain⟨tj,ej⟩:=Zsr pj;have hk:k∈es.toList.map λe=>vI e.2:=Qe.mpr ⟨_,Uq hj,by rw[ej];rfl⟩;exact Xo (Xo (q _ s.heap _ _ (Ba.refl ..) hS0 (λ_=>rfl) λz=>YX hk z))
 | none=>
  dsimp only;have hk:k∉es.toList.map λe=>vI e.2:=λz=>by
   obtain⟨e,m,ev⟩:=Qe.mp z;obtain⟨⟨k',i1,_⟩,_⟩:=he e m;obtain⟨t',e2⟩:=Zsr i1;have:=List.findIdx?_eq_none_iff.mp hx e m;rw[e2]at this ev;cases ev;have z2:(Vx prog w).is k' (.int k' t')=YF:=this;rw[intKind_is]at z2;cases z2
  have gw:∀(c:Bool) {s₁:Xe} {Q':Unit->Xe->Prop},Q' () s₁->Xy (XR prog w) A (match c with|true=>rule "set.scan.the-table-gave-way"|false=>pure ()) Q' E s₁:=λc s₁ Q' z=>by
   cases c<;>first|exact Xo z|exact Ue z
  have pm:=layNew_perm t es ((Vx prog w).hash k) (.int k u);have ff:=layNew_fits t es ((Vx prog w).hash k) (.int k u);have tt:=ht.lay es ((Vx prog w).hash k) (.int k u);generalize layNew t es ((Vx prog w).hash k) (.int k u)=Ln at pm ff tt|-
  obtain⟨es1,t1,wd,gv⟩:=Ln;dsimp only at pm ff tt|-
  rw[Array.toList_push]at pm;have he1:ElemsOf (Vx prog w) es1.toList:=(he.push (intKind_is prog w k u) rfl).perm pm;have hb1:es1.size<Ug:=by
   rw[<-X5,pm.length_eq,QL];rw[Xg]at hr;exact hr
  refine Xb (gw _ ?_);have fin:∀h' ks',Ba S s.heap h'->SetI prog w b h' S ks'->ks'.Perm (es1.toList.map λe=>vI e.2)->Xy (XR prog w) A (pure YD) Q E { s with heap:=h',toks:=s.toks+1 }:=λh' ks' sb S' p'=>Xo (q _ h' _ ks' sb S' (λz=>YX z hk) λ_=>p'.trans (by
   have:=pm.map (λe:Int×Xd=>vI e.2);rw[JZ]at this;exact this))
  have hv:hashByValue 8 (.int k u)=pure YD:=hashByValue_scannable 8 (x:=.int k u) rfl;split
  .refine Xb ?_
   rw[hv];refine Xo ?_;simp only[if_true];exact Zxx (s:={ s with toks:=s.toks+1 }) (by intro c s₁ Q' z;cases c<;>first|exact Xo z|exact Ue z) ho hex hd he1 hb1 ff tt λh' ks' sb S' p'=>fin h' ks' sb S' p'
  .refine Xb (Xo ?_)
   simp only[if_true];exact Zxx (s:={ s with toks:=s.toks+1 }) (by intro c s₁ Q' z;cases c<;>first|exact Xo z|exact Ue z) ho hex hd he1 hb1 ff tt λh' ks' sb S' p'=>fin h' ks' sb S' p'
end
def byT(w:Qp):Bool:=w.params.followText "set-order"
def Of(ks ns:List Int):Prop:=ks.Nodup/\∀x,x∈ks↔x∈ns
section
variable {R:Result->Xe->Prop}{fp:List YG}{n:Nat}{Pv:Nat->Xd->Prop}{St:Nat->YH->Prop}{b:Bool}
theorem Z45(W:Walks prog w A.in1 I fp wr n Pv St)(S:YG)(sf:S∉fp)(ns:List Int)(ln:ns.length=n)(lb:n+1<Ug)(hv:∀i v,Pv i v->∃k t,v= .int k t/\ns[i]? =YB k) :
  ∀(m i:Nat) (s:Xe) (ks:List Int),n-i=m->i<=n->St i s.heap->SetI prog w b s.heap S ks->Of ks (ns.take i)->ks.length<=i ->
  (∀ h' tk ks',SetI prog w b h' S ks'->Of ks' ns->(∀b o,b∉wr->b≠S->s.heap.get? b=YB o->h'.get? b=YB o)->R (.ok (.ret .none)) { s with heap:=h',toks:=tk }) ->
  UT (XR prog w) A (.builtin "set.update.loop" ⟨[.ref S,.ref I],[]⟩) R s:=by
 have sw:S∉wr:=λh=>sf (W.sub _ h);intro m
 induction m with
 | zero=>
  intro i s ks em ei st hS hO lk r;have en:i=n:=by omega
  refine BV F.entry_set_update_loop ?_;rw[Bx F.plain_set_update_loop _];show Xy _ A.in1 (V7 (.ref I)>>=_) _ _ _;refine Xb (W.done s _ _ (en▸st) λh' tk kp=>?_);show Xy _ A.in1 (ret QD) _ _ { s with heap:=h',toks:=tk };rw[List.take_of_length_le (by omega)]at hO;exact Xo (r h' tk ks (hS.stay λo e=>kp S o sw e) hO λb o nb _ e=>kp b o nb e)
 | succ m ih=>
  intro i s ks em ei st hS hO lk r;have lt:i<n:=by omega
  refine BV F.entry_set_update_loop ?_;rw[Bx F.plain_set_update_loop _];show Xy _ A.in1 (V7 (.ref I)>>=_) _ _ _;refine Xb (W.item i s _ _ lt st λv h' tk pv st' kp=>?_);obtain⟨k,t,rfl,ek⟩:=hv i v pv;show Xy _ A.in1 (holding [Vt k t] (setAdd S (.int k t))>>=_) _ _ { s with heap:=h',toks:=tk };refine Xb (BK (Z92 (s:={ s with heap:=h',toks:=tk }) (hS.stay λo e=>kp S o sw e) (by omega) λv h2 tk2 ks2 sb hS2 c1 c2=>?_));have k2:∀b o,b≠S->h'.get? b=YB o->h2.get? b=YB o:=λb o nS e=>by rw[sb.2 b nS];exact e
  have et:ns.take (i+1)=ns.take i++[k]:=by rw[U4,ek];rfl
  have hO2:Of ks2 (ns.take (i+1))/\ks2.length<=i+1:=by
   by_cases c:k∈ks
   .rw[c1 c]
    refine⟨⟨hO.1,λx=>?_⟩,Nat.le_succ_of_le lk⟩;rw[et,Qt,<-hO.2,Xv];exact⟨.inl,λm=>m.elim id λe=>e▸c⟩
   .have pm:=c2 c
    refine⟨⟨pm.nodup_iff.mpr (JS.mpr ⟨hO.1,Qh.mpr ⟨(λz=>nomatch z),.nil⟩,λa ha y hy e=>c (by rw[<-Xv.mp hy,<-e];exact ha)⟩),λx=>?_⟩,by rw[pm.length_eq,QL];exact Nat.succ_le_succ lk⟩;rw[pm.mem_iff,et,Qt,Qt,hO.2]
  refine Xo ⟨V9 F.plain_set_update_loop _,ih (i+1) _ ks2 (by omega) lt (W.frame _ _ _ st' λb bf o e=>k2 b o (λh:b=S=>sf (by rw[<-h];exact bf)) e) hS2 hO2.1 hO2.2 λh3 tk3 ks3 hS3 hO3 kp3=>?_⟩;exact r h3 tk3 ks3 hS3 hO3 λb o nb nS e=>kp3 b o nb nS (k2 b o nS (kp b o nb e))
end
theorem Yb5(a:Xd){Q₁:Xd->Xe->Prop}(h:Q₁ (.ref s.heap.objs.size) { s with heap:=s.heap.push { cls:=.type "set",dict:=YC,data:=.set #[] 0 (.fresh 0 0 (!byT w)) } }) :
  UT (XR prog w) A (.call (.builtin "set.__new__") ⟨[.type "set",a],[]⟩) (wants Q₁ E) s:=by
 refine codeAny_of_tree ?_;show Xy _ A.in1 (do checkBuiltinCall "set.__new__" ⟨[.type "set",a],[]⟩;again (.builtin "set.__new__" ⟨[.type "set",a],[]⟩)) _ _ s;refine Xb (wpAny_of_eq (F.newCall_set_1 a) (Xo ⟨V9 F.plain_set_new _,BV F.entry_set_new ?_⟩));rw[Bx F.plain_set_new _];unfold Ve.«set.__new__» Builtin.Frozenset.newClass;have hsub:=sub_set_self;obtain⟨hp,g,d,tk,os⟩:=s;dsimp only
 wp_walk
 refine wpAny_askSetting (Xo ?_);dsimp only;simp only[newObj];exact Xb (wpAny_alloc (Xo (Xo h)))
theorem Z8w{its:Array Xd}{b:Bool}(hh:A.handled=YC)(hl:s.heap.IsList l its)(ln:ns.length=its.size)(lb:its.size+1<Ug)(hv:∀(i:Nat) (v:Xd),its[i]? =YB v->∃k t,v=Vt k t/\ns[i]? =YB k)
  (q:∀h' tk ks,SetI prog w b h' s.heap.objs.size ks->Of ks ns->(∀b o,b<s.heap.objs.size->s.heap.get? b=YB o->h'.get? b=YB o)->Q .none { s with heap:=h',toks:=tk }) :
  Xy (XR prog w) A (Ve.«set.__init__» ⟨[Qj s.heap.objs.size,Qj l],[]⟩) (λfin s'=>∃v,fin= .done (.ret v)/\Q v s') E { s with heap:=s.heap.push { cls:=.type "set",dict:=YC,data:=.set #[] 0 (.fresh 0 0 b) } }:=by
 obtain⟨ol,hol,hcl,nl,hdl⟩:=id hl;obtain⟨ocls,odict,odata,oslots⟩:=ol;simp only at hcl hdl;subst hcl hdl;have ho':(s.heap.push { cls:=.type "set",dict:=YC,data:=.set #[] 0 (.fresh 0 0 b) }).get? l=YB { cls:=.type "list",dict:=odict,data:=.seq its nl,slots:=oslots }:=Xf _ hol;have gS:(s.heap.push { cls:=.type "set",dict:=YC,data:=.set #[] 0 (.fresh 0 0 b) }).get? s.heap.objs.size=YB { cls:=.type "set",dict:=YC,data:=.set #[] 0 (.fresh 0 0 b) }:=Xx _ rfl;have hT:Shared.TypeIs { s with heap:=s.heap.push { cls:=.type "set",dict:=YC,data:=.set #[] 0 (.fresh 0 0 b) } } (.ref s.heap.objs.size) "set" :=⟨_,gS,rfl⟩;have h1:=F.sub_list_set;have h2:=F.sub_list_frozenset;have h3:(Value.type "list"==Value.type "dict")=YF:=by decide
 have hl1:(s.heap.push { cls:=.type "set",dict:=YC,data:=.set #[] 0 (.fresh 0 0 b) }).IsList l its:=⟨_,ho',rfl,nl,rfl⟩;unfold Ve.«set.__init__» noKeywords Builtin.Frozenset.updateFrom;generalize hPI:pyIter=PI
 wp_walk
 subst hPI;refine wpAny_pyIter_list hl1 (Xb (wpAny_runValue ?_));have lS:l<s.heap.objs.size:=Xz hol;refine Z45 (b:=b) (Walks.list (by simpa using hh) _ l ?hne its) s.heap.objs.size ?sf ns ln lb (λi v hiv=>hv i v hiv) its.size 0 _ [] (by omega) (QG _) ⟨⟨_,Xx _ rfl,rfl,rfl⟩,hl1.push _⟩ ⟨_,#[],0,_,Xf _ gS,⟨rfl,rfl,rfl⟩,rfl,(λe m=>nomatch m),(by decide),rfl,⟨rfl,λ_=>.nil⟩,rfl⟩ ⟨.nil,λx=>by rw[List.take_zero]⟩ (XQ _) ?hR
 case hne=>rw[QC];exact Xq (Bl lS)
 case sf=>
  rw[QC];intro m;rcases Xi.mp m with e|m
  .exact Xq (QH _) e
  .exact XD lS (Xv.mp m)
 case hR=>
  intro h' tk ks hS hO kp;refine Xo ?_;show Xy _ _ (ret QD) _ _ { s with heap:=h',toks:=tk };refine Xo ⟨_,rfl,q h' tk ks hS hO λb o lb e=>?_⟩;refine kp b o (λm=>?_) (Xq lb) (Xf _ (Xf _ e));rw[QC]at m;exact Xq (Bl lb) (Xv.mp m)
theorem Zqq{its:Array Xd}(hh:A.handled=YC)(hl:s.heap.IsList l its)(ln:ns.length=its.size)(lb:its.size+1<Ug)(hv:∀(i:Nat) (v:Xd),its[i]? =YB v->∃k t,v=Vt k t/\ns[i]? =YB k)
  (q:∀h' tk ks,SetI prog w (!byT w) h' s.heap.objs.size ks->Of ks ns->(∀b o,b<s.heap.objs.size->s.heap.get? b=YB o->h'.get? b=YB o)->Q (Qj s.heap.objs.size) { s with heap:=h',toks:=tk }) :
  Xy (XR prog w) A (call (.type "set") [Qj l]) Q E s:=by
 obtain⟨c,tl,e0⟩:=V2.mro;have e1:=V2.made;have e2:=V2.sub;refine wpAny_call (codeAny_of_tree ?_);show Xy _ _ (callAny (.type "set") _) _ _ _;refine Xo ⟨Code.quiet_builtin _ (by decide +kernel),BV F.entry_type_call ?_⟩;rw[Qk.under_plain (weight_type_call_type "set" [Qj l] []) rfl];have e3:=V2.notType;have e4:=V2.canCreate;have e5:=F.typeCall_set_1 (Qj l)
 repeat any_goals first|assumption|wp_step
 refine codeAny_mono (Yb5 (Qj l) (E:=E) (Q₁:=λobj s1=>obj=Qj s.heap.objs.size/\s1={ s with heap:=s.heap.push { cls:=.type "set",dict:=YC,data:=.set #[] 0 (.fresh 0 0 (!byT w)) } }) ⟨rfl,rfl⟩) λr s1 r1=>?_;cases r with
 | error e=>exact r1
 | ok fl=>
  cases fl with
  | ret obj=>
   obtain⟨rfl,rfl⟩:=r1;have gS:(s.heap.push { cls:=.type "set",dict:=YC,data:=.set #[] 0 (.fresh 0 0 (!byT w)) }).get? s.heap.objs.size=YB { cls:=.type "set",dict:=YC,data:=.set #[] 0 (.fresh 0 0 (!byT w)) }:=Xx _ rfl;have hT:Shared.TypeIs { s with heap:=s.heap.push { cls:=.type "set",dict:=YC,data:=.set #[] 0 (.fresh 0 0 (!byT w)) } } (Qj s.heap.objs.size) "set" :=⟨_,gS,rfl⟩;have e6:=V2.init.lookup;have e7:=V2.init.bind (Qj s.heap.objs.size)
   repeat any_goals first|assumption|wp_step
   refine codeAny_mono (codeAny_call_builtin (R:=wants (λr s2=>r= .none/\∃h' tk ks,s2={ s with heap:=h',toks:=tk }/\SetI prog w (!byT w) h' s.heap.objs.size ks/\Of ks ns/\∀b o,b<s.heap.objs.size->s.heap.get? b=YB o->h'.get? b=YB o) E) V2.init.plain F.entry_set_init (check_set_init_1 hT ?_)) λr2 s2 hr2=>?_
   .refine Qw (Z8w (b:=!byT w) (by simpa using hh) hl ln lb hv (Q:=λr s2=>r= .none/\∃h' tk ks,s2={ s with heap:=h',toks:=tk }/\SetI prog w (!byT w) h' s.heap.objs.size ks/\Of ks ns/\∀b o,b<s.heap.objs.size->s.heap.get? b=YB o->h'.get? b=YB o) λh' tk ks a1 a2 a3=>⟨rfl,h',tk,ks,rfl,a1,a2,a3⟩) (λfin s' hf=>?_) λ_ _ x=>x
    obtain⟨v,rfl,hq⟩:=hf;exact hq
   .cases r2 with
    | error e=>exact hr2
    | ok fl2=>
     cases fl2 with
     | ret r=>
      obtain⟨rfl,h',tk,ks,rfl,a1,a2,a3⟩:=hr2
      repeat any_goals first|assumption|wp_step
      exact q h' tk ks a1 a2 a3
     | _=>exact hr2.elim
  | _=>exact r1.elim
theorem Zt:Slot "set_iterator" "__next__" "set_iterator.__next__" :=
 .of (owner :="set_iterator") (n :="__next__") (by rw[typeLookup_type,builtinLookup_eq_fast];kernel_rfl) (by decide +kernel) (by decide +kernel) (by decide +kernel) (by first|exact .inl (by decide +kernel)|exact .inr (by decide +kernel)) (by rw[isSubtype_type];kernel_rfl)
theorem Wn:entryFor table "set_iterator.__next__"=YB Ve.«set_iterator.__next__»:=entryFor_of_fast (by kernel_rfl)
theorem Wv(a:Xd):argsOk "set_iterator.__next__" ⟨[a],[]⟩:=by unfold argsOk;kernel_rfl
def Z87(h:YH)(I S:YG)(slot i n ep:Nat):Prop:=h.get? I=YB { cls:=.type "set_iterator",data:=.fields #[JD slot,JD i,.ref S,JD n,JD ep] }
theorem Zrg:∀{l:List Y} {i:Nat} (h:i<l.length),(l[i]::l.eraseIdx i).Perm l:=fun{l}=>by
 induction l with
 | nil=>intro i h;cases h
 | cons a l ih=>
  intro i h;cases i with
  | zero=>exact .refl _
  | succ i=>exact(List.Perm.swap ..).trans ((ih (Nat.lt_of_succ_lt_succ h)).cons a)
theorem Z1f(f:Nat->Nat):∀(fuel k:Nat) (left:List Y) (out:Array Y),left.length=fuel->(pickOrder.go f fuel k left out).toList.Perm (out.toList++left):=by
 intro fuel
 induction fuel with
 | zero=>
  intro k left out l;rw[List.length_eq_zero_iff.mp l,QW,pickOrder.go]
 | succ fuel ih=>
  intro k left out l;rw[pickOrder.go];have hlt:f k%left.length<left.length:=Nat.mod_lt _ (by omega);rw[Xm hlt];dsimp only;refine(ih (k+1) _ _ (by rw[List.length_eraseIdx_of_lt hlt];omega)).trans ?_;rw[Array.toList_push,Vz];exact List.Perm.append_left _ (Zrg hlt)
theorem Zrr(f:Nat->Nat)(xs:Array Y):(pickOrder f xs).toList.Perm xs.toList:=by
 unfold pickOrder;have:=Z1f f xs.size 0 xs.toList #[] (by rw[X5])
 rwa[List.nil_append]at this
theorem Zty{src:Source}{n:Nat}{Q:Nat->Xe->Prop}(hn:n≠0)(h:∀i,i<n->Q i { s with drawn:=s.drawn.bump src }):Xy (XR prog w) A (choose src n) Q E s:=fun Γ p _=>by
 show Sem.wp _ _ (.choose src n .pure) _ _ _ _;rw[Sem.wp_choose];exact⟨hn,h _ (Nat.mod_lt _ (Nat.pos_of_ne_zero hn))⟩
theorem Z2e:∀(n:Nat) (xs:List Y) (s:Xe) (Q:List Y->Xe->Prop),xs.length=n->(∀ys d,ys.Perm xs->Q ys { s with drawn:=d })->Xy (XR prog w) A (drawOrder n xs) Q E s:=by
 intro n
 induction n with
 | zero=>
  intro xs s Q l q;rw[List.length_eq_zero_iff.mp l]at q|-
  exact Xo (q [] s.drawn (.refl _))
 | succ n ih=>
  intro xs s Q l q;cases xs with
  | nil=>cases l
  | cons a xs=>
   rw[drawOrder];refine Xb (Zty (by rw[l];exact Nat.succ_ne_zero _) λi hi=>?_);rw[Xm hi];dsimp only;refine Xb (ih _ _ _ (by rw[List.length_eraseIdx_of_lt hi];omega) λys d pm=>Xo (q _ d ?_))
   .exact(pm.cons _).trans (Zrg hi)
   .intro z;cases z
def Zfg(w:Qp)(S:YG)(ep:Nat)(es:Array (Int×Xd)):List Xd:=(if byT w then(pickOrder (w.params.setOrder S ep) es).toList else es.toList).map (·.2)
theorem Zet{S:YG}{ep:Nat}{es:Array (Int×Xd)}:(Zfg w S ep es).Perm (es.toList.map (·.2)):=by
 unfold Zfg;split
 .exact(Zrr _ es).map _
 .exact .refl _
def Zjg(w:Qp)(t:Q4)(slot i:Nat):Prop:=byT w=YF->QQ t.place slot=i
theorem Zhf{Q:Bool->Xe->Prop}(h:Q (byT w) s):Xy (XR prog w) A setsByText Q E s:=by
 unfold setsByText;exact Xb (wpAny_askSetting (Xo h))
theorem Ziy{S:YG}{es:Array (Int×Xd)}{ep slot:Nat}{t:Q4}{Q:Option (Xd×Nat)->Xe->Prop}(ho:s.heap.get? S=YB o)(hd:o.data= .set es ep t)(hf:t.fits es.size=YD)(tb:Tb (!byT w) t)(hdr:byT w=YF->t.plain=YD\/es.size<=1)(hs:Zjg w t slot i)
  (q:∀r,(∀x,(Zfg w S ep es)[i]? =YB x->∃nx,r=YB (x,nx)/\Zjg w t nx (i+1))->((Zfg w S ep es)[i]? =YC->r=YC)->Q r s):Xy (XR prog w) A (setNext S slot i ep) Q E s:=by
 unfold setNext;refine Xb (Ur ho hd hf (Xb (Zhf ?_)));cases hb:byT w with
 | true=>
  have ew:Zfg w S ep es=(pickOrder (w.params.setOrder S ep) es).toList.map (·.2):=by unfold Zfg;rw[hb,YL rfl]
  simp only[if_true,bne_self_eq_false,Qg,if_false];unfold setWalk;refine Xb (Xb (Ur ho hd hf (Xb (Zhf ?_))));rw[hb];simp only[if_true];refine Xb (wpAny_askSetting (Xo (Xo (q _ (λx hx=>?_) λhx=>?_))))
  .rw[ew,Xp,Qv]at hx
   show∃nx,Option.map _ (pickOrder (w.params.setOrder S ep) es)[i]? =_/\_;cases e:(pickOrder (w.params.setOrder S ep) es)[i]? with
   | none=>rw[e]at hx;cases hx
   | some y=>
    rw[e]at hx;cases hx;exact⟨slot,rfl,λz=>by rw[hb]at z;cases z⟩
  .rw[ew,Xp,Qv]at hx
   show Option.map _ (pickOrder (w.params.setOrder S ep) es)[i]? =_;cases e:(pickOrder (w.params.setOrder S ep) es)[i]? with
   | none=>rfl
   | some y=>rw[e]at hx;cases hx
 | false=>
  have ew:Zfg w S ep es=es.toList.map (·.2):=by unfold Zfg;rw[hb];rfl
  have pl:=hdr hb;have le:=tb.led;rw[hb]at le;have bl:=hs hb;obtain⟨mask,place,dummies,finger,led,moves,plain⟩:=t;dsimp only at pl le bl;subst le;have sz0:place.size=es.size:=by
   unfold SetTable.fits at hf;rw[XM,YZ]at hf;exact hf.1
  have up:Up place.toList:=by
   rcases pl with pl|pl
   .exact tb.up pl
   .have l1:place.toList.length<=1:=by rw[X5,sz0];exact pl
    generalize place.toList=l at l1
    match l,l1 with
    | [],_=>exact .nil
    | [a],_=>exact List.pairwise_singleton _ _
  have dr:(!plain&&decide (es.size>1))=YF:=by
   rcases pl with pl|pl
   .rw[pl];rfl
   .rw[YS (by omega),Bool.and_false]
  simp only[Qg,if_false];show Xy _ _ (if(!plain&&decide (es.size>1))=YD then _ else _) _ _ _;rw[dr];simp only[Qg,if_false];refine Xb (Xo ?_);have sz:place.size=es.size:=by
   unfold SetTable.fits at hf;rw[XM,YZ]at hf;exact hf.1
  rw[bl];refine Xo (q _ (λx hx=>?_) λhx=>?_)
  .rw[ew,Xp,Qv]at hx
   cases e:es[i]? with
   | none=>rw[e]at hx;cases hx
   | some y=>
    rw[e]at hx;cases hx;have hi:i<place.size:=by rw[sz];exact(VG.mp e).1
    have ep:place[i]? =YB place[i]:=VN hi;rw[ep];exact⟨place[i]+1,rfl,λ_=>Zp6 up (by rw[Qv];exact ep)⟩
  .rw[ew,Xp,Qv]at hx
   cases e:es[i]? with
   | none=>rfl
   | some y=>rw[e]at hx;cases hx
theorem Zp5{S:YG}{es:Array (Int×Xd)}{ep slot:Nat}{t:Q4}{x:Xd}{Q:Option Xd->Xe->Prop}(hI:Z87 s.heap I S slot i es.size ep)(ho:s.heap.get? S=YB o)(hd:o.data= .set es ep t)(hf:t.fits es.size=YD)(tb:Tb (!byT w) t)(hdr:byT w=YF->t.plain=YD\/es.size<=1)(hs:Zjg w t slot i)(hx:(Zfg w S ep es)[i]? =YB x)
  (q:∀h' nx,Z87 h' I S nx (i+1) es.size ep->Zjg w t nx (i+1)->Ba I s.heap h'->Q (YB x) { s with heap:=h' }):Xy (XR prog w) A (V7 (.ref I)) Q E s:=by
 have hT:s.TypeIs (.ref I) "set_iterator" :=⟨_,hI,rfl⟩;unfold V7;refine Xb (UL (JN (name:=VP "__next__") hT Zt (JF Zt hT Wn ?_ (Wv _))));unfold Ve.«set_iterator.__next__» slotArgs fieldsOf;simp only[Uo,V3,Qg,if_false,Vi,bne_self_eq_false,pure_bind,bind_assoc];refine Xb (wpAny_load hI ?_);dsimp only;refine Xb (Xo ?_);show Xy _ _ (setEntries S>>=_) _ _ _;refine Xb (V6 ho hd hf ?_);rw[show(((es.size:Nat):Int) !=((es.size:Nat):Int))=YF from bne_self_eq_false _];simp only[Qg,if_false];show Xy _ _ (setNext S slot i ep>>=_) _ _ _;refine Xb (Ziy ho hd hf tb hdr hs λr h1 _=>?_);obtain⟨nx,rfl,sk⟩:=h1 x hx;dsimp only;refine Xb (QS hI (by simp) λh2 g2 b2=>?_);refine Xb (QS g2 (by simp) λh3 g3 b3=>?_);exact Xo ⟨_,rfl,Xo (q h3 nx g3 sk (b2.trans b3))⟩
theorem Zqr{S:YG}{es:Array (Int×Xd)}{ep slot:Nat}{t:Q4}{Q:Option Xd->Xe->Prop}(hh:A.handled=YC)(hI:Z87 s.heap I S slot i es.size ep)(ho:s.heap.get? S=YB o)(hd:o.data= .set es ep t)(hf:t.fits es.size=YD)(tb:Tb (!byT w) t)(hdr:byT w=YF->t.plain=YD\/es.size<=1)(hs:Zjg w t slot i)(hx:(Zfg w S ep es)[i]? =YC)
  (q:∀h',Heap.ExtBut I s.heap h'->Q YC { s with heap:=h' }):Xy (XR prog w) A (V7 (.ref I)) Q E s:=by
 have hT:s.TypeIs (.ref I) "set_iterator" :=⟨_,hI,rfl⟩;unfold V7;refine Xb (UL (JN (name:=VP "__next__") hT Zt (JF Zt hT Wn ?_ (Wv _))));unfold Ve.«set_iterator.__next__» slotArgs fieldsOf;simp only[Uo,V3,Qg,if_false,Vi,bne_self_eq_false,pure_bind,bind_assoc];refine Xb (wpAny_load hI ?_);dsimp only;refine Xb (Xo ?_);show Xy _ _ (setEntries S>>=_) _ _ _;refine Xb (V6 ho hd hf ?_);rw[show(((es.size:Nat):Int) !=((es.size:Nat):Int))=YF from bne_self_eq_false _];simp only[Qg,if_false];show Xy _ _ (setNext S slot i ep>>=_) _ _ _;refine Xb (Ziy ho hd hf tb hdr hs λr _ h2=>?_);rw[h2 hx];dsimp only;refine Xb (QS hI (by simp) λh3 g3 b3=>?_);show Xy _ _ (newExc (.type "StopIteration") []>>=_) _ _ _;refine Xb ?_;simp only[newExc,newTuple];refine Xb (JK ?_ (by size_fits));refine Xb (m:=Us _ _) (wpAny_of_eq (a:=QD) (by first|rfl|(simp only[Us];rfl)) ?_);refine JK ?_ (by size_fits);simp only[raiseNew];refine Xb (wpAny_handled ?_);rw[show A.in1.handled=YC from hh];refine Xb (Xo (wpAny_throw ?_));exact Xb (wpAny_isInstance (T :="StopIteration") (b:=YD) ⟨_,Xx _ rfl,rfl⟩ isSubtype_stop (Xo (q _ ((b3.extBut.push _).push _))))
def Z81(h:YH)(I S T:YG)(i n ep:Nat):Prop:=h.get? I=YB { cls:=.type "set_iterator",data:=.fields #[.ref T,JD i,.ref S,JD n,JD ep] }
def Ztu(ps:List Nat):Array Xd:=(ps.map λ(i:Nat)=>JD i).toArray
theorem Z29{ps:List Nat}{p:Nat}(h:ps[i]? =YB p):(Ztu ps)[i]? =YB (JD p):=by
 unfold Ztu;rw[Uj,Xp,h];rfl
theorem Zqs{ps:List Nat}(h:ps[i]? =YC):(Ztu ps)[i]? =YC:=by
 unfold Ztu;rw[Uj,Xp,h];rfl
theorem Zp2{S T:YG}{es:Array (Int×Xd)}{ep p:Nat}{t:Q4}{ps:List Nat}{x:Int×Xd}{Q:Option Xd->Xe->Prop}(hI:Z81 s.heap I S T i es.size ep)(hT2:s.heap.get? T=YB { cls:=.type "tuple",data:=.seq (Ztu ps) })(ho:s.heap.get? S=YB o)(hd:o.data= .set es ep t)(hf:t.fits es.size=YD)(hp:ps[i]? =YB p)(hx:es[p]? =YB x)
  (q:∀h',Z81 h' I S T (i+1) es.size ep->Ba I s.heap h'->Q (YB x.2) { s with heap:=h' }):Xy (XR prog w) A (V7 (.ref I)) Q E s:=by
 have hT:s.TypeIs (.ref I) "set_iterator" :=⟨_,hI,rfl⟩;unfold V7;refine Xb (UL (JN (name:=VP "__next__") hT Zt (JF Zt hT Wn ?_ (Wv _))));unfold Ve.«set_iterator.__next__» slotArgs fieldsOf;simp only[Uo,V3,Qg,if_false,Vi,bne_self_eq_false,pure_bind,bind_assoc];refine Xb (wpAny_load hI ?_);dsimp only;refine Xb (Xo ?_);show Xy _ _ (setEntries S>>=_) _ _ _;refine Xb (V6 ho hd hf ?_);rw[show(((es.size:Nat):Int) !=((es.size:Nat):Int))=YF from bne_self_eq_false _];simp only[Qg,if_false];show Xy _ _ (seqItems? (.ref T)>>=_) _ _ _;refine Xb (BL hT2 rfl ?_);dsimp only;rw[XX,Z29 hp];show Xy _ _ (setNextDrawn S p ep>>=_) _ _ _;unfold setNextDrawn;refine Xb (Xb (Ur ho hd hf ?_));dsimp only;rw[bne_self_eq_false];simp only[Qg,if_false];rw[hx];refine Xo ?_;refine Xb (QS hI (by simp) λh2 g2 b2=>?_);exact Xo ⟨_,rfl,Xo (q h2 g2 b2)⟩
theorem Ztl{S T:YG}{es:Array (Int×Xd)}{ep:Nat}{t:Q4}{ps:List Nat}{Q:Option Xd->Xe->Prop}(hh:A.handled=YC)(hI:Z81 s.heap I S T i es.size ep)(hT2:s.heap.get? T=YB { cls:=.type "tuple",data:=.seq (Ztu ps) })(ho:s.heap.get? S=YB o)(hd:o.data= .set es ep t)(hf:t.fits es.size=YD)(hp:ps[i]? =YC)
  (q:∀h',Heap.ExtBut I s.heap h'->Q YC { s with heap:=h' }):Xy (XR prog w) A (V7 (.ref I)) Q E s:=by
 have hT:s.TypeIs (.ref I) "set_iterator" :=⟨_,hI,rfl⟩;unfold V7;refine Xb (UL (JN (name:=VP "__next__") hT Zt (JF Zt hT Wn ?_ (Wv _))));unfold Ve.«set_iterator.__next__» slotArgs fieldsOf;simp only[Uo,V3,Qg,if_false,Vi,bne_self_eq_false,pure_bind,bind_assoc];refine Xb (wpAny_load hI ?_);dsimp only;refine Xb (Xo ?_);show Xy _ _ (setEntries S>>=_) _ _ _;refine Xb (V6 ho hd hf ?_);rw[show(((es.size:Nat):Int) !=((es.size:Nat):Int))=YF from bne_self_eq_false _];simp only[Qg,if_false];show Xy _ _ (seqItems? (.ref T)>>=_) _ _ _;refine Xb (BL hT2 rfl ?_);dsimp only;rw[XX,Zqs hp];dsimp only;refine Xb (QS hI (by simp) λh2 g2 b2=>?_);refine Xb (QS g2 (by simp) λh3 g3 b3=>?_);show Xy _ _ (newExc (.type "StopIteration") []>>=_) _ _ _;refine Xb ?_;simp only[newExc,newTuple];refine Xb (JK ?_ (by size_fits));refine Xb (m:=Us _ _) (wpAny_of_eq (a:=QD) (by first|rfl|(simp only[Us];rfl)) ?_);refine JK ?_ (by size_fits);simp only[raiseNew];refine Xb (wpAny_handled ?_);rw[show A.in1.handled=YC from hh];refine Xb (Xo (wpAny_throw ?_));exact Xb (wpAny_isInstance (T :="StopIteration") (b:=YD) ⟨_,Xx _ rfl,rfl⟩ isSubtype_stop (Xo (q _ (((b2.trans b3).extBut.push _).push _))))
theorem Zic:entryFor table "set.__iter__"=YB Ve.«frozenset.__iter__»:=entryFor_alias (id' :="frozenset.__iter__") (by kernel_rfl) rfl (by decide +kernel) (by kernel_rfl)
theorem Zb0:Slot "set_iterator" "__iter__" "set_iterator.__iter__" :=
 .of (owner :="set_iterator") (n :="__iter__") (by rw[typeLookup_type,builtinLookup_eq_fast];kernel_rfl) (by decide +kernel) (by decide +kernel) (by decide +kernel) (by first|exact .inl (by decide +kernel)|exact .inr (by decide +kernel)) (by rw[isSubtype_type];kernel_rfl)
theorem Zer:entryFor table "set_iterator.__iter__"=YB Ve.«dict_keyiterator.__iter__»:=entryFor_alias (id' :="dict_keyiterator.__iter__") (by kernel_rfl) (by first|rfl|decide +kernel|(unfold String.splitOn;simp +decide [String.splitOnAux])) (by decide +kernel) (by kernel_rfl)
theorem Zfj(a:Xd):argsOk "set_iterator.__iter__" ⟨[a],[]⟩:=by unfold argsOk;kernel_rfl
theorem Ziv{vs:Array Xd}(hI:s.heap.get? I=YB { cls:=.type "set_iterator",data:=.fields vs })(h:Q (.ref I) s):Xy (XR prog w) A (pyIter (.ref I)) Q E s:=by
 have hT:s.TypeIs (.ref I) "set_iterator" :=⟨_,hI,rfl⟩;refine wpAny_pyIter_slot hT Zb0 (JF Zb0 hT Zer ?_ (Zfj _));show Xy _ _ (ret (.ref I)) _ _ s;exact Xo ⟨_,rfl,"set_iterator",_,hT,Zt.lookup,h⟩
theorem Z7i{S:YG}{es:Array (Int×Xd)}{ep:Nat}{t:Q4}(ho:s.heap.get? S=YB o)(hex:o.ExactSet)(hd:o.data= .set es ep t)(hf:t.fits es.size=YD)(hz:es.size<=1000)
  (q1:(byT w=YF->t.plain=YD\/es.size<=1)->Q (.ref s.heap.objs.size) { s with heap:=s.heap.push { cls:=.type "set_iterator",data:=.fields #[JD 0,JD 0,.ref S,JD es.size,JD ep] } })
  (q2:∀ps d,ps.Perm (Xu es.size)->Q (.ref (s.heap.objs.size+1)) { s with heap:=(s.heap.push { cls:=.type "tuple",data:=.seq (Ztu ps) }).push { cls:=.type "set_iterator",data:=.fields #[.ref s.heap.objs.size,JD 0,.ref S,JD es.size,JD ep] },drawn:=d }):Xy (XR prog w) A (pyIter (.ref S)) Q E s:=by
 have hT:s.TypeIs (.ref S) "set" :=⟨o,ho,hex.1⟩;refine wpAny_pyIter_slot hT F.slot_set_iter (JF F.slot_set_iter hT Zic ?_ (F.args_set_iter_1 _));unfold Ve.«frozenset.__iter__» Builtin.Frozenset.slot0 slotArgs;simp only[Uo,V3,Qg,if_false,Vi,bne_self_eq_false,pure_bind,bind_assoc];unfold Builtin.Frozenset.addrOf Builtin.Frozenset.sizeOf setDrawn;refine Xb (Xo ?_);refine Xb (Xb (V6 ho hd hf (Xo ?_)));refine Xb (Xb (Ur ho hd hf (Xb (Zhf (Xo ?_)))));show Xy _ _ (if(!byT w&&(!t.plain&&decide (es.size>1)))=YD then _ else _) _ _ _
 by_cases c:(!byT w&&(!t.plain&&decide (es.size>1)))=YD
 .rw[YL c]
  refine Xb (Z2e _ _ _ _ Xk λps d pm=>?_);refine Xb (wpAny_newTuple ?_ (by rw[Xg,pm.length_eq,Xk,X7];omega));refine Xb (wpAny_setEpoch_of (Xf _ ho) hd hf ?_);have e:(s.heap.push { cls:=.type "tuple",data:=.seq (Ztu ps) }).objs.size=s.heap.objs.size+1:=QC ..;refine Xb (JK (Xo ⟨_,rfl,"set_iterator",_,⟨_,Xx _ rfl,rfl⟩,Zt.lookup,?_⟩));have:=q2 ps d pm;rw[<-e]at this;exact this
 .rw[YM c]
  refine Xb (wpAny_setEpoch_of ho hd hf ?_);refine Xb (JK (Xo ⟨_,rfl,"set_iterator",_,⟨_,Xx _ rfl,rfl⟩,Zt.lookup,q1 λhb=>?_⟩));rw[hb]at c;cases hp:t.plain with
  | true=>exact .inl rfl
  | false=>
   rw[hp]at c;exact .inr (Nat.le_of_not_lt λz=>c (by rw[YQ z];rfl))
theorem Z7e(hh:A.handled=YC){S:YG}(ne:S≠I){es:Array (Int×Xd)}{ep:Nat}{t:Q4}(hd:o.data= .set es ep t)(hf:t.fits es.size=YD)(tb:Tb (!byT w) t)(hdr:byT w=YF->t.plain=YD\/es.size<=1) :
  Walks prog w A I [I,S] [I] es.size (λi v=>(Zfg w S ep es)[i]? =YB v) (λi h=>(∃slot,Z87 h I S slot i es.size ep/\Zjg w t slot i)/\h.get? S=YB o) where
 sub:=λb hb=>by rw[Xv.mp hb];exact .head _
 frame:=λi h h' st k=>by
  obtain⟨⟨slot,h1,h2⟩,h3⟩:=st;exact⟨⟨slot,k I (.head _) _ h1,h2⟩,k S (.tail _ (.head _)) _ h3⟩
 item:=λi s Q E hi st q=>by
  obtain⟨⟨slot,h1,h2⟩,h3⟩:=st;have hl:i<(Zfg w S ep es).length:=by rw[Zet.length_eq,Xg,X5];exact hi
  have hx:=Xm hl;refine Zp5 h1 h3 hd hf tb hdr h2 hx λh' nx g1 g2 g3=>?_;exact q _ h' s.toks hx ⟨⟨nx,g1,g2⟩,g3.extBut _ _ ne h3⟩ λb o nb e=>g3.extBut _ _ (λz=>nb (Xv.mpr z)) e
 done:=λs Q E st q=>by
  obtain⟨⟨slot,h1,h2⟩,h3⟩:=st;refine Zqr hh h1 h3 hd hf tb hdr h2 (QB (by rw[Zet.length_eq,Xg,X5];exact XQ _)) λh' g=>?_;exact q h' s.toks λb o nb e=>g _ _ (λz=>nb (Xv.mpr z)) e
 self:=λi s Q E st q=>by
  obtain⟨⟨slot,h1,h2⟩,h3⟩:=st;exact Ziv h1 q
def Zkm(ps:List Nat)(es:Array (Int×Xd)):List Xd:=ps.filterMap λp=>es[p]?.map (·.2)
theorem Zlf{ps:List Nat}{es:Array (Int×Xd)}(pm:ps.Perm (Xu es.size)):(Zkm ps es).Perm (es.toList.map (·.2)):=by
 have e:Zkm (Xu es.size) es=es.toList.map (·.2):=by
  have h:=filterMap_getElem?_range es;unfold Zkm;rw[<-List.map_filterMap,h]
 rw[<-e];exact pm.filterMap _
theorem Z1j{ps:List Nat}{es:Array (Int×Xd)}(h:∀p∈ps,p<es.size):∀{i p:Nat},ps[i]? =YB p->∃x,es[p]? =YB x/\(Zkm ps es)[i]? =YB x.2:=by
 induction ps with
 | nil=>intro i p e;cases e
 | cons a ps ih=>
  intro i p e;have ha:=h a (.head _);have ea:es[a]? =YB es[a]:=VN ha;have ed:Zkm (a::ps) es=es[a].2::Zkm ps es:=by
   unfold Zkm;rw[V0,ea];rfl
  rw[ed];cases i with
  | zero=>
   cases e;exact⟨_,ea,rfl⟩
  | succ i=>exact ih (λp m=>h p (.tail _ m)) e
theorem Z38(hh:A.handled=YC){S T:YG}(n1:S≠I)(n2:T≠I){es:Array (Int×Xd)}{ep:Nat}{t:Q4}{ps:List Nat}(hd:o.data= .set es ep t)(hf:t.fits es.size=YD)(pm:ps.Perm (Xu es.size)) :
  Walks prog w A I [I,S,T] [I] es.size (λi v=>(Zkm ps es)[i]? =YB v) (λi h=>Z81 h I S T i es.size ep/\h.get? S=YB o/\h.get? T=YB { cls:=.type "tuple",data:=.seq (Ztu ps) }) where
 sub:=λb hb=>by rw[Xv.mp hb];exact .head _
 frame:=λi h h' st k=>⟨k I (.head _) _ st.1,k S (.tail _ (.head _)) _ st.2.1,k T (.tail _ (.tail _ (.head _))) _ st.2.2⟩
 item:=λi s Q E hi st q=>by
  have hl:i<ps.length:=by rw[pm.length_eq,Xk];exact hi
  have hp:=Xm hl;obtain⟨x,h1,h2⟩:=Z1j (es:=es) (λp m=>Qd.mp (pm.mem_iff.mp m)) hp;refine Zp2 st.1 st.2.2 st.2.1 hd hf hp h1 λh' g1 g3=>?_;exact q _ h' s.toks h2 ⟨g1,g3.extBut _ _ n1 st.2.1,g3.extBut _ _ n2 st.2.2⟩ λb o nb e=>g3.extBut _ _ (λz=>nb (Xv.mpr z)) e
 done:=λs Q E st q=>by
  refine Ztl hh st.1 st.2.2 st.2.1 hd hf (QB (by rw[pm.length_eq,Xk];exact XQ _)) λh' g=>?_;exact q h' s.toks λb o nb e=>g _ _ (λz=>nb (Xv.mpr z)) e
 self:=λi s Q E st q=>Ziv st.1 q
theorem Zz5:typeLookup (.type "set") "__len__"=pure (YB (.builtin "set.__len__")):=F.slot_set_len.lookup
theorem Zxy{S:YG}{Q:Bool->Xe->Prop}(ho:s.heap.get? S=YB o)(hex:o.ExactSet)(h:Q YF s):Xy (XR prog w) A (Builtin.List.listLengthHint (.ref S)) Q E s:=by
 have hT:s.TypeIs (.ref S) "set" :=⟨o,ho,hex.1⟩;unfold Builtin.List.listLengthHint;refine Xb (wpAny_specialOf hT Zz5 ?_);generalize hid:("set.__len__" : String)=id0
 (fail_if_success (clear hid id0))
 wp_delta
 rw[show splitId id0=YB ("set","__len__")from by subst hid;decide +kernel];subst hid;refine Xb (wpAny_isInstance (b:=YD) hT (by rw[isSubtype_type];kernel_rfl) ?_);simp only[V3,Qg,if_false];rw[YL (by decide +kernel)];refine Xb (wpAny_typeOf hT ?_);exact Xo h
theorem Zle{N:YG}{fp:List YG}{n:Nat}{P:Nat->Xd->Prop}{St:Nat->YH->Prop}{R:Result->Xe->Prop}(W:Walks prog w A.in1 I fp wr n P St)(hn:n<=1000)(hN:N∉fp)(st:St 0 s.heap)(gN:s.heap.get? N=YB { cls:=.type "list",data:=.seq #[] 2 })
  (q:∀h' tk (acc:Array Xd) c,acc.size=n->(∀(j:Nat) v,acc[j]? =YB v->P j v)->h'.get? N=YB { cls:=.type "list",data:=.seq acc c }->(∀b o,b∉N::wr->s.heap.get? b=YB o->h'.get? b=YB o)->R (.ok (.ret (.ref N))) { s with heap:=h',toks:=tk }) :
  UT (XR prog w) A (.builtin "list.extend.loop" ⟨[.ref N,.ref I,.ref N],[]⟩) R s:=by
 refine codeAny_extend_loopS W.toS (by rw[X7];omega) N hN (.ref N) n 0 s #[] 2 rfl (QG _) st gN (ItemsOf.nil P) λs' acc c hm g it=>?_;obtain⟨h',g',d',tk',os'⟩:=s';have eg:g'=s.gens:=hm.gens;have ed:d'=s.drawn:=hm.drawn;have eo:os'=s.os:=hm.os;subst eg ed eo;exact q h' tk' acc c it.1 it.2 g hm.heap
theorem Zqv{N:YG}{Q:Unit->Xe->Prop}(gN:s.heap.get? N=YB { cls:=.type "list",data:=.seq #[] 0 })(q:∀h',h'.get? N=YB { cls:=.type "list",data:=.seq #[] 2 }->Ba N s.heap h'->Q () { s with heap:=h' }):Xy (XR prog w) A (Builtin.List.listTouch (.ref N)) Q E s:=by
 unfold Builtin.List.listTouch;refine Xb (listUpdate_at gN rfl ?_ (by rw[X7];exact QG _) (by rw[X7];exact Ul rfl));have g1:=get?_update_seq (c :="list") (n:=0) gN (·.push .none);refine listUpdate_at g1 rfl (q _ ?_ ((JM ..).trans (JM ..))) (by rw[X7];exact Ul rfl) (by rw[X7];exact QG _);exact get?_update_seq (c :="list") g1 (·.pop)
theorem Zjc{l:List Y}{acc:Array Y}(h:acc.size=l.length)(k:∀(j:Nat) v,acc[j]? =YB v->l[j]? =YB v):acc.toList=l:=by
 refine Ub λj=>?_;rw[Qv];cases e:acc[j]? with
 | some v=>exact(k j v e).symm
 | none=>
  have:=Array.getElem?_eq_none_iff.mp e;exact(QB (by omega)).symm
theorem Zrf{S:YG}{es:Array (Int×Xd)}{ep:Nat}{t:Q4}{Q:List Xd->Xe->Prop}(hh:A.handled=YC)(ho:s.heap.get? S=YB o)(hex:o.ExactSet)(hd:o.data= .set es ep t)(hf:t.fits es.size=YD)(tb:Tb (!byT w) t)(hz:es.size<=1000)
  (q:∀h' tk d acc,acc.Perm (es.toList.map (·.2))->s.heap.objs.size<=h'.objs.size->(∀b o,b<s.heap.objs.size->s.heap.get? b=YB o->h'.get? b=YB o)->Q acc { s with heap:=h',toks:=tk,drawn:=d }):Xy (XR prog w) A (collect (.ref S)) Q E s:=by
 have lS:S<s.heap.objs.size:=Xz ho;unfold collect;refine Xb (wpAny_runValue (BV F.entry_proto_collect ?_));rw[Bx F.plain_proto_collect _];show Xy _ A.in1 (newList []>>= λl=>again (.builtin "list.__iadd__" ⟨[l,.ref S],[]⟩)) _ _ s;refine Xb (JK (Xo ⟨V9 F.plain_list_iadd _,BV F.entry_list_iadd ?_⟩));rw[Bx F.plain_list_iadd _];have g0:(s.heap.push { cls:=.type "list",data:=.seq ([]:List Xd).toArray }).get? s.heap.objs.size=YB { cls:=.type "list",data:=.seq #[] 0 }:=Xx _ rfl;have s0:(s.heap.push { cls:=.type "list",data:=.seq ([]:List Xd).toArray }).objs.size=s.heap.objs.size+1:=QC ..;have ho1:(s.heap.push { cls:=.type "list",data:=.seq ([]:List Xd).toArray }).get? S=YB o:=Xf _ ho;generalize hH:s.heap.push { cls:=.type "list",data:=.seq ([]:List Xd).toArray }=H1 at g0 s0 ho1|-
 have old:∀b o,s.heap.get? b=YB o->H1.get? b=YB o:=λb o e=>by rw[<-hH];exact Xf _ e
 show Xy _ A.in1 (Builtin.List.listExtendWith (.ref s.heap.objs.size) (.ref S) (.ref s.heap.objs.size)) _ _ { s with heap:=H1 };have hT1:Shared.TypeIs { s with heap:=H1 } (.ref S) "set" :=⟨o,ho1,hex.1⟩;have ns:Builtin.List.listSameRef (.ref s.heap.objs.size) (.ref S)=YF:=by simp[Builtin.List.listSameRef,XD lS]
 unfold Builtin.List.listExtendWith;refine Xb (wpAny_typeOf hT1 ?_);rw[YM (by rw[ns];decide)];refine Xb (Z7i (s:={ s with heap:=H1 }) ho1 hex hd hf hz (λhdr=>?_) λps d pm=>?_)
 .refine Xb (BK (Zxy (Xf _ ho1) hex ?_))
  rw[YL (by decide +kernel)];refine Xb (Ue (Xb (Zqv (Xf _ g0) λh2 g2 b2=>Xo ⟨V9 F.plain_extend_loop _,?_⟩)));have gI:h2.get? H1.objs.size=YB { cls:=.type "set_iterator",data:=.fields #[JD 0,JD 0,.ref S,JD es.size,JD ep] }:=b2.extBut _ _ (by rw[s0];exact XD (QH _)) (Xx _ rfl);have gS:h2.get? S=YB o:=b2.extBut _ _ (Xq lS) (Xf _ ho1);refine Zle (I:=H1.objs.size) (s:={ s with heap:=h2 }) (Z7e (S:=S) (by simpa using hh) (by rw[s0];exact Xq (Bl lS)) hd hf tb hdr) hz (λm=>?_) ⟨⟨0,gI,λhb=>?_⟩,gS⟩ g2 λh' tk acc c l1 l2 g k=>?_
  .rw[s0]at m
   rcases Xi.mp m with e|m
   .exact Xq (QH _) e
   .exact XD lS (Xv.mp m)
  .refine Zp9 ?_
   rcases hdr hb with z|z
   .exact tb.up z
   .have sz:t.place.size=es.size:=by
     unfold SetTable.fits at hf;rw[XM,YZ]at hf;exact hf.1
    have l1:t.place.toList.length<=1:=by rw[X5,sz];exact z
    generalize t.place.toList=l at l1
    match l,l1 with
    | [],_=>exact .nil
    | [a],_=>exact List.pairwise_singleton _ _
  .have ea:acc.toList=Zfg w S ep es:=Zjc (by rw[l1,Zet.length_eq,Xg,X5]) l2
   show Xy _ A (load s.heap.objs.size>>=_) _ _ { s with heap:=h',toks:=tk };refine Xb (wpAny_load g (Xo (q h' tk s.drawn acc.toList (ea▸Zet) (Vs (Xz g)) λb o lb e=>k b o (λm=>?_) (b2.extBut _ _ (Xq lb) (Xf _ (old b o e))))));rcases Xi.mp m with z|m
   .exact Xq lb z
   .rw[Xv.mp m,s0]at lb
    exact BX _ (Nat.lt_of_succ_lt lb)
 .refine Xb (BK (Zxy (Xf _ (Xf _ ho1)) hex ?_))
  rw[YL (by decide +kernel)];refine Xb (Ue (Xb (Zqv (Xf _ (Xf _ g0)) λh2 g2 b2=>Xo ⟨V9 F.plain_extend_loop _,?_⟩)));have s1:(H1.push { cls:=.type "tuple",data:=.seq (Ztu ps) }).objs.size=s.heap.objs.size+1+1:=by rw[QC,s0]
  have gI:h2.get? (s.heap.objs.size+1+1)=YB { cls:=.type "set_iterator",data:=.fields #[.ref H1.objs.size,JD 0,.ref S,JD es.size,JD ep] }:=b2.extBut _ _ (XD (Bl (QH _))) (by rw[<-s1];exact Xx _ rfl);have gS:h2.get? S=YB o:=b2.extBut _ _ (Xq lS) (Xf _ (Xf _ ho1));have gT:h2.get? H1.objs.size=YB { cls:=.type "tuple",data:=.seq (Ztu ps) }:=b2.extBut _ _ (by rw[s0];exact XD (QH _)) (Xf _ (Xx _ rfl));rw[show H1.objs.size+1=s.heap.objs.size+1+1 by rw[s0]];refine Zle (I:=s.heap.objs.size+1+1) (s:={ s with heap:=h2,drawn:=d }) (Z38 (S:=S) (T:=H1.objs.size) (by simpa using hh) (Xq (Bl (Bl lS))) (by rw[s0];exact Xq (QH _)) hd hf pm) hz (λm=>?_) ⟨gI,gS,gT⟩ g2 λh' tk acc c l1 l2 g k=>?_
  .rcases Xi.mp m with e|m
   .exact Xq (Bl (QH _)) e
   rcases Xi.mp m with e|m
   .exact XD lS e
   .have:=Xv.mp m
    rw[s0]at this;exact Xq (QH _) this
  .have ea:acc.toList=Zkm ps es:=Zjc (by rw[l1,(Zlf pm).length_eq,Xg,X5]) l2
   show Xy _ A (load s.heap.objs.size>>=_) _ _ { s with heap:=h',toks:=tk,drawn:=d };refine Xb (wpAny_load g (Xo (q h' tk d acc.toList (ea▸Zlf pm) (Vs (Xz g)) λb o lb e=>k b o (λm=>?_) (b2.extBut _ _ (Xq lb) (Xf _ (Xf _ (old b o e)))))));rcases Xi.mp m with z|m
   .exact Xq lb z
   .rw[Xv.mp m]at lb
    exact BX _ (Nat.lt_of_succ_lt (Nat.lt_of_succ_lt lb))
theorem ints_of{vs:List Xd}(h:∀v∈vs,∃k t,v= .int k t):Bw vs (vs.map vI):=by
 induction vs with
 | nil=>exact .nil
 | cons v vs ih=>
  obtain⟨k,t,rfl⟩:=h v (.head _);exact .cons k t (ih λu m=>h u (.tail _ m))
theorem Zwk{S:YG}(hh:A.handled=YC)(hS:SetI prog w (!byT w) s.heap S ks)(h64:ks.length<64)
  (q:∀h' tk d L (out:List Xd) c,s.heap.objs.size<=L->h'.get? L=YB { cls:=.type "list",data:=.seq out.toArray c }->Bw out (Za0 ks)->(∀b o,b<s.heap.objs.size->s.heap.get? b=YB o->h'.get? b=YB o)->Q (.ref L) { s with heap:=h',toks:=tk,drawn:=d }):Xy (XR prog w) A (call (.builtin "sorted") [.ref S]) Q E s:=by
 obtain⟨o,es,ep,t,ho,hex,hd,he,hb,hf,tb,rfl⟩:=hS;rw[Xg,X5]at h64;refine Calls.call_function_entry kind_sorted plain_sorted entry_sorted (args_sorted1 _) ?_;unfold Ve.«sorted»;refine Xb (m:=checkCount "sorted" 1 1 _) (Xo ?_);refine Xb (Zrf (by simpa using hh) ho hex hd hf tb (by omega) λh1 tk d acc pm lN k1=>?_);have la:acc.length=es.size:=by rw[pm.length_eq,Xg,X5]
 refine Xb (wpAny_newList ?_ (by rw[X7];omega));have ga:(h1.push (BR "list" acc.toArray 0)).get? h1.objs.size=YB (BR "list" acc.toArray 0):=Xx _ rfl;have ia:Bw acc (acc.map vI):=ints_of λv m=>by
  obtain⟨e,me,rfl⟩:=Qe.mp (pm.mem_iff.mp m);obtain⟨⟨k,i1,_⟩,_⟩:=he e me;obtain⟨t',e2⟩:=Zsr i1;exact⟨k,t',e2⟩
 refine Xb (BK (JF slot_list_sort ⟨_,ga,rfl⟩ entry_list_sort (list_sort_tree ga ia (by omega) λout ns' a1 a2 a3=>⟨_,rfl,?_⟩) (args_list_sort _)));have en:ns'=Za0 (es.toList.map λe=>vI e.2):=Zah (a2.trans (((pm.map vI).trans (by rw[Qu];exact .refl _)).trans (Ww _).symm)) a3 (W8 _);subst en;have g1:=get?_update_seq (c :="list") ga (λ_=>(#[]:Array Xd));have g3:=get?_update_seq (c :="list") (Xf (BR "list" #[] 0) (Xf (BR "tuple" acc.toArray 0) g1)) (λ_=>out);refine Xo ⟨_,rfl,q _ tk d _ out.toList _ lN (by rw[Array.toArray_toList];exact g3) a1 λb o lb e=>?_⟩;have nb:b≠h1.objs.size:=Xq (X8 lb lN);exact(JM ..).extBut _ _ nb (Xf _ (Xf _ ((JM ..).extBut _ _ nb (Xf _ (k1 b o lb e)))))
theorem Inv.drawn{O:St}(I:Inv X pins O H s)(d:Drawn):Inv X pins O H { s with drawn:=d }:=by
 refine I.call (ch:=[]) (g':=s.gens) (d':=d) (t':=s.toks) ⟨λb o e _ _ _=>e,λb o e _ _ _=>⟨o.slots,e⟩,λb o e n _=>n,λb o e _=>⟨o,e⟩,λb ys e=>e,λb o u e=>e,λb ps e=>⟨#[],by rw[e];simp⟩⟩ (λb u e=>I.hok b u e) I.bare (λb hb=>nomatch hb)
def dnc:List Int->List Int
 | []=>[]
 | x::xs=>if x∈xs then dnc xs else x::dnc xs
theorem Zh4(ns:List Int):Of (dnc ns) ns:=by
 induction ns with
 | nil=>exact⟨.nil,λx=>.rfl⟩
 | cons a ns ih=>
  rw[dnc];split
  .rename_i c
   exact⟨ih.1,λx=>by rw[ih.2,Xi];exact⟨.inr,λm=>m.elim (λe=>e▸c) id⟩⟩
  .rename_i c
   exact⟨Qh.mpr ⟨λm=>c ((ih.2 a).mp m),ih.1⟩,λx=>by rw[Xi,Xi,ih.2]⟩
theorem Zra(ns:List Int):(dnc ns).length<=ns.length:=by
 induction ns with
 | nil=>exact XQ _
 | cons a ns ih=>
  rw[dnc];split
  .exact Nat.le_succ_of_le ih
  .exact Nat.succ_le_succ ih
theorem Z37(h:Of ks ns):ks.length<=ns.length:=by
 have pm:ks.Perm (dnc ns):=(U5 h.1 (Zh4 ns).1).mpr λx=>by rw[h.2,(Zh4 ns).2]
 rw[pm.length_eq];exact Zra ns
theorem Ztt(h:Of ks ns):Za0 ks=Za0 (dnc ns):=by
 have pm:ks.Perm (dnc ns):=(U5 h.1 (Zh4 ns).1).mpr λx=>by rw[h.2,(Zh4 ns).2]
 exact Zah ((Ww ks).trans (pm.trans (Ww _).symm)) (W8 _) (W8 _)
section
variable {a:YJ}{t:TA}
def tSS(K:Xc)(t:TA):TE:=λO H Q=>t O H λvs H1=>∃(l:YG) (ns:List Int),vs=[.ref l]/\SqL K H1 l (ns.map V.int)/\ns.length<64/\∀p,H1 p=YC->Q (.ref p) (upd H1 p (.lst ((Za0 (dnc ns)).map V.int)))
theorem Zqg(hc:X.calm=YD)(hgl:Gl X "sorted")(hml:X.mg "sorted"=YC)(hvl:X4 "sorted"=YB (.builtin "sorted"))(hg:Gl X "set")(hm:X.mg "set"=YC)(hv:X4 "set"=YB (.type "set"))(ha:PA X [a] t)
  (he:Xr [a] X.env=(YF,eval a X.env)::Xr [] X.env:=by rfl) (hpl:(JG pos' (Xr [] X.env)).any (·.1)=YF:=by rfl)
  (he':Xr [.Call (.Name "set" pr) [a] [] pos'] X.env=(YF,eval (.Call (.Name "set" pr) [a] [] pos') X.env)::Xr [] X.env:=by rfl) (hpl':(JG pos (Xr [] X.env)).any (·.1)=YF:=by rfl) :
  PE X (.Call (.Name "sorted" pl) [.Call (.Name "set" pr) [a] [] pos'] [] pos) (tSS X.K t):=by
 intro pins s O H Q I h;refine BJ (Ze9 I hgl hml hvl ?_ (by decide) (by decide));refine PyProof.Rows.callWith_builtin1 ?_ he' hpl';rw[he'];show Xy _ _ (spliced ((YF,eval (.Call (.Name "set" pr) [a] [] pos') X.env)::JG pos (Xr [] X.env))) _ _ s;have inner:Xy (XR X.prog X.w) X.A (eval (.Call (.Name "set" pr) [a] [] pos') X.env) (λu s2=>∃(S:YG) (ks ns:List Int) (H1:Hp),u=Qj S/\SetI X.prog X.w (!byT X.w) s2.heap S ks/\Of ks ns/\ns.length<64/\Inv X pins O H1 s2/\∀p,H1 p=YC->Q (.ref p) (upd H1 p (.lst ((Za0 (dnc ns)).map V.int)))) X.xe s:=by
  refine BJ (Ze9 I hg hm hv ?_ (by decide) (by decide));refine JV (thn (ha pos' pins s O H _ I h) λus s1 qz=>?_) he hpl;obtain⟨vs,H1,I1,r1,l,ns,rfl,hs,h64,q⟩:=qz;obtain⟨u,rfl,ru⟩:=vals1 r1;cases(show u=Qj l from ru);obtain⟨its,rv,pl,hz⟩:=I1.list hs;obtain⟨ps,rfl,e2⟩:=Zi3 rv;have lp:ps.length=ns.length:=by rw[<-e2,Xg]
  refine Zqq (its:=(ps.map λp=>Vt p.1 p.2).toArray) (ns:=ns) (I1.ok.hd hc) pl.isList (by simp[lp]) (by rw[Qa,Xg];unfold Ug;omega) (λi v ev=>?_) λh' tk ks a1 a2 a3=>?_
  .rw[Uj,Xp]at ev
   cases ep:ps[i]? with
   | none=>rw[ep]at ev;cases ev
   | some p=>
    rw[ep]at ev;cases ev;exact⟨p.1,p.2,rfl,by rw[<-e2,Xp,ep];rfl⟩
  .exact⟨_,ks,ns,H1,rfl,a1,a2,h64,I1.kept (t':=tk) (λb u e=>a3 b u (Xz e) e),q⟩
 refine Calls.spliced_cons (thn inner λu s2 qz=>?_);obtain⟨S,ks,ns,H1,rfl,hS,hO,h64,I2,q⟩:=qz;refine Calls.spliced_nil ?_;have lk:ks.length<=ns.length:=Z37 hO;refine Zwk (I2.ok.hd hc) hS (by omega) λh' tk d L out cc lN g io k=>?_;rw[Ztt hO]at io;have ld:((Za0 (dnc ns)).map V.int).length<=Xw:=by
  rw[Xg,<-Ztt hO,(Ww ks).length_eq,X7];omega
 refine⟨.ref L,_,(I2.laid (t':=tk) (o:=.lst ((Za0 (dnc ns)).map V.int)) (λb ob e=>k b ob (Xz e) e) lN ⟨ld,out,cc,Z7q io,g⟩).drawn d,rfl,q _ (I2.hok.fresh lN)⟩
def Zoa(mr:MAt):MEt:=λδ K=>mr δ λrs δ'=>n1 (λd=>∃ns:List Int,d= .list (ns.map Xl)/\ns.length<64/\K (.nd (((Za0 (dnc ns)).map Xl).map OT.fz)) δ') (OT.datas rs)
theorem Zh0(hc:X.calm=YD)(hgl:Gl X "sorted")(hml:X.mg "sorted"=YC)(hvl:X4 "sorted"=YB (.builtin "sorted"))(hg:Gl X "set")(hm:X.mg "set"=YC)(hv:X4 "set"=YB (.type "set"))(ha:MA X io p c [a] mr)
  (he:Xr [a] X.env=(YF,eval a X.env)::Xr [] X.env:=by rfl) (hpl:(JG pos' (Xr [] X.env)).any (·.1)=YF:=by rfl)
  (he':Xr [.Call (.Name "set" pr) [a] [] pos'] X.env=(YF,eval (.Call (.Name "set" pr) [a] [] pos') X.env)::Xr [] X.env:=by rfl) (hpl':(JG pos (Xr [] X.env)).any (·.1)=YF:=by rfl) :
  ME X io p YD (.Call (.Name "sorted" pl) [.Call (.Name "set" pr) [a] [] pos'] [] pos) (Zoa mr):=by
 obtain⟨_,A,s⟩:=ha;refine⟨_,Zqg hc hgl hml hvl hg hm hv A he hpl he' hpl',λC H O δ fp ex K Q R h kk=>s C H O δ fp ex _ _ R h λH1 vs rs δ1 fp1 new r1 h1=>?_⟩;obtain⟨v,d,rfl,e2,q,ns,e,h64,h2⟩:=(r1.das R).one h1;subst e;obtain⟨l,rfl,hs⟩:=q.ints_sq;refine⟨l,ns,rfl,hs,h64,λp hp=>?_⟩;have sm:=Ye hp (.lst ((Za0 (dnc ns)).map V.int));exact kk _ _ _ δ1 fp1 [p] (RE.tree R r1.base r1.stp sm (Zjw hp) (Znq p) (Own.list hp (Das.ints _))) h2
def Zaf(a:FA):FE:=λδ=>(a δ).bind λq=>match OT.datas q.1 with|[.list es]=>(Zf0 es).bind λns=>if ns.length<64 then YB (.nd (((Za0 (dnc ns)).map Xl).map OT.fz),q.2)else YC|_=>YC
theorem Zfu(h:ME X io p c e (Zoa (o2 ra))):ME X io p c e (o2 (Zaf ra)):=h.weak λδ K h=>by
 obtain⟨r,δ',h,k⟩:=h;obtain⟨⟨x,δ1⟩,h1,h⟩:=bs h;refine⟨x,δ1,h1,?_⟩;dsimp only at h|-
 split at h
 case h_2=>cases h
 rename_i es q;rw[q];obtain⟨ns,h2,h⟩:=bs h;split at h
 case isFalse=>cases h
 rename_i l64;cases h;exact⟨ns,by rw[Zgv h2],l64,k⟩
end
section
variable [DecidableEq κ]
def Zuj(kvs:List (κ×V))(k:κ):Option V:=(kvs.find? λkv=>decide (kv.1=k)).map (·.2)
def putK(kvs:List (κ×V))(k:κ)(v:V):List (κ×V) :=
 if(kvs.any λkv=>decide (kv.1=k))=YD then kvs.map (λkv=>if kv.1=k then(kv.1,v)else kv)else kvs++[(k,v)]
theorem Zvp{p:κ×V}{r:List (κ×V)}{k:κ}(e:p.1=k):Zuj (p::r) k=YB p.2:=by simp[Zuj,List.find?_cons,e]
theorem Zu2{p:κ×V}{r:List (κ×V)}{k:κ}(e:¬p.1=k):Zuj (p::r) k=Zuj r k:=by simp[Zuj,List.find?_cons,e]
theorem RelO.getD{o:Option V}{u:Option Xd}{d:V}{d':Xd}(r:RelO o u)(rd:RelV d d'):RelV (o.getD d) (u.getD d'):=by
 cases o with
 | none=>cases u with
  | none=>exact rd
  | some _=>exact(show False from r).elim
 | some _=>cases u with
  | none=>exact(show False from r).elim
  | some _=>exact r
theorem KV.length{kvs:List (κ×V)}{vs:List (κ×Xd)}(r:KV kvs vs):kvs.length=vs.length:=Paired.length r
end
abbrev KT(H:Hp):List (List Key×V)->List (List Key×YG×Xd)->Prop:=Paired λp q=>p.1=q.1/\H q.2.1=YB (.tup (p.1.map kV))/\RelV p.2 q.2.2
def DGet(H:Hp)(a:YG)(y:V)(r:Option V):Prop :=
 (∃ kvs k,Rd H a (.dK kvs)/\y=kV k/\r=Zuj kvs k)\/∃kvs k b,Rd H a (.dT kvs)/\y= .ref b/\H b=YB (.tup (k.map kV))/\r=Zuj kvs k
def DPut(H:Hp)(a:YG)(y v:V)(H':Hp):Prop :=
 (∃ kvs k,H a=YB (.dK kvs)/\y=kV k/\kvs.length<Xw/\H'=upd H a (.dK (putK kvs k v)))\/
 ∃kvs k b,H a=YB (.dT kvs)/\y= .ref b/\H b=YB (.tup (k.map kV))/\kvs.length<Xw/\H'=upd H a (.dT (putK kvs k v))
end L2
variable {kvs:List (Key×V)}{ep slot:Nat}
namespace L2
open PySem PySem.Spec PyProof.Rows
theorem DGet.k{H:Hp}{a:YG}{kvs:List (Key×V)}{k:Key}(e:H a=YB (.dK kvs)):DGet H a (kV k) (Zuj kvs k):=.inl ⟨kvs,k,.inl e,rfl,rfl⟩
theorem DGet.t{H:Hp}{a b:YG}{kvs:List (List Key×V)}{k:List Key}(e:H a=YB (.dT kvs))(eb:H b=YB (.tup (k.map kV))):DGet H a (.ref b) (Zuj kvs k):=.inr ⟨kvs,k,b,.inl e,rfl,eb,rfl⟩
theorem DPut.k{H:Hp}{a:YG}{kvs:List (Key×V)}{k:Key}{v:V}(e:H a=YB (.dK kvs))(hl:kvs.length<Xw):DPut H a (kV k) v (upd H a (.dK (putK kvs k v))):=.inl ⟨kvs,k,e,rfl,hl,rfl⟩
theorem DPut.t{H:Hp}{a b:YG}{kvs:List (List Key×V)}{k:List Key}{v:V}(e:H a=YB (.dT kvs))(eb:H b=YB (.tup (k.map kV)))(hl:kvs.length<Xw) :
  DPut H a (.ref b) v (upd H a (.dT (putK kvs k v))):=.inr ⟨kvs,k,b,e,rfl,eb,hl,rfl⟩
section
variable {O:St}{y:V}{r:Xd}{o:Option V}
end
section
variable {O:St}{k:Key}
end
section
variable {o i value:YJ}{tpos:Pos}{td ty tv:TE}
end
abbrev VV:List (V×V)->List (Xd×Xd)->Prop:=Paired λp q=>RelV p.1 q.1/\RelV p.2 q.2
structure M1(X:Cx)(o:YJ)(m:Str)(apos:Pos)(e:YJ)(cpos:Pos):Prop where
 base:UW o m X.env (eval o X.env)=eval o X.env
 few:((JG cpos (Xr [e] X.env)).all (λx=>!x.1)&&(backToKw cpos (keywordEach [] X.env)).all (λx=>x.1.isSome)
  &&decide (([e]:List YJ).length+([]:List Uu).length+(if([]:List Uu).isEmpty then 0 else 1)<30))=YD
 line:(apos.endLine==cpos.line)=YD
 trees:JG cpos (Xr [e] X.env)=[(YF,eval e X.env)]
structure M2(X:Cx)(o:YJ)(m:Str)(apos:Pos)(e f:YJ)(cpos:Pos):Prop where
 base:UW o m X.env (eval o X.env)=eval o X.env
 few:((JG cpos (Xr [e,f] X.env)).all (λx=>!x.1)&&(backToKw cpos (keywordEach [] X.env)).all (λx=>x.1.isSome)
  &&decide (([e,f]:List YJ).length+([]:List Uu).length+(if([]:List Uu).isEmpty then 0 else 1)<30))=YD
 line:(apos.endLine==cpos.line)=YD
 trees:JG cpos (Xr [e,f] X.env)=[(YF,eval e X.env),(YF,eval f X.env)]
section
variable {O:St}{y d:V}{r:Xd}{o:Option V}
end
section
variable {o f:YJ}{td ty tx:TE}
end
def Ybu(k:KY):List KY->List Xa->Option Xa
 | [],_=>YC
 | _::_,[]=>YC
 | j::ks,d::ds=>if j=k then YB d else Ybu k ks ds
section
variable [DecidableEq κ]{f:κ->KY}
def Yei(G:Xc)(H:Hp)(L:YG->Prop)(a:Option V)(b:Option Xa):Prop:=(∃v d,a=YB v/\b=YB d/\Da G H L v d)\/(a=YC/\b=YC)
theorem look(hf:∀a b,f a=f b->a=b)(k:κ)(kvs:List (κ×V)):∀ds,Das G H L (kvs.map (·.2)) ds->Yei G H L (Zuj kvs k) (Ybu (f k) (kvs.map λp=>f p.1) ds):=by
 induction kvs with
 | nil=>exact λds _=>.inr ⟨rfl,rfl⟩
 | cons p kvs ih=>
  intro ds h;cases h with
  | cons h r=>
   rename_i d ds;show Yei G H L _ (if f p.1=f k then YB d else Ybu (f k) (kvs.map λp=>f p.1) ds)
   by_cases e:p.1=k
   .rw[Zvp e,YL (YT f e)]
    exact .inl ⟨_,_,rfl,rfl,h⟩
   .rw[Zu2 e,YM λz=>e (hf _ _ z)]
    exact ih _ r
end
section
variable {y:V}{e:Xa}
end
end L2
namespace L2
open PySem PySem.Spec PyProof.Rows PySem.W PySem.SeqAt
theorem Paired.at{Y β:Type}{R:Y->β->Prop}{as:List Y}{bs:List β}(h:PySem.Paired R as bs):∀{i:Nat} {y:β},bs[i]? =YB y->∃x,as[i]? =YB x/\R x y:=by
 induction h with
 | nil=>intro i y z;cases z
 | cons h t ih=>
  intro i y z;cases i with
  | zero=>cases z;exact⟨_,rfl,h⟩
  | succ i=>exact ih z
end L2
namespace L2
open PySem PySem.Spec PyProof.Rows
def Ydc(o:Option (Option OT))(δ:Ze):Option (OT×Ze):=match o with|some (YB (.fz d))=>YB (.fz d,δ)|_=>YC
theorem Zzf(d:Xa)(δ:Ze):Ydc (YB (YB (.fz d))) δ=YB (.fz d,δ):=rfl
def Z69(o:Option (Option OT))(δ:Ze):Option (OT×Ze):=match o with|some (YB t)=>YB (.fz t.data,δ)|_=>YC
theorem Zzu(t:OT)(δ:Ze):Z69 (YB (YB t)) δ=YB (.fz t.data,δ):=rfl
theorem Zmr(i:Nat)(δ:Ze):Zd i δ=Ydc δ[i]? δ:=rfl
theorem Zz2(i:Nat)(δ:Ze):Zcm i δ=Z69 δ[i]? δ:=rfl
theorem Z90(d:Xa)(δ:Ze):fC d δ=YB (.fz d,δ):=rfl
theorem Zog(g:Xa->Xa->Option Xa)(a b:FE)(δ:Ze):Zg g a b δ=(a δ).bind λp=>(b p.2).bind λq=>(g p.1.data q.1.data).bind λd=>YB (.fz d,q.2):=rfl
theorem Zr8(g:Xa->Xa->Option OT)(a b:FE)(δ:Ze):Yk g a b δ=(a δ).bind λp=>(b p.2).bind λq=>(g p.1.data q.1.data).bind λd=>YB (d,q.2):=rfl
theorem Z5q(g:Xa->Option Xa)(a:FE)(δ:Ze):fUn g a δ=(a δ).bind λp=>(g p.1.data).bind λd=>YB (.fz d,p.2):=rfl
def onB(d:Xa)(x y:Option Y):Option Y:=match d with| .bool YD=>x| .bool YF=>y|_=>YC
theorem Ybq(x y:Option Y):onB (.bool YD) x y=x:=rfl
theorem Yfo(x y:Option Y):onB (.bool YF) x y=y:=rfl
theorem Zze(a b:FE)(δ:Ze):Z3h a b δ=(a δ).bind λp=>onB p.1.data (b p.2) (YB (.fz (.bool YF),p.2)):=by
 unfold Z3h onB;cases a δ with
 | none=>rfl
 | some p=>first|rfl|(simp only[Xh];done)|(simp only[Xh];generalize p.1.data=d;cases d<;>first|rfl|(rename_i b;cases b<;>rfl))
theorem Ydf(a b:FE)(δ:Ze):fOr a b δ=(a δ).bind λp=>onB p.1.data (YB (.fz (.bool YD),p.2)) (b p.2):=by
 unfold fOr onB;cases a δ with
 | none=>rfl
 | some p=>first|rfl|(simp only[Xh];done)|(simp only[Xh];generalize p.1.data=d;cases d<;>first|rfl|(rename_i b;cases b<;>rfl))
theorem Yd9(t:FT)(a b:FE)(δ:Ze):fIf t a b δ=(t δ).bind λp=>if p.1=YD then a p.2 else b p.2:=rfl
def Ycn(t:OT)(δ:Ze):Option (Bool×Ze):=match t with| .fz (.bool b)=>YB (b,δ)|_=>YC
theorem Z4f(b:Bool)(δ:Ze):Ycn (.fz (.bool b)) δ=YB (b,δ):=rfl
theorem Yb0(e:FE)(δ:Ze):tV e δ=(e δ).bind λp=>Ycn p.1 p.2:=by
 unfold tV Ycn;cases e δ with
 | none=>rfl
 | some p=>rfl
theorem Z4w(t:FT)(δ:Ze):tNo t δ=(t δ).bind λp=>YB (!p.1,p.2):=rfl
theorem Yco(t u:FT)(δ:Ze):tAn t u δ=(t δ).bind λp=>if p.1=YD then u p.2 else YB (YF,p.2):=rfl
theorem Yb8(t u:FT)(δ:Ze):tO t u δ=(t δ).bind λp=>if p.1=YD then YB (YD,p.2)else u p.2:=rfl
theorem Yck(e:FE)(δ:Ze):tD e δ=(e δ).bind λp=>(Zur p.1.data).bind λb=>YB (b,p.2):=rfl
theorem Ycc(δ:Ze):Zgn δ=YB (YD,δ):=rfl
theorem Yat(δ:Ze):Zn δ=YB ([],δ):=rfl
theorem Zka(e:FE)(a:FA)(δ:Ze):Zc e a δ=(e δ).bind λp=>(a p.2).bind λq=>YB (p.1::q.1,q.2):=rfl
theorem Z16(a:FA)(δ:Ze):Zsj a δ=(a δ).bind λp=>if p.1.length<=Xw then YB (.fz (.tuple (OT.datas p.1)),p.2)else YC:=rfl
theorem Zg6(a:FA)(δ:Ze):Zez a δ=(a δ).bind λp=>if p.1.length<=Xw then YB (.nd p.1,p.2)else YC:=rfl
theorem Zuz(a:FA)(δ:Ze):Zto a δ=(a δ).bind λp=>if p.1.length<=Xw then YB (.tp p.1,p.2)else YC:=rfl
theorem Zop(e:FE)(δ:Ze):Zjm e δ=(e δ).bind λp=>if Za7 p.1.data=YD then YB (.fz p.1.data,p.2)else YC:=rfl
theorem Z46(e:FE)(δ:Ze):Z7n e δ=(e δ).bind λp=>if Z27 p.1=YD then YB (p.1,p.2)else YC:=rfl
def okO(x:RF)(δ:Ze):Option (OT×Ze):=match x with| .ok r=>YB (r,δ)|_=>YC
theorem Z61(r:OT)(δ:Ze):okO (.ok r) δ=YB (r,δ):=rfl
theorem Zkn(F:FD)(a:FA)(δ:Ze):Z4 F a δ=(a δ).bind λp=>okO (F (OT.datas p.1)) p.2:=by
 unfold Z4 okO;cases a δ with
 | none=>rfl
 | some p=>rfl
def atO(o:Option (Option OT))(k:OT->Option Y):Option Y:=match o with|some (YB t)=>k t|_=>YC
theorem Ye1(t:OT)(k:OT->Option Y):atO (YB (YB t)) k=k t:=rfl
theorem Zsc(i:Nat)(F:FIO)(a:FA)(δ:Ze):Z6 i F a δ=atO δ[i]? λ_=>(a δ).bind λp=>atO p.2[i]? λt=>(F t (OT.datas p.1)).bind λq=>YB (q.1,p.2.set i (YB q.2)):=by
 unfold Z6;generalize δ[i]? =o;rcases o with _|_|t
 .rfl
 .rfl
 .show(a δ).bind _=(a δ).bind _
  cases a δ with
  | none=>rfl
  | some p=>
   show(λo:Option (Option OT)=>(match o with|some (YB t)=>(F t (OT.datas p.1)).bind λq=>YB (q.1,p.2.set i (YB q.2))|_=>YC)) p.2[i]? =atO p.2[i]? _;generalize p.2[i]? =o;rcases o with _|_|t<;>rfl
theorem Z17(g:List Xa->Option Xa)(a:FA)(δ:Ze):Zbt g a δ=(a δ).bind λp=>(g (OT.datas p.1)).bind λd=>YB (.fz d,p.2):=rfl
theorem Yej(g:List Xa->Option OT)(a:FA)(δ:Ze):fBl g a δ=(a δ).bind λp=>(g (OT.datas p.1)).bind λd=>YB (d,p.2):=rfl
theorem Z1r(T:String)(e:FE)(δ:Ze):Zul T e δ=(e δ).bind λp=>if Zim p.1.data=YD then YC else YB (.fz (.bool (Zql T p.1.data)),p.2):=rfl
theorem Yfu(δ:Ze):oN δ=YB (YC,δ):=rfl
def asInt(d:Xa)(k:Int->Option Y):Option Y:=match d with| .int i=>k i|_=>YC
theorem Z1x(i:Int)(k:Int->Option Y):asInt (.int i) k=k i:=rfl
def Zr4(d:Xa)(k:List Xa->Option Y):Option Y:=match d with| .list i=>k i|_=>YC
theorem Zua(i:List Xa)(k:List Xa->Option Y):Zr4 (.list i) k=k i:=rfl
def Z26(d:Xa)(k:List Xa->Option Y):Option Y:=match d with| .tuple i=>k i|_=>YC
theorem Z9u(i:List Xa)(k:List Xa->Option Y):Z26 (.tuple i) k=k i:=rfl
theorem Yci(e:FE)(δ:Ze):oI e δ=(e δ).bind λp=>asInt p.1.data λi=>YB (YB i,p.2):=by
 unfold oI asInt;cases e δ with
 | none=>rfl
 | some p=>rfl
theorem Z3k(e:FE)(lo hi:FO)(δ:Ze):fSl e lo hi δ=(e δ).bind λp=>(lo p.2).bind λq=>(hi q.2).bind λr=>Zr4 p.1.data λds=>YB (.nd ((cutD ds q.1 r.1).map OT.fz),r.2):=by
 unfold fSl Zr4;rfl
theorem Z0g(e:FE)(δ:Ze):Zji e δ=(e δ).bind λp=>Zr4 p.1.data λds=>YB (ds,p.2):=by
 unfold Zji Zr4;rfl
theorem Ydy(e:FE)(δ:Ze):iTp e δ=(e δ).bind λp=>Z26 p.1.data λds=>YB (ds,p.2):=by
 unfold iTp Z26;rfl
def as1(ds:List Xa)(k:Int->Option Y):Option Y:=match ds with|[.int i]=>k i|_=>YC
theorem Z2r(i:Int)(k:Int->Option Y):as1 [.int i] k=k i:=rfl
def as2(ds:List Xa)(k:Int->Int->Option Y):Option Y:=match ds with|[.int i,.int j]=>k i j|_=>YC
theorem Ybs{Y:Type}(i j:Int)(k:Int->Int->Option Y):as2 [.int i,.int j] k=k i j:=rfl
theorem Zyp(a:FA)(δ:Ze):iRa a δ=(a δ).bind λp=>as1 (OT.datas p.1) λj=>if rOk j=YD then YB (Zbs 0 j.toNat,p.2)else YC:=by
 unfold iRa as1;rfl
theorem Z8g(a:FA)(δ:Ze):iRb a δ=(a δ).bind λp=>as2 (OT.datas p.1) λi j=>if(rOk i&&rOk j)=YD then YB (Zbs i (j-i).toNat,p.2)else YC:=by
 unfold iRb as2;rfl
theorem Z0b(a:FA)(δ:Ze):Z6a a δ=(a δ).bind λp=>as1 (OT.datas p.1) λj=>if rOk j=YD/\j.toNat<=Xw then YB (.nd ((Zbs 0 j.toNat).map OT.fz),p.2)else YC:=by
 unfold Z6a as1;rfl
theorem Yaz(a b:FE)(δ:Ze):Ydl a b δ=(a δ).bind λp=>(b p.2).bind λq=>asInt q.1.data λk=>if rOk k=YD/\k.toNat<=Xw then YB (.nd (By k.toNat (.fz p.1.data)),p.2)else YC:=by
 unfold Ydl asInt;rfl
def Yav(ds:List Xa)(k:List Xa->List Xa->Option Y):Option Y:=match ds with|[.list i,.list j]=>k i j|_=>YC
theorem Yde(i j:List Xa)(k:List Xa->List Xa->Option Y):Yav [.list i,.list j] k=k i j:=rfl
theorem Z9f(a:FA)(δ:Ze):Z8u a δ=(a δ).bind λp=>Yav (OT.datas p.1) λas bs=>YB (Zmj as bs,p.2):=by
 unfold Z8u Yav;rfl
theorem Yea(i:Nat)(d:Xa)(δ:Ze):gNm i d δ=YB (δ.set i (YB (.fz d))):=rfl
theorem Ybj(i:Nat)(d:Xa)(δ:Ze):Z2t i d δ=if Za7 d=YD then YB (δ.set i (YB (.fz d)))else YC:=rfl
theorem Yc0(δ:Ze):gNl [] δ=YB δ:=rfl
theorem Yc3(g:FG)(gs:FGs)(d:Xa)(r:List Xa)(δ:Ze):gCn g gs (d::r) δ=(g d δ).bind (gs r):=rfl
theorem Ycv(n:Nat)(gs:FGs)(ds:List Xa)(δ:Ze):gTp n gs (.tuple ds) δ=if ds.length=n then gs ds δ else YC:=rfl
theorem Yc4(n:Nat)(gs:FGs)(ds:List Xa)(δ:Ze):gLs n gs (.list ds) δ=if ds.length=n then gs ds δ else YC:=rfl
def RS.thn(r:RS)(g:FS):RS:=match r with| .nx δ=>g δ|r=>r
theorem Zro(δ:Ze)(g:FS):(RS.nx δ).thn g=g δ:=rfl
theorem Zyj(r:OT)(δ:Ze)(g:FS):(RS.rt r δ).thn g= .rt r δ:=rfl
theorem Yc2(δ:Ze)(g:FS):(RS.bk δ).thn g= .bk δ:=rfl
theorem Ydr(δ:Ze)(g:FS):(RS.ct δ).thn g= .ct δ:=rfl
theorem Z3l(c:Str)(δ:Ze)(g:FS):(RS.ex c δ).thn g= .ex c δ:=rfl
theorem Zfi(f g:FS)(δ:Ze):Zy f g δ=(f δ).thn g:=rfl
theorem Yeg(δ:Ze):fNx δ= .nx δ:=rfl
theorem Ybb(δ:Ze):Yfh δ= .bk δ:=rfl
theorem Yaq(δ:Ze):Ye9 δ= .ct δ:=rfl
theorem Zs7(c:Str)(δ:Ze):Zgg c δ= .ex c δ:=rfl
theorem Z9i(δ:Ze):Yad δ= .rt (.fz .none) δ:=rfl
def onO(o:Option (Y×Ze))(k:Y->Ze->RS):RS:=match o with|some (r,δ')=>k r δ'|none=>.bad
theorem Yu(r:Y)(δ:Ze)(k:Y->Ze->RS):onO (YB (r,δ)) k=k r δ:=rfl
theorem Zbp(e:FE)(k:OT->Ze->RS)(δ:Ze):wE e k δ=onO (e δ) k:=by
 unfold wE onO;cases e δ<;>rfl
def onF(x:RF)(δ:Ze)(k:OT->Ze->RS):RS:=match x with| .ok r=>k r δ| .exn c=>.ex c δ| .bad=>.bad
theorem Z5l(r:OT)(δ:Ze)(k:OT->Ze->RS):onF (.ok r) δ k=k r δ:=rfl
theorem Z34(c:Str)(δ:Ze)(k:OT->Ze->RS):onF (.exn c) δ k= .ex c δ:=rfl
theorem Z1h(F:FD)(a:FA)(k:OT->Ze->RS)(δ:Ze):wX F a k δ=onO (a δ) λrs δ1=>onF (F (OT.datas rs)) δ1 k:=by
 unfold wX onO onF;cases a δ with
 | none=>rfl
 | some p=>rfl
theorem Zqo(t:FT)(u w:FS)(δ:Ze):J7 t u w δ=onO (t δ) λb δ'=>if b=YD then u δ' else w δ':=by
 unfold J7 onO;cases t δ<;>rfl
theorem Z22(it:FI)(g:FG)(u:FS)(δ:Ze):Zae it g u δ=onO (it δ) λds δ1=>forLoop g u ds δ1:=by
 unfold Zae onO;cases it δ<;>rfl
theorem Zu4(r:OT)(δ:Ze):Zj1 r δ= .nx δ:=rfl
theorem Z1n(r:OT)(δ:Ze):Jp r δ= .rt r δ:=rfl
theorem Z83(r:OT)(δ:Ze):Ybl r δ=if Za7 r.data=YD then .rt (.fz r.data) δ else .bad:=rfl
theorem Z0w(i:Nat)(r:OT)(δ:Ze):Wt i r δ= .nx (δ.set i (YB (.fz r.data))):=rfl
theorem Z9l(i:Nat)(r:OT)(δ:Ze):Yb1 i r δ=if Za7 r.data=YD then .nx (δ.set i (YB (.fz r.data)))else .bad:=rfl
theorem Zxh(i:Nat)(r:OT)(δ:Ze):J2 i r δ= .nx (δ.set i (YB r)):=rfl
def onD(o:Option Ze):RS:=match o with|some δ=>.nx δ|none=>.bad
theorem Z88(δ:Ze):onD (YB δ)= .nx δ:=rfl
theorem Yao(g:FG)(r:OT)(δ:Ze):Yf2 g r δ=onD (g r.data δ):=rfl
def onT(o:Option (Option OT))(k:OT->RS):RS:=match o with|some (YB t)=>k t|_=>.bad
theorem Z72(t:OT)(k:OT->RS):onT (YB (YB t)) k=k t:=rfl
theorem Zgy(i:Nat)(δ:Ze):Ze5 i δ=onT δ[i]? λt=>.rt t (δ.set i YC):=rfl
theorem Z3g(i:Nat)(u:FS)(δ:Ze):Z0s i u δ=onT δ[i]? λt=>u (δ.set i (YB (.fz t.data))):=rfl
def onN(o:Option (Option OT))(k:List OT->RS):RS:=match o with|some (YB (.nd ts))=>k ts|_=>.bad
theorem Zvz(t:List OT)(k:List OT->RS):onN (YB (YB (.nd t))) k=k t:=rfl
theorem Zp0(i:Nat)(e:FE)(δ:Ze):Js i e δ=onN δ[i]? λ_=>onO (e δ) λr δ1=>onN δ1[i]? λts=>if ts.length<Xw then .nx (δ1.set i (YB (.nd (ts++[.fz r.data]))))else .bad:=by
 unfold Js;generalize δ[i]? =o;rcases o with _|_|(_|_|_|_)
 .rfl
 .rfl
 .rfl
 .show wE e _ δ=onO (e δ) _
  rw[Zbp];congr 1
 .rfl
 .rfl
theorem Zmv(i:Nat)(e:FE)(δ:Ze):Zag i e δ=onN δ[i]? λ_=>onO (e δ) λr δ1=>onN δ1[i]? λts=>if ts.length<Xw then .nx (δ1.set i (YB (.nd (ts++[r]))))else .bad:=by
 unfold Zag;generalize δ[i]? =o;rcases o with _|_|(_|_|_|_)
 .rfl
 .rfl
 .rfl
 .show wE e _ δ=onO (e δ) _
  rw[Zbp];congr 1
 .rfl
 .rfl
def onI(d:Xa)(k:Int->RS):RS:=match d with| .int i=>k i|_=>.bad
theorem Yfw(i:Int)(k:Int->RS):onI (.int i) k=k i:=rfl
def onX(o:Option Nat)(k:Nat->RS):RS:=match o with|some i=>k i|_=>.bad
theorem Yfd(i:Nat)(k:Nat->RS):onX (YB i) k=k i:=rfl
theorem Zzm(i:Nat)(e j:FE)(δ:Ze):Z2a i e j δ=onO (e δ) λr δ1=>onN δ1[i]? λts=>onO (j δ1) λn _=>onI n.data λk=>onX (ixN ts.length k) λj=>.nx (δ1.set i (YB (.nd (ts.set j (.fz r.data))))):=by
 unfold Z2a;rw[Zbp];congr 1;funext r δ1;generalize δ1[i]? =o;rcases o with _|_|(_|_|_|_)
 .rfl
 .rfl
 .rfl
 .show wE j _ δ1=onO (j δ1) _
  rw[Zbp];congr 1;funext n δ2;generalize n.data=d;cases d<;>try rfl
  show(match ixN _ _ with|some j=>_|none=>_)=onX (ixN _ _) _;generalize ixN _ _=x;cases x<;>rfl
 .rfl
 .rfl
def onU(o:Option OT)(k:List OT->RS):RS:=match o with|some (.nd ts)=>k ts|_=>.bad
theorem Yeu(t:List OT)(k:List OT->RS):onU (YB (.nd t)) k=k t:=rfl
def onP(o:Option (Option OT))(k:List OT->RS):RS:=match o with|some (YB (.tp ts))=>k ts|_=>.bad
theorem Yfm(t:List OT)(k:List OT->RS):onP (YB (YB (.tp t))) k=k t:=rfl
theorem Z52(i c:Nat)(e:FE)(δ:Ze):Zxr i c e δ=onP δ[i]? λts=>onU ts[c]? λus=>onO (e δ) λr _=>if us.length<Xw then .nx (δ.set i (YB (.tp (ts.set c (.nd (us++[.fz r.data]))))))else .bad:=by
 unfold Zxr;generalize δ[i]? =o;rcases o with _|_|(_|_|ts|_)
 .rfl
 .rfl
 .rfl
 .rfl
 .show(match ts[c]? with|some (.nd us)=>wE e _ δ|_=>_)=onU ts[c]? _
  generalize ts[c]? =o;rcases o with _|(_|_|_|_)
  .rfl
  .rfl
  .show wE e _ δ=onO (e δ) _
   rw[Zbp]
  .rfl
  .rfl
 .rfl
def on2(ds:List Xa)(k:Xa->Xa->RS):RS:=match ds with|[d,e]=>k d e|_=>.bad
theorem Yex(d e:Xa)(k:Xa->Xa->RS):on2 [d,e] k=k d e:=rfl
theorem Yby(i j:Nat)(a:FA)(δ:Ze):Yel i j a δ=onO (a δ) λrs δ1=>on2 (OT.datas rs) λd e=>.nx ((δ1.set i (YB (.fz d))).set j (YB (.fz e))):=by
 unfold Yel onO on2;cases a δ<;>rfl
theorem Jf{np n:Nat}{S:FS}{ds:List Xa}(h:ds.length=np):Za6 np n S ds=(S (Zc6 n ds)).told:=by
 unfold Za6;rw[YL h]
theorem Z2c{n:Nat}{S:FS}{t:OT}(h:ds.length+1=np):Zpi np n S t ds=(S (Zjh n t ds)).toldI:=by
 unfold Zpi;rw[YL h]
theorem Z9r(δ:Ze):(RS.nx δ).told= .ok (.fz .none):=rfl
theorem Zhe(r:OT)(δ:Ze):(RS.rt r δ).told= .ok r:=rfl
theorem Z08(c:Str)(δ:Ze):(RS.ex c δ).told= .exn c:=rfl
theorem Zo1(i j:Int):Zdl (.int i) (.int j)=YB (.int (i+j)):=rfl
theorem Z9y(i j:Int):gSb (.int i) (.int j)=YB (.int (i-j)):=rfl
theorem Ybi(i j:Int):gLt (.int i) (.int j)=YB (.bool (decide (i<j))):=rfl
theorem Yfl(i j:Int):gLe (.int i) (.int j)=YB (.bool (decide (i<=j))):=rfl
theorem Yak(i j:Int):gGt (.int i) (.int j)=YB (.bool (decide (j<i))):=rfl
theorem Z6z(i j:Int):gGe (.int i) (.int j)=YB (.bool (decide (j<=i))):=rfl
theorem Zcu{i j:Int}(h:Z3i i j=YD):Zib (.int i) (.int j)=YB (.int (i*j)):=by
 unfold Zib i2c;dsimp only;rw[YL h]
theorem Zf7{i j:Int}(h:Z8o i j=YD):Za9 (.int i) (.int j)=YB (.int (i.fdiv j)):=by
 unfold Za9 i2c;dsimp only;rw[YL h]
theorem Z35{i j:Int}(h:j≠0):Zja (.int i) (.int j)=YB (.int (i.fmod j)):=by
 unfold Zja i2c Yd0;dsimp only;rw[YL (YQ h)]
theorem Zbo{n:Nat}{x y:Int}(h:Bt m x)(k:Bt n y)(hmn:m+n<=100000000:=by decide):Z3i x y=YD:=Zj0.mpr (h.mulOk k hmn)
theorem Z4l{x y:Int}(h:x.natAbs<2^64):Z3i x y=YD:=Zj0.mpr (.of_left (intBits_le_64 (by omega) (by omega)))
theorem Zfy{n:Nat}{i j:Int}(h0:j≠0)(h:Bt n j)(hn:n<=9000:=by decide):Z8o i j=YD:=by
 obtain⟨h1,h2⟩:=DivOk.of (i:=i) h0 h hn;unfold Z8o;rw[YQ h1,YQ h2];rfl
theorem Z0t(i j:Int):gEq (.int i) (.int j)=YB (.bool (decide (i=j))):=by
 show YB (PyData.bool (i==j))=_;rw[show(i==j)=decide (i=j)from rfl]
theorem Ybx(i j:Int):gNe (.int i) (.int j)=YB (.bool (!decide (i=j))):=by
 show YB (PyData.bool (!(i==j)))=_;rw[show(i==j)=decide (i=j)from rfl]
theorem Z4j(d:Xa):gIs d .none=YB (.bool (Zd9 d)):=rfl
theorem Zo2(d:Xa):Zov d .none=YB (.bool (!Zd9 d)):=rfl
theorem Zlb(ds:List Xa)(i:Int):gIx (.list ds) (.int i)=(atI ds i).bind λx=>YB (.fz x):=rfl
theorem Ye5(ds:List Xa)(i:Int):gIx (.tuple ds) (.int i)=(atI ds i).bind λx=>YB (.fz x):=rfl
theorem Zos(ds:List Xa):Zdv [.list ds]=YB (.int ds.length):=rfl
theorem Ydj(ds:List Xa):Zdv [.tuple ds]=YB (.int ds.length):=rfl
theorem Zh6(i:Int):Zqj [.int i]=YB (.int (i.natAbs:Int)):=by
 show YB (Xl (if i<0 then -i else i))=_;congr 2;split<;>omega
theorem Yc7(i j:Int):Yf9 [.int i,.int j]=YB (.int (if j>i then j else i)):=rfl
theorem Zy1(i j:Int):Z8e [.int i,.int j]=YB (.int (if j<i then j else i)):=rfl
theorem Ycs(i:Int):Z1b [.int i]=YB (.int i):=rfl
theorem Zxm(b:Bool):Z1b [.bool b]=YB (.int (if b then 1 else 0)):=rfl
theorem Ya3(ds:List Xa):Z5r [.list ds]=YB (.nd (ds.map OT.fz)):=rfl
theorem Ybk(ds:List Xa):Z5r [.tuple ds]=YB (.nd (ds.map OT.fz)):=rfl
theorem Z8n{es:List Xa}(h:ds.length+es.length<=Xw):Zz1 (.list ds) (.list es)=YB (.nd ((ds++es).map OT.fz)):=by
 unfold Zz1;dsimp only;rw[YL h]
theorem Z3t(i:Int):Z60 (.int i)=YB (.int (-i)):=rfl
theorem Yc9(b:Bool):Yax (.bool b)=YB (.bool (!b)):=rfl
theorem Ydw(b:Bool):Zur (.bool b)=YB b:=rfl
theorem Ycw(i:Int):Zur (.int i)=YB (i !=0):=rfl
theorem Ydz:Zur .none=YB YF:=rfl
theorem Yct(ds:List Xa):Zur (.list ds)=YB (!ds.isEmpty):=rfl
theorem Znn{n:Nat}{d:Xa}(h:Sh n d)(hp:Yd d=YD)(hn:n<=60):gNe d d=YB (.bool YF):=by
 have s:VJ d=YD:=(h.shp (by omega)).ok;unfold gNe;rw[YL (by rw[s];rfl),Znp hp];rfl
theorem Zns{u:FS}(I:Nat->Ze->Prop)(h0:I 0 δ)
  (turn:∀(i:Nat) (d:Xa) (δ:Ze),ds[i]? =YB d->I i δ->∃δ1 δ2,gg d δ=YB δ1/\(u δ1= .nx δ2\/u δ1= .ct δ2)/\I (i+1) δ2):∃δ',forLoop gg u ds δ= .nx δ'/\I ds.length δ':=by
 induction ds generalizing δ I with
 | nil=>exact⟨δ,rfl,h0⟩
 | cons d ds ih=>
  obtain⟨δ1,δ2,e1,e2,h1⟩:=turn 0 d δ rfl h0;obtain⟨δ',e3,h3⟩:=ih (δ:=δ2) (λi δ=>I (i+1) δ) h1 λi d' δ hd hi=>turn (i+1) d' δ (by simpa using hd) hi;refine⟨δ',?_,h3⟩;rw[Zba,e1];dsimp only;rcases e2 with e2|e2<;>rw[e2]<;>exact e3
def Goes(r:RS)(Q:Ze->Prop):Prop:=∃δ,(r= .nx δ\/r= .ct δ)/\Q δ
theorem Goes.nx{δ:Ze}{Q:Ze->Prop}(h:Q δ):Goes (.nx δ) Q:=⟨δ,.inl rfl,h⟩
theorem Goes.ct{Q:Ze->Prop}(h:Q δ):Goes (.ct δ) Q:=⟨δ,.inr rfl,h⟩
theorem Zsf{cs:Ze}(mk:Y->Xa)(f:Y->OT):∀(xs:List Y) (z:Option OT),(∀x∈xs,me (YB (.fz (mk x))::cs)=YB (f x,YB (.fz (mk x))::cs)) ->
  ∃z',compLoop (gNm 0) Zgn me (xs.map mk) (z::cs)=YB (xs.map f,z'::cs)
 | [],z,_=>⟨z,rfl⟩
 | x::xs,z,h=>by
  obtain⟨z',e⟩:=Zsf mk f xs (YB (.fz (mk x))) λy hy=>h y (.tail _ hy);refine⟨z',?_⟩;rw[Qq,compLoop];show(YB (YB (OT.fz (mk x))::cs)).bind _=_;rw[Xh];show(YB (YD,YB (OT.fz (mk x))::cs)).bind _=_;rw[Xh,YL rfl,h x (.head _),Xh,e];rfl
theorem Zn9{t:FT}{cs:Ze}(mk:Y->Xa)(p:Y->Bool)(f:Y->OT):∀(xs:List Y) (z:Option OT),(∀x∈xs,t (YB (.fz (mk x))::cs)=YB (p x,YB (.fz (mk x))::cs))->(∀x∈xs,p x=YD->me (YB (.fz (mk x))::cs)=YB (f x,YB (.fz (mk x))::cs)) ->
  ∃z',compLoop (gNm 0) t me (xs.map mk) (z::cs)=YB ((xs.filter p).map f,z'::cs)
 | [],z,_,_=>⟨z,rfl⟩
 | x::xs,z,ht,h=>by
  obtain⟨z',e⟩:=Zn9 mk p f xs (YB (.fz (mk x))) (λy hy=>ht y (.tail _ hy)) λy hy=>h y (.tail _ hy);refine⟨z',?_⟩;rw[Qq,compLoop];show(YB (YB (OT.fz (mk x))::cs)).bind _=_;rw[Xh,ht x (.head _),Xh];dsimp only
  by_cases hp:p x=YD
  .rw[YL hp,h x (.head _) hp,Xh,e,List.filter_cons_of_pos hp];rfl
  .rw[YM hp,e,List.filter_cons_of_neg hp]
theorem Zex{cs:Ze}(xs:List Y)(mk:Y->Xa)(f:Y->OT)(hi:it δ=YB (xs.map mk,δ1))(hz:xs.length<=Xw)(hb:blk 1 caps δ1=YC::cs)
  (h:∀x∈xs,me (YB (.fz (mk x))::cs)=YB (f x,YB (.fz (mk x))::cs)):Y9 1 caps it (gNm 0) Zgn me δ=YB (.nd (xs.map f),δ1):=by
 unfold Y9;rw[hi,Xh];dsimp only;rw[YL (by rw[Xg];exact hz),hb];obtain⟨z',e⟩:=Zsf (me:=me) (cs:=cs) mk f xs YC h;rw[e];rfl
theorem Zud{t:FT}{cs:Ze}(xs:List Y)(mk:Y->Xa)(p:Y->Bool)(f:Y->OT)(hi:it δ=YB (xs.map mk,δ1))(hz:xs.length<=Xw)(hb:blk 1 caps δ1=YC::cs)
  (ht:∀x∈xs,t (YB (.fz (mk x))::cs)=YB (p x,YB (.fz (mk x))::cs)) (h:∀x∈xs,p x=YD->me (YB (.fz (mk x))::cs)=YB (f x,YB (.fz (mk x))::cs)):Y9 1 caps it (gNm 0) t me δ=YB (.nd ((xs.filter p).map f),δ1):=by
 unfold Y9;rw[hi,Xh];dsimp only;rw[YL (by rw[Xg];exact hz),hb];obtain⟨z',e⟩:=Zn9 (t:=t) (me:=me) (cs:=cs) mk p f xs YC ht h;rw[e];rfl
theorem Yfb:(2<=Xw)=True:=by simp[X7]
theorem Yew:(1<=Xw)=True:=by simp[X7]
theorem Ye7:(0<=Xw)=True:=by simp
theorem Ycf:(3<=Xw)=True:=by simp[X7]
theorem Zo9(f:Y->Xa)(xs:List Y):(xs.map λx=>OT.fz (f x)).map OT.data=xs.map f:=by
 rw[Qu];exact XH λx _=>OT.data_fz _
theorem Zrx{j:Int}{x:Y}(h0:0<=j)(h1:j<=1000000):(if rOk j=YD then YB x else YC)=YB x:=YL (Zoq (by omega) h1)
theorem Z2n{Y:Type}{i j:Int}{x:Y}(h0:0<=i)(h1:i<=1000000)(h2:0<=j)(h3:j<=1000000):(if(rOk i&&rOk j)=YD then YB x else YC)=YB x:=YL (by rw[Zoq (by omega) h1,Zoq (by omega) h3];rfl)
theorem Zxn{r:RS}{k:Nat}(h:k<=1000000):(if k<Xw then r else .bad)=r:=YL (by rw[X7];omega)
def EvV(e:FE)(δ:Ze)(d:Xa):Prop:=∃t,e δ=YB (t,δ)/\t.data=d
def EvA(a:FA)(δ:Ze)(ds:List Xa):Prop:=∃ts,a δ=YB (ts,δ)/\OT.datas ts=ds
def EvT(t:FT)(δ:Ze)(b:Bool):Prop:=t δ=YB (b,δ)
def Told(F:FD)(ds:List Xa)(d:Xa):Prop:=∃t,F ds= .ok t/\t.data=d
section
variable {e a b:FE}{as:FA}{δ δ':Ze}{x y d:Xa}{xs ds:List Xa}{i j:Nat}{p q:Bool}{t u:FT}{S S':FS}{r:RS}
theorem EvV.cast{e:FE}{δ:Ze}{x y:Xa}(h:EvV e δ x)(k:x=y):EvV e δ y:=k▸h
theorem Za(h:δ[i]? =YB (YB (.fz d)):=by rfl):EvV (Zd i) δ d:=⟨_,by rw[Zmr,h,Zzf],OT.data_fz _⟩
theorem Zcx{t:OT}(h:δ[i]? =YB (YB t))(hd:t.data=d):EvV (Zcm i) δ d:=⟨_,by rw[Zz2,h,Zzu],by rw[OT.data_fz,hd]⟩
theorem Z3:EvV (fC d) δ d:=⟨_,rfl,OT.data_fz _⟩
theorem Zm{g:Xa->Xa->Option Xa}(ha:EvV a δ x)(hb:EvV b δ y)(h:g x y=YB d):EvV (Zg g a b) δ d:=by
 obtain⟨_,e1,d1⟩:=ha;obtain⟨_,e2,d2⟩:=hb;exact⟨_,by rw[Zog,e1,Xh,e2,Xh,d1,d2,h,Xh],OT.data_fz _⟩
theorem Zyg{g:Xa->Xa->Option OT}{o:OT}(ha:EvV a δ x)(hb:EvV b δ y)(h:g x y=YB o)(hd:o.data=d):EvV (Yk g a b) δ d:=by
 obtain⟨_,e1,d1⟩:=ha;obtain⟨_,e2,d2⟩:=hb;exact⟨_,by rw[Zr8,e1,Xh,e2,Xh,d1,d2,h,Xh],hd⟩
theorem Ja(ha:EvV a δ x)(hb:EvV b δ y)(h:gIx x y=YB (.fz d)):EvV (Yk gIx a b) δ d:=Zyg ha hb h (OT.data_fz _)
theorem Zbw{i j:Int}(ha:EvV a δ (.int i))(hb:EvV b δ (.int j)):EvV (Zg Zdl a b) δ (.int (i+j)):=Zm ha hb rfl
theorem Zem{i j:Int}(ha:EvV a δ (.int i))(hb:EvV b δ (.int j)):EvV (Zg gSb a b) δ (.int (i-j)):=Zm ha hb rfl
theorem Ybr{g:Xa->Option Xa}(ha:EvV a δ x)(h:g x=YB d):EvV (fUn g a) δ d:=by
 obtain⟨_,e1,d1⟩:=ha;exact⟨_,by rw[Z5q,e1,Xh,d1,h,Xh],OT.data_fz _⟩
theorem Zxb(ha:EvV a δ (.bool YD))(hb:EvV b δ d):EvV (Z3h a b) δ d:=by
 obtain⟨_,e1,d1⟩:=ha;obtain⟨_,e2,d2⟩:=hb;exact⟨_,by rw[Zze,e1,Xh,d1,Ybq,e2],d2⟩
theorem Z79{T:String}(ha:EvV a δ x)(hf:Zim x=YF:=by rfl):EvV (Zul T a) δ (.bool (Zql T x)):=by
 obtain⟨_,e1,d1⟩:=ha;exact⟨_,by rw[Z1r,e1,Xh,d1,YM (by rw[hf];decide)],OT.data_fz _⟩
theorem Zh:EvA Zn δ []:=⟨_,rfl,Zef⟩
theorem Zb(h:EvV e δ d)(k:EvA as δ ds):EvA (Zc e as) δ (d::ds):=by
 obtain⟨_,e1,d1⟩:=h;obtain⟨_,e2,d2⟩:=k;exact⟨_,by rw[Zka,e1,Xh,e2,Xh],by rw[Zdk,d1,d2]⟩
theorem Zx{F:FD}(h:EvA as δ ds)(k:Told F ds d):EvV (Z4 F as) δ d:=by
 obtain⟨_,e1,d1⟩:=h;obtain⟨_,e2,d2⟩:=k;exact⟨_,by rw[Zkn,e1,Xh,d1,e2,Z61],d2⟩
theorem Jq{g:List Xa->Option Xa}(h:EvA as δ ds)(k:g ds=YB d):EvV (Zbt g as) δ d:=by
 obtain⟨_,e1,d1⟩:=h;exact⟨_,by rw[Z17,e1,Xh,d1,k,Xh],OT.data_fz _⟩
theorem Zey:∀ts:List OT,(OT.datas ts).length=ts.length
 | []=>by rw[Zef];rfl
 | t::ts=>by rw[Zdk,QZ,QZ,Zey ts]
theorem datas_map:∀ts:List OT,OT.datas ts=ts.map OT.data
 | []=>Zef
 | t::ts=>by rw[Zdk,Qq,datas_map ts]
theorem Ziu(h:EvA as δ ds)(hl:ds.length<=1000):EvV (Zsj as) δ (.tuple ds):=by
 obtain⟨ts,e1,d1⟩:=h;have:=Zey ts;rw[d1]at this;exact⟨_,by rw[Z16,e1,Xh,YL (by rw[X7];show ts.length<=_;omega)],by rw[OT.data_fz];exact YT _ d1⟩
theorem Ze4(h:EvA as δ ds)(hl:ds.length<=1000):EvV (Zez as) δ (.list ds):=by
 obtain⟨ts,e1,d1⟩:=h;have:=Zey ts;rw[d1]at this;exact⟨_,by rw[Zg6,e1,Xh,YL (by rw[X7];show ts.length<=_;omega)],by rw[OT.data_nd,<-datas_map,d1]⟩
theorem Zho{o:OT}{b:Bool}(h:o.data= .bool b):o= .fz (.bool b):=by
 cases o with
 | fz d=>rw[OT.data_fz]at h;rw[h]
 | nd ts=>rw[OT.data_nd]at h;cases h
 | tp ts=>rw[OT.data_tp]at h;cases h
 | dc _ _ _=>rw[OT.data_dc]at h;cases h
theorem Zcg(h:EvV e δ (.bool p)):EvT (tV e) δ p:=by
 obtain⟨_,e1,d1⟩:=h;unfold EvT;rw[Yb0,e1,Xh,Zho d1,Z4f]
theorem Yet(h:EvV e δ d)(k:Zur d=YB p):EvT (tD e) δ p:=by
 obtain⟨_,e1,d1⟩:=h;unfold EvT;rw[Yck,e1,Xh,d1,k,Xh]
theorem Zg4(h:EvV e δ (.bool p)):EvT (tD e) δ p:=Yet h rfl
theorem Zj7(h:EvT t δ p):EvT (tNo t) δ (!p):=by
 unfold EvT at h|-
 rw[Z4w,h,Xh]
theorem Zxv(h:EvT t δ YF)(k:EvT u δ p):EvT (tO t u) δ p:=by
 unfold EvT at h k|-
 rw[Yb8,h,Xh,YM XC,k]
theorem Wb(h:S δ= .nx δ')(k:S' δ'=r):Zy S S' δ=r:=by rw[Zfi,h,Zro,k]
theorem Zhl{o:OT}(h:S δ= .rt o δ'):Zy S S' δ= .rt o δ':=by rw[Zfi,h,Zyj]
theorem Z5(h:EvV e δ d):wE e (Wt i) δ= .nx (δ.set i (YB (.fz d))):=by
 obtain⟨_,e1,d1⟩:=h;rw[Zbp,e1,Yu,Z0w,d1]
theorem Z6y(h:EvV e δ d):∃o,wE e Jp δ= .rt o δ/\o.data=d:=by
 obtain⟨_,e1,d1⟩:=h;exact⟨_,by rw[Zbp,e1,Yu,Z1n],d1⟩
theorem Zb4(h:EvT t δ YD)(k:S δ=r):J7 t S S' δ=r:=by
 unfold EvT at h;rw[Zqo,h,Yu,YL rfl,k]
theorem Yx(h:EvT t δ YF)(k:S' δ=r):J7 t S S' δ=r:=by
 unfold EvT at h;rw[Zqo,h,Yu,YM (by decide),k]
theorem Yeq{F:FD}{k:OT->Ze->RS}(h:EvA as δ ds)(hF:Told F ds d)(hk:∀o,o.data=d->k o δ=r):wX F as k δ=r:=by
 obtain⟨_,e1,d1⟩:=h;obtain⟨o,e2,d2⟩:=hF;rw[Z1h,e1,Yu,d1,e2,Z5l,hk o d2]
theorem Z25{k:OT->Ze->RS}{c:Str}(h:EvA as δ ds)(hF:F ds= .exn c):wX F as k δ= .ex c δ:=by
 obtain⟨_,e1,d1⟩:=h;rw[Z1h,e1,Yu,d1,hF,Z34]
def Zpx(S:FS)(δ:Ze)(d:Xa):Prop:=∃o δ',S δ= .rt o δ'/\o.data=d
theorem Wa(h:S δ= .nx δ')(k:Zpx S' δ' d):Zpx (Zy S S') δ d:=by
 obtain⟨o,δ2,e,hd⟩:=k;exact⟨o,δ2,Wb h e,hd⟩
theorem Zv5(k:Zpx S δ d):Zpx (Zy S S') δ d:=by
 obtain⟨o,δ2,e,hd⟩:=k;exact⟨o,δ2,Zhl e,hd⟩
theorem Zan(h:EvV e δ d):Zpx (wE e Jp) δ d:=by
 obtain⟨o,e1,hd⟩:=Z6y h;exact⟨o,δ,e1,hd⟩
theorem Z0o(h:EvT t δ YD)(k:Zpx S δ d):Zpx (J7 t S S') δ d:=by
 obtain⟨o,δ2,e,hd⟩:=k;exact⟨o,δ2,Zb4 h e,hd⟩
theorem Wq{np n:Nat}(hl:xs.length=np)(k:Zpx S (Zc6 n xs) d):Told (Za6 np n S) xs d:=by
 obtain⟨o,δ2,e,hd⟩:=k;exact⟨o,by rw[Jf hl,e,Zhe],hd⟩
def EvO(o:FO)(δ:Ze)(l:Option Int):Prop:=o δ=YB (l,δ)
theorem Yeo:EvO oN δ YC:=rfl
theorem Yd6{i:Int}(h:EvV e δ (.int i)):EvO (oI e) δ (YB i):=by
 obtain⟨_,e1,d1⟩:=h;unfold EvO;rw[Yci,e1,Xh,d1,Z1x]
theorem Z9x{lo hi:FO}{l h:Option Int}(he:EvV e δ (.list ds))(hl:EvO lo δ l)(hh:EvO hi δ h):EvV (fSl e lo hi) δ (.list (cutD ds l h)):=by
 obtain⟨_,e1,d1⟩:=he;unfold EvO at hl hh;exact⟨_,by rw[Z3k,e1,Xh,hl,Xh,hh,Xh,d1,Zua],by rw[OT.data_nd,OT.map_fz]⟩
theorem Zyt{es:List Xa}(ha:EvV a δ (.list ds))(hb:EvV b δ (.list es))(h:ds.length+es.length<=1000000):EvV (Yk Zz1 a b) δ (.list (ds++es)) :=
 Zyg ha hb (Z8n (by rw[X7];omega)) (by rw[OT.data_nd,OT.map_fz])
def EvI(it:FI)(δ:Ze)(ds:List Xa):Prop:=it δ=YB (ds,δ)
theorem Zdp(h:EvV e δ (.list ds)):EvI (Zji e) δ ds:=by
 obtain⟨_,e1,d1⟩:=h;unfold EvI;rw[Z0g,e1,Xh,d1,Zua]
theorem Zcd{n:Nat}(h:EvA as δ [.int n])(hn:n<=1000000):EvI (iRa as) δ (Zbs 0 n):=by
 obtain⟨_,e1,d1⟩:=h;unfold EvI;rw[Zyp,e1,Xh,d1,Z2r,Zrx (by omega) (by omega),XX]
theorem Zom(h:EvI it δ ds)(k:forLoop g S ds δ=r):Zae it g S δ=r:=by
 unfold EvI at h;rw[Z22,h,Yu,k]
theorem Zhy{cs:Ze}(xs:List Y)(mk f:Y->Xa)(hi:EvI it δ (xs.map mk))(hz:xs.length<=1000000)(hb:blk 1 caps δ=YC::cs)(h:∀x∈xs,EvV me (YB (.fz (mk x))::cs) (f x)):EvV (Y9 1 caps it (gNm 0) Zgn me) δ (.list (xs.map f)):=by
 have g:∀x,∃o:OT,x∈xs->me (YB (.fz (mk x))::cs)=YB (o,YB (.fz (mk x))::cs)/\o.data=f x:=λx=>by
  by_cases c:x∈xs
  .obtain⟨o,h1,h2⟩:=h x c
   exact⟨o,λ_=>⟨h1,h2⟩⟩
  .exact⟨.fz .none,λz=>YX z c⟩
 obtain⟨o,ho⟩:=Classical.axiomOfChoice g;unfold EvI at hi;refine⟨_,Zex (cs:=cs) xs mk o hi (by rw[X7];omega) hb (λx hx=>(ho x hx).1),?_⟩;rw[OT.data_nd,Qu];exact YT _ (XH λx hx=>(ho x hx).2)
theorem Ztr{ts:List OT}(h:EvV e δ d)(hi:δ[i]? =YB (YB (.nd ts)))(hl:ts.length<=1000000):Js i e δ= .nx (δ.set i (YB (.nd (ts++[.fz d])))):=by
 obtain⟨_,e1,d1⟩:=h;rw[Zp0,hi,Zvz,e1,Yu,hi,Zvz,Zxn hl,d1]
theorem Zjl{o:OT}(h:e δ=YB (o,δ)):wE e (J2 i) δ= .nx (δ.set i (YB o)):=by rw[Zbp,h,Yu,Zxh]
theorem Yes{o:OT}(h:δ[i]? =YB (YB o))(hd:o.data=d):Zpx (Ze5 i) δ d:=⟨o,_,by rw[Zgy,h,Z72],hd⟩
theorem Zu7{n:Nat}{c:Str}(hl:xs.length=np)(k:S (Zc6 n xs)= .ex c δ'):Za6 np n S xs= .exn c:=by rw[Jf hl,k,Z08]
theorem Zst{c:Str}(h:S δ= .ex c δ'):Zy S S' δ= .ex c δ':=by rw[Zfi,h,Z3l]
theorem Told.ok{F:FD}{b:Bool}(h:Told F ds (.bool b)):F ds= .ok (.fz (.bool b)):=by
 obtain⟨o,e1,d1⟩:=h;rw[e1,Zho d1]
theorem Zjy{o:OT}{i:Int}(h:o.data= .int i):o= .fz (.int i):=by
 cases o with
 | fz d=>rw[OT.data_fz]at h;rw[h]
 | nd ts=>rw[OT.data_nd]at h;cases h
 | tp ts=>rw[OT.data_tp]at h;cases h
 | dc _ _ _=>rw[OT.data_dc]at h;cases h
theorem Told.int{F:FD}{i:Int}(h:Told F ds (.int i)):F ds= .ok (.fz (.int i)):=by
 obtain⟨o,e1,d1⟩:=h;rw[e1,Zjy d1]
theorem Zs4{o:OT}(h:o.data= .none):o= .fz .none:=by
 cases o with
 | fz d=>rw[OT.data_fz]at h;rw[h]
 | nd ts=>rw[OT.data_nd]at h;cases h
 | tp ts=>rw[OT.data_tp]at h;cases h
 | dc _ _ _=>rw[OT.data_dc]at h;cases h
theorem Told.of{F:FD}{o:OT}(h:F ds= .ok o)(hd:o.data=d):Told F ds d:=⟨o,h,hd⟩
end
section
variable {e a b:FE}{as:FA}{δ δ':Ze}{x y d:Xa}{xs ds:List Xa}{i j:Int}{k:Nat}{p q:Bool}{t u:FT}{S S':FS}{r:RS}{Q:Xa->Prop}
theorem Zl3(ha:EvV a δ (.int i))(hb:EvV b δ (.int j))(h:j≠0):EvV (Zg Zja a b) δ (.int (i.fmod j)):=Zm ha hb (Z35 h)
theorem Z42{i j:Int}(h:(decide (0<j)&&decide (j<18446744073709551616))=YD):Za9 (.int i) (.int j)=YB (.int (i.fdiv j)):=by
 rw[XM,decide_eq_true_eq,decide_eq_true_eq]at h;exact Zf7 (Zfy (n:=64) (by omega) (Bt.of_lt (by omega) (by omega)))
theorem Z12(ha:EvV a δ (.int i))(hb:EvV b δ (.int j))(h:(decide (0<j)&&decide (j<18446744073709551616))=YD:=by decide):EvV (Zg Za9 a b) δ (.int (i.fdiv j)):=Zm ha hb (Z42 h)
theorem Z1m(ha:EvV a δ (.int i))(hb:EvV b δ (.int j))(h:i.natAbs<2^64:=by decide):EvV (Zg Zib a b) δ (.int (i*j)):=Zm ha hb (Zcu (Z4l h))
theorem Z41(ha:EvV a δ (.int i))(hb:EvV b δ (.int j))(h:decide (i<j)=p):EvV (Zg gLt a b) δ (.bool p):=h▸Zm ha hb rfl
theorem Z6w(ha:EvV a δ (.int i))(hb:EvV b δ (.int j))(h:decide (j<i)=p):EvV (Zg gGt a b) δ (.bool p):=h▸Zm ha hb (Yak _ _)
theorem Z1w(ha:EvV a δ (.int i))(hb:EvV b δ (.int j))(h:decide (j<=i)=p):EvV (Zg gGe a b) δ (.bool p):=h▸Zm ha hb (Z6z _ _)
theorem Zl4(ha:EvV a δ (.int i))(hb:EvV b δ (.int j))(h:decide (i=j)=p):EvV (Zg gEq a b) δ (.bool p):=h▸Zm ha hb (Z0t _ _)
theorem Zm3(ha:EvV a δ (.int i))(hb:EvV b δ (.int j))(h:(!decide (i=j))=p):EvV (Zg gNe a b) δ (.bool p):=h▸Zm ha hb (Ybx _ _)
theorem Zyo(ha:EvV a δ (.int i)):EvV (fUn Z60 a) δ (.int (-i)):=Ybr ha (Z3t _)
theorem Zsb{ds:List Xa}(h:EvV e δ (.list ds)):EvV (Zbt Zdv (Zc e Zn)) δ (.int ds.length):=Jq (Zb h Zh) (Zos ds)
theorem Zx8(ha:EvV a δ (.list ds))(hb:EvV b δ (.int i))(h:atI ds i=YB d):EvV (Yk gIx a b) δ d:=Ja ha hb (by rw[Zlb,h];rfl)
def Z3f(S:FS)(δ:Ze)(Q:Xa->Prop):Prop:=∃d,Zpx S δ d/\Q d
theorem Zl1(h:S δ= .nx δ')(k:Z3f S' δ' Q):Z3f (Zy S S') δ Q:=k.imp λ_ k=>⟨Wa h k.1,k.2⟩
theorem Zq7(h:EvV e δ d)(k:Q d):Z3f (wE e Jp) δ Q:=⟨d,Zan h,k⟩
theorem Z2h{n:Nat}(hl:xs.length=np)(h:Z3f S (Zc6 n xs) Q):∃d,Told (Za6 np n S) xs d/\Q d:=h.imp λ_ k=>⟨Wq hl k.1,k.2⟩
theorem Zym(I:Nat->Ze->Prop)(hi:EvI it δ ds)(h0:I 0 δ)(turn:∀(i:Nat) (d:Xa) (δ:Ze),ds[i]? =YB d->I i δ->∃δ1 δ2,g d δ=YB δ1/\(S δ1= .nx δ2\/S δ1= .ct δ2)/\I (i+1) δ2)(k:∀δ',I ds.length δ'->Z3f S' δ' Q):Z3f (Zy (Zae it g S) S') δ Q:=by
 obtain⟨δ',e,h⟩:=Zns I h0 turn;exact Zl1 (Zom hi e) (k δ' h)
theorem Zre{it:FI}{g:FG}(I:Nat->Ze->Prop)(hi:EvI it δ ds)(h0:I 0 δ)(turn:∀(i:Nat) (d:Xa) (δ:Ze),ds[i]? =YB d->I i δ->∃δ1 δ2,g d δ=YB δ1/\(S δ1= .nx δ2\/S δ1= .ct δ2)/\I (i+1) δ2)(k:∀δ',I ds.length δ'->Zpx S' δ' d):Zpx (Zy (Zae it g S) S') δ d:=by
 obtain⟨δ',e,h⟩:=Zns I h0 turn;exact Wa (Zom hi e) (k δ' h)
theorem Z04(I:Nat->Ze->Prop)(hi:EvI it δ ds)(h0:I 0 δ)(turn:∀(i:Nat) (d:Xa) (δ:Ze),ds[i]? =YB d->I i δ->∃δ1 δ2,g d δ=YB δ1/\(S δ1= .nx δ2\/S δ1= .ct δ2)/\I (i+1) δ2):∃δ',Zae it g S δ= .nx δ'/\I ds.length δ':=by
 obtain⟨δ',e,h⟩:=Zns I h0 turn;exact⟨δ',Zom hi e,h⟩
theorem Zzp{m n:Nat}(h:EvA as δ [.int m,.int n])(hm:m<=1000000)(hn:n<=1000000):EvI (iRb as) δ (Zbs m (n-m)):=by
 obtain⟨_,e1,d1⟩:=h;unfold EvI;rw[Z8g,e1,Xh,d1,Ybs,Z2n (by omega) (by omega) (by omega) (by omega),show((n:Int)-(m:Int)).toNat=n-m by omega]
theorem Znz:wE (Zez Zn) (J2 k) δ= .nx (δ.set k (YB (.nd []))):=Zjl (by rw[Zg6];rfl)
theorem Zml{i:Int}(h:0<j):0<=i.fmod j:=by rw[Zgz h];exact Int.emod_nonneg _ (by omega)
theorem Zmk{i:Int}(h:0<j):i.fmod j<j:=by rw[Zgz h];exact Int.emod_lt_of_pos _ h
theorem Yan{n:Int}(h:EvA as δ [.int n])(h0:0<=n)(h1:n<=1000000):EvV (Z6a as) δ (.list (Zbs 0 n.toNat)):=by
 obtain⟨_,e1,d1⟩:=h;exact⟨_,by rw[Z0b,e1,Xh,d1,Z2r,YL ⟨Zoq (by omega) (by omega),by rw[X7];omega⟩],by rw[OT.data_nd,OT.map_fz]⟩
theorem Z23{es:List Xa}(h:EvA as δ ds)(hz:Z7k ds=YB es):EvI (Zlc as) δ es:=by
 obtain⟨_,e1,d1⟩:=h;unfold EvI Zlc;rw[e1,Xh,d1,hz,Xh]
theorem Z6m{xs:List Str}{c:Str}{h:FS}{δ2:Ze}(e:S δ= .ex c δ')(hc:(xs.contains c&&Zpf c D)=YD)(hh:h (δ'.set k (YB (.fz (exD c))))= .nx δ2):Zzk xs S D k h δ= .nx (δ2.set k YC):=by
 unfold Zzk;rw[e];dsimp only;rw[YL hc,hh]
theorem Zyv{xs:List Str}{D x:Str}(ha:EvV a δ (exD x))(h:xs.contains x=YD)(hd:Zpf x D=p):EvV (Zqn xs D a) δ (.bool p):=by
 obtain⟨_,e1,d1⟩:=ha;exact⟨_,by unfold Zqn;rw[e1,Xh,d1,show Ziw (exD x)=YB x from rfl,Xh,YL h],by rw[OT.data_fz,hd]⟩
theorem Z0r{xs Ds:List Str}{x:Str}(ha:EvV a δ (exD x))(h:xs.contains x=YD)(hd:Ds.any (Zpf x)=p):EvV (Zn6 xs Ds a) δ (.bool p):=by
 obtain⟨_,e1,d1⟩:=ha;exact⟨_,by unfold Zn6;rw[e1,Xh,d1,show Ziw (exD x)=YB x from rfl,Xh,YL h],by rw[OT.data_fz,hd]⟩
theorem Zvs{it:FI}{g gg:FG}{δ1:Ze}(I:Nat->Ze->Prop){J:Ze->Prop}(hg:gg d δ=YB δ1)(hi:EvI it δ1 ds)(h0:I 0 δ1)(turn:∀(i:Nat) (d:Xa) (δ:Ze),ds[i]? =YB d->I i δ->∃δ1 δ2,g d δ=YB δ1/\(S δ1= .nx δ2\/S δ1= .ct δ2)/\I (i+1) δ2)(hJ:∀δ',I ds.length δ'->J δ'):∃δ1 δ2,gg d δ=YB δ1/\(Zae it g S δ1= .nx δ2\/Zae it g S δ1= .ct δ2)/\J δ2:=by
 obtain⟨δ',e,h⟩:=Zns I h0 turn;exact⟨δ1,δ',hg,.inl (Zom hi e),hJ δ' h⟩
theorem Zor{T:String}(ha:EvV a δ x)(h:Zql T x=p)(hf:Zim x=YF:=by rfl):EvV (Zul T a) δ (.bool p):=(Z79 ha hf).cast (by rw[h])
theorem Zs0{a b:FE}{bs es:List Xa}{as:List Xa}(ha:EvV a δ (.list as))(hb:EvV b δ (.list bs))(hz:Zmj as bs=es):EvI (Zlc (Zc a (Zc b Zn))) δ es:=Z23 (Zb ha (Zb hb Zh)) (YT YB hz)
theorem Zz7(ha:EvV a δ (.list ds)):EvI (Ztm (Zc a Zn)) δ (Zj9 ds):=by
 obtain⟨_,e1,d1⟩:=Zb ha Zh;unfold EvI Ztm;rw[e1,Xh];dsimp only;rw[d1]
theorem Zww{t:FT}{cs:Ze}(xs:List Y)(mk:Y->Xa)(pr:Y->Bool)(hi:EvI it δ (xs.map mk))(hz:xs.length<=1000000)(hb:blk 1 caps δ=YC::cs)(ht:∀x∈xs,EvT t (YB (.fz (mk x))::cs) (pr x))(h:∀x∈xs,pr x=YD->me (YB (.fz (mk x))::cs)=YB (.fz (mk x),YB (.fz (mk x))::cs)):EvV (Y9 1 caps it (gNm 0) t me) δ (.list ((xs.filter pr).map mk)):=by
 unfold EvI at hi;refine⟨_,Zud (cs:=cs) xs mk pr (λx=>.fz (mk x)) hi (by rw[X7];omega) hb (λx hx=>ht x hx) h,?_⟩;rw[OT.data_nd,Qu];exact YT _ (XH λx _=>OT.data_fz _)
theorem Told.none{F:FD}(h:Told F ds .none):F ds= .ok (.fz .none):=by
 obtain⟨o,e1,d1⟩:=h;rw[e1,Zs4 d1]
end
end L2
namespace My
open PySem L2 PySem.Spec
def Jl:FS :=
 (Zy (wE (Zbt Zqj (Zc (Zd 0) Zn)) (Wt 0))
  (Zy (wE (Zbt Zqj (Zc (Zd 1) Zn)) (Wt 1))
  (Zy (Zi6 (tV (Zg gNe (Zd 1) (fC (.int 0)))) (Zy (wE (Zg Zja (Zd 0) (Zd 1)) (Wt 2))
  (Zy (wE (Zd 1) (Wt 0))
  (wE (Zd 2) (Wt 1)))))
  (wE (Zd 0) Jp))))
def Z7:FD:=Za6 2 3 Jl
theorem Zko{f1 f2:Int->Int->Option OT->Ze}{t:FT}{u:FS}(ht:∀x y z,t (f1 x y z)=YB (!decide (y=0),f1 x y z))(hu:∀x y z,y≠0->∃z',u (f1 x y z)= .nx (f1 y (x.fmod y) z')) :
  ∀(n:Nat) (x y:Int) (z:Option OT),0<=x->0<=y->y.toNat<n->∃z',whileLoop t u n (f1 x y z)= .nx (f1 (Bm x y:Int) 0 z')
 | 0,_,_,_,_,_,h=>YX h (Vj _)
 | n+1,x,y,z,hx,hy,h=>by
  unfold whileLoop;rw[ht];dsimp only
  by_cases c:y=0
  .subst c
   refine⟨z,?_⟩;simp only[decide_true,V3,Qg,if_false];rw[Int.gcd_zero_right];congr 2;omega
  .simp only[c,decide_false,Bool.not_false,if_true]
   obtain⟨z1,e1⟩:=hu x y z c;rw[e1];dsimp only;have hm:x.fmod y=x%y:=Zgz (by omega);have h1:0<=x%y:=Int.emod_nonneg x c;have h2:x%y<y:=Int.emod_lt_of_pos x (by omega);obtain⟨z2,e2⟩:=Zko (f1:=f1) (f2:=f2) ht hu n y (x.fmod y) z1 hy (by omega) (by omega);exact⟨z2,by rw[e2,Zv1 hx (by omega)]⟩
theorem Zao(a b:Int):Z7 [.int a,.int b]= .ok (.fz (.int (Bm a b:Int))):=by
 obtain⟨z',e⟩:=Zko (f1:=λx y z=>[YB (.fz (.int x)),YB (.fz (.int y)),z]) (f2:=λx y z=>[]) (t:=tV (Zg gNe (Zd 1) (fC (.int 0)))) (u:=Zy (wE (Zg Zja (Zd 0) (Zd 1)) (Wt 2)) (Zy (wE (Zd 1) (Wt 0)) (wE (Zd 2) (Wt 1)))) (λx y z=>Zcg (Zm3 Za Z3 rfl)) (λx y z hy=>⟨_,Wb (Z5 (Zl3 Za Za hy)) (Wb (Z5 Za) (Z5 Za))⟩) ((b.natAbs:Int).toNat+1) (a.natAbs:Int) (b.natAbs:Int) YC (by omega) (by omega) (by omega);rw[Vu,Int.natAbs_natCast,Int.natAbs_natCast]at e;exact Told.int<|Wq rfl<|Wa (Z5 (Jq (Zb Za Zh) (Zh6 a)))<|Wa (Z5 (Jq (Zb Za Zh) (Zh6 b)))<|Wa (Zk0 _ e (by intro z;cases z)) (Zan Za)
def Zda:FS :=
 (Zy (wE (Z4 Z7 (Zc (Zd 0) (Zc (Zd 1) Zn))) (Wt 2))
  (Zy (J7 (tV (Zg gLt (Zd 1) (fC (.int 0))))
  (wE (fUn Z60 (Zd 2)) (Wt 2))
  fNx)
  (wE (Zsj (Zc (Zg Za9 (Zd 0) (Zd 2)) (Zc (Zg Za9 (Zd 1) (Zd 2)) Zn))) Jp)))
def Zar:FD:=Za6 2 3 Zda
theorem Z7f{n:Nat}{t b:Int}(hb:b≠0)(hB:Bt n b)(hn:n<=9000)(s:Int)(e:s=shr t b):Za9 (.int t) (.int s)=YB (.int (Qs t b).num)/\Za9 (.int b) (.int s)=YB (.int ((Qs t b).den:Int)):=by
 subst e;rw[Zf7 (Zfy (Zy4 hb) (Zxu hb hB) hn),Zf7 (Zfy (Zy4 hb) (Zxu hb hB) hn),Z1a hb,Z0i hb];exact⟨rfl,rfl⟩
theorem Zm0{n:Nat}{t b:Int}(hb:b≠0)(hB:Bt n b)(hn:n<=9000:=by decide):Told Zar [.int t,.int b] (frD (Qs t b)):=by
 have fin:∀{δ:Ze} {s:Int},s=shr t b->δ[0]? =YB (YB (.fz (.int t)))->δ[1]? =YB (YB (.fz (.int b)))->δ[2]? =YB (YB (.fz (.int s)))->Zpx (wE (Zsj (Zc (Zg Za9 (Zd 0) (Zd 2)) (Zc (Zg Za9 (Zd 1) (Zd 2)) Zn))) Jp) δ (frD (Qs t b)):=λe h0 h1 h2=>by
  obtain⟨e1,e2⟩:=Z7f hb hB hn _ e;exact Zan (Ziu (Zb (Zm (Za h0) (Za h2) e1) (Zb (Zm (Za h1) (Za h2) e2) Zh)) (show 2<=1000 by decide))
 have g:Told Z7 [.int t,.int b] _:=.of (Zao t b) (OT.data_fz _)
 by_cases c:b<0
 .exact Wq rfl<|Wa (Z5 (Zx (Zb Za (Zb Za Zh)) g))<|Wa (Zb4 (Zcg (Z41 Za Z3 (YQ c))) (Z5 (Zyo Za))) (fin (by unfold shr;rw[YL c]) rfl rfl rfl)
 .exact Wq rfl<|Wa (Z5 (Zx (Zb Za (Zb Za Zh)) g))<|Wa (Yx (Zcg (Z41 Za Z3 (YS c))) rfl) (fin (by unfold shr;rw[YM c]) rfl rfl rfl)
def Zcr:FS :=
 (wE (Z3h (Zul "int" (Zd 0)) (fUn Yax (Zul "bool" (Zd 0)))) Jp)
def Yq:FD:=Za6 1 1 Zcr
theorem Zgj(i:Int):Yq [.int i]= .ok (.fz (.bool YD)):=rfl
def Za3:FS :=
 (Zy (J7 (tO (tNo (tD (Z4 Yq (Zc (Zd 0) Zn)))) (tO (tNo (tD (Z4 Yq (Zc (Zd 1) Zn)))) (tV (Zg gEq (Zd 1) (fC (.int 0))))))
  (Zgg "NoNumber")
  fNx)
  (wE (Z4 Zar (Zc (Zd 0) (Zc (Zd 1) Zn))) Jp))
def Y5:FD:=Za6 2 2 Za3
theorem Zmu{n:Nat}{t b:Int}(hb:b≠0)(hB:Bt n b)(hn:n<=9000:=by decide):Told Y5 [.int t,.int b] (frD (Qs t b)):=by
 have w:∀{i:Int},Told Yq [.int i] (.bool YD):=fun{i}=>.of (Zgj i) (OT.data_fz _);exact Wq rfl<|Wa (Yx (Zxv (Zj7 (p:=YD) (Zg4 (Zx (Zb Za Zh) w))) (Zxv (Zj7 (p:=YD) (Zg4 (Zx (Zb Za Zh) w))) (Zcg (Zl4 Za Z3 (YS hb))))) rfl) (Zan (Zx (Zb Za (Zb Za Zh)) (Zm0 hb hB hn)))
def Zad:FS :=
 (Zy (wE (fC (.int 1)) (Wt 1))
  (Zy (Zae (Zji (Zd 0)) (gNm 2)
  (wE (Zg Zib (Zg Za9 (Zd 1) (Z4 Z7 (Zc (Zd 1) (Zc (Yk gIx (Zd 2) (fC (.int 1))) Zn)))) (Yk gIx (Zd 2) (fC (.int 1)))) (Wt 1)))
  (wE (Zd 1) Jp)))
def Y0:FD:=Za6 1 3 Zad
def prD(p:Int×Int):Xa:=.tuple [.int p.1,.int p.2]
end My
variable {S':FS}{B:Int}{cs:Ze}
namespace My
open PySem L2 PySem.Spec
theorem Zvg{a b:Int}(ha:0<a)(hb:0<b)(h1:a∣B)(h2:b∣B)(hB:0<B):0<a.fdiv (Bm a b)*b/\a∣a.fdiv (Bm a b)*b/\b∣a.fdiv (Bm a b)*b/\a.fdiv (Bm a b)*b∣B:=by
 have hg:0<(Bm a b:Int):=Zei (by omega);have d1:(Bm a b:Int)∣a:=Int.gcd_dvd_left ..;have d2:(Bm a b:Int)∣b:=Int.gcd_dvd_right ..;rw[W6 hg];have e:a/(Bm a b:Int)*b=(Int.lcm a b:Int):=by
  have q:=Int.gcd_mul_lcm a b;have h3:(Bm a b:Int)*(Int.lcm a b:Int)=a*b:=by
   rw[<-Int.natCast_mul,q,Int.natCast_mul,Vl (by omega),Vl (by omega)]
  obtain⟨k,hk⟩:=d1;have e1:a/(Bm a b:Int)=k:=Int.ediv_eq_of_eq_mul_right (by omega) hk;rw[e1];apply Int.eq_of_mul_eq_mul_left (a:=(Bm a b:Int)) (by omega);rw[h3,<-Int.mul_assoc,<-hk]
 rw[e];refine⟨?_,Int.dvd_lcm_left ..,Int.dvd_lcm_right ..,Int.coe_lcm_dvd h1 h2⟩;have:Int.lcm a b≠0:=by
  rw[Ne,Int.lcm_eq_zero_iff];omega
 omega
theorem Zlp{n:Nat}{a:Int}(hB:0<B)(h:a∣B)(b:Bt n B):Bt n a:=by
 refine Bt.of_le b ?_;have:=Int.natAbs_dvd_natAbs.mpr h;exact Nat.le_of_dvd (by omega) this
theorem Zgk{n:Nat}(hB:0<B)(bB:Bt n B)(hn:n<=9000:=by decide)(ps:List (Int×Int))(h:∀p∈ps,0<p.2/\p.2∣B) :
  ∃m,Told Y0 [.list (ps.map prD)] (.int m)/\0<m/\(∀p∈ps,p.2∣m)/\m∣B:=by
 have key:∃d,Told Y0 [.list (ps.map prD)] d/\∃m,d= .int m/\0<m/\(∀p∈ps,p.2∣m)/\m∣B:=by
  refine Z2h rfl<|Zl1 (Z5 Z3)<|Zym (ds:=ps.map prD) (λi δ=>∃m z,δ=[YB (.fz (.list (ps.map prD))),YB (.fz (.int m)),z]/\0<m/\(∀j p,j<i->ps[j]? =YB p->p.2∣m)/\m∣B) (Zdp Za) ⟨1,YC,rfl,by decide,λj p hj=>YX hj (Vj j),Int.one_dvd _⟩ (λi d δ hd hi=>?_) λδ' hi=>?_
  .obtain⟨m,z,hδ,h1,h2,h3⟩:=hi
   subst hδ;rw[Xp]at hd;cases e:ps[i]? with
   | none=>rw[e]at hd;cases hd
   | some p=>
    rw[e]at hd;cases hd;obtain⟨q1,q2⟩:=h p (QF e);obtain⟨s1,s2,s3,s4⟩:=Zvg h1 q1 h3 q2 hB;have g0:0<(Bm m p.2:Int):=Zei (by omega);have bg:Bt n (Bm m p.2:Int):=Zlp hB (Int.dvd_trans (Int.gcd_dvd_right ..) q2) bB;have bm:Bt n (m.fdiv (Bm m p.2)):=by
     rw[W6 g0];exact Bt.of_le (Zlp hB h3 bB) (V1 _ _)
    have at1:∀{δ:Ze},δ[2]? =YB (YB (.fz (prD p)))->EvV (Yk gIx (Zd 2) (fC (.int 1))) δ (.int p.2):=λh=>Ja (Za h) Z3 rfl;refine⟨_,_,rfl,.inl (Z5 (Zm (Zm Za (Zx (Zb Za (Zb (at1 rfl) Zh)) (.of (Zao m p.2) (OT.data_fz _))) (Zf7 (Zfy (by omega) bg hn))) (at1 rfl) (Zcu (Zbo bm (Zlp hB q2 bB) (by omega))))),_,_,rfl,s1,λj p' hj hp=>?_,s4⟩
    by_cases z:j=i
    .subst z
     rw[e]at hp;cases hp;exact s3
    .exact Int.dvd_trans (h2 j p' (by omega) hp) s2
  .obtain⟨m,z,rfl,h1,h2,h3⟩:=hi
   refine Zq7 Za ⟨m,rfl,h1,λp hp=>?_,h3⟩;obtain⟨j,hj⟩:=VH hp;exact h2 j p (by have:=(Xn.mp hj).1;rwa[Xg]) hj
 obtain⟨d,h,m,rfl,hm⟩:=key;exact⟨m,h,hm⟩
def Zaw:FS :=
 (Zy (wE (fC (.int 1)) (Wt 1))
  (Zy (Zae (Zji (Zd 0)) (gNm 2)
  (wE (Z4 Y0 (Zc (Yk Zz1 (Zez (Zc (Zsj (Zc (fC (.int 1)) (Zc (Zd 1) Zn))) Zn)) (Zd 2)) Zn)) (Wt 1)))
  (wE (Zd 1) Jp)))
def Yb:FD:=Za6 1 3 Zaw
theorem Z0f(r:List Rat):r.map frD=(r.map λq=>(q.num,(q.den:Int))).map prD:=by rw[Qu];rfl
def Z5c(T:List (List Rat))(B:Int):Prop:=∀r∈T,∀q∈r,(q.den:Int)∣B
theorem Zhd{n:Nat}(hB:0<B)(bB:Bt n B)(hn:n<=9000:=by decide)(T:List (List Rat))(hz:∀r∈T,r.length<=1000)(h:Z5c T B) :
  ∃m,Told Yb [tbD T] (.int m)/\0<m/\Z5c T m/\m∣B:=by
 have key:∃d,Told Yb [.list (T.map Zk1)] d/\∃m,d= .int m/\0<m/\Z5c T m/\m∣B:=by
  refine Z2h rfl<|Zl1 (Z5 Z3)<|Zym (ds:=T.map Zk1) (λi δ=>∃m z,δ=[YB (.fz (.list (T.map Zk1))),YB (.fz (.int m)),z]/\0<m/\(∀j r,j<i->T[j]? =YB r->∀q∈r,(q.den:Int)∣m)/\m∣B) (Zdp Za) ⟨1,YC,rfl,by decide,λj p hj=>YX hj (Vj j),Int.one_dvd _⟩ (λi d δ hd hi=>?_) λδ' hi=>?_
  .obtain⟨m,z,hδ,h1,h2,h3⟩:=hi
   subst hδ;rw[Xp]at hd;cases e:T[i]? with
   | none=>rw[e]at hd;cases hd
   | some r=>
    rw[e]at hd;cases hd;have hr:=QF e;obtain⟨m',e1,p1,p2,p3⟩:=Zgk hB bB hn ((1,m)::r.map λq=>(q.num,(q.den:Int))) λp hp=>by
     rcases Xi.mp hp with rfl|hp
     .exact⟨h1,h3⟩
     .obtain⟨q,hq,rfl⟩:=Qe.mp hp
      exact⟨Zkx q,h r hr q hq⟩
    rw[Qq,<-Z0f]at e1;have hl:=hz r hr;refine⟨_,_,rfl,.inl (Z5 (Zx (Zb (Zyt (ds:=[prD (1,m)]) (es:=r.map frD) (Ze4 (Zb (Ziu (Zb Z3 (Zb Za Zh)) (show 2<=1000 by decide)) Zh) (show 1<=1000 by decide)) Za (by rw[Xg,Vw];omega)) Zh) e1)),m',_,rfl,p1,λj r' hj hr' q hq=>?_,p3⟩
    by_cases z:j=i
    .subst z
     rw[e]at hr';cases hr';exact p2 (q.num,(q.den:Int)) (.tail _ (Qe.mpr ⟨q,hq,rfl⟩))
    .exact Int.dvd_trans (h2 j r' (by omega) hr' q hq) (p2 (1,m) (.head _))
  .obtain⟨m,z,rfl,h1,h2,h3⟩:=hi
   refine Zq7 Za ⟨m,rfl,h1,λr hr q hq=>?_,h3⟩;obtain⟨j,hj⟩:=VH hr;exact h2 j r (by have:=(Xn.mp hj).1;rwa[Xg]) hj q hq
 obtain⟨d,h,m,rfl,hm⟩:=key;exact⟨m,h,hm⟩
def scI(m:Int)(q:Rat):Int:=q.num*(m/(q.den:Int))
theorem Z4v{m:Int}{q:Rat}(h:(q.den:Int)∣m):(scI m q:Rat)=q*(m:Rat):=by
 obtain⟨k,rfl⟩:=h;unfold scI;rw[Int.mul_ediv_cancel_left _ (Zue q)];rw[Rat.intCast_mul,Rat.intCast_mul,Yf3,Rat.mul_assoc]
def Zcl:FS :=
 (wE (Y9 1 [0] (Zji (Zd 1)) (gNm 0) Zgn (Zg Zib (Yk gIx (Zd 0) (fC (.int 0))) (Zg Za9 (Zd 1) (Yk gIx (Zd 0) (fC (.int 1)))))) Jp)
def Zaa:FD:=Za6 2 2 Zcl
theorem Zmh{n:Nat}{m:Int}(hm:0<m)(bm:Bt n m)(r:List Rat)(hz:r.length<=1000)(h:∀q∈r,(q.den:Int)∣m/\Bt n q.num)(hn:n<=9000:=by decide) :
  Told Zaa [.int m,Zk1 r] (.list (r.map λq=>.int (scI m q))) :=
 Wq rfl<|Zan<|Zhy (cs:=[YB (.fz (.int m))]) r frD (λq=>.int (scI m q)) (Zdp Za) (by omega) rfl λq hq=>by
  obtain⟨h1,h2⟩:=h q hq;refine(Zm (Ja (d:=.int q.num) Za Z3 rfl) (Zm Za (Ja (d:=.int (q.den:Int)) Za Z3 rfl) (Zf7 (Zfy (Zue q) (Zlp hm h1 bm) hn))) (Zcu ?_)).cast ?_
  .rw[W6 (Zkx q)]
   exact Zbo h2 (Bt.of_le bm (V1 _ _)) (by omega)
  .rw[W6 (Zkx q)];rfl
def Zbz:FS :=
 (wE (Y9 1 [0] (Zji (Zd 1)) (gNm 0) Zgn (Z4 Zaa (Zc (Zd 1) (Zc (Zd 0) Zn)))) Jp)
def Y6:FD:=Za6 2 2 Zbz
theorem Zku{n:Nat}{m:Int}(hm:0<m)(bm:Bt n m)(T:List (List Rat))(hT:T.length<=1000)(hz:∀r∈T,r.length<=1000)(h:Z5c T m)(hb:∀r∈T,∀q∈r,Bt n q.num)(hn:n<=9000:=by decide) :
  Told Y6 [.int m,tbD T] (.list (T.map λr=>.list (r.map λq=>.int (scI m q)))) :=
 Wq rfl<|Zan<|Zhy (cs:=[YB (.fz (.int m))]) T Zk1 (λr=>.list (r.map λq=>.int (scI m q))) (Zdp Za) (by omega) rfl λr hr=>Zx (Zb Za (Zb Za Zh)) (Zmh hm bm r (hz r hr) (λq hq=>⟨h r hr q hq,hb r hr q hq⟩) hn)
def Zdf:FS :=
 (Zy (wE (Zez Zn) (J2 1))
  (Zy (Zae (iRa (Zc (Zd 0) Zn)) (gNm 2)
  (Zae (iRb (Zc (Zg Zdl (Zd 2) (fC (.int 1))) (Zc (Zd 0) Zn))) (gNm 3)
  (Js 1 (Zsj (Zc (Zd 2) (Zc (Zd 3) Zn))))))
  (Ze5 1)))
def Za1:FD:=Za6 1 4 Zdf
def Zhq(n:Nat):List (Nat×Nat):=(Xu n).flatMap λi=>(Xu (n-(i+1))).map λj=>(i,i+1+j)
def ptD(p:Nat×Nat):Xa:=.tuple [.int p.1,.int p.2]
theorem Zo7{n:Nat}{p:Nat×Nat}(h:p∈Zhq n):p.1<p.2/\p.2<n:=by
 unfold Zhq at h;obtain⟨i,hi,hp⟩:=List.mem_flatMap.mp h;obtain⟨j,hj,rfl⟩:=Qe.mp hp;have:=Qd.mp hi;have:=Qd.mp hj;dsimp only;omega
theorem Zpq{n:Nat}(h:i<j)(hj:j<n):(i,j)∈Zhq n:=by
 unfold Zhq;exact List.mem_flatMap.mpr ⟨i,Qd.mpr (by omega),Qe.mpr ⟨j-(i+1),Qd.mpr (by omega),by congr 1;omega⟩⟩
def Zls(n i:Nat):List (Nat×Nat):=(Xu i).flatMap λi=>(Xu (n-(i+1))).map λj=>(i,i+1+j)
theorem Zln(n:Nat):∀i,(Zls n i).length<=i*n
 | 0=>by simp[Zls]
 | i+1=>by
  have:=Zln n i;unfold Zls at this|-
  rw[Uw,List.flatMap_append,QL];simp only[List.flatMap_cons,List.flatMap_nil,QW,Xg,Xk];have e:(i+1)*n=i*n+n:=by rw[Nat.succ_mul]
  omega
theorem Zpl(n i:Nat):Zls n (i+1)=Zls n i++(Xu (n-(i+1))).map λj=>(i,i+1+j):=by
 unfold Zls;rw[Uw,List.flatMap_append];simp
theorem Zm1(n:Nat)(hn:n<=1000):Told Za1 [.int n] (.list ((Zhq n).map ptD)):=by
 refine Wq rfl<|Wa Znz<|Zre (ds:=Zbs 0 n) (λi δ=>∃z1 z2,δ=[YB (.fz (.int n)),YB (.nd (((Zls n i).map ptD).map OT.fz)),z1,z2]) (Zcd (Zb Za Zh) (by omega)) ⟨_,_,rfl⟩ (λi d δ hd h=>?_) λδ' h=>?_
 .obtain⟨z1,z2,rfl⟩:=h
  obtain⟨hi,rfl⟩:=Yz hd;rw[Q8];have ln:=Zln n i;have l2:i*n<=999*1000:=Nat.mul_le_mul (by omega) hn;refine Zvs (ds:=Zbs ((i+1:Nat):Int) (n-(i+1))) (λj δ=>∃z,δ=[YB (.fz (.int n)),YB (.nd (((Zls n i++(Xu j).map λj=>(i,i+1+j)).map ptD).map OT.fz)),YB (.fz (.int i)),z]) rfl (Zzp (m:=i+1) (Zb (EvV.cast (Zbw Za Z3) rfl) (Zb Za Zh)) (by omega) (by omega)) ⟨z2,by rw[List.range_zero,List.map_nil,QW];rfl⟩ (λj d δ hd h=>?_) λδ' h=>?_
  .obtain⟨z,rfl⟩:=h
   obtain⟨hj,rfl⟩:=Yz hd;refine⟨_,_,rfl,.inl (Ztr (Ziu (Zb Za (Zb Za Zh)) (show 2<=1000 by decide)) rfl (by rw[Xg,Xg,QL,Xg,Xk];omega)),YB (.fz (.int (((i+1:Nat):Int)+j))),?_⟩;rw[Uw];simp only[JZ,Vz];rfl
  .obtain⟨z,rfl⟩:=h
   rw[Zw,<-Zpl];exact⟨_,_,rfl⟩
 .obtain⟨z1,z2,rfl⟩:=h
  rw[Zw];exact Yes rfl (by rw[OT.data_nd,OT.map_fz];rfl)
end My
namespace L2
open PySem PySem.Spec PyProof.Rows
variable {G:Xc}
theorem Owns.deepT{b' q:YG}{ws ws':List V}{us us' rs:List OT}{c:Nat}(hb:H b'=Qn (HO.lst ws))(hL:¬L b')(hc:∀cs,Owns G H L ws us cs->∃cs',Owns G H L ws' us' cs'/\cs'.Sublist cs)(hq:H q=Qn (HO.tup zs))(hz:zs[c]? =Qn (.ref b'))(hr:rs[c]? =Qn (.nd us)) :
  ∀{xs:List V} {ts:List OT} {as:List YG} {j:Nat},Owns G H L xs ts as->as.Nodup->xs[j]? =Qn (.ref q)->ts[j]? =Qn (.tp rs)->∃as',Owns G (upd H b' (.lst ws')) L xs (ts.set j (.tp (rs.set c (.nd us')))) as'/\as'.Sublist as/\b'∈as
 | _,_,_,_,.nil,_,e,_=>by simp at e
 | _,_,_,0,.cons (as:=as) (bs:=bs) k t,nd,e,e'=>by
  simp at e e';subst e e';have nd':=JS.mp nd;have kp:∀a o,a≠b'->H a=Qn o->upd H b' (.lst ws') a=Qn o:=λa o n q=>by rw[Zo n];exact q
  have f1:∀a (zs:MuO),L a->Rd H a zs.ho->L a/\Rd (upd H b' (.lst ws')) a zs.ho:=λa zs l q=>⟨l,by
   have na:a≠b':=λz=>hL (z▸l);rcases q with q|⟨u,q⟩
   .exact .inl (kp a _ na q)
   .exact .inr ⟨u,kp a _ na q⟩⟩
  have f2:∀a (zs:ImO),H a=Qn zs.ho->upd H b' (.lst ws') a=Qn zs.ho:=λa zs q=>kp a _ (λz=>ImO.nl q (z▸hb)) q;cases k with
  | tp h r=>
   rename_i xs0;rw[hq]at h;cases h;obtain⟨cs',o',s',m'⟩:=Owns.deep hb hL hc r nd'.1 hz hr;have nq:q≠b':=λz=>by rw[z,hb]at hq;cases hq
   exact⟨cs'++bs,.cons (.tp (by rw[Zo nq];exact hq) o') (t.frame f1 f2 λa m zs q=>kp a _ (λz=>nd'.2.2 b' m' a m z.symm) q),List.Sublist.append_right s' bs,JL _ m'⟩
 | _,_,_,j+1,.cons (as:=as) (bs:=bs) k t,nd,e,e'=>by
  have nd':=JS.mp nd;obtain⟨as',o,s,m⟩:=Owns.deepT hb hL hc hq hz hr (j:=j) t nd'.2.1 (by simpa using e) (by simpa using e');have nb:b'∉as:=λz=>nd'.2.2 b' z b' m rfl;refine⟨as++as',.cons ?_ o,Ux s as,XJ _ m⟩;have kp:∀a o,a≠b'->H a=Qn o->upd H b' (.lst ws') a=Qn o:=λa o n q=>by rw[Zo n];exact q
  refine k.frame (λa zs l q=>⟨l,?_⟩) (λa zs q=>kp a _ (λz=>ImO.nl q (z▸hb)) q) λa m' zs q=>kp a _ (λz=>nb (z▸m')) q;have na:a≠b':=λz=>hL (z▸l);rcases q with q|⟨u,q⟩
  .exact .inl (kp a _ na q)
  .exact .inr ⟨u,kp a _ na q⟩
def Zv2(c:Nat)(d:Xa):OT->OT
 | .tp rs=>.tp (match rs[c]? with|some (.nd us)=>rs.set c (.nd (us++[.fz d]))|_=>rs)
 | t=>t
def Zun(c:Nat)(d:Xa)(k:Nat)(ts:List OT):List OT:=(ts.take k).map (Zv2 c d)++ts.drop k
theorem Zte(c:Nat)(d:Xa)(ts:List OT):Zun c d 0 ts=ts:=by simp[Zun]
theorem Zw0(c:Nat)(d:Xa)(ts:List OT):Zun c d ts.length ts=ts.map (Zv2 c d):=by simp[Zun]
theorem Zxj{c:Nat}{d:Xa}{k:Nat}{t:OT}(h:ts[k]? =YB t):(Zun c d k ts)[k]? =YB t:=by
 obtain⟨hk,e⟩:=Xn.mp h;unfold Zun;rw[Q0 (by simp;omega)];simp[Nat.min_eq_left (Vs hk),h]
theorem Zwn{c:Nat}{d:Xa}{k:Nat}{t:OT}(h:ts[k]? =YB t):(Zun c d k ts).set k (Zv2 c d t)=Zun c d (k+1) ts:=by
 obtain⟨hk,e⟩:=Xn.mp h;unfold Zun;have hl:((ts.take k).map (Zv2 c d)).length=k:=by simp[Nat.min_eq_left (Vs hk)]
 rw[List.set_append_right _ _ (by omega),hl,Nat.sub_self,Vh hk,e,List.set_cons_zero,List.take_succ_eq_append_getElem hk,e,JZ,Vz];rfl
def Zot(i j c:Nat)(d:Xa):MSt:=λD δ=>match δ[i]? with
 | some (YB (.nd ts))=>j<δ.length/\(∀t∈ts,∃rs us,t= .tp rs/\rs[c]? =YB (.nd us)/\us.length<Xw)/\D.nx ((δ.set i (YB (.nd (ts.map (Zv2 c d))))).set j YC)
 | _=>False
section
variable {pt kp sp:Pos}
theorem Zu1(i j c:Nat){v0:V}{d:Xa}(he:PE X e (tC v0))(hsc:ScD v0 d)(hc:X.calm=YD)(nd:X.N.Nodup)(hN:X.N[i]? =YB x)(hj:X.N[j]? =YB y)(hij:i≠j)(hlj:Loc X.env.scope y)(hio:j∉io:=by decide)
  (hv:Vis X.env.scope x:=by first|exact Qx rfl|exact Qm (Qx rfl)|exact Qm (Qm rfl)) (hvy:Vis X.env.scope y:=by first|exact Qx rfl|exact Qm (Qx rfl)|exact Qm (Qm rfl))
  (hd:(x==("__debug__" : Str))=YF:=by decide) (hcd:(x==("__classdict__" : Str))=YF:=by decide) (hdy:(y==("__debug__" : Str))=YF:=by decide) (hcdy:(y==("__classdict__" : Str))=YF:=by decide)
  (hxe:X.xe= λ_ _=>False:=by rfl)
  (hbase:UW (.Subscript (.Name y px) (.Constant (.int c) kk kp) sp) "append" X.env (eval (.Subscript (.Name y px) (.Constant (.int c) kk kp) sp) X.env)=eval (.Subscript (.Name y px) (.Constant (.int c) kk kp) sp) X.env:=by rfl)
  (hfew:((JG cpos (Xr [e] X.env)).all (λx=>!x.1)&&(backToKw cpos (keywordEach [] X.env)).all (λx=>x.1.isSome)
   &&decide ([e].length+([]:List Uu).length+(if([]:List Uu).isEmpty then 0 else 1)<30))=YD:=by rfl)
  (hline:(apos.endLine==cpos.line)=YD:=by rfl) (hs:Xr [e] X.env=(YF,eval e X.env)::Xr [] X.env:=by rfl) (hplain:(JG cpos (Xr [] X.env)).any (·.1)=YF:=by rfl)
  (hsw:Vn (.Call (.Attribute (.Subscript (.Name y px) (.Constant (.int c) kk kp) sp) "append" apos) [e] [] cpos) YC p2.line X.env=pure YF:=by rfl) (hfs:∀z,JX (.Name x pl) X.env z=pure z:=by intro _;rfl)
  (hf:X.fn y=YD\/X.env.scope.names.lookup y=YB .local:=by first|exact .inl rfl|exact .inr rfl|assumption) :
  MS X io (.For (.Name y pt) (.Name x pl) [.Expr (.Call (.Attribute (.Subscript (.Name y px) (.Constant (.int c) kk kp) sp) "append" apos) [e] [] cpos) p2] [] pos) (Zot i j c d):=by
 refine⟨_,Zyi (by rw[hxe];exact X3) hc (Zq5 (pv i hN hv hd hcd)) (Zmo (i:=j) nd hj hlj (hf:=hf)) (Zrj (Zjk (Zzb PySem.F.plainAttrs_list PySem.F.slot_list_append PySem.F.type_list_append Zep (Z28 (Zqt rfl) (pv j hj hvy hdy hcdy) Zt0 (λ_ _=>rfl)) (Ys he Zdq hs) hbase hfew hline hs hplain) hsw)) hfs,λC H O δ fp ex D D' R h E=>?_⟩;unfold Zot at h;split at h
 case h_2=>exact h.elim
 rename_i ts hi;obtain⟨a',xs,bs,hv0,hx,ow,hfp⟩:=R.ownNd hi;have ndi:=R.nd i;rw[hfp]at ndi;have hnd:=Qh.mp ndi;refine⟨_,hv0,a',rfl,⟨xs,.inl (.inl hx)⟩,?_⟩;refine Zvk (xs:=xs) (λk O' H'=>O'.length=O.length/\(∀q,q≠j->O'[q]? =O[q]?)/\H' a'=YB (.lst xs)/\(∃bs',Owns X.K H' (Lf C fp ex) xs (Zun c d k ts) bs'/\bs'.Sublist bs)/\(∀b o,H b=YB o->b∉fp i->H' b=YB o)/\∀b,H' b=YC->H b=YC)
  ⟨rfl,λ_ _=>rfl,hx,⟨bs,by rw[Zte];exact ow,List.Sublist.refl _⟩,λ_ _ e _=>e,λ_ e=>e⟩ ?_ ?_ ?_
 .rintro k O' H' _ ⟨_,_,e,_⟩
  exact .inl (.inl e)
 .rintro k xk O' H' hk ⟨hl,hσ,hx',⟨bs',ow',hsb⟩,keep,al⟩
  have hkl:k<ts.length:=by rw[<-ow.length];exact(Xn.mp hk).1
  obtain⟨t,ht⟩:∃t,ts[k]? =YB t:=⟨_,Xm hkl⟩;obtain⟨rs,us,rfl,hrs,hus⟩:=h.2.1 t (QF ht);have hget:=Zxj (c:=c) (d:=d) ht;obtain⟨xr,cr,hxr,orow,hsub⟩:=ow'.get hget;rw[hk]at hxr;cases hxr;have ndb:bs'.Nodup:=hnd.2.sublist hsb;cases orow with
  | tp hq r3=>
   rename_i q zs;obtain⟨xc,cc,hxc,oc,hsub2⟩:=r3.get hrs;cases oc with
   | nd hb r4=>
    rename_i b' ws bs4;have hbm:b'∈bs':=hsub.subset (hsub2.subset (.head _));have hbf:b'∈fp i:=by rw[hfp];exact .tail _ (hsb.subset hbm)
    have hLb:¬Lf C fp ex b':=λl=>l.1 ⟨i,hbf⟩;have jl:j<O'.length:=by rw[hl,R.len];exact h.1
    show∃v,(O'.set j (YB (.ref q)))[j]? =YB (YB v)/\_;refine⟨_,Qo jl,.inr (.inl ⟨q,zs,c,V.ref b',rfl,rfl,.inl (.inl hq),?_,?_⟩)⟩
    .unfold atI ixN
     have hc:c<zs.length:=(Xn.mp hxc).1;rw[YL (by omega),YL (by omega)];simpa using hxc
    refine⟨.inl ⟨rfl,ws,.inl (.inl hb)⟩,b',ws,v0,rfl,rfl,hb,by rw[r4.length];exact hus,?_⟩;have hba:a'≠b':=λz=>hnd.1 (hsb.subset (z▸hbm));obtain⟨as',oo,ss,_⟩:=Owns.deepT (ws':=ws++[v0]) (us':=us++[.fz d]) hb hLb (λcs hcs=>⟨cs++[],hcs.snoc (.fz hsc.da),by rw[QW];exact List.Sublist.refl _⟩) hq hxc hrs ow' ndb hk hget;refine⟨by rw[Bo];exact hl,λq hq=>by rw[Qc (JW hq)];exact hσ q hq,by rw[Zo hba];exact hx',⟨as',?_,ss.trans hsb⟩,λb o eb nb=>?_,λb eb=>?_⟩
    .have z:=Zwn (c:=c) (d:=d) ht
     have e2:Zv2 c d (.tp rs)= .tp (rs.set c (.nd (us++[.fz d]))):=by
      show OT.tp (match rs[c]? with|some (.nd us)=>rs.set c (.nd (us++[.fz d]))|_=>rs)=_;rw[hrs]
     rw[e2]at z;rw[<-z];exact oo
    .have nz:b≠b':=λz=>nb (by rw[z];exact hbf)
     rw[Zo nz];exact keep b o eb nb
    .refine al b ?_
     by_cases q:b=b'
     .subst q;rw[Zu]at eb;cases eb
     .rwa[Zo q]at eb
 .rintro O' H' ⟨hl,hσ,hx',⟨bs',ow',hsb⟩,keep,al⟩
  rw[ow.length,Zw0]at ow';have sub:∀a,a∈a'::bs'->a∈fp i:=λa m=>by
   rw[hfp];rcases Xi.mp m with rfl|m
   .exact .head _
   .exact .tail _ (hsb.subset m)
  have lw:∀a,Lf C fp ex a->H' a≠YC->Lf C (fpu fp i (a'::bs')) (exu ex []) a:=λa l _=>⟨λz=>by
   rcases z.of_u with z|⟨k,_,z⟩
   .exact l.1 ⟨i,sub a z⟩
   .exact l.1 ⟨k,z⟩,λz=>l.2.1 (Zbn.mp z),l.2.2⟩
  obtain⟨R4,S4⟩:=R.change (new:=[]) (as':=a'::bs') (t':=.nd (ts.map (Zv2 c d))) (H':=H') hi hv0 keep al (.nd hx' (ow'.wide lw)) (Qh.mpr ⟨λm=>hnd.1 (hsb.subset m),hnd.2.sublist hsb⟩) (λa m=>.inl (sub a m)) (λa m=>nomatch m);have R5:=R4.drop (ex':=ex) λa z=>.inl z;obtain⟨fp6,R6,K6⟩:=R5.forget2 hio hl hσ;exact E.nx _ O' _ fp6 R6 (S4.kp.trans K6) h.2.2
end
def Z7t(c:Nat):OT->Bool
 | .tp rs=>match rs[c]? with|some (.nd us)=>decide (us.length<Xw)|_=>YF
 | _=>YF
def Zlt(i j c:Nat)(d:Xa):FS:=λδ=>match δ[i]? with
 | some (YB (.nd ts))=>if j<δ.length/\ts.all (Z7t c)=YD then .nx ((δ.set i (YB (.nd (ts.map (Zv2 c d))))).set j YC)else .bad
 | _=>.bad
section
variable {c:Nat}{d:Xa}
theorem Zw5(h:MS X io st (Zot i j c d)):MS X io st (oS (Zlt i j c d)):=h.weak λD δ h=>by
 unfold oS Zlt at h;unfold Zot;split at h
 case h_2=>exact h.elim
 rename_i ts q;(try rw[q]);obtain⟨hc,h⟩:=Zeq h;refine⟨hc.1,λt ht=>?_,h⟩;have:=Va.mp hc.2 t ht;unfold Z7t at this;split at this
 .rename_i rs
  split at this
  .rename_i us e
   exact⟨rs,us,rfl,e,YW this⟩
  .cases this
 .cases this
end
variable {G:Xc}
theorem Owns.split:∀{xs:List V} {ts:List OT} {as:List YG},Owns G H L xs ts as->∃ass:List (List YG),ass.length=xs.length/\ass.flatten=as/\∀(k:Nat) (x:V) (t:OT) (b:List YG),xs[k]? =Qn x->ts[k]? =Qn t->ass[k]? =Qn b->Own G H L x t b
 | _,_,_,.nil=>⟨[],rfl,rfl,λk x t b e=>by simp at e⟩
 | _,_,_,.cons (as:=as) (bs:=bs) h r=>by
  obtain⟨ass,e1,e2,h2⟩:=Owns.split r;refine⟨as::ass,by rw[QZ,QZ,e1],by rw[List.flatten_cons,e2],λk x t b q1 q2 q3=>?_⟩;cases k with
  | zero=>
   simp at q1 q2 q3;subst q1 q2 q3;exact h
  | succ k=>exact h2 k x t b (by simpa using q1) (by simpa using q2) (by simpa using q3)
theorem Owns.pick{H:Hp}{L:YG->Prop}{xs:List V}{ts:List OT}{ass:List (List YG)}(d:OT)(hl:xs.length=ts.length)(ha:ass.length=xs.length)(h:∀(k:Nat) (x:V) (t:OT) (b:List YG),xs[k]? =Qn x->ts[k]? =Qn t->ass[k]? =Qn b->Own G H L x t b) :
  ∀p:List Nat,(∀k∈p,k<xs.length)->Owns G H L (p.map λk=>xs.getD k .non) (p.map λk=>ts.getD k d) (p.flatMap λk=>ass.getD k [])
 | [],_=>.nil
 | k::p,hp=>by
  have hk:=hp k (.head _);rw[Qq,Qq,List.flatMap_cons];refine .cons ?_ (Owns.pick d hl ha h p λk m=>hp k (.tail _ m));refine h k _ _ _ ?_ ?_ ?_
  .rw[Xj,Xm hk];rfl
  .rw[Xj,Xm (hl▸hk)];rfl
  .rw[Xj,Xm (ha▸hk)];rfl
theorem Zkc(ass:List (List YG)):((Xu ass.length).flatMap λk=>ass.getD k [])=ass.flatten:=by
 rw[List.flatMap_def];refine YT List.flatten (Ub λk=>?_);rw[Xp]
 by_cases h:k<ass.length
 .rw[Qy h,Option.map_some,Xj,Xm h];rfl
 .rw[QB (by rw[Xk];omega),QB (by omega)];rfl
theorem Owns.sLay{H:Hp}{L:YG->Prop}{lt:Nat->Nat->Bool}{xs:List V}{ts:List OT}{as:List YG}(d:OT)(h:Owns G H L xs ts as):∃as',Owns G H L (L2.sLay .non lt xs) (L2.sLay d lt ts) as'/\as'.Perm as:=by
 unfold L2.sLay;rw[h.length];split
 .exact⟨as,h,.refl _⟩
 .rename_i h2
  obtain⟨ass,e1,e2,h3⟩:=h.split;have pm:=Zc1 (lt:=lt) (n:=ts.length) (by omega);refine⟨_,Owns.pick d h.length e1 h3 (Zum lt ts.length) λk m=>?_,?_⟩
  .have:=Qd.mp (pm.mem_iff.mp m)
   rw[h.length];exact this
  .rw[<-e2,<-Zkc,e1,h.length]
   exact pm.flatMap_right _
def Zg2(kd:Xa->Option Y)(lt:Y->Y->Bool)(i:Nat):MSt:=λD δ=>match δ[i]? with
 | some (YB (.nd ts))=>ts.length<64/\keyed kd (OT.datas ts)/\D.rt (.nd (sLay (.fz .none) (lk kd lt (OT.datas ts)) ts)) (δ.set i YC)
 | _=>False
section
variable {kd:Xa->Option Y}{lt:Y->Y->Bool}
theorem Zi7(i:Nat)(S:Yai kd lt)(hu:X.A.units+64<cLine)(hg:Gl X "sorted")(hm:X.mg "sorted"=YC)(hvb:X4 "sorted"=YB (.builtin "sorted"))(hio:i∉io:=by decide)(hN:X.N[i]? =YB x:=by rfl)(hv:Vis X.env.scope x:=by first|exact Qx rfl|exact Qm (Qx rfl)|exact Qm (Qm rfl))(hd:(x==("__debug__" : Str))=YF:=by decide)
  (hcd:(x==("__classdict__" : Str))=YF:=by decide) (he:Xr [.Name x px] X.env=(YF,eval (.Name x px) X.env)::Xr [] X.env:=by rfl) (hpl:(JG cpos (Xr [] X.env)).any (·.1)=YF:=by rfl) :
  MS X io (.Return (YB (.Call (.Name "sorted" pp) [.Name x px] [] cpos)) pos) (Zg2 kd lt i):=by
 refine⟨_,Zq1 (Zes (Zp3 S rfl hu) hg hm hvb (Ys (pv i hN hv hd hcd) Zdq he) (by decide) (by decide) he hpl),λC H O δ fp ex D D' R h E=>?_⟩;unfold Zg2 at h;split at h
 case h_2=>exact h.elim
 rename_i ts hi;obtain⟨a',xs,bs,hv0,hx,ow,hfp⟩:=R.ownNd hi;have ndi:=R.nd i;rw[hfp]at ndi;have hnd:=Qh.mp ndi;refine⟨_,hv0,a',xs,λ_=>True,OT.datas ts,rfl,.inl (.inl hx),ow.das (λ_ _ _=>trivial) (λ_ _=>trivial),by rw[ow.length];exact h.1,h.2.1,λl hl=>?_⟩;have s:=Ye hl (.lst (sLay .non (lk kd lt (OT.datas ts)) xs));obtain⟨as',oo,pm⟩:=ow.sLay (lt:=lk kd lt (OT.datas ts)) (.fz .none);have sub:∀a∈as',a∈fp i:=λa m=>by rw[hfp];exact .tail _ (pm.mem_iff.mp m)
 have hla:l∉as':=λm=>R.footSome hl ⟨i,sub l m⟩;have R1:=(R.take hi).made (new:=[l]) s (λa m=>by rw[Xv.mp m];exact⟨hl,by rw[Zu];intro z;cases z⟩);have lw:∀a,Lf C fp ex a->H a≠YC->Lf C (fpu fp i []) (exu ex (l::as')) a:=λa q ha=>⟨λz=>by
   rcases z.of_u with z|⟨j,_,z⟩
   .exact nomatch z
   .exact q.1 ⟨j,z⟩,λz=>by
   rcases z with z|z
   .exact q.2.1 z
   .rcases Xi.mp z with z|z
    .exact ha (by rw[z];exact hl)
    .exact q.1 ⟨i,sub a z⟩,q.2.2⟩
 have R2:Rel C io (upd H l (.lst (sLay .non (lk kd lt (OT.datas ts)) xs))) O (δ.set i YC) (fpu fp i []) (exu ex (l::as')):=R1.drop λa z=>by
  rcases z with z|z
  .exact .inl (.inl z)
  .rcases Xi.mp z with z|z
   .exact .inr (Xv.mpr z)
   .exact .inl (.inr (sub a z))
 have hn:∀a∈l::as',C.H₀ a=YC:=λa m=>by
  rcases Xi.mp m with z|z
  .rw[z];exact R.al l hl
  .rcases R.new i a (sub a z)with w|w
   .exact YX w.1 hio
   .exact w
 exact E.rt _ O (.ref l) _ (δ.set i YC) (fpu fp i []) (l::as') R2 (.nd Zu ((oo.wide lw).same s)) (Qh.mpr ⟨hla,pm.nodup_iff.mpr hnd.2⟩) hn h.2.2
end
def Zbf(kd:Xa->Option Y)(lt:Y->Y->Bool)(i:Nat):FS:=λδ=>match δ[i]? with
 | some (YB (.nd ts))=>if(decide (ts.length<64)&&(OT.datas ts).all λd=>(kd d).isSome)=YD then .rt (.nd (sLay (.fz .none) (lk kd lt (OT.datas ts)) ts)) (δ.set i YC)else .bad
 | _=>.bad
section
variable {kd:Xa->Option Y}{lt:Y->Y->Bool}
theorem Zjf(h:MS X io st (Zg2 kd lt i)):MS X io st (oS (Zbf kd lt i)):=h.weak λD δ h=>by
 unfold oS Zbf at h;unfold Zg2;split at h
 case h_2=>exact h.elim
 rename_i ts q;(try rw[q]);obtain⟨hc,h⟩:=Zeq h;rw[XM]at hc;exact⟨YW hc.1,λd m=>Option.isSome_iff_exists.mp (Va.mp hc.2 d m),h⟩
instance nx_fRetSort:NoEx (Zbf kd lt i):=⟨λδ cn δ' h=>by
 unfold Zbf at h;split at h
 .split at h<;>cases h
 .cases h⟩
end
end L2
namespace L2
open PySem PySem.Spec PyProof.Rows PySem.W
theorem Zfc{lt:Nat->Nat->Bool}{f:Y->KasT β}(t:KasT Y):kEv lt (t.bind f)=kEv lt (f (kEv lt t)):=by
 induction t with
 | ret a=>rfl
 | ask i j k ih=>exact ih _
structure Tot(lt:Nat->Nat->Bool)(n:Nat):Prop where
 tr:∀i j k,i<n->j<n->k<n->lt i j=YD->lt j k=YD->lt i k=YD
 tot:∀i j,i<n->j<n->i≠j->lt i j=YF->lt j i=YD
 asy:∀i j,i<n->j<n->lt i j=YD->lt j i=YF
section
variable {lt:Nat->Nat->Bool}{n:Nat}
abbrev gD(p:Array Nat)(i:Nat):Nat:=p.getD i 0
theorem kP.size{p:Array Nat}(h:kP n p):p.size=n:=by rw[<-X5,List.Perm.length_eq h,Xk]
theorem Zmy{p:Array Nat}(h:i<p.size):p[i]? =YB (gD p i):=by rw[VN h];simp[gD,Array.getD,h]
theorem Zwy{p q:Array Nat}(h:p[i]? =q[j]?):gD p i=gD q j:=by
 show p.getD i 0=q.getD j 0;rw[Array.getD_eq_getD_getElem?,Array.getD_eq_getD_getElem?,h]
theorem kP.blw{p:Array Nat}(h:kP n p)(hi:i<n):gD p i<n:=h.at (Nat.lt_of_le_of_lt (QG _) hi) i
theorem kP.ne{p:Array Nat}(h:kP n p){i j:Nat}(hi:i<j)(hj:j<n):gD p i≠gD p j:=λe=>by
 have nd:p.toList.Nodup:=(List.Perm.nodup_iff h).mpr List.nodup_range;have sz:=h.size;have a:=Zmy (p:=p) (i:=i) (by omega);have b:=Zmy (p:=p) (i:=j) (by omega);rw[<-Qv]at a b;obtain⟨a1,a2⟩:=Xn.mp a;obtain⟨b1,b2⟩:=Xn.mp b;exact VR.mp nd i j a1 b1 hi (by rw[a2,b2,e])
def Ri(lt:Nat->Nat->Bool)(p:Array Nat)(m:Nat):Prop:=∀i j,i<j->j<m->lt (gD p i) (gD p j)=YD
def Fa(lt:Nat->Nat->Bool)(p:Array Nat)(m:Nat):Prop:=∀i j,i<j->j<m->lt (gD p j) (gD p i)=YD
variable (T:Tot lt n)
include T
theorem Zx1{p:Array Nat}(h:kP n p)(f:Nat):∀m,1<=m->m+f<=n->Ri lt p m->Ri lt p (kEv lt (kas_asc p f m))/\m<=kEv lt (kas_asc p f m)/\kEv lt (kas_asc p f m)<=m+f/\(kEv lt (kas_asc p f m)<m+f->lt (gD p (kEv lt (kas_asc p f m))) (gD p (kEv lt (kas_asc p f m)-1))=YD):=by
 induction f with
 | zero=>exact λm _ _ r=>⟨r,XQ _,XQ _,λz=>YX z (BX _)⟩
 | succ f ih=>
  intro m h1 hn r;show _/\_;rw[kas_asc,kEv];cases c:lt (p.getD m 0) (p.getD (m-1) 0)with
  | true=>
   rw[YL rfl,kEv];exact⟨r,XQ _,Vb _ _,λ_=>c⟩
  | false=>
   rw[YM XC];have up:lt (gD p (m-1)) (gD p m)=YD:=T.tot _ _ (h.blw (by omega)) (h.blw (by omega)) (h.ne (by omega) (by omega)).symm c;have r2:Ri lt p (m+1):=λi j hij hj=>by
    rcases QT j m with q|q
    .exact r i j hij q
    .have:j=m:=by omega
     subst this;rcases QT i (j-1)with q2|q2
     .exact T.tr _ _ _ (h.blw (by omega)) (h.blw (by omega)) (h.blw (by omega)) (r i (j-1) q2 (by omega)) up
     .have:i=j-1:=by omega
      subst this;exact up
   obtain⟨a,b,c,d⟩:=ih (m+1) (by omega) (by omega) r2;exact⟨a,by omega,by omega,λz=>d (by omega)⟩
theorem Z1g{p:Array Nat}(h:kP n p)(f:Nat):∀m,1<=m->m+f<=n->Fa lt p m->∃m',kEv lt (kas_desc f p m 0)=(p,m',0)/\Fa lt p m'/\m<=m'/\m'<=m+f:=by
 induction f with
 | zero=>exact λm _ _ r=>⟨m,rfl,r,XQ _,XQ _⟩
 | succ f ih=>
  intro m h1 hn r;rw[kas_desc,kEv];cases c:lt (p.getD m 0) (p.getD (m-1) 0)with
  | true=>
   rw[YL rfl,YM (BX _)];have r2:Fa lt p (m+1):=λi j hij hj=>by
    rcases QT j m with q|q
    .exact r i j hij q
    .have:j=m:=by omega
     subst this;rcases QT i (j-1)with q2|q2
     .exact T.tr _ _ _ (h.blw (by omega)) (h.blw (by omega)) (h.blw (by omega)) c (r i (j-1) q2 (by omega))
     .have:i=j-1:=by omega
      subst this;exact c
   obtain⟨m',e,a,b,d⟩:=ih (m+1) (by omega) (by omega) r2;exact⟨m',e,a,by omega,by omega⟩
  | false=>
   rw[YM XC,kEv];have up:lt (p.getD (m-1) 0) (p.getD m 0)=YD:=T.tot _ _ (h.blw (by omega)) (h.blw (by omega)) (h.ne (by omega) (by omega)).symm c;rw[up,YL rfl,kEv];exact⟨m,rfl,r,XQ _,Vb _ _⟩
theorem Zwh{p:Array Nat}(h:kP n p)(h0:0<n):∃m p',kEv lt (kas_count n p)=(m,p')/\kP n p'/\Ri lt p' m/\1<=m/\m<=n:=by
 rw[kas_count,Zfc];obtain⟨a,b,c,d⟩:=Zx1 T h (n-1) 1 (XQ _) (by omega) λi j _ _=>by omega
 generalize kEv lt (kas_asc p (n-1) 1)=m at a b c d
 by_cases e:m=n
 .rw[YL (by rw[e];exact beq_self_eq_true _),kEv]
  exact⟨m,p,rfl,h,a,b,by omega⟩
 rw[YM (λz=>e (YZ.mp z))]
 by_cases m1:m>1
 .rw[YL m1,kEv,a 0 (m-1) (by omega) (by omega),YL rfl,kEv]
  exact⟨m,p,rfl,h,a,b,by omega⟩
 rw[YM m1];have em:m=1:=by omega
 subst em;have lt1:=d (by omega);rw[kas_descPart,Zfc];obtain⟨m',e2,f2,b2,d2⟩:=Z1g T h (n-(1+1)) (1+1) (by omega) (by omega) λi j hij hj=>by
  have:i=0:=by omega
  have:j=1:=by omega
  subst i j;exact lt1
 rw[e2,YM (BX _),kas_tail3,Zfc,kEv];have kr:kP n (kas_rev p 0 m'):=h.rev _ _;have rr:Ri lt (kas_rev p 0 m') m':=λi j hij hj=>by
  have ge:∀k,k<m'->gD (kas_rev p 0 m') k=gD p (m'-1-k):=λk hk=>Zwy (by
   have:=getElem?_mirror_all (xs:=p) (i:=0) (j:=m') (by rw[h.size];omega) k;rw[YL ⟨QG _,hk⟩,Vk]at this;exact this)
  rw[ge i (by omega),ge j hj];exact f2 _ _ (by omega) (by omega)
 obtain⟨a,b,c,_⟩:=Zx1 T kr (n-m') m' (by omega) (by omega) rr;have n2:2<=n:=by omega
 have:m'<=n:=by omega
 refine⟨_,_,rfl,kr,a,?_,?_⟩
 .exact Q7 (by omega) b
 .exact Q7 c (by omega)
theorem Zwf{p:Array Nat}(h:kP n p){k:Nat}(hk:k<n)(f:Nat):∀l r,l<=r->r<=k->r-l<=f->(∀i,i<l->lt (gD p i) (gD p k)=YD)->(∀i,r<=i->i<k->lt (gD p k) (gD p i)=YD)->Ri lt p k ->
  kEv lt (kas_place p k f l r)<=k/\(∀i,i<kEv lt (kas_place p k f l r)->lt (gD p i) (gD p k)=YD)/\∀i,kEv lt (kas_place p k f l r)<=i->i<k->lt (gD p k) (gD p i)=YD:=by
 induction f with
 | zero=>
  intro l r lr rk z a b R;have:l=r:=by omega
  subst this;exact⟨rk,a,b⟩
 | succ f ih=>
  intro l r lr rk z a b R;rw[kas_place]
  by_cases c:l>=r
  .rw[YL c,kEv]
   exact⟨by omega,a,λi x y=>b i (by omega) y⟩
  rw[YM c,kEv];have hm:(l+r)/2<k:=by omega
  cases q:lt (p.getD k 0) (p.getD ((l+r)/2) 0)with
  | true=>
   rw[YL rfl];refine ih _ _ (by omega) (by omega) (by omega) a (λi x y=>?_) R
   by_cases e:i=(l+r)/2
   .subst e;exact q
   .exact T.tr _ _ _ (h.blw hk) (h.blw (by omega)) (h.blw (by omega)) q (R _ _ (by omega) y)
  | false=>
   rw[YM XC];have up:lt (gD p ((l+r)/2)) (gD p k)=YD:=T.tot _ _ (h.blw hk) (h.blw (by omega)) (h.ne hm hk).symm q;refine ih _ _ (by omega) (by omega) (by omega) (λi x=>?_) b R
   by_cases e:i=(l+r)/2
   .subst e;exact up
   .exact T.tr _ _ _ (h.blw (by omega)) (h.blw (by omega)) (h.blw hk) (R _ _ (by omega) hm) up
theorem Z6p(f:Nat):∀{p:Array Nat} (h:kP n p) (k:Nat),k+f<=n->Ri lt p k->Ri lt (kEv lt (kas_bin f p k)) (k+f):=by
 induction f with
 | zero=>exact λh k _ r=>r
 | succ f ih=>
  intro p h k hn r;rw[kas_bin,Zfc];obtain⟨a,b,c⟩:=Zwf T h (k:=k) (by omega) k 0 k (QG _) (XQ _) (by omega) (λi z=>YX z (Vj _)) (λi x y=>YX y (by omega)) r;generalize kEv lt (kas_place p k k 0 k)=l at a b c;have ge:∀j,gD (bubble p k (k-l)) j=if j=l then gD p k else if l<j/\j<=k then gD p (j-1)else gD p j:=λj=>by
   have e:=getElem?_bubble (xs:=p) (src:=k) (by rw[h.size];omega) (k-l) (by omega) j;have e0:k-(k-l)=l:=by omega
   rw[e0]at e
   by_cases c1:j=l
   .rw[YL c1]at e|-
    exact Zwy e
   .rw[YM c1]at e|-
    by_cases c2:l<j/\j<=k
    .rw[YL c2]at e|-
     exact Zwy e
    .rw[YM c2]at e|-
     exact Zwy e
  have:=ih (h.bub k (k-l)) (k+1) (by omega) λi j hij hj=>?_
  .rw[show k+1+f=k+(f+1) by omega]at this
   exact this
  rw[ge,ge];rcases VB j l with q|q|q
  .rw[YM (by omega),YM (by omega),YM (by omega),YM (by omega)]
   exact r i j hij (by omega)
  .rw[YM (by omega),YM (by omega),YL q]
   exact b i (by omega)
  .rw[YM (show¬j=l by omega),YL (show l<j/\j<=k by omega)]
   rcases VB i l with q2|q2|q2
   .rw[YM (by omega),YM (by omega)]
    exact r i (j-1) (by omega) (by omega)
   .rw[YL q2]
    exact c (j-1) (by omega) (by omega)
   .rw[YM (by omega),YL (by omega)]
    exact r (i-1) (j-1) (by omega) (by omega)
theorem Z1z(h0:0<n):Ri lt (kEv lt (kas_sort n)) n:=by
 rw[kas_sort,Zfc];obtain⟨m,p,e,kp,r,l1,l2⟩:=Zwh T (p:=VL (Xu n)) (List.Perm.refl _) h0;rw[e]
 by_cases c:m<n
 .rw[YL c]
  have em:max m 1=m:=by omega
  rw[em];have:=Z6p T (n-m) kp m (by omega) r;rw[show m+(n-m)=n by omega]at this;exact this
 .rw[YM c,kEv]
  have:m=n:=by omega
  rw[this]at r;exact r
theorem Z15(h0:0<n):(Zum lt n).Pairwise λi j=>lt i j=YD:=by
 have h:kP n (kEv lt (kas_sort n)):=(Zhb h0).ev (P:=kP n);have r:=Z1z T h0;refine VR.mpr λi j hi hj hij=>?_;have sz:=h.size;rw[<-X5]at sz;have l2:(Zum lt n).length=n:=sz;have ge:∀k (hk:k<(Zum lt n).length),(Zum lt n)[k]=gD (kEv lt (kas_sort n)) k:=λk hk=>by
  have:=Zmy (p:=kEv lt (kas_sort n)) (i:=k) (by rw[h.size];omega);rw[<-Qv]at this;exact(Xn.mp this).2
 rw[ge,ge];exact r i j hij (by omega)
end
theorem Z02{β:Type}{d:Y}{lt:Nat->Nat->Bool}{vs:List Y}{R:Y->Y->Prop}(T:Tot lt vs.length)(hR:∀i j,i<vs.length->j<vs.length->lt i j=YD->R (vs.getD i d) (vs.getD j d)):(sLay d lt vs).Pairwise R:=by
 unfold sLay;split
 .rename_i c
  match vs,c with
  | [],_=>exact .nil
  | [a],_=>exact List.pairwise_singleton _ _
 .rename_i c
  have pm:=Zc1 (lt:=lt) (n:=vs.length) (by omega);have up:=Z15 T (by omega);have h:=List.Pairwise.imp_of_mem (fun{i j} hi hj e=>hR i j (Qd.mp (pm.mem_iff.mp hi)) (Qd.mp (pm.mem_iff.mp hj)) e) up;exact List.pairwise_map.mpr h
end L2
namespace My
open PySem L2 PySem.Spec
def xsL:List Str:=["NoCut","NoNumber","NoTable"]
def Zdc:FS :=
 (Zy (wE (Zg Zja (Yk gIx (Zcm 0) (fC (.int 0))) (Zd 1)) (Wt 2))
  (Zy (Z2a 0 (Zg Za9 (Yk gIx (Zcm 0) (fC (.int 0))) (Zd 1)) (fC (.int 0)))
  (wE (Zd 2) Jp)))
def Zi:FIO:=Zpi 2 3 Zdc
def Zby:FS :=
 (wE (Zg Zdl (fC (.int 1)) (Z6 0 Zi (Zc (Yk gIx (Zez (Zc (fC (.int 1)) (Zc (fC (.int 12)) (Zc (Zg Zgp (fC (.int 10)) (fC (.int 9))) Zn)))) (Z6 0 Zi (Zc (fC (.int 3)) Zn))) Zn))) Jp)
def Jv:FIO:=Zpi 1 1 Zby
def Zc5:FS :=
 (Zy (wE (Zg Zdl (Zg Zdl (Zg Zib (Zg Zja (Zd 0) (Zg Zgp (fC (.int 10)) (fC (.int 40)))) (fC (.int 48271))) (Zg Zib (Zg Zib (Zg Zgp (fC (.int 3)) (fC (.int 60))) (Zg Zdl (Zd 1) (fC (.int 1)))) (Zg Zdl (Zd 1) (fC (.int 1))))) (Zd 1)) (Wt 2))
  (Zy (wE (Zg Zdl (Zg Zib (Zd 2) (Zd 2)) (Zg Zib (fC (.int 69621)) (Zd 2))) (Wt 2))
  (wE (Zg Za9 (Zg Zja (Zg Zib (Zd 2) (Zd 2)) (Zg Zdl (Zg Zgp (fC (.int 10)) (fC (.int 61))) (fC (.int 7)))) (fC (.int 8))) Jp)))
def Yc:FD:=Za6 2 3 Zc5
def Jm:FS :=
 (Zy (J7 (tV (Zg gGe (Zd 0) (Zg Zgp (fC (.int 10)) (fC (.int 18)))))
  (wE (Zez (Zc (Zg gSb (Zd 0) (Zg Zgp (fC (.int 10)) (fC (.int 18)))) Zn)) Jp)
  fNx)
  (wE (Zez (Zc (Zg Zdl (Zg Zib (Zg Zdl (Zg Zib (Z4 Yc (Zc (Zd 0) (Zc (fC (.int 1)) Zn))) (Zg Zgp (fC (.int 10)) (fC (.int 60)))) (Z4 Yc (Zc (Zd 0) (Zc (fC (.int 2)) Zn)))) (Zg Zgp (fC (.int 10)) (fC (.int 60)))) (Z4 Yc (Zc (Zd 0) (Zc (fC (.int 3)) Zn)))) Zn)) Jp))
def Jh:FD:=Za6 1 1 Jm
def Zaq:FS :=
 (Zy (wE (Zbt Zqj (Zc (Zd 0) Zn)) (Wt 2))
  (Zy (wE (Zd 1) (Wt 3))
  (Zy (Zi6 (tV (Zg gNe (Zd 3) (fC (.int 0)))) (Zy (wE (Zg Zja (Zd 2) (Zd 3)) (Wt 4))
  (Zy (wE (Zd 3) (Wt 2))
  (wE (Zd 4) (Wt 3)))))
  (wE (Zsj (Zc (Zg Za9 (Zd 0) (Zd 2)) (Zc (Zg Za9 (Zd 1) (Zd 2)) Zn))) Jp))))
def Wc:FD:=Za6 2 5 Zaq
def Zdo:FS :=
 (Zy (wE (Zaf (Zc (Zd 0) Zn)) (Wt 2))
  (Zy (wE (Zez Zn) (J2 3))
  (Zy (Zae (iRb (Zc (fC (.int 1)) (Zc (Zbt Zdv (Zc (Zd 2) Zn)) Zn))) (gNm 4)
  (Zy (wE (Y9 1 [0,2,4] (iRa (Zc (Zbt Zdv (Zc (Zd 0) Zn)) Zn)) (gNm 0) (tV (Zg gGe (Yk gIx (Zd 1) (Zd 0)) (Yk gIx (Zd 2) (Zd 3)))) (Zd 0)) (Wt 5))
  (Zy (J7 (tV (Zg (Zsv YF) (fC (.int 0)) (Zd 5)))
  (wE (Y9 1 [0,2,4] (iRa (Zc (Zbt Zdv (Zc (Zd 0) Zn)) Zn)) (gNm 0) (tV (Zg gLt (Yk gIx (Zd 1) (Zd 0)) (Yk gIx (Zd 2) (Zd 3)))) (Zd 0)) (Wt 5))
  fNx)
  (Js 3 (Zsj (Zc (Zd 5) (Zc (Z4 Wc (Zc (Zg gSb (Yk gIx (Zd 2) (Zd 4)) (Yk gIx (Zd 2) (Zg gSb (Zd 4) (fC (.int 1))))) (Zc (Zd 1) Zn))) Zn)))))))
  (Zbf kdT ltT 3))))
def Jy:FD:=Za6 2 6 Zdo
def Zc3:FS :=
 (Zy (J7 (tO (tNo (tD (Zul "list" (Zd 0)))) (tV (Zg gNe (Zd 0) (Zd 1))))
  (wE (fC (.bool YF)) Jp)
  fNx)
  (Zy (Zae (Zji (Zd 0)) (gNm 2)
  (J7 (tO (tNo (tD (Zul "tuple" (Zd 2)))) (tO (tNo (tD (Zul "list" (Yk gIx (Zd 2) (fC (.int 0)))))) (tNo (tD (Zul "tuple" (Yk gIx (Zd 2) (fC (.int 1))))))))
  (wE (fC (.bool YF)) Jp)
  fNx))
  (wE (fC (.bool YD)) Jp)))
def Zax:FD:=Za6 2 3 Zc3
def J8:FS :=
 (wE (Y9 1 [0] (Zji (Zd 0)) (gNm 0) Zgn (Y9 1 [0] (Zji (Zd 1)) (gNm 0) Zgn (Zbt Zqj (Zc (Zg gSb (Zd 1) (Zd 0)) Zn)))) Jp)
def Yh:FD:=Za6 1 1 J8
def Zat:FS :=
 (Zy (wE (Yk gIx (Zd 1) (Zbt Zdv (Zc (Zd 2) Zn))) (Wt 4))
  (Zy (Zae (iRa (Zc (Zbt Zdv (Zc (Zd 2) Zn)) Zn)) (gNm 5)
  (J7 (tV (Zg gNe (Zbt Zqj (Zc (Zg gSb (Yk gIx (Zd 2) (Zd 5)) (Zd 3)) Zn)) (Yk gIx (Yk gIx (Zd 0) (Yk gIx (Zd 1) (Zd 5))) (Zd 4))))
  (wE (fC (.bool YF)) Jp)
  fNx))
  (wE (fC (.bool YD)) Jp)))
def Wo:FD:=Za6 4 6 Zat
def Ji:FS :=
 (Zy (wE (Zez (Zc (fC (.int 0)) Zn)) (J2 2))
  (Zy (Zae (iRb (Zc (fC (.int 1)) (Zc (Zbt Zdv (Zc (Zd 1) Zn)) Zn))) (gNm 3)
  (Zy (wE (Yk gIx (Yk gIx (Zd 0) (Yk gIx (Zd 1) (fC (.int 0)))) (Yk gIx (Zd 1) (Zd 3))) (Wt 4))
  (Zy (wE (Zez Zn) (J2 5))
  (Zy (Zae (iTp (Zsj (Zc (Zd 4) (Zc (Zg gSb (fC (.int 0)) (Zd 4)) Zn)))) (gNm 6)
  (J7 (tD (Z4 Wo (Zc (Zd 0) (Zc (Zd 1) (Zc (Zcm 2) (Zc (Zd 6) Zn))))))
  (Js 5 (Zd 6))
  fNx))
  (Zy (J7 (tV (Zg gEq (Zcm 5) (Zez Zn)))
  (wE (fC .none) Jp)
  fNx)
  (Js 2 (Zjm (Yk gIx (Zcm 5) (fC (.int 0))))))))))
  (Ze5 2)))
def Wk:FD:=Za6 2 7 Ji
def Zbd:FS :=
 (Zae (iRa (Zc (Zbt Zdv (Zc (Zcm 0) Zn)) Zn)) (gNm 3)
  (Zae (iRa (Zc (Zbt Zdv (Zc (Zcm 0) Zn)) Zn)) (gNm 4)
  (J7 (tV (Zg gNe (Zg Z9b (Zg Z4h (Zd 1) (Zd 3)) (fC (.int 1))) (Zg Z9b (Zg Z4h (Zd 1) (Zd 4)) (fC (.int 1)))))
  (Zcn 0 (Zg Zdl (Yk gIx (Yk gIx (Zcm 0) (Zd 3)) (Zd 4)) (Zd 2)) (Zd 3) (Zd 4))
  fNx)))
def Wm:FIO:=Zpi 3 5 Zbd
def Wx:FS :=
 (wE (Y9 1 [0] (iRa (Zc (Zd 0) Zn)) (gNm 0) Zgn (Y9 1 [] (iRa (Zc (Zd 1) Zn)) (gNm 0) Zgn (fC (.int 0)))) Jp)
def Yo:FD:=Za6 1 1 Wx
def Zau:FS :=
 (Zy (wE (Zbt Zdv (Zc (Zcm 0) Zn)) (Wt 1))
  (Zae (iRa (Zc (Zd 1) Zn)) (gNm 2)
  (Zae (iRa (Zc (Zd 1) Zn)) (gNm 3)
  (Zae (iRa (Zc (Zd 1) Zn)) (gNm 4)
  (Zcn 0 (Zbt Z8e (Zc (Yk gIx (Yk gIx (Zcm 0) (Zd 3)) (Zd 4)) (Zc (Zg Zdl (Yk gIx (Yk gIx (Zcm 0) (Zd 3)) (Zd 2)) (Yk gIx (Yk gIx (Zcm 0) (Zd 2)) (Zd 4))) Zn))) (Zd 3) (Zd 4))))))
def W5:FIO:=Zpi 1 5 Zau
def Zcw:FS :=
 (Zy (wE (Z4 Yo (Zc (Zd 1) Zn)) (J2 2))
  (Zy (wE (Z6 0 Zi (Zc (fC (.int 4)) Zn)) (Wt 3))
  (Zy (J7 (tV (Zg gNe (Zd 3) (fC (.int 1))))
  (Zae (iRa (Zc (Z6 0 Zi (Zc (fC (.int 7)) Zn)) Zn)) (gNm 4)
  (Zy (wE (Z6 0 Zi (Zc (Zg Z9d (fC (.int 1)) (Zd 1)) Zn)) (Wt 5))
  (wE (Z6 2 Wm (Zc (Zd 5) (Zc (Zg Zdl (fC (.int 1)) (Z6 0 Zi (Zc (Yk gIx (Zez (Zc (fC (.int 3)) (Zc (Zg Zgp (fC (.int 10)) (fC (.int 20))) Zn))) (Z6 0 Zi (Zc (fC (.int 2)) Zn))) Zn))) Zn))) Zj1)))
  fNx)
  (Zy (J7 (tV (Zg gGt (Zd 3) (fC (.int 0))))
  (Zy (wE (Z4 Yo (Zc (Zd 1) Zn)) (J2 6))
  (Zy (wE (Yk gIx (Zez (Zc (fC (.int 3)) (Zc (fC (.int 7)) (Zc (Zg Zgp (fC (.int 10)) (fC (.int 20))) Zn)))) (Z6 0 Zi (Zc (fC (.int 3)) Zn))) (Wt 7))
  (Zy (Zae (iRa (Zc (Zd 1) Zn)) (gNm 8)
  (Zae (iRa (Zc (Zd 8) Zn)) (gNm 9)
  (Zy (Zcn 6 (Yk gIx (Zez (Zc (Zg Zdl (fC (.int 1)) (Z6 0 Zi (Zc (Zd 7) Zn))) (Zc (Zd 7) Zn))) (Zbt Z1b (Zc (Zg gEq (Zd 3) (fC (.int 3))) Zn))) (Zd 8) (Zd 9))
  (Zy (J7 (tAn (tV (Zg gEq (Zd 3) (fC (.int 3)))) (tV (Zg gEq (Z6 0 Zi (Zc (fC (.int 2)) Zn)) (fC (.int 0)))))
  (Zcn 6 (fC (.int 1)) (Zd 8) (Zd 9))
  fNx)
  (Zcn 6 (Zjm (Yk gIx (Yk gIx (Zcm 6) (Zd 8)) (Zd 9))) (Zd 9) (Zd 8))))))
  (Zy (wE (Z6 6 W5 Zn) Zj1)
  (Zae (iRa (Zc (Zd 1) Zn)) (gNm 8)
  (Z2a 2 (Y9 2 [] (Zlc (Zc (Yk gIx (Zcm 2) (Zd 8)) (Zc (Yk gIx (Zcm 6) (Zd 8)) Zn))) (gTp 2 (gCn (Z2t 0) (gCn (Z2t 1) gNl))) Zgn (Zg Zdl (Zd 0) (Zd 1))) (Zd 8)))))))
  fNx)
  (Ze5 2)))))
def Zap:FIO:=Zpi 2 10 Zcw
def Zbu:FS :=
 (Zy (wE (Yk gIx (Zez (Zc (fC (.int 4)) (Zc (fC (.int 9)) (Zc (Zg Zgp (fC (.int 10)) (fC (.int 20))) Zn)))) (Z6 0 Zi (Zc (fC (.int 3)) Zn))) (Wt 2))
  (wE (Zlv 1 [0,2] 0 1 (iRa (Zc (Zd 1) Zn)) (gNm 0) Zgn (Zg gSb (Z6 1 Zi (Zc (Zg Zdl (Zg Zib (fC (.int 2)) (Zd 2)) (fC (.int 1))) Zn)) (Zd 2))) Jp))
def Wy:FIO:=Zpi 2 3 Zbu
def Zch:FS :=
 (Zy (J7 (tV (Zg gEq (Z6 0 Zi (Zc (fC (.int 2)) Zn)) (fC (.int 0))))
  (wE (Z6 0 Zap (Zc (Zd 1) Zn)) Jp)
  fNx)
  (Zy (wE (Z4 Yh (Zc (Z6 0 Wy (Zc (Zd 1) Zn)) Zn)) (J2 2))
  (Zy (Zae (iRa (Zc (fC (.int 2)) Zn)) (gNm 3)
  (Zy (wE (Z6 0 Zi (Zc (Zd 1) Zn)) (Wt 4))
  (Zy (wE (Z6 0 Zi (Zc (Zd 1) Zn)) (Wt 5))
  (J7 (tV (Zg gNe (Zd 4) (Zd 5)))
  (Zy (Zcn 2 (Zg Zdl (Zjm (Yk gIx (Yk gIx (Zcm 2) (Zd 4)) (Zd 5))) (Z6 0 Zi (Zc (fC (.int 3)) Zn))) (Zd 4) (Zd 5))
  (Zcn 2 (Zjm (Yk gIx (Yk gIx (Zcm 2) (Zd 4)) (Zd 5))) (Zd 5) (Zd 4)))
  fNx))))
  (Ze5 2))))
def Zac:FIO:=Zpi 2 6 Zch
def Zcj:FS :=
 (wE (Y9 1 [1] (Zji (Zd 0)) (gNm 0) Zgn (Y9 1 [1] (Zji (Zd 0)) (gNm 0) Zgn (Z4 Wc (Zc (Zd 0) (Zc (Zd 1) Zn))))) Jp)
def Yi:FD:=Za6 2 2 Zcj
def J3:FS :=
 (Zy (J7 (tD (Zn6 xsL ["NoCut","NoName","NoNumber","NoOrder","NoPoint","NoRow","NoText","NoWeb","TooMany"] (Zd 0)))
  (wE (fC (.bool YF)) Jp)
  fNx)
  (wE (Z3h (Zqn xsL "NoTable" (Zd 0)) (Zqn xsL "ValueError" (Zd 0))) Jp))
def Ws:FD:=Za6 1 1 J3
def Wf:FS :=
 (Zae (Zji (Zd 1)) (gNm 2)
  (J7 (tO (tNo (tD (Z4 Yq (Zc (Zd 2) Zn)))) (tNo (tV (Zix (λi j=>decide (i<=j)) (λi j=>decide (i<j)) (fC (.int 0)) (Zd 2) (Zd 0)))))
  (Zgg "NoCut")
  fNx))
def Yp:FD:=Za6 2 3 Wf
def Je:FS :=
 (Zy (wX Yp (Zc (Zd 0) (Zc (Zd 1) Zn)) Zj1)
  (Zy (wE (Y9 1 [1] (iRa (Zc (Zd 0) Zn)) (gNm 0) (tV (Zg (Zsv YD) (Zd 0) (Zd 1))) (Zd 0)) (J2 2))
  (Zy (J7 (tO (tV (Zg gEq (Zbt Zdv (Zc (Zd 1) Zn)) (fC (.int 0)))) (tV (Zg gEq (Zbt Zdv (Zc (Zcm 2) Zn)) (fC (.int 0)))))
  (Zgg "NoCut")
  fNx)
  (Zy (J7 (tV (Zg (Zsv YF) (fC (.int 0)) (Zd 1)))
  (Ze5 2)
  fNx)
  (wE (Zaf (Zc (Zd 1) Zn)) Jp)))))
def Jb:FD:=Za6 2 3 Je
def Y4:FS :=
 (wX Jb (Zc (Zbt Zdv (Zc (Zd 0) Zn)) (Zc (Y9 2 [1] (Ztm (Zc (Zd 0) Zn)) (gTp 2 (gCn (gNm 0) (gCn (gNm 1) gNl))) (tV (Zg gGe (Zd 1) (Zd 2))) (Zd 0)) Zn)) Jp)
def Yn:FD:=Za6 2 2 Y4
def Jj:FS :=
 (Zy (Zae (iRa (Zc (Zbt Zdv (Zc (Zd 0) Zn)) Zn)) (gNm 1)
  (J7 (tV (Zg gGt (Yk gIx (Yk gIx (Zd 0) (fC (.int 0))) (Zd 1)) (fC (.int 0))))
  (wE (Zd 1) Jp)
  fNx))
  (wE (fC (.int 0)) Jp))
def Wl:FD:=Za6 1 2 Jj
def Jd:FS :=
 (Zy (Zae (Zji (Z4 Za1 (Zc (Zbt Zdv (Zc (Zd 0) Zn)) Zn))) (gTp 2 (gCn (gNm 2) (gCn (gNm 3) gNl)))
  (J7 (tV (Zg gNe (Zbt Zqj (Zc (Zg gSb (Yk gIx (Zd 1) (Zd 2)) (Yk gIx (Zd 1) (Zd 3))) Zn)) (Yk gIx (Yk gIx (Zd 0) (Zd 2)) (Zd 3))))
  (wE (fC (.bool YF)) Jp)
  fNx))
  (wE (fC (.bool YD)) Jp))
def Yw:FD:=Za6 2 4 Jd
def Zde:FS :=
 (Zy (wE (Yk gIx (Yk gIx (Zd 0) (fC (.int 0))) (Zd 2)) (Wt 3))
  (Zy (J7 (tV (Zg gEq (Zbt Zqj (Zc (Zg gSb (Yk gIx (Yk gIx (Zd 0) (fC (.int 0))) (Zd 1)) (Zd 3)) Zn)) (Yk gIx (Yk gIx (Zd 0) (Zd 1)) (Zd 2))))
  (wE (Zd 3) Jp)
  fNx)
  (wE (fUn Z60 (Zd 3)) Jp)))
def Zav:FD:=Za6 3 4 Zde
def Zck:FS :=
 (Zy (wE (Z4 Wl (Zc (Zd 0) Zn)) (Wt 1))
  (Zy (wE (Y9 1 [0,1] (iRa (Zc (Zbt Zdv (Zc (Zd 0) Zn)) Zn)) (gNm 0) Zgn (Z4 Zav (Zc (Zd 1) (Zc (Zd 2) (Zc (Zd 0) Zn))))) (Wt 2))
  (wE (fIf (tD (Z4 Yw (Zc (Zd 0) (Zc (Zd 2) Zn)))) (Zd 2) (fC .none)) Jp)))
def W2:FD:=Za6 1 3 Zck
def Wi:FS :=
 (Zy (wE (Z4 Yb (Zc (Zd 0) Zn)) (Wt 1))
  (Zy (wE (Z4 W2 (Zc (Z4 Y6 (Zc (Zd 1) (Zc (Zd 0) Zn))) Zn)) (Wt 2))
  (Zy (J7 (tV (Zg gIs (Zd 2) (fC .none)))
  (Zgg "NoTable")
  fNx)
  (Zy (wE (Zaf (Zc (Zd 2) Zn)) (Wt 3))
  (Zy (wE (Zez Zn) (J2 4))
  (Zy (Zae (Zlc (Zc (Zd 3) (Zc (fSl (Zd 3) (oI (fC (.int 1))) oN) Zn))) (gTp 2 (gCn (gNm 5) (gCn (gNm 6) gNl)))
  (Zag 4 (Zto (Zc (Z4 Yn (Zc (Zd 2) (Zc (Zd 6) Zn))) (Zc (Z4 Y5 (Zc (Zg gSb (Zd 6) (Zd 5)) (Zc (Zd 1) Zn))) Zn)))))
  (Zbf kdT ltT 4)))))))
def Z8:FD:=Za6 1 7 Wi
def Jg:FS :=
 (Zy (wE (fC .none) (Wt 1))
  (Zy (wE (fC .none) (J2 2))
  (Zy (Zzk xsL (wX Z8 (Zc (Zd 0) Zn) (J2 2)) "CutError" 3 (wE (Zd 3) (Wt 1)))
  (Zy (J7 (tV (Zg gIs (Zd 1) (fC .none)))
  (Ze5 2)
  fNx)
  (wE (Yk gIx (Zez (Zc (fC (.str "other")) (Zc (fC (.str "refused")) Zn))) (Zbt Z1b (Zc (Z4 Ws (Zc (Zd 1) Zn)) Zn))) Jp)))))
def Y8:FD:=Za6 1 4 Jg
def Zf9:FS :=
 (Zy (Zae (Zji (Yk Zz1 (Zez (Zc (Zg Zgp (fC (.int 10)) (fC (.int 18))) Zn)) (fSl (Zd 0) oN (oI (fC (.int 10)))))) (gNm 1)
  (Zy (wE (Z4 Jh (Zc (Zd 1) Zn)) (J2 2))
  (Zy (wE (Z6 2 Wy (Zc (Zg Zdl (fC (.int 1)) (Z6 2 Zi (Zc (fC (.int 10)) Zn))) Zn)) (Wt 3))
  (Zy (wE (Z6 2 Jv Zn) (Wt 4))
  (Zy (wE (Z4 Yi (Zc (Z4 Yh (Zc (Zd 3) Zn)) (Zc (Zd 4) Zn))) (Wt 5))
  (Zy (Zae (iRa (Zc (fC (.int 2)) Zn)) (gNm 6)
  (Zy (wE (Z4 Y8 (Zc (Zd 5) Zn)) (J2 7))
  (Zy (J7 (tNo (tD (Z4 Zax (Zc (Zcm 7) (Zc (Z4 Jy (Zc (Zd 3) (Zc (Zd 4) Zn))) Zn)))))
  (wE (fC (.bool YF)) Jp)
  fNx)
  (Zy (J7 (tV (Zg gNe (Zd 5) (Z4 Yi (Zc (Z4 Yh (Zc (Zd 3) Zn)) (Zc (Zd 4) Zn)))))
  (wE (fC (.bool YF)) Jp)
  fNx)
  (Zlt 7 8 0 (.int 0))))))
  (Zy (wE (Z6 2 Zac (Zc (Zg Zdl (fC (.int 1)) (Z6 2 Zi (Zc (fC (.int 7)) Zn))) Zn)) (Wt 9))
  (Zy (wE (Z4 Wk (Zc (Zd 9) (Zc (Z6a (Zc (Zbt Zdv (Zc (Zd 9) Zn)) Zn)) Zn))) (Wt 10))
  (Zy (wE (fC (.str "refused")) (Wt 11))
  (Zy (J7 (tV (Zg Zov (Zd 10) (fC .none)))
  (wE (Z4 Jy (Zc (Zd 10) (Zc (Zd 4) Zn))) (Wt 11))
  fNx)
  (J7 (tV (Zg gNe (Z4 Y8 (Zc (Z4 Yi (Zc (Zd 9) (Zc (Zd 4) Zn))) Zn)) (Zd 11)))
  (wE (fC (.bool YF)) Jp)
  fNx)))))))))))
  (wE (fC (.bool YD)) Jp))
def Zfm:FD:=Za6 1 12 Zf9
end My
namespace My
open PySem L2 PySem.Spec
def Ze7:FS :=
 (Zy (J7 (tV (Zg gLt (Zd 1) (Zbt Zdv (Zc (Zd 0) Zn))))
  (wE (Yk gIx (Zd 0) (Zd 1)) Jp)
  fNx)
  (wE (fC (.int 0)) Jp))
def Zox:FD:=Za6 2 2 Ze7
def Zhm:FS :=
 (Zy (J7 (tV (Zg gEq (Zg Zja (Zg Za9 (Zd 0) (fC (.int 7))) (fC (.int 8))) (fC (.int 3))))
  (wE (Zg Zdl (Zg Zdl (Zd 2) (fC (.int 1))) (Zg Zja (Zg Za9 (Zd 0) (fC (.int 56))) (Zg gSb (Zd 3) (Zd 2)))) Jp)
  fNx)
  (wE (Zg Zdl (Zd 1) (Zg Zja (Zd 0) (Zg gSb (Zg Zdl (Zd 2) (fC (.int 1))) (Zd 1)))) Jp))
def Zqp:FD:=Za6 4 4 Zhm
def Zhs:FS :=
 (Zy (wE (Zg Zja (Zg Zib (Zg Zdl (Zg Zdl (Zg Zja (Zd 0) (fC (.int 2147483629))) (Zg Zib (fC (.int 9973)) (Zd 1))) (fC (.int 5))) (fC (.int 48271))) (fC (.int 2147483647))) (Wt 2))
  (Zy (wE (Zg Zja (Zg Zib (Zd 2) (Zd 2)) (fC (.int 2147483587))) (Wt 2))
  (wE (Zg Za9 (Zg Zja (Zg Zib (Zg Zdl (Zd 2) (Zg Zib (fC (.int 7919)) (Zd 1))) (fC (.int 16807))) (fC (.int 2147483563))) (fC (.int 8))) Jp)))
def Zhh:FD:=Za6 2 3 Zhs
def Zev:FS :=
 (Zy (wE (Zez Zn) (J2 2))
  (Zy (wE (Zd 0) (Wt 3))
  (Zy (Zae (iRa (Zc (Zd 1) Zn)) (gNm 4)
  (Zy (wE (Z4 Zhh (Zc (Zd 0) (Zc (Zd 4) Zn))) (Wt 5))
  (Zy (J7 (tV (Zg gGe (Zd 0) (Zg Zgp (fC (.int 10)) (fC (.int 18)))))
  (wE (Zg Zja (Zd 3) (fC (.int 720720))) (Wt 5))
  fNx)
  (Zy (wE (Zg Za9 (Zd 3) (fC (.int 720720))) (Wt 3))
  (Js 2 (Zd 5))))))
  (Ze5 2))))
def Zoi:FD:=Za6 2 6 Zev
def Zv(p:List Int):Xa:=.list (p.map Xl)
theorem Zwe{p:List Int}{i:Int}(h0:0<=i)(h1:i<p.length):atI (p.map Xl) i=YB (.int (p.getD i.toNat 0)):=by
 rw[Zlm h0,Xp,Xm (by omega)];simp[Xj,Xm (show i.toNat<p.length by omega)]
theorem Zdj{a b:FE}{δ:Ze}{p:List Int}{i:Int}(ha:EvV a δ (Zv p))(hb:EvV b δ (.int i))(h0:0<=i)(h1:i<p.length):EvV (Yk gIx a b) δ (.int (p.getD i.toNat 0)):=Zx8 ha hb (Zwe h0 h1)
theorem Zbv{a:FE}{δ:Ze}{p:List Int}(ha:EvV a δ (Zv p)):EvV (Zbt Zdv (Zc a Zn)) δ (.int p.length):=by
 have:=Zsb (ds:=p.map Xl) ha
 rwa[Xg]at this
theorem Z9s:Zgp (.int 10) (.int 18)=YB (.int 1000000000000000000):=rfl
theorem Zu9{e:FE}{vs:List Int}{v:Int}(h:EvV e δ (.int v))(hi:δ[i]? =YB (YB (.nd (vs.map λv=>.fz (.int v)))))(hl:vs.length<=1000000):Js i e δ= .nx (δ.set i (YB (.nd ((vs++[v]).map λv=>.fz (.int v))))):=by
 rw[Ztr h hi (by rw[Xg];exact hl),JZ];rfl
theorem Z0a(p:List Int):(OT.nd ((p.map Xl).map OT.fz)).data=Zv p:=by
 rw[OT.data_nd,OT.map_fz];rfl
theorem Zv0(vs:List Int):(OT.nd (vs.map λv=>OT.fz (.int v))).data=Zv vs:=by rw[OT.data_nd,Zo9];rfl
end My
namespace L2
open PySem PySem.Spec
def EvP(e:FE)(δ:Ze)(Q:Xa->Ze->Prop):Prop:=∃t δ',e δ=YB (t,δ')/\Q t.data δ'
def EpA(a:FA)(δ:Ze)(Q:List Xa->Ze->Prop):Prop:=∃ts δ',a δ=YB (ts,δ')/\Q (OT.datas ts) δ'
def EpT(t:FT)(δ:Ze)(Q:Bool->Ze->Prop):Prop:=∃b δ',t δ=YB (b,δ')/\Q b δ'
def EpS(S:FS)(δ:Ze)(N:Ze->Prop)(R:Xa->Ze->Prop):Prop:=(∃δ',S δ= .nx δ'/\N δ')\/∃o δ',S δ= .rt o δ'/\R o.data δ'
def ToldI(F:FIO)(t:OT)(ds:List Xa)(Q:Xa->OT->Prop):Prop:=∃r t',F t ds=YB (r,t')/\Q r.data t'
section
variable {e a b:FE}{as:FA}{Q:Xa->Ze->Prop}{QA:List Xa->Ze->Prop}{T:Bool->Ze->Prop}{t u:FT}{S:FS}{N:Ze->Prop}{R:Xa->Ze->Prop}{d:Xa}
theorem Z0(h:EvV e δ d)(q:Q d δ):EvP e δ Q:=by
 obtain⟨t,e1,e2⟩:=h;exact⟨t,δ,e1,e2▸q⟩
theorem Zce{g:Xa->Xa->Option Xa}(h:EvP a δ λx δ1=>EvP b δ1 λy δ2=>∃d,g x y=YB d/\Q d δ2):EvP (Zg g a b) δ Q:=by
 obtain⟨t,δ1,e1,t2,δ2,e2,d,e3,q⟩:=h;exact⟨.fz d,δ2,by rw[Zog,e1];show(b δ1).bind _=_;rw[e2];show(g _ _).bind _=_;rw[e3];rfl,by rw[OT.data_fz];exact q⟩
theorem Zk7{g:Xa->Xa->Option OT}(h:EvP a δ λx δ1=>EvP b δ1 λy δ2=>∃o,g x y=YB o/\Q o.data δ2):EvP (Yk g a b) δ Q:=by
 obtain⟨t,δ1,e1,t2,δ2,e2,d,e3,q⟩:=h;exact⟨d,δ2,by rw[Zr8,e1];show(b δ1).bind _=_;rw[e2];show(g _ _).bind _=_;rw[e3];rfl,q⟩
theorem J9(q:QA [] δ):EpA Zn δ QA:=⟨[],δ,rfl,by rw[Zef];exact q⟩
theorem W3(h:EvP e δ λd δ1=>EpA as δ1 λds δ2=>QA (d::ds) δ2):EpA (Zc e as) δ QA:=by
 obtain⟨t,δ1,e1,ts,δ2,e2,q⟩:=h;exact⟨t::ts,δ2,by rw[Zka,e1];show(as δ1).bind _=_;rw[e2];rfl,by rw[Zdk];exact q⟩
theorem Zxd(h:EvA as δ ds)(q:QA ds δ):EpA as δ QA:=by
 obtain⟨ts,e1,e2⟩:=h;exact⟨ts,δ,e1,e2▸q⟩
theorem Jx{F:FIO}(h0:δ[i]? =YB (YB t0))(h:EpA as δ λds δ1=>∃t,δ1[i]? =YB (YB t)/\ToldI F t ds λd t'=>Q d (δ1.set i (YB t'))):EvP (Z6 i F as) δ Q:=by
 obtain⟨ts,δ1,e1,t,e2,r,t',e3,q⟩:=h;refine⟨r,δ1.set i (YB t'),?_,q⟩;rw[Zsc,h0];show(as δ).bind _=_;rw[e1];show atO δ1[i]? _=_;rw[e2];show(F t _).bind _=_;rw[e3];rfl
theorem Z62(h:EpA as δ λds δ1=>ds.length<=1000/\Q (.list ds) δ1):EvP (Zez as) δ Q:=by
 obtain⟨ts,δ1,e1,hl,q⟩:=h;refine⟨.nd ts,δ1,?_,by rw[OT.data_nd,<-datas_map];exact q⟩;rw[Zg6,e1];show(if ts.length<=Xw then _ else _)=_;rw[YL (by rw[Zey]at hl;rw[X7];omega)]
theorem Z5y(h:EvP e δ λd δ'=>∃p,d= .bool p/\T p δ'):EpT (tV e) δ T:=by
 obtain⟨t,δ',e1,p,e2,q⟩:=h;have:=Zho e2;subst this;exact⟨p,δ',by unfold tV;rw[e1];rfl,q⟩
theorem W0{p:Bool}(h:EvT t δ p)(q:T p δ):EpT t δ T:=⟨p,δ,h,q⟩
theorem Z8t(h:EpT t δ λp δ1=>(p=YD->EpT u δ1 T)/\(p=YF->T YF δ1)):EpT (tAn t u) δ T:=by
 obtain⟨p,δ1,e1,q1,q2⟩:=h;cases p with
 | true=>
  obtain⟨p2,δ2,e2,q⟩:=q1 rfl;exact⟨p2,δ2,by unfold tAn;rw[e1];exact e2,q⟩
 | false=>exact⟨YF,δ1,by unfold tAn;rw[e1];rfl,q2 rfl⟩
theorem Wh{δ':Ze}(h:S δ= .nx δ')(q:N δ'):EpS S δ N R:=.inl ⟨δ',h,q⟩
theorem Zr(h:EpS S δ (λδ'=>EpS S' δ' N R) R):EpS (Zy S S') δ N R:=by
 rcases h with⟨δ',e,h⟩|⟨o,δ',e,h⟩
 .rcases h with⟨δ2,e2,q⟩|⟨o,δ2,e2,q⟩
  .exact .inl ⟨δ2,by rw[Zfi,e,Zro,e2],q⟩
  .exact .inr ⟨o,δ2,by rw[Zfi,e,Zro,e2],q⟩
 .exact .inr ⟨o,δ',by rw[Zfi,e,Zyj],h⟩
theorem Zb9(h:EvP e δ λd δ'=>N (δ'.set i (YB (.fz d)))):EpS (wE e (Wt i)) δ N R:=by
 obtain⟨t,δ',e1,q⟩:=h;exact .inl ⟨_,by rw[Zbp,e1];rfl,q⟩
theorem J6(h:EvP e δ R):EpS (wE e Jp) δ N R:=by
 obtain⟨t,δ',e1,q⟩:=h;exact .inr ⟨t,δ',by rw[Zbp,e1];rfl,q⟩
theorem Zdu(h:EpT t δ λp δ'=>(p=YD->EpS S δ' N R)/\(p=YF->EpS S' δ' N R)):EpS (J7 t S S') δ N R:=by
 obtain⟨p,δ',e1,q1,q2⟩:=h;have e:J7 t S S' δ=if p=YD then S δ' else S' δ':=by unfold J7;rw[e1]
 cases p with
 | true=>
  have g:=q1 rfl;unfold EpS at g|-
  rw[e];exact g
 | false=>
  have g:=q2 rfl;unfold EpS at g|-
  rw[e];exact g
theorem Zdw(q:N δ):EpS fNx δ N R:=.inl ⟨δ,rfl,q⟩
theorem EpS.mono{N':Ze->Prop}{R':Xa->Ze->Prop}(h:EpS S δ N R)(k:∀δ',N δ'->N' δ')(k2:∀d δ',R d δ'->R' d δ'):EpS S δ N' R' :=
 h.imp (λ⟨δ',e,q⟩=>⟨δ',e,k _ q⟩) λ⟨o,δ',e,q⟩=>⟨o,δ',e,k2 _ _ q⟩
theorem Zw8(I:Nat->Ze->Prop)(ds:List Xa)(m:Nat)(h0:I m δ)(turn:∀(k:Nat) (d:Xa) (δ:Ze),ds[k]? =YB d->I (m+k) δ->∃δ1,g d δ=YB δ1/\EpS S δ1 (I (m+k+1)) R)(fin:∀δ',I (m+ds.length) δ'->N δ') :
  (∃ δ',forLoop g S ds δ= .nx δ'/\N δ')\/∃o δ',forLoop g S ds δ= .rt o δ'/\R o.data δ':=by
 induction ds generalizing m δ with
 | nil=>exact .inl ⟨δ,rfl,fin δ h0⟩
 | cons d ds ih=>
  obtain⟨δ1,e1,h⟩:=turn 0 d δ rfl h0;rcases h with⟨δ2,e2,q⟩|⟨o,δ2,e2,q⟩
  .have e:forLoop g S (d::ds) δ=forLoop g S ds δ2:=by rw[forLoop,e1];show(match S δ1 with| .nx δ2=>_| .ct δ2=>_| .bk δ2=>_|r=>_)=_;rw[e2]
   rw[e];refine ih (m+1) q (λk d' δ' hk hI=>?_) λδ' hI=>fin δ' (by rw[QZ];rw[show m+1+ds.length=m+(ds.length+1) by omega]at hI;exact hI);have:=turn (k+1) d' δ' hk (by rw[show m+(k+1)=m+1+k by omega];exact hI)
   rwa[show m+(k+1)+1=m+1+k+1 by omega]at this
  .refine .inr ⟨o,δ2,?_,q⟩
   rw[forLoop,e1];show(match S δ1 with| .nx δ2=>_| .ct δ2=>_| .bk δ2=>_|r=>_)=_;rw[e2]
theorem Wr{it:FI}{g:FG}{ds:List Xa}{δ0:Ze}(I:Nat->Ze->Prop)(hi:it δ=YB (ds,δ0))(h0:I 0 δ0)(turn:∀(k:Nat) (d:Xa) (δ:Ze),ds[k]? =YB d->I k δ->∃δ1,g d δ=YB δ1/\EpS S δ1 (I (k+1)) R)(fin:∀δ',I ds.length δ'->N δ'):EpS (Zae it g S) δ N R:=by
 have e:Zae it g S δ=forLoop g S ds δ0:=by unfold Zae;rw[hi]
 have h:=Zw8 (R:=R) (N:=N) (S:=S) (g:=g) (δ:=δ0) I ds 0 h0 (λk d δ hk hI=>by rw[Vk]at hI|-;exact turn k d δ hk hI) (λδ' hI=>by rw[Vk]at hI;exact fin δ' hI);unfold EpS;rw[e];exact h
def EpI(it:FI)(δ:Ze)(Q:List Xa->Ze->Prop):Prop:=∃ds δ',it δ=YB (ds,δ')/\Q ds δ'
theorem Z5h(h:EpA as δ λds δ'=>∃n:Nat,ds=[.int n]/\n<=1000000/\QA (Zbs 0 n) δ'):EpI (iRa as) δ QA:=by
 obtain⟨ts,δ',e1,n,e2,hn,q⟩:=h;exact⟨_,δ',by rw[Zyp,e1,Xh,e2,Z2r,Zrx (by omega) (by omega),XX],q⟩
theorem Zwm(h:EpI it δ λds δ0=>∃I:Nat->Ze->Prop,I 0 δ0/\(∀(k:Nat) (d:Xa) (δ:Ze),ds[k]? =YB d->I k δ->∃δ1,g d δ=YB δ1/\EpS S δ1 (I (k+1)) R)/\∀δ',I ds.length δ'->N δ'):EpS (Zae it g S) δ N R:=by
 obtain⟨ds,δ0,e,I,h0,turn,fin⟩:=h;exact Wr I e h0 turn fin
theorem ToldI.mono{F:FIO}{Q Q':Xa->OT->Prop}(h:ToldI F t0 ds Q)(k:∀d t,Q d t->Q' d t):ToldI F t0 ds Q':=by
 obtain⟨r,t',e,q⟩:=h;exact⟨r,t',e,k _ _ q⟩
theorem Z0u(I:Nat->List Xa->Ze->Prop)(ds:List Xa)(m:Nat)(acc:List Xa)(h0:I m acc δ)(turn:∀(k:Nat) (d:Xa) (acc:List Xa) (δ:Ze),ds[k]? =YB d->I (m+k) acc δ->∃δ1,g d δ=YB δ1/\EpT t δ1 λp δ2=>(p=YD->EvP e δ2 λd δ3=>I (m+k+1) (acc++[d]) δ3)/\(p=YF->I (m+k+1) acc δ2)) :
  ∃ts δ',compLoop g t e ds δ=YB (ts,δ')/\I (m+ds.length) (acc++ts.map OT.data) δ':=by
 induction ds generalizing m acc δ with
 | nil=>exact⟨[],δ,rfl,by rw[List.map_nil,QW];exact h0⟩
 | cons d ds ih=>
  obtain⟨δ1,e1,p,δ2,e2,q1,q2⟩:=turn 0 d acc δ rfl h0;have next:∀(k:Nat) (d:Xa) (acc:List Xa) (δ:Ze),ds[k]? =YB d->I (m+1+k) acc δ->∃δ1,g d δ=YB δ1/\EpT t δ1 λp δ2=>(p=YD->EvP e δ2 λd δ3=>I (m+1+k+1) (acc++[d]) δ3)/\(p=YF->I (m+1+k+1) acc δ2):=λk d acc δ hk hI=>by
   have:=turn (k+1) d acc δ hk (by rw[show m+(k+1)=m+1+k by omega];exact hI)
   rwa[show m+(k+1)+1=m+1+k+1 by omega]at this
  have el:m+1+ds.length=m+(ds.length+1):=by omega
  cases p with
  | true=>
   obtain⟨o,δ3,e3,hI⟩:=q1 rfl;obtain⟨ts,δ',e4,hf⟩:=ih (m+1) (acc++[o.data]) hI next
   refine⟨o::ts,δ',?_,?_⟩
   .rw[compLoop,e1];show(t δ1).bind _=_;rw[e2];show(e δ2).bind _=_;rw[e3];show(compLoop g t e ds δ3).bind _=_;rw[e4];rfl
   .rw[QZ,<-el,Qq];rw[Vz]at hf;exact hf
  | false=>
   obtain⟨ts,δ',e4,hf⟩:=ih (m+1) acc (q2 rfl) next
   refine⟨ts,δ',?_,by rw[QZ,<-el];exact hf⟩;rw[compLoop,e1];show(t δ1).bind _=_;rw[e2];exact e4
theorem Ybp{n o:Nat}(I:Nat->List Xa->Ze->Prop)(hi:EvI it δ ds)(hz:ds.length<=1000000)(hc:Zlg caps o δ=YD)(ho:δ[o]? =YB (YB t0))(h0:I 0 [] (blk n caps δ))
  (turn:∀(k:Nat) (d:Xa) (acc:List Xa) (δ:Ze),ds[k]? =YB d->I k acc δ->∃δ1,g d δ=YB δ1/\EpT t δ1 λp δ2=>(p=YD->EvP e δ2 λd δ3=>I (k+1) (acc++[d]) δ3)/\(p=YF->I (k+1) acc δ2)) (fin:∀acc δ',I ds.length acc δ'->∃t,δ'[q]? =YB (YB t)) :
  ∃ts t' δ',Zlv n caps o q it g t e δ=YB (.nd ts,δ.set o (YB t'))/\I ds.length (ts.map OT.data) δ'/\δ'[q]? =YB (YB t'):=by
 obtain⟨ts,δ',e1,hI⟩:=Z0u (t:=t) (e:=e) I ds 0 [] h0 (λk d acc δ hk h=>by rw[Vk]at h|-;exact turn k d acc δ hk h);rw[Vk,List.nil_append]at hI;obtain⟨t',e2⟩:=fin _ _ hI;refine⟨ts,t',δ',?_,hI,e2⟩;unfold Zlv;unfold EvI at hi;rw[hi];show(if ds.length<=Xw/\Zlg caps o δ=YD then _ else YC)=_;rw[YL ⟨by rw[X7];omega,hc⟩,e1];show(match δ[o]?,δ'[q]? with|some (YB _),YB (YB t)=>YB (OT.nd ts,δ.set o (YB t))|_,_=>YC)=_;rw[ho,e2]
theorem Ze0{o:OT}(h:e δ=YB (o,δ'))(q:N (δ'.set i (YB o))):EpS (wE e (J2 i)) δ N R:=.inl ⟨_,by rw[Zbp,h];rfl,q⟩
theorem Zcf{n:Nat}{Q:Xa->OT->Prop}(hl:ds.length+1=np)(h:EpS S (Zjh n t0 ds) (λδ'=>∃t',δ'[0]? =YB (YB t')/\Q .none t') λd δ'=>∃t',δ'[0]? =YB (YB t')/\Q d t'):ToldI (Zpi np n S) t0 ds Q:=by
 unfold ToldI;rw[Z2c hl];rcases h with⟨δ',e,t',e2,q⟩|⟨o,δ',e,t',e2,q⟩
 .exact⟨.fz .none,t',by rw[e];show(match δ'[0]? with|some (YB t)=>YB (OT.fz .none,t)|_=>YC)=_;rw[e2],by rw[OT.data_fz];exact q⟩
 .exact⟨o,t',by rw[e];show(match δ'[0]? with|some (YB t)=>YB (o,t)|_=>YC)=_;rw[e2],q⟩
end
end L2
namespace My
open PySem L2 PySem.Spec
def dk(x:Int):OT:=.nd [.fz (.int x)]
theorem Z0m(x:Int):(dk x).data= .list [.int x]:=by unfold dk;rw[OT.data_nd];rfl
theorem btc{n:Nat}{m:Int}(h1:decide (-(2^n)<m)=YD)(h2:decide (m<2^n)=YD):Bt n m:=Bt.of_lt (YW h1) (YW h2)
theorem Zxz{n:Nat}{e j:FE}{d:Xa}{k:Int}(h:EvV e δ d)(hi:δ[i]? =YB (YB (.nd ts)))(hj:EvV j δ (.int k))(hx:ixN ts.length k=YB n):Z2a i e j δ= .nx (δ.set i (YB (.nd (ts.set n (.fz d))))):=by
 obtain⟨t,e1,e2⟩:=h;obtain⟨u,e3,e4⟩:=hj;rw[Zzm,e1,Yu,hi];show onO (j δ) _=_;rw[e3,Yu,e4];show onX (ixN ts.length k) _=_;rw[hx,e2];rfl
theorem Znm(x:Int){m:Int}(h0:0<m)(hb:Bt 400 m):ToldI Zi (dk x) [.int m] λd t'=>∃r x',d= .int r/\0<=r/\r<m/\t'=dk x':=by
 have i0:∀{δ:Ze},δ[0]? =YB (YB (dk x))->EvV (Yk gIx (Zcm 0) (fC (.int 0))) δ (.int x):=λh=>Zx8 (Zcx h (Z0m x)) Z3 rfl;exact Zcf rfl (Zr (Wh (Z5 (Zl3 (i0 rfl) Za (by omega))) (Zr (Wh (Zxz (n:=0) (Zm (i0 rfl) Za (Zf7 (Zfy (by omega) hb))) rfl Z3 rfl) (J6 (Z0 Za ⟨_,rfl,_,_,rfl,Zml h0,Zmk h0,rfl⟩))))))
theorem Wz{x:Int}{as:FA}{many:Int}{Q:Xa->Ze->Prop}(hi:δ[i]? =YB (YB (dk x)))(ha:EvA as δ [.int many])(h0:0<many)(hb:Bt 400 many)(q:∀r x',0<=r->r<many->Q (.int r) (δ.set i (YB (dk x')))):EvP (Z6 i Zi as) δ Q :=
 Jx hi (Zxd ha ⟨dk x,hi,(Znm x h0 hb).mono λd t' z=>by
  obtain⟨r,x',rfl,r0,r1,rfl⟩:=z;exact q r x' r0 r1⟩)
theorem Zc7{n:Nat}{t b:Int}(hb:0<b)(hB:Bt n b)(hn:n<=9000:=by decide):Told Wc [.int t,.int b] (frD (Qs t b)):=by
 obtain⟨z',e⟩:=Zko (f1:=λx y z=>[YB (.fz (.int t)),YB (.fz (.int b)),YB (.fz (.int x)),YB (.fz (.int y)),z]) (f2:=λx y z=>[]) (t:=tV (Zg gNe (Zd 3) (fC (.int 0)))) (u:=Zy (wE (Zg Zja (Zd 2) (Zd 3)) (Wt 4)) (Zy (wE (Zd 3) (Wt 2)) (wE (Zd 4) (Wt 3)))) (λx y z=>Zcg (Zm3 Za Z3 rfl)) (λx y z hy=>⟨_,Wb (Z5 (Zl3 Za Za hy)) (Wb (Z5 Za) (Z5 Za))⟩) (b.toNat+1) (t.natAbs:Int) b YC (by omega) (by omega) (by omega);have eg:(Bm (t.natAbs:Int) b:Int)=shr t b:=by
  unfold shr;rw[YM (by omega),Vu,Vu,Int.natAbs_natCast]
 obtain⟨e1,e2⟩:=Z7f (t:=t) (b:=b) (by omega) hB hn _ eg;exact Wq rfl<|Wa (Z5 (Jq (Zb Za Zh) (Zh6 t)))<|Wa (Z5 Za)<|Wa (Zk0 _ e (by intro z;cases z)) (Zan (Ziu (Zb (Zm Za Za e1) (Zb (Zm Za Za e2) Zh)) (show 2<=1000 by decide)))
theorem Z2u{a b c:Int}(ha:lo<=a/\a<=hi)(hb:lo<=b/\b<=hi)(hc:lo<=c/\c<=hi){r:Int}(h0:0<=r)(h1:r<3):∃x,gIx (.list [.int a,.int b,.int c]) (.int r)=YB (.fz (.int x))/\lo<=x/\x<=hi:=by
 obtain rfl|rfl|rfl:r=0\/r=1\/r=2:=by omega
 .exact⟨a,rfl,ha⟩
 .exact⟨b,rfl,hb⟩
 .exact⟨c,rfl,hc⟩
theorem Zm7{n:Nat}{x:Int}(h0:0<=x)(h1:x<=2^m)(h:m<n):Bt n x:=by
 have:(2:Int)^m<2^n:=by
  have:=Nat.pow_lt_pow_right (a:=2) (by decide) h
  exact_mod_cast this
 exact Bt.of_lt (Int.lt_of_lt_of_le (Int.neg_neg_of_pos (Int.pow_pos (by decide))) h0) (Int.lt_of_le_of_lt h1 this)
theorem gP9:Zgp (.int 10) (.int 9)=YB (.int 1000000000):=rfl
theorem Ztg(x:Int):ToldI Jv (dk x) [] λd t'=>∃b x',d= .int b/\1<=b/\b<=1000000000/\t'=dk x':=by
 refine Zcf rfl (J6 (Zce (Z0 Z3 (Jx rfl (W3 (Zk7 (Z0 (Ze4 (Zb Z3 (Zb Z3 (Zb (Zm Z3 Z3 gP9) Zh))) (show 3<=1000 by decide)) (Wz rfl (Zb Z3 Zh) (by decide) (btc (by decide) (by decide)) λr x1 r0 r1=>?_))))))));obtain⟨m,em,m0,m1⟩:=Z2u (a:=1) (b:=12) (c:=1000000000) (lo:=1) (hi:=1000000000) (by decide) (by decide) (by decide) r0 r1;refine⟨_,em,J9 ⟨dk x1,rfl,?_⟩⟩;rw[OT.data_fz];refine(Znm x1 (m:=m) (by omega) (Bt.mono (m:=40) (Bt.of_lt (by omega) (by omega)) (by decide))).mono λd t' z=>?_;obtain⟨q,x',rfl,q0,q1,rfl⟩:=z;exact⟨_,rfl,_,rfl,_,_,rfl,by omega,by omega,rfl⟩
theorem Yfc:Zgp (.int 10) (.int 40)=YB (.int 10000000000000000000000000000000000000000):=rfl
theorem Yd1:Zgp (.int 10) (.int 60)=YB (.int 1000000000000000000000000000000000000000000000000000000000000):=rfl
theorem Yf0:Zgp (.int 10) (.int 61)=YB (.int 10000000000000000000000000000000000000000000000000000000000000):=rfl
theorem Yac:Zgp (.int 3) (.int 60)=YB (.int 42391158275216203514294433201):=rfl
theorem Zj6(c:Int){k:Int}(h0:0<=k)(h1:k<=3):∃v,Told Yc [.int c,.int k] (.int v)/\Bt 210 v:=by
 have bk:Bt 3 (k+1):=Bt.of_lt (by omega) (by omega);have bk0:Bt 3 k:=Bt.of_lt (by omega) (by omega);have bc:Bt 134 (c.fmod 10000000000000000000000000000000000000000):=Bt.of_lt (Int.lt_of_lt_of_le (by decide +kernel) (Zml (by decide))) (Int.lt_trans (Zmk (by decide)) (by decide +kernel));have b3:Bt 96 42391158275216203514294433201:=btc (by decide +kernel) (by decide +kernel);have b4:Bt 16 48271:=btc (by decide +kernel) (by decide +kernel);have b5:Bt 17 69621:=btc (by decide +kernel) (by decide +kernel);have bn:=((bc.mul b4).add ((b3.mul bk).mul bk)).add bk0;have key:∃d,Told Yc [.int c,.int k] d/\∃v,d= .int v/\Bt 210 v:=by
  refine Z2h rfl (Zl1 (Z5 (Zbw (Zbw (Zm (Zl3 Za (Zm Z3 Z3 Yfc) (by decide)) Z3 (Zcu (Zbo bc b4))) (Zm (Zm (Zm Z3 Z3 Yac) (Zbw Za Z3) (Zcu (Zbo b3 bk))) (Zbw Za Z3) (Zcu (Zbo (b3.mul bk) bk)))) Za)) ?_);generalize c.fmod 10000000000000000000000000000000000000000*48271+42391158275216203514294433201*(k+1)*(k+1)+k=N at bn|-
  refine Zl1 (Z5 (Zbw (Zm Za Za (Zcu (Zbo bn bn))) (Zm Z3 Za (Zcu (Zbo b5 bn))))) ?_;have bN:=(bn.mul bn).add (b5.mul bn);generalize N*N+69621*N=M at bN|-
  refine Zq7 (Z12 (Zl3 (Zm Za Za (Zcu (Zbo bN bN))) (Zbw (Zm Z3 Z3 Yf0) Z3) (by decide)) Z3) ⟨_,rfl,?_⟩;have q0:=Zml (i:=M*M) (j:=10000000000000000000000000000000000000000000000000000000000000+7) (by decide);have q1:=Zmk (i:=M*M) (j:=10000000000000000000000000000000000000000000000000000000000000+7) (by decide);rw[W6 (by decide)];exact Bt.of_le (x:=(M*M).fmod (10000000000000000000000000000000000000000000000000000000000000+7)) (Bt.of_lt (Int.lt_of_lt_of_le (by decide +kernel) q0) (Int.lt_trans q1 (by decide +kernel))) (V1 _ _)
 obtain⟨d,h,v,rfl,b⟩:=key;exact⟨v,h,b⟩
theorem Yc6{as:FA}(h:as δ=YB (ts,δ))(hl:ts.length<=1000):Zez as δ=YB (.nd ts,δ):=by
 rw[Zg6,h];exact YL (e:=YC) (show ts.length<=Xw by rw[X7];omega)
theorem Zu3{e:FE}{as:FA}{o:OT}(h:e δ=YB (o,δ))(k:as δ=YB (ts,δ)):Zc e as δ=YB (o::ts,δ):=by
 rw[Zka,h];show(as δ).bind _=_;rw[k];rfl
theorem Zuf{e:FE}{i:Int}(h:EvV e δ (.int i)):e δ=YB (.fz (.int i),δ):=by
 obtain⟨t,e1,e2⟩:=h;rw[e1,Zjy e2]
theorem Znc{e:FE}{o:OT}(h:e δ=YB (o,δ)):wE e Jp δ= .rt o δ:=by rw[Zbp,h];rfl
theorem Z1e(c:Int):∃x,Jh [.int c]= .ok (dk x):=by
 have key:∃x δ',Jm [YB (.fz (.int c))]= .rt (dk x) δ':=by
  by_cases h:1000000000000000000<=c
  .exact⟨c-1000000000000000000,_,Zhl (Zb4 (Zcg (Z1w Za (Zm Z3 Z3 Z9s) (YQ h))) (Znc (Yc6 (Zu3 (Zuf (Zem Za (Zm Z3 Z3 Z9s))) rfl) (Ul rfl))))⟩
  .obtain⟨v1,e1,b1⟩:=Zj6 c (k:=1) (by decide) (by decide)
   obtain⟨v2,e2,b2⟩:=Zj6 c (k:=2) (by decide) (by decide);obtain⟨v3,e3,b3⟩:=Zj6 c (k:=3) (by decide) (by decide);have bp:Bt 200 1000000000000000000000000000000000000000000000000000000000000:=btc (by decide +kernel) (by decide +kernel);have st:∀{k v:Int},Told Yc [.int c,.int k] (.int v)->EvV (Z4 Yc (Zc (Zd 0) (Zc (fC (.int k)) Zn))) [YB (.fz (.int c))] (.int v):=λe=>Zx (Zb Za (Zb Z3 Zh)) e;exact⟨_,_,Wb (Yx (Zcg (Z1w Za (Zm Z3 Z3 Z9s) (YS h))) rfl) (Znc (Yc6 (Zu3 (Zuf (Zbw (Zm (Zbw (Zm (st e1) (Zm Z3 Z3 Yd1) (Zcu (Zbo b1 bp))) (st e2)) (Zm Z3 Z3 Yd1) (Zcu (Zbo ((b1.mul bp).add b2) bp))) (st e3))) rfl) (Ul rfl)))⟩
 obtain⟨x,δ',e⟩:=key;refine⟨x,?_⟩;unfold Jh;rw[Jf (np:=1) (by rfl)];show(Jm [YB (.fz (.int c))]).told=_;rw[e];rfl
def Yl(n:Nat)(f:Nat->Nat->Xa):OT:=.nd ((Xu n).map λi=>.nd ((Xu n).map λj=>.fz (f i j)))
def Zmd(n:Nat)(f:Nat->Nat->Xa):Xa:=.list ((Xu n).map λi=>.list ((Xu n).map λj=>f i j))
theorem Jt(n:Nat)(f:Nat->Nat->Xa):(Yl n f).data=Zmd n f:=by
 unfold Yl Zmd;rw[OT.data_nd,Qu];refine YT JB (XH λi _=>?_);show(OT.nd _).data=_;rw[OT.data_nd,Qu];exact YT JB (XH λj _=>OT.data_fz _)
theorem Zws{n:Nat}{f g:Nat->Nat->Xa}(h:∀i j,i<n->j<n->f i j=g i j):Yl n f=Yl n g:=by
 unfold Yl;refine YT OT.nd (XH λi hi=>YT OT.nd (XH λj hj=>YT OT.fz (h i j (Qd.mp hi) (Qd.mp hj))))
def upG(f:Nat->Nat->Xa)(a b:Nat)(d:Xa):Nat->Nat->Xa:=λi j=>if i=a/\j=b then d else f i j
theorem Zhn{n a:Nat}(f:Nat->Y)(x:Y):((Xu n).map f).set a x=(Xu n).map λi=>if i=a then x else f i:=by
 refine Ub λi=>?_;rw[List.getElem?_set,Xg,Xk,Xp,Xp]
 by_cases h:a=i
 .subst h
  by_cases c:a<n
  .rw[YL rfl,YL c,Qy c];simp
  .rw[YL rfl,YM c,QB (by simp;omega)];rfl
 .rw[YM h]
  by_cases c:i<n
  .rw[Qy c];simp[JW h]
  .rw[QB (by simp;omega)];rfl
theorem Zug{n:Nat}{e j j2:FE}{d:Xa}{f:Nat->Nat->Xa}{a b:Nat}(he:EvV e δ d)(hi:δ[i]? =YB (YB (Yl n f)))(hj:EvV j δ (.int a))(ha:a<n)(hk:EvV j2 δ (.int b))(hb:b<n) :
  Zcn i e j j2 δ= .nx (δ.set i (YB (Yl n (upG f a b d)))):=by
 obtain⟨_,e2,d2⟩:=he;obtain⟨_,e3,d3⟩:=hj;obtain⟨_,e4,d4⟩:=hk;unfold Zcn Yl at*
 rw[Zbp,e2,Yu,hi];dsimp only;rw[Zbp,e3,Yu,d3];dsimp only;rw[Zts (by rw[Xg,Xk];exact ha)];dsimp only;rw[Xp,Qy ha,Option.map_some];dsimp only;rw[Zbp,e4,Yu,d4];dsimp only;rw[Zts (by rw[Xg,Xk];exact hb)];dsimp only;rw[d2,Zhn,Zhn];refine YT RS.nx (YT (δ.set i) (YT YB (YT OT.nd (XH λk _=>?_))))
 by_cases c:k=a
 .subst c
  rw[YL rfl];refine YT OT.nd (XH λl _=>?_);unfold upG
  by_cases c2:l=b
  .rw[YL c2,YL ⟨rfl,c2⟩]
  .rw[YM c2,YM λz=>c2 z.2]
 .rw[YM c]
  refine YT OT.nd (XH λl _=>?_);unfold upG;rw[YM λz=>c z.1]
def inG(R:Nat->Nat->Int):Nat->Nat->Xa:=λi j=>.int (R i j)
def upR(R:Nat->Nat->Int)(a b:Nat)(v:Int):Nat->Nat->Int:=λi j=>if i=a/\j=b then v else R i j
theorem Z7r(R:Nat->Nat->Int)(a b:Nat)(v:Int):upG (inG R) a b (.int v)=inG (upR R a b v):=by
 funext i j;unfold upG inG upR
 by_cases c:i=a/\j=b
 .rw[YL c,YL c]
 .rw[YM c,YM c]
theorem Zmq{n:Nat}{e j j2:FE}{v:Int}{R:Nat->Nat->Int}{a b:Nat}(he:EvV e δ (.int v))(hi:δ[i]? =YB (YB (Yl n (inG R))))(hj:EvV j δ (.int a))(ha:a<n)(hk:EvV j2 δ (.int b))(hb:b<n) :
  Zcn i e j j2 δ= .nx (δ.set i (YB (Yl n (inG (upR R a b v))))):=by
 rw[<-Z7r];exact Zug he hi hj ha hk hb
theorem Zdz{n a b i0 i9 i10:Nat}{f:Nat->Nat->Xa}(ha:a<n)(hb:b<n)(h6:δ[i0]? =YB (YB (Yl n f)))(h9:δ[i9]? =YB (YB (.fz (.int a))))(h10:δ[i10]? =YB (YB (.fz (.int b)))):EvV (Yk gIx (Yk gIx (Zcm i0) (Zd i9)) (Zd i10)) δ (f a b):=by
 refine Ja (Ja (Zcx h6 (Jt n f)) (Za h9) (d:=.list ((Xu n).map λj=>f a j)) ?_) (Za h10) ?_
 .unfold Zmd
  rw[Zlb,Zqx,Xp,Qy ha];rfl
 .rw[Zlb,Zqx,Xp,Qy hb];rfl
theorem Zm9{n i0:Nat}{f:Nat->Nat->Xa}(h:δ[i0]? =YB (YB (Yl n f))):EvV (Zbt Zdv (Zc (Zcm i0) Zn)) δ (.int n):=by
 have:=Zsb (δ:=δ) (e:=Zcm i0) (ds:=(Xu n).map λi=>.list ((Xu n).map λj=>f i j)) (Zcx h (Jt n f))
 rwa[Xg,Xk]at this
theorem Zlr{n:Nat}(hn:n<=10):Yo [.int n]= .ok (Yl n (inG λ_ _=>0)):=by
 have e:(Y9 1 [0] (iRa (Zc (Zd 0) Zn)) (gNm 0) Zgn (Y9 1 [] (iRa (Zc (Zd 1) Zn)) (gNm 0) Zgn (fC (.int 0)))) [YB (.fz (.int n))]=YB (Yl n (inG λ_ _=>0),[YB (.fz (.int n))]) :=
  Zex (cs:=[YB (.fz (.int n))]) (Xu n) (λi:Nat=>Xl (0+(i:Int))) (λi=>.nd ((Xu n).map λj=>.fz (inG (λ_ _=>0) i j))) (Zcd (Zb Za Zh) (by omega)) (by rw[Xk,X7];omega) rfl λi _=>
   Zex (cs:=[]) (Xu n) (λi:Nat=>Xl (0+(i:Int))) (λj=>.fz (inG (λ_ _=>0) i j)) (Zcd (Zb Za Zh) (by omega)) (by rw[Xk,X7];omega) rfl λj _=>rfl
 unfold Yo;rw[Jf (np:=1) (by rfl)];show(Wx [YB (.fz (.int n))]).told=_;unfold Wx;rw[Znc e];rfl
def ph(R:Nat->Nat->Int)(k:Nat):Nat->Nat->Int:=λi j=>min (R i j) (R i k+R k j)
def fw(R:Nat->Nat->Int):Nat->Nat->Nat->Int
 | 0=>R
 | k+1=>ph (fw R k) k
structure Nn(R:Nat->Nat->Int):Prop where
 z:∀i,R i i=0
 nn:∀i j,0<=R i j
theorem Nn.ph{R:Nat->Nat->Int}(h:Nn R)(k:Nat):Nn (ph R k) where
 z:=λi=>by
  unfold My.ph;have:=h.nn i k;have:=h.nn k i;rw[h.z];omega
 nn:=λi j=>by
  unfold My.ph;have:=h.nn i j;have:=h.nn i k;have:=h.nn k j;omega
theorem Nn.fw{R:Nat->Nat->Int}(h:Nn R)(k:Nat):Nn (fw R k):=by
 induction k with
 | zero=>exact h
 | succ k ih=>exact ih.ph k
def mix(R:Nat->Nat->Int)(k a b:Nat):Nat->Nat->Int:=λi j=>if i<a\/(i=a/\j<b)then ph R k i j else R i j
theorem Z4m{R:Nat->Nat->Int}(h:Nn R)(k a b i:Nat):mix R k a b i k=R i k:=by
 unfold mix;split
 .unfold ph;rw[h.z];have:=h.nn i k;omega
 .rfl
theorem Z8r{R:Nat->Nat->Int}(h:Nn R)(k a b j:Nat):mix R k a b k j=R k j:=by
 unfold mix;split
 .unfold ph;rw[h.z];have:=h.nn k j;omega
 .rfl
theorem Zy1(a b:Int):Z8e [.int a,.int b]=YB (.int (min a b)):=by
 show YB (Xl (if b<a then b else a))=_;refine YT (λz=>YB (Xl z)) ?_;split<;>omega
theorem Zij{n:Nat}{R S:Nat->Nat->Int}(h:∀i j,i<n->j<n->R i j=S i j):Yl n (inG R)=Yl n (inG S):=Zws λi j hi hj=>YT Xl (h i j hi hj)
theorem Znh{n:Nat}(hn:n<=10){R:Nat->Nat->Int}(h:Nn R):ToldI W5 (Yl n (inG R)) [] λ_ t'=>t'=Yl n (inG (fw R n)):=by
 refine Zcf rfl (Zr (Wh (Z5 (Zm9 rfl)) ?_));refine Wr (ds:=Zbs 0 n) (λk δ=>∃z2 z3 z4,δ=[YB (Yl n (inG (fw R k))),YB (.fz (.int n)),z2,z3,z4]) (Zcd (Zb Za Zh) (by omega)) ⟨YC,YC,YC,rfl⟩ (λk d δ hd q=>?_) λδ' q=>?_
 .obtain⟨z2,z3,z4,rfl⟩:=q
  obtain⟨hk,rfl⟩:=Yz hd;rw[Q8];have hN:=h.fw k;refine⟨_,rfl,Wr (ds:=Zbs 0 n) (λa δ=>∃z3 z4,δ=[YB (Yl n (inG (mix (fw R k) k a 0))),YB (.fz (.int n)),YB (.fz (.int k)),z3,z4]) (Zcd (Zb Za Zh) (by omega)) ⟨z3,z4,?_⟩ (λa d δ hd q=>?_) λδ' q=>?_⟩
  .rw[Zij (R:=mix (fw R k) k 0 0) (S:=fw R k) λi j _ _=>YM (by omega)];rfl
  .obtain⟨z3,z4,rfl⟩:=q
   obtain⟨ha,rfl⟩:=Yz hd;rw[Q8];refine⟨_,rfl,Wr (ds:=Zbs 0 n) (λb δ=>∃z4,δ=[YB (Yl n (inG (mix (fw R k) k a b))),YB (.fz (.int n)),YB (.fz (.int k)),YB (.fz (.int a)),z4]) (Zcd (Zb Za Zh) (by omega)) ⟨z4,rfl⟩ (λb d δ hd q=>?_) λδ' q=>?_⟩
   .obtain⟨z4,rfl⟩:=q
    obtain⟨hb,rfl⟩:=Yz hd;rw[Q8];have v:min (mix (fw R k) k a b a b) (mix (fw R k) k a b a k+mix (fw R k) k a b k b)=ph (fw R k) k a b:=by
     rw[Z4m hN,Z8r hN,show mix (fw R k) k a b a b=fw R k a b from YM (by omega)];rfl
    refine⟨_,rfl,Wh (Zmq (n:=n) (a:=a) (b:=b) (v:=ph (fw R k) k a b) (EvV.cast (Jq (Zb (Zdz (f:=inG (mix (fw R k) k a b)) (i0:=0) (i9:=3) (i10:=4) ha hb rfl rfl rfl) (Zb (Zbw (Zdz (f:=inG (mix (fw R k) k a b)) (i0:=0) (i9:=3) (i10:=2) ha hk rfl rfl rfl) (Zdz (f:=inG (mix (fw R k) k a b)) (i0:=0) (i9:=2) (i10:=4) hk hb rfl rfl rfl)) Zh)) (Zy1 _ _)) (YT Xl v)) rfl Za ha Za hb) ⟨YB (.fz (.int b)),?_⟩⟩;rw[Zij (R:=upR (mix (fw R k) k a b) a b (ph (fw R k) k a b)) (S:=mix (fw R k) k a (b+1)) λi j _ _=>?_]
    .rfl
    .unfold upR mix
     by_cases c:i=a/\j=b
     .rw[YL c,YL (by omega),c.1,c.2]
     .rw[YM c]
      by_cases c2:i<a\/(i=a/\j<b)
      .rw[YL c2,YL (by omega)]
      .rw[YM c2,YM (by omega)]
   .obtain⟨z4,rfl⟩:=q
    refine⟨YB (.fz (.int a)),z4,?_⟩;rw[Zw,Zij (R:=mix (fw R k) k a n) (S:=mix (fw R k) k (a+1) 0) λi j _ hj=>?_]
    .unfold mix
     by_cases c:i<a\/(i=a/\j<n)
     .rw[YL c,YL (by omega)]
     .rw[YM c,YM (by omega)]
  .obtain⟨z3,z4,rfl⟩:=q
   refine⟨YB (.fz (.int k)),z3,z4,?_⟩;rw[Zw,Zij (R:=mix (fw R k) k n 0) (S:=fw R (k+1)) λi j hi _=>YL (.inl hi)]
 .obtain⟨z2,z3,z4,rfl⟩:=q
  rw[Zw];exact⟨_,rfl,rfl⟩
def bb(bits:Int)(i:Nat):Int:=Builtin.bitAnd (bits/2^i) 1
def adC(R:Nat->Nat->Int)(bits w:Int):Nat->Nat->Int:=λi j=>if bb bits i=bb bits j then R i j else R i j+w
def mxC(R:Nat->Nat->Int)(bits w:Int)(a b:Nat):Nat->Nat->Int:=λi j=>if i<a\/(i=a/\j<b)then adC R bits w i j else R i j
theorem Zys{k:Nat}{bits:Int}(h1:δ[1]? =YB (YB (.fz (.int bits))))(hk:δ[k]? =YB (YB (.fz (.int i)))):EvV (Zg Z9b (Zg Z4h (Zd 1) (Zd k)) (fC (.int 1))) δ (.int (bb bits i)):=by
 have e:Z4h (.int bits) (.int i)=YB (.int (bits/2^i)):=by
  show(if decide ((0:Int)<=i)=YD then YB (Xl (bits/2^((i:Int).toNat)))else YC)=_;rw[YL (YQ (by omega)),XX]
 exact Zm (Zm (Za h1) (Za hk) e) Z3 rfl
theorem Zpo{n:Nat}(hn:n<=10)(R:Nat->Nat->Int)(bits w:Int):ToldI Wm (Yl n (inG R)) [.int bits,.int w] λ_ t'=>t'=Yl n (inG (adC R bits w)):=by
 refine Zcf rfl (Wr (ds:=Zbs 0 n) (λa δ=>∃z3 z4,δ=[YB (Yl n (inG (mxC R bits w a 0))),YB (.fz (.int bits)),YB (.fz (.int w)),z3,z4]) (Zcd (Zb (Zm9 rfl) Zh) (by omega)) ⟨YC,YC,?_⟩ (λa d δ hd q=>?_) λδ' q=>?_)
 .rw[Zij (R:=mxC R bits w 0 0) (S:=R) λi j _ _=>YM (by omega)];rfl
 .obtain⟨z3,z4,rfl⟩:=q
  obtain⟨ha,rfl⟩:=Yz hd;rw[Q8];refine⟨_,rfl,Wr (ds:=Zbs 0 n) (λb δ=>∃z4,δ=[YB (Yl n (inG (mxC R bits w a b))),YB (.fz (.int bits)),YB (.fz (.int w)),YB (.fz (.int a)),z4]) (Zcd (Zb (Zm9 rfl) Zh) (by omega)) ⟨z4,rfl⟩ (λb d δ hd q=>?_) λδ' q=>?_⟩
  .obtain⟨z4,rfl⟩:=q
   obtain⟨hb,rfl⟩:=Yz hd;rw[Q8];have v:mxC R bits w a b a b=R a b:=YM (by omega);have up:∀x:Int,x=adC R bits w a b->Yl n (inG (upR (mxC R bits w a b) a b x))=Yl n (inG (mxC R bits w a (b+1))):=λx hx=>Zij λi j _ _=>by
    unfold upR mxC
    by_cases c:i=a/\j=b
    .rw[YL c,YL (by omega),hx,c.1,c.2]
    .rw[YM c]
     by_cases c2:i<a\/(i=a/\j<b)
     .rw[YL c2,YL (by omega)]
     .rw[YM c2,YM (by omega)]
   refine⟨_,rfl,Zdu (W0 (Zcg (Zm3 (Zys rfl rfl) (Zys rfl rfl) rfl)) ⟨λc=>?_,λc=>?_⟩)⟩
   .have c':bb bits a≠bb bits b:=by simpa using c
    refine Wh (Zmq (n:=n) (a:=a) (b:=b) (v:=R a b+w) (Zbw (EvV.cast (Zdz (f:=inG (mxC R bits w a b)) (i0:=0) (i9:=3) (i10:=4) ha hb rfl rfl rfl) (YT Xl v)) Za) rfl Za ha Za hb) ⟨YB (.fz (.int b)),?_⟩;rw[up _ (show R a b+w=adC R bits w a b from(YM c').symm)];rfl
   .have c':bb bits a=bb bits b:=by simpa using c
    refine Zdw ⟨YB (.fz (.int b)),?_⟩;rw[Zij (R:=mxC R bits w a (b+1)) (S:=mxC R bits w a b) λi j _ _=>?_]
    .rfl
    .unfold mxC
     by_cases c:i=a/\j=b
     .rw[YL (by omega),YM (by omega),c.1,c.2]
      exact YL c'
     .by_cases c2:i<a\/(i=a/\j<b)
      .rw[YL c2,YL (by omega)]
      .rw[YM c2,YM (by omega)]
  .obtain⟨z4,rfl⟩:=q
   refine⟨YB (.fz (.int a)),z4,?_⟩;rw[Zw,Zij (R:=mxC R bits w a n) (S:=mxC R bits w (a+1) 0) λi j _ hj=>?_]
   .unfold mxC
    by_cases c:i<a\/(i=a/\j<n)
    .rw[YL c,YL (by omega)]
    .rw[YM c,YM (by omega)]
 .obtain⟨z3,z4,rfl⟩:=q
  rw[Zw,Zij (R:=mxC R bits w n 0) (S:=adC R bits w) λi j hi _=>YL (.inl hi)];exact⟨_,rfl,rfl⟩
theorem Nn.add{R:Nat->Nat->Int}(h:Nn R){bits w:Int}(hw:0<=w):Nn (adC R bits w) where
 z:=λi=>by unfold adC;rw[YL rfl];exact h.z i
 nn:=λi j=>by
  unfold adC;have:=h.nn i j;split<;>omega
theorem Zuc{as:FA}{o:OT}(h:EvA as δ ds)(k:F ds= .ok o):Z4 F as δ=YB (o,δ):=by
 obtain⟨ts,e1,e2⟩:=h;rw[Zkn,e1];show okO (F (OT.datas ts)) δ=_;rw[e2,k];rfl
section
variable {e j j2:FE}{N:Ze->Prop}{R:Xa->Ze->Prop}
theorem Zn1(h:EvP e δ λ_ δ'=>N δ'):EpS (wE e Zj1) δ N R:=by
 obtain⟨o,δ',e1,q⟩:=h;exact .inl ⟨δ',by rw[Zbp,e1];rfl,q⟩
theorem Z58{o:OT}(h:δ[i]? =YB (YB o))(q:R o.data (δ.set i YC)):EpS (Ze5 i) δ N R:=.inr ⟨o,_,by rw[Zgy,h,Z72],q⟩
theorem Zfa(h:EvP e δ λd δ'=>∃v S n a b,d= .int v/\δ'[i]? =YB (YB (Yl n (inG S)))/\EvV j δ' (.int (a:Nat))/\a<n/\EvV j2 δ' (.int (b:Nat))/\b<n/\N (δ'.set i (YB (Yl n (inG (upR S a b v)))))):EpS (Zcn i e j j2) δ N R:=by
 obtain⟨o,δ',e1,v,S,n,a,b,hd,hi,hj,ha,hk,hb,q⟩:=h;have e2:Zcn i e j j2 δ=Zcn i (fC (.int v)) j j2 δ':=by
  unfold Zcn;rw[Zbp,Zbp,e1,Yu,Zjy hd,Z90,Yu]
 exact .inl ⟨_,by rw[e2];exact Zmq Z3 hi hj ha hk hb,q⟩
end
theorem Zxi(xs:List Y)(mk f:Y->Xa)(hi:EvI it δ (xs.map mk))(hz:xs.length<=1000000)(h:∀x∈xs,∀z0 z1,∃w0 w1,g (mk x) [z0,z1]=YB [w0,w1]/\EvV me [w0,w1] (f x)):EvV (Y9 2 [] it g Zgn me) δ (.list (xs.map f)):=by
 obtain⟨ts,δ',e1,z0,z1,rfl,e2⟩:=Z0u (t:=Zgn) (e:=me) (g:=g) (δ:=[YC,YC])
  (λk acc δ=>∃z0 z1,δ=[z0,z1]/\acc=(xs.take k).map f) (xs.map mk) 0 [] ⟨YC,YC,rfl,rfl⟩ (λk d acc δ hd q=>by
   obtain⟨z0,z1,rfl,rfl⟩:=q;rw[Vk]at*
   rw[Xp]at hd;cases e:xs[k]? with
   | none=>rw[e]at hd;cases hd
   | some p=>
    rw[e]at hd;cases hd;have et:xs.take (k+1)=xs.take k++[p]:=by rw[U4,e];rfl
    obtain⟨w0,w1,e1,e2⟩:=h p (QF e) z0 z1;refine⟨_,e1,W0 rfl ⟨λ_=>Z0 e2 ⟨_,_,rfl,?_⟩,λz=>nomatch z⟩⟩;rw[et,JZ];rfl)
 rw[Vk,Xg,List.take_length,List.nil_append]at e2;refine⟨.nd ts,?_,by rw[OT.data_nd,e2]⟩;unfold EvI at hi;unfold Y9;rw[hi];show(if(xs.map mk).length<=Xw then _ else YC)=_;rw[YL (by rw[Xg,X7];omega)];show(compLoop _ _ _ _ [YC,YC]).bind _=_;rw[e1];rfl
theorem Zw1(xs:List Y)(f g:Y->Xa):Zmj (xs.map f) (xs.map g)=xs.map λx=>.tuple [f x,g x]:=by
 unfold Zmj;rw[List.zip_map',Qu];rfl
theorem Z97{a b:Int}(ha:lo<=a/\a<=hi)(hb:lo<=b/\b<=hi)(c:Bool):∃x,gIx (.list [.int a,.int b]) (.int (if c=YD then 1 else 0))=YB (.fz (.int x))/\lo<=x/\x<=hi:=by
 cases c with
 | true=>exact⟨b,rfl,hb⟩
 | false=>exact⟨a,rfl,ha⟩
theorem Zxf(R:Nat->Nat->Int)(a b:Nat)(v w:Int):upR (upR R a b v) a b w=upR R a b w:=by
 funext i j;unfold upR;split<;>rfl
theorem Nn.put{R:Nat->Nat->Int}(h:Nn R){a b:Nat}{v:Int}(hab:a≠b)(hv:0<=v):Nn (upR (upR R a b v) b a v) where
 z:=λi=>by
  unfold upR;rw[YM (by omega),YM (by omega)];exact h.z i
 nn:=λi j=>by
  unfold upR;have:=h.nn i j;split
  .exact hv
  .split<;>omega
theorem Zon{R:Nat->Nat->Int}{M v:Int}(h:∀i j,R i j<=M)(hv:v<=M)(a b:Nat):∀i j,upR R a b v i j<=M:=λi j=>by
 unfold upR;split
 .exact hv
 .exact h i j
theorem Ycm{R:Nat->Nat->Int}{M:Int}(h:∀i j,R i j<=M)(k:Nat):∀i j,fw R k i j<=M:=by
 induction k with
 | zero=>exact h
 | succ k ih=>exact λi j=>JQ (Int.min_le_left ..) (ih i j)
theorem Z7h{R:Nat->Nat->Int}{M w:Int}{k:Nat}(h:∀i j,R i j<=k*M)(hw0:0<=w)(hw:w<=M)(bits:Int):∀i j,adC R bits w i j<=(k+1:Nat)*M:=λi j=>by
 have:=h i j;rw[Int.natCast_add,Int.add_mul,Int.natCast_one,Int.one_mul];unfold adC;split<;>omega
def lE(x:Int)(n:Nat)(o:OT)(kd:Int)(z4 z5 z6 z7 z8 z9:Option OT):Ze:=[YB (dk x),YB (.fz (.int n)),YB o,YB (.fz (.int kd)),z4,z5,z6,z7,z8,z9]
theorem Nn.nought:Nn λ_ _=>0:=⟨λ_=>rfl,λ_ _=>Int.le_refl _⟩
theorem Z7o{a b:Int}(ha:lo<=a/\a<=hi)(hb:lo<=b/\b<=hi){r:Int}(h0:0<=r)(h1:r<2):∃x,gIx (.list [.int a,.int b]) (.int r)=YB (.fz (.int x))/\lo<=x/\x<=hi:=by
 obtain rfl|rfl:r=0\/r=1:=by omega
 .exact⟨a,rfl,ha⟩
 .exact⟨b,rfl,hb⟩
theorem Z4b{n:Nat}(h:n<=10):∃m,Z9d (.int 1) (.int n)=YB (.int m)/\0<m/\m<=1024:=by
 have f:∀k:Fin 11,k.val=0\/k.val=1\/k.val=2\/k.val=3\/k.val=4\/k.val=5\/k.val=6\/k.val=7\/k.val=8\/k.val=9\/k.val=10:=by decide +kernel
 have f:n=0\/n=1\/n=2\/n=3\/n=4\/n=5\/n=6\/n=7\/n=8\/n=9\/n=10:=f ⟨n,Nat.lt_succ_of_le h⟩;obtain rfl|rfl|rfl|rfl|rfl|rfl|rfl|rfl|rfl|rfl|rfl:=f
 all_goals exact⟨_,rfl,by decide,by decide⟩
theorem Ycl:Zgp (.int 10) (.int 20)=YB (.int 100000000000000000000):=rfl
theorem Ybv{n:Nat}(hn:n<=10){M:Int}(hM:M=1000000000000000000000000000000000000001)(x kd:Int)(z6 z7 z8 z9:Option OT){RR:Xa->Ze->Prop} :
  EpS (J7 (tV (Zg gNe (Zd 3) (fC (.int 1))))
  (Zae (iRa (Zc (Z6 0 Zi (Zc (fC (.int 7)) Zn)) Zn)) (gNm 4)
  (Zy (wE (Z6 0 Zi (Zc (Zg Z9d (fC (.int 1)) (Zd 1)) Zn)) (Wt 5))
  (wE (Z6 2 Wm (Zc (Zd 5) (Zc (Zg Zdl (fC (.int 1)) (Z6 0 Zi (Zc (Yk gIx (Zez (Zc (fC (.int 3)) (Zc (Zg Zgp (fC (.int 10)) (fC (.int 20))) Zn))) (Z6 0 Zi (Zc (fC (.int 2)) Zn))) Zn))) Zn))) Zj1)))
  fNx) (lE x n (Yl n (inG λ_ _=>0)) kd YC YC z6 z7 z8 z9) (λδ=>∃x R z4 z5,δ=lE x n (Yl n (inG R)) kd z4 z5 z6 z7 z8 z9/\Nn R/\∀i j,R i j<=(7:Nat)*M) RR:=by
 have M0:0<=M:=by rw[hM];decide +kernel
 refine Zdu (W0 (Zcg (Zm3 Za Z3 rfl)) ⟨λ_=>?_,λ_=>Zdw ⟨_,_,_,_,rfl,Nn.nought,λ_ _=>Int.mul_nonneg (by decide) M0⟩⟩);refine Zwm (Z5h (W3 (Wz rfl (Zb Z3 Zh) (by decide) (btc (by decide +kernel) (by decide +kernel)) λr x1 r0 r1=>J9 ⟨r.toNat,?_,by omega,?_⟩)))
 .rw[Int.toNat_of_nonneg r0]
 refine⟨λk δ=>∃x R z4 z5,δ=lE x n (Yl n (inG R)) kd z4 z5 z6 z7 z8 z9/\Nn R/\∀i j,R i j<=(k:Nat)*M,⟨_,_,_,_,rfl,Nn.nought,λ_ _=>Int.mul_nonneg (by decide) M0⟩,λk d δ hd q=>?_,λδ' q=>?_⟩
 .obtain⟨x,R,z4,z5,rfl,hR,bR⟩:=q
  obtain⟨m,em,m0,m1⟩:=Z4b hn;refine⟨_,rfl,Zr (Zb9 (Wz rfl (Zb (Zm Z3 Za em) Zh) m0 (Bt.mono (m:=11) (Bt.of_lt (by omega) (by omega)) (by decide)) λb x2 b0 b1=>Zn1 (Jx rfl (W3 (Z0 Za (W3 (Zce (Z0 Z3 (Jx rfl (W3 (Zk7 (Z0 (Ze4 (Zb Z3 (Zb (Zm Z3 Z3 Ycl) Zh)) (show 2<=1000 by decide)) (Wz rfl (Zb Z3 Zh) (by decide) (btc (by decide +kernel) (by decide +kernel)) λr x3 r0 r1=>?_)))))))))))))⟩;obtain⟨y,ey,y0,y1⟩:=Z7o (a:=3) (b:=100000000000000000000) (lo:=1) (hi:=1000000000000000000000000000000000000000) (by decide +kernel) (by decide +kernel) r0 r1;refine⟨_,ey,J9 ⟨dk x3,rfl,?_⟩⟩;rw[OT.data_fz];refine(Znm x3 (m:=y) (Int.lt_of_lt_of_le (by decide) y0) (Zm7 (m:=130) (JQ (by decide) y0) (JQ y1 (by decide +kernel)) (by decide))).mono λd t' z=>?_;obtain⟨q,x',rfl,q0,q1,rfl⟩:=z;refine⟨_,rfl,J9 ⟨Yl n (inG R),rfl,(Zpo (n:=n) (by omega) R b (1+q)).mono λ_ t' z=>?_⟩⟩;subst z;have w0:0<=1+q:=by clear y1;omega
  have w1:1+q<=M:=by
   rw[hM];generalize 1000000000000000000000000000000000000000=W at*
   exact JQ (show 1+q<=y+1 by omega) (JQ (Int.add_le_add_right y1 1) (Int.le_of_eq (by decide +kernel)))
  exact⟨_,_,_,_,rfl,hR.add w0,Z7h bR w0 w1 b⟩
 .obtain⟨x,R,z4,z5,rfl,hR,bR⟩:=q
  refine⟨_,_,_,_,rfl,hR,λi j=>JQ (bR i j) (Int.mul_le_mul_of_nonneg_right ?_ M0)⟩;rw[Zw];omega
def Zas(n:Nat)(f:Nat->Int):Xa:=.list ((Xu n).map λj=>.int (f j))
def Wd(n:Nat)(r:Nat->Nat->Int):Xa:=.list ((Xu n).map λi=>Zas n (r i))
theorem Zej{n:Nat}(f:Nat->Y)(h:i<n):atI ((Xu n).map f) (i:Int)=YB (f i):=by
 rw[Zqx,Xp,Qy h];rfl
theorem Zb5{n:Nat}{f:Nat->Int}(h:j<n):gIx (Zas n f) (.int (j:Int))=YB (.fz (.int (f j))):=by
 unfold Zas;rw[Zlb,Zej _ h];rfl
theorem Zgx{n:Nat}{r:Nat->Nat->Int}(h:i<n):gIx (Wd n r) (.int (i:Int))=YB (.fz (Zas n (r i))):=by
 unfold Wd;rw[Zlb,Zej _ h];rfl
theorem Zh1{n:Nat}{r:Nat->Nat->Int}(h:0<n):gIx (Wd n r) (.int 0)=YB (.fz (Zas n (r 0))):=Zgx (i:=0) h
theorem Zel(n:Nat)(r:Nat->Nat->Int):Zdv [Wd n r]=YB (.int n):=by
 unfold Wd;rw[Zos,Xg,Xk]
theorem Zoj(n:Nat)(r:Nat->Int):Zdv [Zas n r]=YB (.int n):=by
 unfold Zas;rw[Zos,Xg,Xk]
theorem Nn.sum{R S:Nat->Nat->Int}(h:Nn R)(k:Nn S):Nn λi j=>R i j+S i j where
 z:=λi=>by show R i i+S i i=0;rw[h.z,k.z];rfl
 nn:=λi j=>Int.add_nonneg (h.nn i j) (k.nn i j)
theorem long2{n:Nat}(hn:n<=10){P:Int}(hP:P=100000000000000000000)(x:Int)(o:OT)(kd:Int)(z4 z5 z6 z7 z8 z9:Option OT){RR:Xa->Ze->Prop}{N:Ze->Prop}(next:∀x S z7 z8 z9,Nn S->(∀i j,S i j<=P)->EpS S' (lE x n o kd z4 z5 (YB (Yl n (inG S))) z7 z8 z9) N RR) :
  EpS (Zy (wE (Z4 Yo (Zc (Zd 1) Zn)) (J2 6))
  (Zy (wE (Yk gIx (Zez (Zc (fC (.int 3)) (Zc (fC (.int 7)) (Zc (Zg Zgp (fC (.int 10)) (fC (.int 20))) Zn)))) (Z6 0 Zi (Zc (fC (.int 3)) Zn))) (Wt 7))
  (Zy (Zae (iRa (Zc (Zd 1) Zn)) (gNm 8)
  (Zae (iRa (Zc (Zd 8) Zn)) (gNm 9)
  (Zy (Zcn 6 (Yk gIx (Zez (Zc (Zg Zdl (fC (.int 1)) (Z6 0 Zi (Zc (Zd 7) Zn))) (Zc (Zd 7) Zn))) (Zbt Z1b (Zc (Zg gEq (Zd 3) (fC (.int 3))) Zn))) (Zd 8) (Zd 9))
  (Zy (J7 (tAn (tV (Zg gEq (Zd 3) (fC (.int 3)))) (tV (Zg gEq (Z6 0 Zi (Zc (fC (.int 2)) Zn)) (fC (.int 0)))))
  (Zcn 6 (fC (.int 1)) (Zd 8) (Zd 9))
  fNx)
  (Zcn 6 (Zjm (Yk gIx (Yk gIx (Zcm 6) (Zd 8)) (Zd 9))) (Zd 9) (Zd 8)))))) S'))) (lE x n o kd z4 z5 z6 z7 z8 z9) N RR:=by
 have P1:1<=P:=by rw[hP];decide +kernel
 refine Zr (Ze0 (Zuc (Zb Za Zh) (Zlr (n:=n) (by omega))) (Zr (Zb9 (Zk7 (Z0 (Ze4 (Zb Z3 (Zb Z3 (Zb (Zm Z3 Z3 Ycl) Zh))) (show 3<=1000 by decide)) (Wz rfl (Zb Z3 Zh) (by decide) (btc (by decide +kernel) (by decide +kernel)) λr x1 r0 r1=>?_))))));obtain⟨m,em,m0,m1⟩:=Z2u (a:=3) (b:=7) (c:=100000000000000000000) (lo:=1) (hi:=P) (by rw[hP];decide +kernel) (by rw[hP];decide +kernel) (by rw[hP];decide +kernel) r0 r1;refine⟨_,em,?_⟩;rw[OT.data_fz];have bm:Bt 400 m:=Zm7 (m:=70) (JQ (by decide) m0) (JQ m1 (by rw[hP];decide +kernel)) (by decide);clear em hP;refine Zr (Wr (ds:=Zbs 0 n) (λ_ δ=>∃x S z8 z9,δ=lE x n o kd z4 z5 (YB (Yl n (inG S))) (YB (.fz (.int m))) z8 z9/\Nn S/\∀i j,S i j<=P) (Zcd (Zb Za Zh) (by omega)) ⟨_,_,_,_,rfl,Nn.nought,λ_ _=>by omega⟩ (λa d δ hd q=>?_) λδ' q=>?_)
 .obtain⟨x,S,z8,z9,rfl,hS,bS⟩:=q
  obtain⟨ha,rfl⟩:=Yz hd;rw[Q8];refine⟨_,rfl,Wr (ds:=Zbs 0 a) (λ_ δ=>∃x S z9,δ=lE x n o kd z4 z5 (YB (Yl n (inG S))) (YB (.fz (.int m))) (YB (.fz (.int a))) z9/\Nn S/\∀i j,S i j<=P) (Zcd (Zb Za Zh) (by omega)) ⟨_,_,_,rfl,hS,bS⟩ (λb d δ hd q=>?_) λδ' q=>?_⟩
  .obtain⟨x,S,z9,rfl,hS,bS⟩:=q
   obtain⟨hb,rfl⟩:=Yz hd;rw[Q8];refine⟨_,rfl,Zr (Zfa (Zk7 (Z62 (W3 (Zce (Z0 Z3 (Wz rfl (Zb Za Zh) (by omega) bm λr x2 r0 r1=>⟨_,Zo1 _ _,W3 (Z0 Za (J9 ⟨show 2<=1000 by decide,Z0 (Jq (Zb (Zl4 Za Z3 rfl) Zh) (Zxm _)) ?_⟩))⟩)))))))⟩;obtain⟨v,ev,v0,v1⟩:=Z97 (a:=1+r) (b:=m) (lo:=1) (hi:=P) (by omega) (by omega) (decide (kd=3));refine⟨_,ev,v,S,n,a,b,OT.data_fz _,rfl,Za,ha,Za,by omega,?_⟩;refine Zr (EpS.mono (N:=λδ=>∃x v,δ=lE x n o kd z4 z5 (YB (Yl n (inG (upR S a b v)))) (YB (.fz (.int m))) (YB (.fz (.int a))) (YB (.fz (.int b)))/\1<=v/\v<=P) (R:=λ_ _=>False) ?_ (λδ q=>?_) λ_ _ z=>z.elim)
   .refine Zdu (Z8t (W0 (Zcg (Zl4 Za Z3 rfl)) ⟨λc=>?_,λc=>⟨(λz=>nomatch z),λ_=>Zdw ⟨_,v,rfl,v0,v1⟩⟩⟩))
    refine Z5y (Zce (Wz rfl (Zb Z3 Zh) (by decide) (btc (by decide +kernel) (by decide +kernel)) λr x3 r0 r1=>Z0 Z3 ⟨_,Z0t _ _,_,rfl,λ_=>?_,λ_=>Zdw ⟨_,v,rfl,v0,v1⟩⟩));refine Zfa (Z0 Z3 ⟨1,upR S a b v,n,a,b,rfl,rfl,Za,ha,Za,by omega,x3,1,?_,Int.le_refl _,P1⟩);rw[Zxf];rfl
   obtain⟨x3,v,rfl,v0,v1⟩:=q;have val:EvV (Yk gIx (Yk gIx (Zcm 6) (Zd 8)) (Zd 9)) (lE x3 n o kd z4 z5 (YB (Yl n (inG (upR S a b v)))) (YB (.fz (.int m))) (YB (.fz (.int a))) (YB (.fz (.int b)))) (.int v):=(Zdz (f:=inG (upR S a b v)) (n:=n) (a:=a) (b:=b) (i0:=6) (i9:=8) (i10:=9) ha (by omega) rfl rfl rfl).cast (YT Xl (YL ⟨rfl,rfl⟩));refine Zfa (Z0 (d:=.int v) ?_ ⟨v,upR S a b v,n,b,a,rfl,rfl,Za,by omega,Za,ha,x3,_,_,rfl,hS.put (by omega) (by omega),Zon (Zon bS v1 a b) v1 b a⟩);obtain⟨t,e1,e2⟩:=val;exact⟨_,by rw[Zop,e1,Xh,e2];exact YL rfl,OT.data_fz _⟩
  .obtain⟨x,S,z9,rfl,hS,bS⟩:=q
   exact⟨x,S,_,z9,rfl,hS,bS⟩
 .obtain⟨x,S,z8,z9,rfl,hS,bS⟩:=q
  exact next x S _ z8 z9 hS bS
theorem Zwd{n k:Nat}{ts:List OT}{d:Xa}{f:Nat->Xa}(h:ts.map OT.data=(Xu n).map f):(ts.set k (.fz d)).map OT.data=(Xu n).map λi=>if i=k then d else f i:=by
 rw[List.map_set,h,OT.data_fz,Zhn]
def ad2(R W:Nat->Nat->Int)(k:Nat)(i j:Nat):Int:=if i<k then R i j+W i j else R i j
theorem Ybn{n:Nat}(hn:n<=10)(R W:Nat->Nat->Int)(x kd:Int)(z4 z5 z7 z8 z9:Option OT){RR:Xa->Ze->Prop} :
  EpS (Zae (iRa (Zc (Zd 1) Zn)) (gNm 8)
  (Z2a 2 (Y9 2 [] (Zlc (Zc (Yk gIx (Zcm 2) (Zd 8)) (Zc (Yk gIx (Zcm 6) (Zd 8)) Zn))) (gTp 2 (gCn (Z2t 0) (gCn (Z2t 1) gNl))) Zgn (Zg Zdl (Zd 0) (Zd 1))) (Zd 8))) (lE x n (Yl n (inG R)) kd z4 z5 (YB (Yl n (inG W))) z7 z8 z9)
  (λδ=>∃o z8,δ=lE x n o kd z4 z5 (YB (Yl n (inG W))) z7 z8 z9/\o.data=Zmd n (inG λi j=>R i j+W i j)) RR:=by
 have eo:Yl n (inG R)= .nd ((Xu n).map λi=>.nd ((Xu n).map λj=>.fz (inG R i j))):=rfl;rw[eo];refine Wr (ds:=Zbs 0 n) (λk δ=>∃ts z8,δ=lE x n (.nd ts) kd z4 z5 (YB (Yl n (inG W))) z7 z8 z9/\ts.map OT.data=(Xu n).map λi=>JB ((Xu n).map λj=>inG (ad2 R W k) i j)) (Zcd (Zb Za Zh) (by omega)) ⟨_,z8,rfl,?_⟩ (λk d δ hd q=>?_) λδ' q=>?_
 .have:=Jt n (inG R)
  unfold Yl Zmd at this;rw[OT.data_nd]at this;exact PyData.list.inj this
 .obtain⟨ts,z8,rfl,ht⟩:=q
  obtain⟨hk,rfl⟩:=Yz hd;rw[Q8];have lt:ts.length=n:=by
   have:=YT List.length ht
   rwa[Xg,Xg,Xk]at this
  refine⟨_,rfl,Wh (Zxz (n:=k) (d:=.list ((Xu n).map λj=>.int (R k j+W k j))) (Zxi (Xu n) (λj=>.tuple [.int (R k j),.int (W k j)]) _ (Zs0 (as:=(Xu n).map λj=>.int (R k j)) (bs:=(Xu n).map λj=>.int (W k j)) (Ja (Zcx rfl (OT.data_nd ts)) (Za (d:=.int k)) ?_) (Ja (Zcx rfl (Jt n (inG W))) (Za (d:=.int k)) ?_) (Zw1 _ _ _)) (by rw[Xk];omega) λj _ z0 z1=>⟨_,_,rfl,Zbw Za Za⟩) rfl Za ?_) ⟨_,_,rfl,?_⟩⟩
  .rw[ht,Zlb,Zej _ hk,Xh]
   refine YT (λz=>YB (OT.fz (JB z))) (XH λj _=>YT Xl (YM (by omega)))
  .unfold Zmd
   rw[Zlb,Zej _ hk,Xh];rfl
  .rw[lt];exact Zts hk
  .rw[Zwd ht]
   refine XH λi _=>?_
   by_cases c:i=k
   .rw[YL c,c]
    exact YT JB (XH λj _=>YT Xl (YL (by omega)).symm)
   .rw[YM c]
    refine YT JB (XH λj _=>YT Xl ?_);unfold ad2
    by_cases c2:i<k
    .rw[YL c2,YL (by omega)]
    .rw[YM c2,YM (by omega)]
 .obtain⟨ts,z8,rfl,ht⟩:=q
  refine⟨_,z8,rfl,?_⟩;rw[OT.data_nd,ht,Zw];refine YT JB (XH λi hi=>YT JB (XH λj _=>YT Xl (YL (Qd.mp hi))))
theorem Zyb{M P:Int}(hM:M=1000000000000000000000000000000000000001)(hP:P=100000000000000000000){v:Int}(h0:0<=v)(h1:v<=(7:Nat)*M+P):Bt 300 v :=
 Zm7 (m:=160) h0 (JQ h1 (by rw[hM,hP];decide +kernel)) (by decide)
theorem Z2d{n:Nat}(hn:n<=10)(x:Int):ToldI Zap (dk x) [.int n] λd t'=>∃R x',d=Wd n R/\Nn R/\(∀i j,Bt 300 (R i j))/\t'=dk x':=by
 obtain⟨M,hM⟩:∃M:Int,M=1000000000000000000000000000000000000001:=⟨_,rfl⟩;obtain⟨P,hP⟩:∃P:Int,P=100000000000000000000:=⟨_,rfl⟩;have P0:0<=P:=by rw[hP];decide +kernel
 refine Zcf rfl (Zr (Ze0 (Zuc (Zb Za Zh) (Zlr (n:=n) (by omega))) (Zr (Zb9 (Wz rfl (Zb Z3 Zh) (by decide) (btc (by decide +kernel) (by decide +kernel)) λkd x1 r0 r1=>Zr ((Ybv hn hM x1 kd YC YC YC YC (RR:=λ_ _=>False)).mono (λδ q=>?_) λ_ _ z=>z.elim))))));obtain⟨x2,R,z4,z5,rfl,hR,bR⟩:=q;refine Zr (EpS.mono (N:=λδ=>∃x o R z4 z5 z6 z7 z8 z9,δ=lE x n o kd z4 z5 z6 z7 z8 z9/\o.data=Zmd n (inG R)/\Nn R/\∀i j,Bt 300 (R i j)) (R:=λ_ _=>False) ?_ (λδ q=>?_) λ_ _ z=>z.elim)
 .refine Zdu (W0 (Zcg (Z6w Za Z3 rfl)) ⟨λ_=>?_,λ_=>Zdw ⟨_,_,_,_,_,_,_,_,_,rfl,Jt n (inG R),hR,λi j=>Zyb hM hP (hR.nn i j) (JQ (bR i j) (Int.le_add_of_nonneg_right P0))⟩⟩)
  refine long2 hn hP x2 _ kd z4 z5 YC YC YC YC λx S z7 z8 z9 hS bS=>?_;refine Zr (Zn1 (Jx rfl (J9 ⟨_,rfl,(Znh (n:=n) (by omega) hS).mono λ_ t' z=>?_⟩)));subst z;refine(Ybn hn R (fw S n) x kd z4 z5 z7 z8 z9 (RR:=λ_ _=>False)).mono (λδ q=>?_) λ_ _ z=>z.elim;obtain⟨o,z8,rfl,ho⟩:=q;exact⟨x,o,_,_,_,_,_,_,_,rfl,ho,hR.sum (hS.fw n),λi j=>Zyb hM hP (Int.add_nonneg (hR.nn i j) ((hS.fw n).nn i j)) (Int.add_le_add (bR i j) (Ycm bS n i j))⟩
 .obtain⟨x,o,R,z4,z5,z6,z7,z8,z9,rfl,ho,hR,bR⟩:=q
  exact Z58 rfl ⟨dk x,rfl,R,x,ho,hR,bR,rfl⟩
def EmM(m:Nat)(S:Nat->Nat->Int):Prop:=∃g:Nat->Int,∀i j,i<j->j<m->((g i-g j).natAbs:Int)=S i j
def Nz(m:Nat)(g:Nat->Int):Prop:=g 0=0/\∀k,k<m->(∀j,j<k->g j=0)->0<=g k
theorem EmM.nz{S:Nat->Nat->Int}(h:EmM m S):∃g:Nat->Int,Nz m g/\∀i j,i<j->j<m->((g i-g j).natAbs:Int)=S i j:=by
 obtain⟨g,hg⟩:=h;have mv:∃g:Nat->Int,g 0=0/\∀i j,i<j->j<m->((g i-g j).natAbs:Int)=S i j:=⟨λi=>g i-g 0,by show g 0-g 0=0;omega,λi j h1 h2=>by have:=hg i j h1 h2;show((g i-g 0-(g j-g 0)).natAbs:Int)=_;omega⟩;obtain⟨g,g0,hg⟩:=mv;rcases QT 0 m with hm|hm
 .by_cases c:∃k,k<m/\(∀j,j<k->g j=0)/\g k<0
  .obtain⟨k,k1,k2,k3⟩:=c
   refine⟨λi=>- g i,⟨by show-g 0=0;omega,λi hi h=>?_⟩,λi j h1 h2=>by have:=hg i j h1 h2;show((- g i- -g j).natAbs:Int)=_;omega⟩;show 0<= -g i;rcases VB i k with z|z|z
   .have:=k2 i z;omega
   .rw[z];omega
   .have:- g k=0:=h k z
    omega
  .refine⟨g,⟨g0,λk hk h=>?_⟩,hg⟩
   by_cases z:g k<0
   .exact YX ⟨k,hk,h,z⟩ c
   .omega
 .exact⟨g,⟨g0,λk hk=>by omega⟩,hg⟩
def plc(S:Nat->Nat->Int)(a i:Nat):Int:=if((S 0 a-S 0 i).natAbs:Int)=S a i then S 0 i else-S 0 i
structure Dg(m:Nat)(S:Nat->Nat->Int):Prop where
 nn:∀i j,i<m->j<m->0<=S i j
 dg:∀i,i<m->S i i=0
def Ap(m:Nat)(S:Nat->Nat->Int)(a:Nat):Prop:=a<m/\((0<S 0 a/\∀j,j<a->S 0 j<=0)\/(a=0/\∀j,j<m->S 0 j<=0))
theorem Zv4{A C q:Int}(pos:0<A)(hq:(q.natAbs:Int)=B)(h:((A-q).natAbs:Int)=C):(if((A-B).natAbs:Int)=C then B else -B)=q:=by
 by_cases s:0<=q
 .have:B=q:=by clear h;omega
  subst this;rw[YL h]
 .have:B= -q:=by clear h;omega
  subst this;rw[YM (by clear hq;omega)];exact Int.neg_neg q
theorem Z5o{x:Int}(h:(x.natAbs:Int)=0):x=0:=by omega
theorem Ydk{c:Prop}[Decidable c]:(if c then(0:Int)else -0)=0:=by split<;>rfl
theorem Zqw{a:Nat}{S:Nat->Nat->Int}(d:Dg m S)(ha:Ap m S a){g:Nat->Int}(z:Nz m g)(hg:∀i j,i<j->j<m->((g i-g j).natAbs:Int)=S i j)(hi:i<m):plc S a i=g i:=by
 obtain⟨ham,ha⟩:=ha;obtain⟨g0,gz⟩:=z;have s0:∀j,j<m->((g j).natAbs:Int)=S 0 j:=λj hj=>by
  rcases Nat.eq_zero_or_pos j with e|e
  .subst e;have:=d.dg 0 hj;omega
  .have:=hg 0 j e hj;omega
 have si:=s0 i hi;rcases ha with⟨a1,a2⟩|⟨rfl,a2⟩
 .have sa:=s0 a ham
  have low:∀j,j<a->g j=0:=λj hj=>Z5o (by
   have h1:=a2 j hj;have h2:=s0 j (by omega);rw[h2];have:=d.nn 0 j (by omega) (by omega);omega)
  have ga:=gz a ham low;unfold plc;rcases VB i a with c|c|c
  .have h:=low i c
   rw[h]at si;rw[<-si,h];exact Ydk
  .subst c
   have h:=d.dg i hi;rw[YL (by rw[h,Int.sub_self];rfl),<-sa];exact Vl ga
  .have h1:=hg a i c hi
   refine Zv4 a1 si ?_;rw[<-sa,Vl ga];exact h1
 .have h1:=a2 i hi
  have h2:=d.nn 0 i (by omega) hi;have e:S 0 i=0:=by clear si;omega
  unfold plc;rw[e]at si|-
  rw[Z5o si];exact Ydk
theorem Znw{a:Nat}{S:Nat->Nat->Int}(d:Dg m S)(ha:Ap m S a):EmM m S↔∀i j,i<j->j<m->((plc S a i-plc S a j).natAbs:Int)=S i j:=by
 constructor
 .intro h i j h1 h2
  obtain⟨g,z,hg⟩:=h.nz;rw[Zqw d ha z hg (by omega),Zqw d ha z hg h2];exact hg i j h1 h2
 .exact λh=>⟨_,h⟩
theorem Z5p(S:Nat->Nat->Int)(hm:0<m):∃a,Ap m S a:=by
 by_cases c:∃a,a<m/\0<S 0 a
 .obtain⟨a,h1,h2⟩:=c
  have key:∀b,b<m->0<S 0 b->∃a,a<m/\0<S 0 a/\∀j,j<a->S 0 j<=0:=λb=>by
   induction b using Nat.strongRecOn with
   | ind b ih=>
    intro h1 h2
    by_cases c:∃j,j<b/\0<S 0 j
    .obtain⟨j,j1,j2⟩:=c
     exact ih j j1 (by omega) j2
    .exact⟨b,h1,h2,λj hj=>Int.not_lt.mp λz=>c ⟨j,hj,z⟩⟩
  obtain⟨a,h1,h2,h3⟩:=key a h1 h2;exact⟨a,h1,.inl ⟨h2,h3⟩⟩
 .exact⟨0,hm,.inr ⟨rfl,λj hj=>Int.not_lt.mp λz=>c ⟨j,hj,z⟩⟩⟩
def sb(R:Nat->Nat->Int)(ps:List Nat):Nat->Nat->Int:=λi j=>R (ps.getD i 0) (ps.getD j 0)
theorem turned(o p z w:Int):(((if o<p then z-o else o-z)-(if o<p then w-o else o-w)).natAbs:Int)=((z-w).natAbs:Int):=by
 split
 .rw[show z-o-(w-o)=z-w by omega]
 .rw[show o-z-(o-w)= -(z-w) by omega,Int.natAbs_neg]
theorem Zo0{S R:Nat->Nat->Int}{k:Int}(hk:0<k)(d:Dg m S)(e:∀i j,i<m->j<m->k*S i j=R i j)(hm:0<m):EmM m S↔EmM m R:=by
 have dR:Dg m R:=⟨λi j hi hj=>by rw[<-e i j hi hj];exact Int.mul_nonneg (by omega) (d.nn i j hi hj),λi hi=>by rw[<-e i i hi hi,d.dg i hi,Int.mul_zero]⟩;obtain⟨a,ha⟩:=Z5p S hm;have abs:∀u v w:Int,((k*u-k*v).natAbs:Int)=k*w↔((u-v).natAbs:Int)=w:=λu v w=>by
  rw[<-Int.mul_sub,Int.natAbs_mul,Int.natCast_mul,Vl (show 0<=k by omega)];exact⟨λh=>Int.eq_of_mul_eq_mul_left (by omega) h,λh=>by rw[h]⟩
 have aR:Ap m R a:=by
  obtain⟨h1,h2⟩:=ha;refine⟨h1,h2.imp (λz=>⟨?_,λj hj=>?_⟩) λz=>⟨z.1,λj hj=>?_⟩⟩
  .rw[<-e 0 a hm h1];exact Int.mul_pos hk z.1
  .rw[<-e 0 j hm (by omega)];exact V8 (by omega) (z.2 j hj)
  .rw[<-e 0 j hm hj];exact V8 (by omega) (z.2 j hj)
 have pl:∀i,i<m->plc R a i=k*plc S a i:=λi hi=>by
  unfold plc;rw[<-e 0 a hm ha.1,<-e 0 i hm hi,<-e a i ha.1 hi]
  by_cases c:((S 0 a-S 0 i).natAbs:Int)=S a i
  .rw[YL c,YL ((abs _ _ _).mpr c)]
  .rw[YM c,YM λz=>c ((abs _ _ _).mp z),Int.mul_neg]
 rw[Znw d ha,Znw dR aR];refine forall_congr' λi=>forall_congr' λj=>forall_congr' λh1=>forall_congr' λh2=>?_;rw[pl i (by omega),pl j h2,<-e i j (by omega) h2,abs]
theorem Z2s{t:FT}{a b:FE}{d:Xa}(h:EvT t δ YD)(k:EvV a δ d):EvV (fIf t a b) δ d:=by
 obtain⟨o,e1,e2⟩:=k;exact⟨o,by unfold fIf;unfold EvT at h;rw[h];exact e1,e2⟩
theorem Z1s{t:FT}{a b:FE}{d:Xa}(h:EvT t δ YF)(k:EvV b δ d):EvV (fIf t a b) δ d:=by
 obtain⟨o,e1,e2⟩:=k;exact⟨o,by unfold fIf;unfold EvT at h;rw[h];exact e1,e2⟩
theorem Zih{n:Nat}{S:Nat->Nat->Int}(h0:0<n)(hn:n<=1000):∃a:Nat,Told Wl [Wd n S] (.int a)/\Ap n S a:=by
 have key:EpS Jj (Zc6 2 [Wd n S]) (λ_=>False) λd _=>∃a:Nat,d= .int a/\Ap n S a:=by
  refine Zr (Wr (ds:=Zbs 0 n) (λk δ=>∃z,δ=[YB (.fz (Wd n S)),z]/\∀j,j<k->S 0 j<=0) (Zcd (Zb (Jq (Zb Za Zh) (Zel n S)) Zh) (by omega)) ⟨YC,rfl,λj hj=>by omega⟩ (λk d δ hd q=>?_) λδ' q=>?_)
  .obtain⟨z,rfl,hz⟩:=q
   obtain⟨hk,rfl⟩:=Yz hd;rw[Q8];refine⟨_,rfl,Zdu (W0 (Zcg (Z6w (Ja (Ja Za Z3 (Zh1 h0)) Za (Zb5 hk)) Z3 rfl)) ⟨λc=>?_,λc=>?_⟩)⟩
   .exact J6 (Z0 Za ⟨k,rfl,hk,.inl ⟨YW c,hz⟩⟩)
   .refine Zdw ⟨_,rfl,λj hj=>?_⟩
    rcases QT j k with e|e
    .exact hz j e
    .rw[show j=k by omega]
     have:=of_decide_eq_false c;omega
  .obtain⟨z,rfl,hz⟩:=q
   rw[Zw]at hz;exact J6 (Z0 Z3 ⟨0,rfl,h0,.inr ⟨rfl,hz⟩⟩)
 rcases key with⟨_,_,z⟩|⟨o,δ',e,a,ed,ha⟩
 .exact z.elim
 .exact⟨a,⟨o,by unfold Wl;rw[Jf (np:=1) (by rfl),e,Zhe],ed⟩,ha⟩
theorem Zw6{n a:Nat}{S:Nat->Nat->Int}(ha:a<n)(hi:i<n):Told Zav [Wd n S,.int a,.int i] (.int (plc S a i)):=by
 have h0:0<n:=by omega
 refine Wq rfl<|Wa (Z5 (Ja (Ja Za Z3 (Zh1 h0)) Za (Zb5 hi))) ?_;have t:∀{b:Bool},decide (((S 0 a-S 0 i).natAbs:Int)=S a i)=b->EvT (tV (Zg gEq (Zbt Zqj (Zc (Zg gSb (Yk gIx (Yk gIx (Zd 0) (fC (.int 0))) (Zd 1)) (Zd 3)) Zn)) (Yk gIx (Yk gIx (Zd 0) (Zd 1)) (Zd 2)))) [YB (.fz (Wd n S)),YB (.fz (.int a)),YB (.fz (.int i)),YB (.fz (.int (S 0 i)))] b:=λhb=>Zcg (Zl4 (Jq (Zb (Zem (Ja (Ja Za Z3 (Zh1 h0)) Za (Zb5 ha)) Za) Zh) (Zh6 _)) (Ja (Ja Za Za (Zgx ha)) Za (Zb5 hi)) hb);unfold plc
 by_cases c:((S 0 a-S 0 i).natAbs:Int)=S a i
 .rw[YL c]
  exact Zv5 (Z0o (t (YQ c)) (Zan Za))
 .rw[YM c]
  exact Wa (Yx (t (YS c)) rfl) (Zan (Zyo Za))
def Zm8(n:Nat)(S:Nat->Nat->Int)(f:Nat->Int):Prop:=∀i j,i<j->j<n->((f i-f j).natAbs:Int)=S i j
open Classical in
theorem Z0x{n:Nat}{S:Nat->Nat->Int}{f:Nat->Int}(hn:n<=1000):Told Yw [Wd n S,Zas n f] (.bool (decide (Zm8 n S f))):=by
 have key:EpS Jd (Zc6 4 [Wd n S,Zas n f]) (λ_=>False) λd _=>d= .bool (decide (Zm8 n S f)):=by
  refine Zr (Wr (ds:=(Zhq n).map ptD) (λk δ=>∃z2 z3,δ=[YB (.fz (Wd n S)),YB (.fz (Zas n f)),z2,z3]/\∀q∈(Zhq n).take k,((f q.1-f q.2).natAbs:Int)=S q.1 q.2) (Zdp (Zx (Zb (Jq (Zb Za Zh) (Zel n S)) Zh) (Zm1 n hn))) ⟨YC,YC,rfl,λq m=>by cases m⟩ (λk d δ hd q=>?_) λδ' q=>?_)
  .obtain⟨z2,z3,rfl,hz⟩:=q
   rw[Xp]at hd;obtain⟨q,hq,rfl⟩:=Option.map_eq_some_iff.mp hd;have hm:=QF hq;obtain⟨h1,h2⟩:=Zo7 hm;refine⟨_,rfl,Zdu (W0 (Zcg (Zm3 (Jq (Zb (Zem (Ja Za Za (Zb5 (by omega))) (Ja Za Za (Zb5 h2))) Zh) (Zh6 _)) (Ja (Ja Za Za (Zgx (show q.1<n by omega))) Za (Zb5 h2)) rfl)) ⟨λc=>?_,λc=>?_⟩)⟩
   .refine J6 (Z0 Z3 ?_)
    rw[YS λz=>?_];rw[YQ (z q.1 q.2 h1 h2)]at c;cases c
   .refine Zdw ⟨_,_,rfl,λx hx=>?_⟩
    rw[U4,hq]at hx;rcases Qt.mp hx with hx|hx
    .exact hz x hx
    .have:x=q:=Xv.mp hx
     subst this;rw[Bool.not_eq_false']at c;exact YW c
  .obtain⟨z2,z3,rfl,hz⟩:=q
   rw[Xg,List.take_length]at hz;refine J6 (Z0 Z3 ?_);rw[YQ (show Zm8 n S f from λi j h1 h2=>hz (i,j) (Zpq h1 h2))]
 rcases key with⟨_,_,z⟩|⟨o,δ',e,ed⟩
 .exact z.elim
 .exact⟨o,by unfold Yw;rw[Jf (np:=2) (by rfl),e,Zhe],ed⟩
open Classical in
theorem Zmc{n:Nat}{S:Nat->Nat->Int}(h0:0<n)(hn:n<=1000)(d:Dg n S):∃f:Nat->Int,Told W2 [Wd n S] (if EmM n S then Zas n f else .none)/\(EmM n S->Zm8 n S f):=by
 obtain⟨a,ea,ha⟩:=Zih (S:=S) h0 hn;refine⟨plc S a,?_,λc=>(Znw d ha).mp c⟩;refine Wq rfl<|Wa (Z5 (Zx (Zb Za Zh) ea)) ?_;refine Wa (Z5 (d:=Zas n (plc S a)) ?_) ?_
 .refine(Zhy (cs:=[YB (.fz (Wd n S)),YB (.fz (.int a))]) (Xu n) (λi:Nat=>Xl (0+(i:Int))) (λi=>.int (plc S a i)) (Zcd (Zb (Jq (Zb Za Zh) (Zel n S)) Zh) (by omega)) (by rw[Xk];omega) rfl λi hi=>?_).cast rfl
  rw[Q8];exact Zx (Zb Za (Zb Za (Zb Za Zh))) (Zw6 ha.1 (Qd.mp hi))
 .have iff:Zm8 n S (plc S a)↔EmM n S:=(Znw d ha).symm
  have t:EvT (tD (Z4 Yw (Zc (Zd 0) (Zc (Zd 2) Zn)))) [YB (.fz (Wd n S)),YB (.fz (.int a)),YB (.fz (Zas n (plc S a)))] (decide (Zm8 n S (plc S a))):=Zg4 (Zx (Zb Za (Zb Za Zh)) (Z0x hn))
  by_cases c:EmM n S
  .rw[YL c]
   rw[YQ (iff.mpr c)]at t;exact Zan (Z2s t Za)
  .rw[YM c]
   rw[YS λz=>c (iff.mp z)]at t;exact Zan (Z1s t Z3)
structure Pts(n:Nat)(ps:List Nat)(d:Xa):Prop where
 ix:∀i,i<ps.length->gIx d (.int (i:Int))=YB (.fz (.int (ps.getD i 0:Nat)))
 ln:Zdv [d]=YB (.int ps.length)
 lt:∀i,i<ps.length->ps.getD i 0<n
 sm:ps.length<=1000
theorem Z3v{n i j:Nat}{R:Nat->Nat->Int}{a b c:FE}{δ:Ze}(ha:EvV a δ (Wd n R))(hb:EvV b δ (.int i))(hc:EvV c δ (.int j))(hi:i<n)(hj:j<n):EvV (Yk gIx (Yk gIx a b) c) δ (.int (R i j)):=Ja (Ja ha hb (Zgx hi)) hc (Zb5 hj)
def Fts(S:Nat->Nat->Int)(pl:List Int)(c:Int):Prop:=∀k,k<pl.length->((pl.getD k 0-c).natAbs:Int)=S k pl.length
open Classical in
theorem Zvm{n:Nat}{R:Nat->Nat->Int}{ps:List Nat}{d:Xa}(hp:Pts n ps d){pl:List Int}(hl:pl.length<ps.length)(c:Int):Told Wo [Wd n R,d,Zv pl,.int c] (.bool (decide (Fts (sb R ps) pl c))):=by
 have sm:=hp.sm;have key:EpS Zat (Zc6 6 [Wd n R,d,Zv pl,.int c]) (λ_=>False) λe _=>e= .bool (decide (Fts (sb R ps) pl c)):=by
  refine Zr (Wh (Z5 (Ja Za (Zbv Za) (hp.ix _ hl))) ?_);refine Zr (Wr (ds:=Zbs 0 pl.length) (λk δ=>∃z,δ=[YB (.fz (Wd n R)),YB (.fz d),YB (.fz (Zv pl)),YB (.fz (.int c)),YB (.fz (.int (ps.getD pl.length 0:Nat))),z]/\∀j,j<k->((pl.getD j 0-c).natAbs:Int)=sb R ps j pl.length) (Zcd (Zb (Zbv Za) Zh) (by omega)) ⟨YC,rfl,λj hj=>by omega⟩ (λk e δ hd q=>?_) λδ' q=>?_)
  .obtain⟨z,rfl,hz⟩:=q
   obtain⟨hk,rfl⟩:=Yz hd;rw[Q8];have e1:EvV (Yk gIx (Zd 2) (Zd 5)) [YB (.fz (Wd n R)),YB (.fz d),YB (.fz (Zv pl)),YB (.fz (.int c)),YB (.fz (.int (ps.getD pl.length 0:Nat))),YB (.fz (.int k))] (.int (pl.getD k 0)):=(Zdj (p:=pl) (i:=(k:Int)) Za Za (by omega) (by omega)).cast (by rw[XX]);refine⟨_,rfl,Zdu (W0 (Zcg (Zm3 (Jq (Zb (Zem e1 Za) Zh) (Zh6 _)) (Z3v Za (Ja Za Za (hp.ix k (by omega))) Za (hp.lt k (by omega)) (hp.lt _ hl)) rfl)) ⟨λh=>?_,λh=>?_⟩)⟩
   .refine J6 (Z0 Z3 ?_)
    rw[YS λw=>?_];have w:=w k hk;unfold sb at w;rw[YQ w]at h;cases h
   .refine Zdw ⟨_,rfl,λj hj=>?_⟩
    rcases QT j k with e|e
    .exact hz j e
    .rw[show j=k by omega]
     rw[Bool.not_eq_false']at h;exact YW h
  .obtain⟨z,rfl,hz⟩:=q
   rw[Zw]at hz;exact J6 (Z0 Z3 (by rw[YQ (show Fts (sb R ps) pl c from hz)]))
 rcases key with⟨_,_,z⟩|⟨o,δ',e,ed⟩
 .exact z.elim
 .exact⟨o,by unfold Wo;rw[Jf (np:=4) (by rfl),e,Zhe],ed⟩
def Sofar(m:Nat)(S:Nat->Nat->Int)(pl:List Int):Prop:=(∀i j,i<j->j<pl.length->((pl.getD i 0-pl.getD j 0).natAbs:Int)=S i j)/\∀g,Nz m g->(∀i j,i<j->j<m->((g i-g j).natAbs:Int)=S i j)->∀i,i<pl.length->pl.getD i 0=g i
theorem getD_snoc(pl:List Int)(c:Int)(i:Nat)(hi:i<pl.length):(pl++[c]).getD i 0=pl.getD i 0:=by
 rw[Xj,Xj,Vg hi]
theorem getD_last(pl:List Int)(c:Int):(pl++[c]).getD pl.length 0=c:=by
 rw[Xj,Q0 (XQ _),Nat.sub_self];rfl
theorem Sofar.next{m:Nat}{S:Nat->Nat->Int}{pl:List Int}(h:Sofar m S pl)(h1:1<=pl.length)(hm:pl.length<m){c:Int}(hc:Fts S pl c)(pick:c=S 0 pl.length\/(c= -S 0 pl.length/\¬Fts S pl (S 0 pl.length)))(nn:0<=S 0 pl.length):Sofar m S (pl++[c]):=by
 refine⟨λi j hij hj=>?_,λg z hg i hi=>?_⟩
 .rw[QL,Vw]at hj
  rcases QT j pl.length with e|e
  .rw[getD_snoc _ _ _ (by omega),getD_snoc _ _ _ e];exact h.1 i j hij e
  .have:j=pl.length:=by omega
   subst this;rw[getD_snoc _ _ _ hij,getD_last];exact hc i hij
 .rw[QL,Vw]at hi
  rcases QT i pl.length with e|e
  .rw[getD_snoc _ _ _ e];exact h.2 g z hg i e
  .have:i=pl.length:=by omega
   subst this;rw[getD_last];have same:∀k,k<pl.length->pl.getD k 0=g k:=h.2 g z hg;have g0:=hg 0 pl.length (by omega) hm;have z0:=z.1;have fg:Fts S pl (g pl.length):=λk hk=>by rw[same k hk];exact hg k _ hk hm
   have two:g pl.length=S 0 pl.length\/g pl.length= -S 0 pl.length:=by omega
   rcases pick with p|⟨p,q⟩
   .rcases two with t|t
    .rw[p,t]
    .-- both fit: all before are 0
     have all:∀k,k<pl.length->g k=0\/S 0 pl.length=0:=λk hk=>by
      have a:=hc k hk;have b:=fg k hk;rw[same k hk]at a b;rw[p]at a;rw[t]at b;omega
     by_cases s:S 0 pl.length=0
     .rw[p,t,s];rfl
     .have:=z.2 pl.length hm λk hk=>(all k hk).resolve_right s
      omega
   .rcases two with t|t
    .exact YX (t▸fg) q
    .rw[p,t]
theorem Sofar.no{m:Nat}{S:Nat->Nat->Int}{pl:List Int}(h:Sofar m S pl)(h1:1<=pl.length)(hm:pl.length<m)(n1:¬Fts S pl (S 0 pl.length))(n2:¬Fts S pl (0-S 0 pl.length)):¬EmM m S:=λe=>by
 obtain⟨g,z,hg⟩:=e.nz;have same:∀k,k<pl.length->pl.getD k 0=g k:=h.2 g z hg;have g0:=hg 0 pl.length (by omega) hm;have z0:=z.1;have fg:Fts S pl (g pl.length):=λk hk=>by rw[same k hk];exact hg k _ hk hm
 have two:g pl.length=S 0 pl.length\/g pl.length=0-S 0 pl.length:=by omega
 rcases two with t|t
 .exact n1 (t▸fg)
 .exact n2 (t▸fg)
theorem Sofar.yes{m:Nat}{S:Nat->Nat->Int}{pl:List Int}(h:Sofar m S pl)(hm:pl.length=m):EmM m S:=⟨λi=>pl.getD i 0,λi j h1 h2=>h.1 i j h1 (by omega)⟩
theorem Z5g{e:FE}{δ:Ze}{ds:List Xa}(h:EvV e δ (.tuple ds)):EvI (iTp e) δ ds:=by
 obtain⟨t,e1,e2⟩:=h;unfold EvI iTp;rw[e1,Xh];show(match t.data with| .tuple ds=>YB (ds,δ)|_=>YC)=_;rw[e2]
theorem Zqu{e:FE}{δ:Ze}{i:Int}(h:EvV e δ (.int i)):EvV (Zjm e) δ (.int i):=by
 obtain⟨t,e1,e2⟩:=h;refine⟨.fz (.int i),?_,OT.data_fz _⟩;rw[Zop,e1,Xh];show(if Za7 t.data=YD then YB (OT.fz t.data,δ)else YC)=_;rw[e2,YL (by rw[Za7])]
def ndZ(l:List Int):OT:=.nd (l.map λv=>.fz (.int v))
theorem Zcc(l:List Int):(ndZ l).data=Zv l:=Zv0 l
theorem Z4y{i:Nat}{e:FE}{δ:Ze}{l:List Int}{v:Int}(h:EvV e δ (.int v))(hi:δ[i]? =YB (YB (ndZ l)))(hl:l.length<=1000):Js i e δ= .nx (δ.set i (YB (ndZ (l++[v])))):=Zu9 h hi (by omega)
theorem Zsp(l:List Int):gEq (Zv l) (.list [])=YB (.bool (decide (l=[]))):=by
 have s:∀p:List Int,VJ (Zv p)=YD:=λp=>((show Sh 1 (Zv p)from lay_ints p).shp (by omega)).ok;unfold gEq;rw[YL (by rw[s,show VJ (.list [])=YD from s []];rfl)];exact YT (λz=>YB (PyData.bool z)) (Zh7 l [])
open Classical in
theorem Zpc{n:Nat}{R:Nat->Nat->Int}{ps:List Nat}{d:Xa}(hp:Pts n ps d)(h1:1<=ps.length)(nn:∀i j,i<n->j<n->0<=R i j):∃pl:List Int,Told Wk [Wd n R,d] (if EmM ps.length (sb R ps)then Zv pl else .none)/\(EmM ps.length (sb R ps)->pl.length=ps.length/\Sofar ps.length (sb R ps) pl):=by
 have sm:=hp.sm;have key:EpS Ji (Zc6 7 [Wd n R,d]) (λ_=>False) λe _=>∃pl:List Int,e=(if EmM ps.length (sb R ps)then Zv pl else .none)/\(EmM ps.length (sb R ps)->pl.length=ps.length/\Sofar ps.length (sb R ps) pl):=by
  refine Zr (Wh (Zjl (o:=ndZ [0]) (by rw[Zg6];rfl)) ?_);refine Zr (Wr (ds:=Zbs 1 (ps.length-1)) (λk δ=>∃pl z3 z4 z5 z6,δ=[YB (.fz (Wd n R)),YB (.fz d),YB (ndZ pl),z3,z4,z5,z6]/\pl.length=k+1/\Sofar ps.length (sb R ps) pl) (Zzp (m:=1) (n:=ps.length) (Zb Z3 (Zb (Jq (Zb Za Zh) hp.ln) Zh)) (by omega) (by omega)) ⟨[0],YC,YC,YC,YC,rfl,rfl,λi j hij hj=>by simp only[QZ,Vi]at hj;omega,λg z hg i hi=>by
   have:i=0:=by simp only[QZ,Vi]at hi;omega
   subst this;exact z.1.symm⟩ (λk e δ hd q=>?_) λδ' q=>?_)
  .obtain⟨pl,z3,z4,z5,z6,rfl,hl,hs⟩:=q
   obtain⟨hk,rfl⟩:=Yz hd;have ek:((1:Int)+(k:Int))=((pl.length:Nat):Int):=by omega
   rw[ek];have far0:0<=sb R ps 0 pl.length:=nn _ _ (hp.lt 0 (by omega)) (hp.lt _ (by omega));refine⟨_,rfl,Zr (Wh (Z5 (d:=.int (sb R ps 0 pl.length)) (Z3v (n:=n) (R:=R) (i:=ps.getD 0 0) (j:=ps.getD pl.length 0) Za (Ja Za Z3 (hp.ix 0 (by omega))) (Ja Za Za (hp.ix pl.length (by omega))) (hp.lt 0 (by omega)) (hp.lt _ (by omega)))) ?_)⟩;refine Zr (Wh Znz ?_);refine Zr (Wr (ds:=[sb R ps 0 pl.length,0-sb R ps 0 pl.length].map Xl) (λt δ=>∃z6,δ=[YB (.fz (Wd n R)),YB (.fz d),YB (ndZ pl),YB (.fz (.int (pl.length:Nat))),YB (.fz (.int (sb R ps 0 pl.length))),YB (ndZ (([sb R ps 0 pl.length,0-sb R ps 0 pl.length].take t).filter λc=>decide (Fts (sb R ps) pl c))),z6]) (Z5g (Ziu (Zb Za (Zb (Zem Z3 Za) Zh)) (show 2<=1000 by decide))) ⟨z6,rfl⟩ (λt e δ hd q=>?_) λδ' q=>?_)
   .obtain⟨z6,rfl⟩:=q
    rw[Xp]at hd;obtain⟨c,hc,rfl⟩:=Option.map_eq_some_iff.mp hd;have tst:EvT (tD (Z4 Wo (Zc (Zd 0) (Zc (Zd 1) (Zc (Zcm 2) (Zc (Zd 6) Zn)))))) [YB (.fz (Wd n R)),YB (.fz d),YB (ndZ pl),YB (.fz (.int (pl.length:Nat))),YB (.fz (.int (sb R ps 0 pl.length))),YB (ndZ (([sb R ps 0 pl.length,0-sb R ps 0 pl.length].take t).filter λc=>decide (Fts (sb R ps) pl c))),YB (.fz (.int c))] (decide (Fts (sb R ps) pl c)):=Zg4 (Zx (Zb Za (Zb Za (Zb (Zcx rfl (Zcc pl)) (Zb Za Zh)))) (Zvm (R:=R) (pl:=pl) hp (by omega) c));have hle:(([sb R ps 0 pl.length,0-sb R ps 0 pl.length].take t).filter λc=>decide (Fts (sb R ps) pl c)).length<=1000:=Q7 (List.length_filter_le _ _) (by rw[Um];simp only[QZ,Vi];omega);refine⟨_,rfl,?_⟩;rw[U4,hc];show EpS _ _ (λδ=>∃z6,δ=[YB (.fz (Wd n R)),YB (.fz d),YB (ndZ pl),YB (.fz (.int (pl.length:Nat))),YB (.fz (.int (sb R ps 0 pl.length))),YB (ndZ (([sb R ps 0 pl.length,0-sb R ps 0 pl.length].take t++[c]).filter λc=>decide (Fts (sb R ps) pl c))),z6]) _;rw[List.filter_append]
    by_cases f:Fts (sb R ps) pl c
    .rw[YQ f]at tst
     refine Wh (Zb4 tst (Z4y Za rfl hle)) ⟨YB (.fz (.int c)),?_⟩;rw[show[c].filter (λc=>decide (Fts (sb R ps) pl c))=[c] by rw[Vq,YL (YQ f)];rfl];rfl
    .rw[YS f]at tst
     refine Wh (Yx tst rfl) ⟨YB (.fz (.int c)),?_⟩;rw[show[c].filter (λc=>decide (Fts (sb R ps) pl c))=[] by rw[Vq,YM (by rw[YS f];exact XC)];rfl,QW];rfl
   .obtain⟨z6,rfl⟩:=q
    have nxt:∀(c:Int) (gd:List Int),Fts (sb R ps) pl c->(c=sb R ps 0 pl.length\/(c= -sb R ps 0 pl.length/\¬Fts (sb R ps) pl (sb R ps 0 pl.length)))->EpS (Zy (J7 (tV (Zg gEq (Zcm 5) (Zez Zn))) (wE (fC .none) Jp) fNx) (Js 2 (Zjm (Yk gIx (Zcm 5) (fC (.int 0)))))) [YB (.fz (Wd n R)),YB (.fz d),YB (ndZ pl),YB (.fz (.int (pl.length:Nat))),YB (.fz (.int (sb R ps 0 pl.length))),YB (ndZ (c::gd)),z6] (λδ=>∃pl z3 z4 z5 z6,δ=[YB (.fz (Wd n R)),YB (.fz d),YB (ndZ pl),z3,z4,z5,z6]/\pl.length=k+1+1/\Sofar ps.length (sb R ps) pl) (λe _=>∃pl:List Int,e=(if EmM ps.length (sb R ps)then Zv pl else .none)/\(EmM ps.length (sb R ps)->pl.length=ps.length/\Sofar ps.length (sb R ps) pl)):=λc gd fc pk=>by
     refine Zr (Wh (Yx (Zcg (Zm (Zcx rfl (Zcc (c::gd))) (Ze4 Zh (show 0<=1000 by decide)) (by rw[Zsp];rfl))) rfl) ?_);refine Wh (Z4y (Zqu ((Zdj (p:=c::gd) (i:=0) (Zcx rfl (Zcc (c::gd))) Z3 (by decide) (by simp only[QZ];omega)).cast rfl)) rfl (by omega)) ⟨pl++[c],_,_,_,_,rfl,by rw[QL,Vw];omega,hs.next (by omega) (by omega) fc pk far0⟩
    by_cases f1:Fts (sb R ps) pl (sb R ps 0 pl.length)
    .have e:([sb R ps 0 pl.length,0-sb R ps 0 pl.length].take ([sb R ps 0 pl.length,0-sb R ps 0 pl.length].map Xl).length).filter (λc=>decide (Fts (sb R ps) pl c))=sb R ps 0 pl.length::[0-sb R ps 0 pl.length].filter (λc=>decide (Fts (sb R ps) pl c)):=by
      show List.filter _ [sb R ps 0 pl.length,0-sb R ps 0 pl.length]=_;rw[Vq,YL (YQ f1)]
     rw[e];exact nxt _ _ f1 (.inl rfl)
    .by_cases f2:Fts (sb R ps) pl (0-sb R ps 0 pl.length)
     .have e:([sb R ps 0 pl.length,0-sb R ps 0 pl.length].take ([sb R ps 0 pl.length,0-sb R ps 0 pl.length].map Xl).length).filter (λc=>decide (Fts (sb R ps) pl c))=[0-sb R ps 0 pl.length]:=by
       show List.filter _ [sb R ps 0 pl.length,0-sb R ps 0 pl.length]=_;rw[Vq,YM (by rw[YS f1];exact XC),Vq,YL (YQ f2)];rfl
      rw[e];exact nxt _ _ f2 (.inr ⟨Int.zero_sub _,f1⟩)
     .have e:([sb R ps 0 pl.length,0-sb R ps 0 pl.length].take ([sb R ps 0 pl.length,0-sb R ps 0 pl.length].map Xl).length).filter (λc=>decide (Fts (sb R ps) pl c))=[]:=by
       show List.filter _ [sb R ps 0 pl.length,0-sb R ps 0 pl.length]=_;rw[Vq,YM (by rw[YS f1];exact XC),Vq,YM (by rw[YS f2];exact XC)];rfl
      rw[e];refine Zr (Zdu (W0 (Zcg (Zm (Zcx rfl (Zcc [])) (Ze4 Zh (show 0<=1000 by decide)) (Zsp []))) ⟨λ_=>J6 (Z0 Z3 ⟨[],?_,λz=>YX z (hs.no (by omega) (by omega) f1 f2)⟩),λz=>nomatch z⟩));rw[YM (hs.no (by omega) (by omega) f1 f2)]
  .obtain⟨pl,z3,z4,z5,z6,rfl,hl,hs⟩:=q
   rw[Zw]at hl;exact .inr ⟨_,_,rfl,pl,by rw[YL (hs.yes (by omega))];exact Zcc pl,λ_=>⟨by omega,hs⟩⟩
 rcases key with⟨_,_,z⟩|⟨o,δ',e,pl,ed,es⟩
 .exact z.elim
 .exact⟨pl,⟨o,by unfold Wk;rw[Jf (np:=2) (by rfl),e,Zhe],ed⟩,es⟩
theorem Z0h(p:List Int):Sh 1 (Zv p):=lay_ints p
theorem Zeu(neg:Bool)(x:Int)(p:List Int):Zsv neg (.int x) (Zv p)=YB (.bool (if neg then !decide (x∈p)else decide (x∈p))):=by
 have e:memS (.int x) (p.map Xl)=decide (x∈p):=by
  unfold memS;rw[List.any_map];rw[Bool.eq_iff_iff,List.any_eq_true,decide_eq_true_eq];constructor
  .rintro⟨y,hy,h⟩
   have:(y==x)=YD:=h;rw[<-eq_of_beq this];exact hy
  .intro h
   exact⟨x,h,(show(x==x)=YD from beq_self_eq_true x)⟩
 have s:(p.map Xl).all scD=YD:=by
  rw[Va];intro d hd;obtain⟨y,_,rfl⟩:=Qe.mp hd;rfl
 show(if(scD (.int x)&&(p.map Xl).all scD)=YD then YB (PyData.bool (if neg then !memS (.int x) (p.map Xl)else memS (.int x) (p.map Xl)))else YC)=_;rw[s,e];rfl
def sdI(n:Nat)(c:Int->Bool):List Int:=((Xu n).filter λi:Nat=>c i).map λi:Nat=>(i:Int)
theorem Zdd{n:Nat}{c:Int->Bool}{x:Int}:x∈sdI n c↔0<=x/\x<n/\c x=YD:=by
 unfold sdI;rw[Qe];constructor
 .rintro⟨i,hi,rfl⟩
  obtain⟨h1,h2⟩:=List.mem_filter.mp hi;have:=Qd.mp h1;exact⟨by omega,by omega,h2⟩
 .rintro⟨h1,h2,h3⟩
  exact⟨x.toNat,List.mem_filter.mpr ⟨Qd.mpr (by omega),by rw[Int.toNat_of_nonneg h1];exact h3⟩,Int.toNat_of_nonneg h1⟩
theorem Zi9(n:Nat)(c:Int->Bool):(sdI n c).Pairwise (·<·):=by
 unfold sdI;exact List.Pairwise.map _ (λa b h=>by omega) ((List.pairwise_lt_range (n:=n)).filter _)
theorem Zsa{n:Nat}{ns:List Int}(h:∀x∈ns,0<=x/\x<n):Za0 (dnc ns)=sdI n λx=>decide (x∈ns):=by
 have nd:(sdI n λx=>decide (x∈ns)).Nodup:=(Zi9 n _).imp λh e=>by omega
 have o:=Zh4 ns;have pm:(dnc ns).Perm (sdI n λx=>decide (x∈ns)):=(U5 o.1 nd).mpr λx=>by
  rw[o.2,Zdd,decide_eq_true_eq];exact⟨λm=>⟨(h x m).1,(h x m).2,m⟩,λm=>m.2.2⟩
 exact Zah ((Ww _).trans pm) (W8 _) ((Zi9 n _).imp λh=>Int.le_of_lt h)
def inR(n:Nat)(x:Int):Bool:=decide (0<=x)&&decide (x<n)
theorem Zu5{n:Nat}{x:Int}(h0:δ[0]? =YB (YB (.fz (.int n))))(h2:δ[2]? =YB (YB (.fz (.int x)))):EvV (Zix (λi j=>decide (i<=j)) (λi j=>decide (i<j)) (fC (.int 0)) (Zd 2) (Zd 0)) δ (.bool (inR n x)):=by
 refine⟨.fz (.bool (inR n x)),?_,OT.data_fz _⟩;have e2:Zd 2 δ=YB (.fz (.int x),δ):=by rw[Zmr,h2];rfl
 have e0:Zd 0 δ=YB (.fz (.int n),δ):=by rw[Zmr,h0];rfl
 unfold Zix;show(Zd 2 δ).bind _=_;rw[e2];show(match(Xl 0),(OT.fz (.int x)).data with| .int i,.int j=>if decide (i<=j)=YD then(Zd 0 δ).bind λr=>match r.1.data with| .int k=>YB (OT.fz (.bool (decide (j<k))),r.2)|_=>YC else YB (OT.fz (.bool YF),δ)|_,_=>YC)=_;rw[OT.data_fz];dsimp only;unfold inR
 by_cases c:0<=x
 .rw[YL (YQ c),e0,YQ c];rfl
 .rw[YM (by rw[YS c];exact XC),YS c];rfl
theorem Yba{n:Nat}{x:Int}(h0:δ[0]? =YB (YB (.fz (.int n))))(h2:δ[2]? =YB (YB (.fz (.int x)))):EvT (tO (tNo (tD (Z4 Yq (Zc (Zd 2) Zn)))) (tNo (tV (Zix (λi j=>decide (i<=j)) (λi j=>decide (i<j)) (fC (.int 0)) (Zd 2) (Zd 0))))) δ (!inR n x) :=
 Zxv (Zj7 (p:=YD) (Zg4 (Zx (Zb (Za h2) Zh) (Told.of (Zgj x) (OT.data_fz _))))) (Zj7 (Zcg (Zu5 h0 h2)))
theorem Z3n{n:Nat}{ns:List Int}(h:∀x∈ns,inR n x=YD):Yp [.int n,Zv ns]= .ok (.fz .none):=by
 have key:EpS Wf (Zc6 3 [.int n,Zv ns]) (λ_=>True) λ_ _=>False:=by
  refine Wr (ds:=ns.map Xl) (λ_ δ=>∃z,δ=[YB (.fz (.int n)),YB (.fz (Zv ns)),z]) (Zdp Za) ⟨YC,rfl⟩ (λk d δ hd q=>?_) λ_ _=>trivial;obtain⟨z,rfl⟩:=q;obtain⟨x,hx,rfl⟩:=Qe.mp (QF hd);exact⟨_,rfl,Wh (Yx (by have:=Yba (n:=n) (x:=x) (δ:=[YB (.fz (.int n)),YB (.fz (Zv ns)),YB (.fz (.int x))]) rfl rfl;rwa[h x hx]at this) rfl) ⟨_,rfl⟩⟩
 unfold Yp;rw[Jf (np:=2) (by rfl)];rcases key with⟨δ',e,_⟩|⟨o,δ',e,z⟩
 .exact YT RS.told e
 .exact z.elim
theorem Zis{δ:Ze}{i:Nat}{ns:List Int}(h:δ[i]? =YB (YB (.fz (Zv ns))))(l:ns.length<64):EvV (Zaf (Zc (Zd i) Zn)) δ (Zv (Za0 (dnc ns))):=by
 obtain⟨ts,e1,e2⟩:=Zb (Za h) (Zh (δ:=δ));refine⟨.nd (((Za0 (dnc ns)).map Xl).map OT.fz),?_,Z0a _⟩;unfold Zaf;rw[e1,Xh];show(match OT.datas ts with|[.list es]=>(Zf0 es).bind λns=>if ns.length<64 then YB (OT.nd (((Za0 (dnc ns)).map Xl).map OT.fz),δ)else YC|_=>YC)=_;rw[e2];show(Zf0 (ns.map Xl)).bind _=_;rw[Ze8,Xh,YL l]
def ctO(n:Nat)(ns:List Int):List Int:=if 0∈ns then sdI n λx=>!decide (x∈ns)else sdI n λx=>decide (x∈ns)
theorem Z2l{t:FT}(xs:List Y)(mk:Y->Xa)(pr:Y->Bool)(hi:EvI it δ (xs.map mk))(hz:xs.length<=1000000)(hb:blk 1 caps δ=YC::cs)(ht:∀x∈xs,EvT t (YB (.fz (mk x))::cs) (pr x))(h:∀x∈xs,pr x=YD->me (YB (.fz (mk x))::cs)=YB (.fz (mk x),YB (.fz (mk x))::cs)):Y9 1 caps it (gNm 0) t me δ=YB (.nd ((xs.filter pr).map λx=>.fz (mk x)),δ):=by
 have key:∀(l:List Y) (z:Option OT),(∀x∈l,x∈xs)->∃z',compLoop (gNm 0) t me (l.map mk) (z::cs)=YB ((l.filter pr).map λx=>.fz (mk x),z'::cs):=by
  intro l
  induction l with
  | nil=>exact λz _=>⟨z,rfl⟩
  | cons x l ih=>
   intro z hs;have e1:gNm 0 (mk x) (z::cs)=YB (YB (.fz (mk x))::cs):=rfl;have e2:=ht x (hs x (.head _));unfold EvT at e2;obtain⟨z',e3⟩:=ih (YB (.fz (mk x))) λy hy=>hs y (.tail _ hy);refine⟨z',?_⟩;rw[Qq,compLoop,e1,Xh,e2,Xh]
   by_cases c:pr x=YD
   .rw[YL c,List.filter_cons_of_pos c,h x (hs x (.head _)) c,Xh]
    show(compLoop (gNm 0) t me (l.map mk) (YB (.fz (mk x))::cs)).bind _=_;rw[e3];rfl
   .rw[YM c,List.filter_cons_of_neg c]
    exact e3
 obtain⟨z',e⟩:=key xs YC λ_ h=>h;unfold EvI at hi;unfold Y9;rw[hi];show(if(xs.map mk).length<=Xw then _ else YC)=_;rw[YL (by rw[Xg,X7];omega)];show(compLoop (gNm 0) t me (xs.map mk) (blk 1 caps δ)).bind _=_;rw[hb,e];rfl
theorem Zvj{n:Nat}(hn:n<=10){ns:List Int}{δ:Ze}(h0:δ[0]? =YB (YB (.fz (.int n))))(hb:blk 1 [1] δ=[YC,YB (.fz (Zv ns))]):Y9 1 [1] (iRa (Zc (Zd 0) Zn)) (gNm 0) (tV (Zg (Zsv YD) (Zd 0) (Zd 1))) (Zd 0) δ=YB (ndZ (sdI n λx=>!decide (x∈ns)),δ):=by
 have e:=Z2l (cs:=[YB (.fz (Zv ns))]) (δ:=δ) (caps:=[1]) (it:=iRa (Zc (Zd 0) Zn)) (me:=Zd 0) (t:=tV (Zg (Zsv YD) (Zd 0) (Zd 1))) (Xu n) (λi:Nat=>Xl (0+(i:Int))) (λi=>!decide ((i:Int)∈ns)) (Zcd (Zb (Za h0) Zh) (by omega)) (by rw[Xk];omega) hb (λi _=>Zcg (Zm Za Za (by rw[Zeu,Q8];rfl))) λi _ _=>rfl;rw[e];unfold ndZ sdI;rw[Qu];refine YT (λz=>YB (OT.nd z,δ)) (XH λi _=>?_);show OT.fz (Xl (0+(i:Int)))=OT.fz (Xl i);rw[Q8]
theorem Zr2{δ:Ze}{i:Nat}{ns:List Int}(h:δ[i]? =YB (YB (.fz (Zv ns))))(l:ns.length<64):Zaf (Zc (Zd i) Zn) δ=YB (ndZ (Za0 (dnc ns)),δ):=by
 obtain⟨ts,e1,e2⟩:=Zb (Za h) (Zh (δ:=δ));unfold Zaf;rw[e1,Xh];show(match OT.datas ts with|[.list es]=>(Zf0 es).bind λns=>if ns.length<64 then YB (OT.nd (((Za0 (dnc ns)).map Xl).map OT.fz),δ)else YC|_=>YC)=_;rw[e2];show(Zf0 (ns.map Xl)).bind _=_;rw[Ze8,Xh,YL l];unfold ndZ;rw[Qu];rfl
theorem Z71{S S':FS}{δ δ':Ze}{o:OT}(h:S δ= .rt o δ'):Zy S S' δ= .rt o δ':=by unfold Zy;rw[h]
theorem Zwo{n:Nat}(hn:n<=10){ns:List Int}(hl:ns.length<64)(h:∀x∈ns,0<=x/\x<n)(hne:ns≠[]){x:Nat}(hx:x<n)(hx':(x:Int)∉ns):Jb [.int n,Zv ns]= .ok (ndZ (ctO n ns)):=by
 have l1:¬((ns.length:Int)=0):=λz=>hne (Q5 (by omega));have l2:¬(((sdI n λx=>!decide (x∈ns)).length:Int)=0):=λz=>by
  have e:=Q5 (l:=sdI n λx=>!decide (x∈ns)) (by omega);have m:(x:Int)∈sdI n λx=>!decide (x∈ns):=Zdd.mpr ⟨by omega,by omega,by rw[YS hx'];rfl⟩;rw[e]at m;cases m
 have t:∀{b:Bool},decide ((0:Int)∈ns)=b->EvT (tV (Zg (Zsv YF) (fC (.int 0)) (Zd 1))) [YB (.fz (.int n)),YB (.fz (Zv ns)),YB (ndZ (sdI n λx=>!decide (x∈ns)))] b:=λhb=>hb▸Zcg (Zm Z3 Za (Zeu YF 0 ns));have lo:EvV (Zbt Zdv (Zc (Zcm 2) Zn)) [YB (.fz (.int n)),YB (.fz (Zv ns)),YB (ndZ (sdI n λx=>!decide (x∈ns)))] (.int (sdI n λx=>!decide (x∈ns)).length):=(Zsb (ds:=(sdI n λx=>!decide (x∈ns)).map Xl) (Zcx rfl (Zcc _))).cast (by rw[Xg]);have key:∃δ',Je [YB (.fz (.int n)),YB (.fz (Zv ns)),YC]= .rt (ndZ (ctO n ns)) δ':=by
  have e0:=Yeq (k:=Zj1) (r:=.nx [YB (.fz (.int n)),YB (.fz (Zv ns)),YC]) (δ:=[YB (.fz (.int n)),YB (.fz (Zv ns)),YC]) (d:=.none) (Zb (Za (i:=0) rfl) (Zb (Za (i:=1) rfl) Zh)) (Told.of (Z3n λx m=>by unfold inR;rw[YQ (h x m).1,YQ (h x m).2];rfl) (OT.data_fz _)) λo _=>Zu4 _ _;have e1:wE (Y9 1 [1] (iRa (Zc (Zd 0) Zn)) (gNm 0) (tV (Zg (Zsv YD) (Zd 0) (Zd 1))) (Zd 0)) (J2 2) [YB (.fz (.int n)),YB (.fz (Zv ns)),YC]= .nx [YB (.fz (.int n)),YB (.fz (Zv ns)),YB (ndZ (sdI n λx=>!decide (x∈ns)))]:=by
   rw[Zbp,Zvj hn rfl rfl];rfl
  unfold ctO
  by_cases z:(0:Int)∈ns
  .rw[YL z]
   exact⟨_,Wb e0 (Wb e1 (Wb (Yx (Zxv (Zcg (Zl4 (Zbv Za) Z3 (YS l1))) (Zcg (Zl4 lo Z3 (YS l2)))) rfl) (Z71 (Zb4 (t (YQ z)) (by rw[Zgy];rfl)))))⟩
  .rw[YM z,<-Zsa h]
   exact⟨_,Wb e0 (Wb e1 (Wb (Yx (Zxv (Zcg (Zl4 (Zbv Za) Z3 (YS l1))) (Zcg (Zl4 lo Z3 (YS l2)))) rfl) (Wb (Yx (t (YS z)) rfl) (by rw[Zbp,Zr2 (i:=1) rfl hl];rfl))))⟩
 obtain⟨δ',e⟩:=key;unfold Jb;rw[Jf (np:=2) (by rfl)];show(Je [YB (.fz (.int n)),YB (.fz (Zv ns)),YC]).told=_;rw[e];rfl
theorem Zwa{Y:Type}{δ cs:Ze}{caps:List Nat}{it:FI}{g:FG}{t:FT}{me:FE}(xs:List Y)(mk f:Y->Xa)(pr:Y->Bool)(hi:EvI it δ (xs.map mk))(hz:xs.length<=1000000)(hb:blk 2 caps δ=YC::YC::cs)(h:∀x∈xs,∀z0 z1,∃w0 w1,g (mk x) (z0::z1::cs)=YB (w0::w1::cs)/\EvT t (w0::w1::cs) (pr x)/\EvV me (w0::w1::cs) (f x)):EvV (Y9 2 caps it g t me) δ (.list ((xs.filter pr).map f)):=by
 obtain⟨ts,δ',e1,z0,z1,rfl,e2⟩:=Z0u (t:=t) (e:=me) (g:=g) (δ:=YC::YC::cs)
  (λk acc δ=>∃z0 z1,δ=z0::z1::cs/\acc=((xs.take k).filter pr).map f) (xs.map mk) 0 [] ⟨YC,YC,rfl,rfl⟩ (λk d acc δ hd q=>by
   obtain⟨z0,z1,rfl,rfl⟩:=q;rw[Vk]at*
   rw[Xp]at hd;cases e:xs[k]? with
   | none=>rw[e]at hd;cases hd
   | some p=>
    rw[e]at hd;cases hd;have et:xs.take (k+1)=xs.take k++[p]:=by rw[U4,e];rfl
    obtain⟨w0,w1,e1,e2,e3⟩:=h p (QF e) z0 z1;refine⟨_,e1,W0 e2 ⟨λc=>Z0 e3 ⟨_,_,rfl,?_⟩,λc=>⟨_,_,rfl,?_⟩⟩⟩
    .rw[et,List.filter_append,List.filter_cons_of_pos c,List.filter_nil,JZ];rfl
    .rw[et,List.filter_append,List.filter_cons_of_neg (by rw[c];decide),List.filter_nil,QW])
 rw[Vk,Xg,List.take_length,List.nil_append]at e2;refine⟨.nd ts,?_,by rw[OT.data_nd,e2]⟩;unfold EvI at hi;unfold Y9;rw[hi];show(if(xs.map mk).length<=Xw then _ else YC)=_;rw[YL (by rw[Xg,X7];omega),hb,e1];rfl
theorem Z5e{F:FD}{as:FA}{k:OT->Ze->RS}{δ:Ze}{ds:List Xa}{o:OT}(h:EvA as δ ds)(hF:F ds= .ok o):wX F as k δ=k o δ:=by
 obtain⟨ts,e1,e2⟩:=h;rw[Z1h,e1];show onF (F (OT.datas ts)) δ k=_;rw[e2,hF];rfl
theorem Zvc(n:Nat)(f:Nat->Int):Zj9 ((Xu n).map λj=>Xl (f j))=(Xu n).map λi:Nat=>.tuple [.int (i:Int),.int (f i)]:=by
 unfold Zj9;refine Ub λk=>?_;rw[Xp,List.getElem?_zipIdx,Xp,Xp]
 by_cases h:k<n
 .rw[Qy h];simp
 .rw[QB (by rw[Xk];omega)];rfl
def byd(n:Nat)(f:Nat->Int)(v:Int):List Int:=sdI n λx=>decide (v<=f x.toNat)
theorem Zw7{n:Nat}(hn:n<=10){f:Nat->Int}{v:Int}{a b:Nat}(ha:a<n)(hav:v<=f a)(hb:b<n)(hbv:f b<v):Yn [Zas n f,.int v]= .ok (ndZ (ctO n (byd n f v))):=by
 have hl:(byd n f v).length<64:=by
  unfold byd sdI;rw[Xg];exact Nat.lt_of_le_of_lt (List.length_filter_le ..) (by rw[Xk];omega)
 have hm:∀x∈byd n f v,0<=x/\x<n:=λx hx=>by
  obtain⟨h1,h2,_⟩:=Zdd.mp hx;exact⟨h1,h2⟩
 have ne:byd n f v≠[]:=λz=>by
  have:(a:Int)∈byd n f v:=Zdd.mpr ⟨by omega,by omega,YQ (by rw[XX];exact hav)⟩;rw[z]at this;cases this
 have nb:(b:Int)∉byd n f v:=λz=>by
  obtain⟨_,_,h⟩:=Zdd.mp z;have:=YW h;rw[XX]at this;omega
 have ec:=Zwo hn hl hm ne hb nb;have ev:EvV (Y9 2 [1] (Ztm (Zc (Zd 0) Zn)) (gTp 2 (gCn (gNm 0) (gCn (gNm 1) gNl))) (tV (Zg gGe (Zd 1) (Zd 2))) (Zd 0)) [YB (.fz (Zas n f)),YB (.fz (.int v))] (Zv (byd n f v)):=by
  refine EvV.cast (Zwa (cs:=[YB (.fz (.int v))]) (Xu n) (λi:Nat=>.tuple [.int (i:Int),.int (f i)]) (λi:Nat=>.int (i:Int)) (λi=>decide (v<=f i)) (Zvc n f▸Zz7 (Za rfl)) (by rw[Xk];omega) rfl λi _ z0 z1=>⟨_,_,rfl,Zcg (Z1w Za Za rfl),Za⟩) ?_;unfold byd sdI Zv;rw[Qu];rfl
 have key:Y4 [YB (.fz (Zas n f)),YB (.fz (.int v))]= .rt (ndZ (ctO n (byd n f v))) [YB (.fz (Zas n f)),YB (.fz (.int v))]:=Z5e (Zb (Jq (Zb Za Zh) (Zoj n f)) (Zb ev Zh)) ec;unfold Yn;rw[Jf (np:=2) (by rfl)];show(Y4 [YB (.fz (Zas n f)),YB (.fz (.int v))]).told=_;rw[key];rfl
theorem Z2z{t b:Int}(hb:b≠0):((Qs t b).den:Int)∣b:=by
 rw[Rat.den_divInt,YM hb];have:(b.natAbs/b.gcd t:Nat)∣b.natAbs:=Nat.div_dvd_of_dvd (by rw[Vu];exact Nat.gcd_dvd_left ..);exact Int.ofNat_dvd_left.mpr this
def Zgd(n:Nat)(R:Nat->Nat->Int)(b:Int):List (List Rat):=(Xu n).map λi=>(Xu n).map λj=>Qs (R i j) b
theorem Zvd(n:Nat)(R:Nat->Nat->Int)(b:Int):(Zgd n R b).length=n:=by unfold Zgd;rw[Xg,Xk]
theorem Zgf{n:Nat}(hn:n<=10)(R:Nat->Nat->Int){b:Int}(hb:0<b)(bb:Bt 300 b):Told Yi [Wd n R,.int b] (tbD (Zgd n R b)):=by
 have e:tbD (Zgd n R b)= .list ((Xu n).map λi=>.list ((Xu n).map λj=>frD (Qs (R i j) b))):=by
  unfold tbD Zgd;rw[Qu];refine YT JB (XH λi _=>?_);show Zk1 _=_;unfold Zk1;rw[Qu];rfl
 rw[e];exact Wq rfl<|Zan<|Zhy (cs:=[YB (.fz (.int b))]) (Xu n) (λi=>Zas n (R i)) (λi=>.list ((Xu n).map λj=>frD (Qs (R i j) b))) (Zdp Za) (by rw[Xk];omega) rfl λi _=>
  Zhy (cs:=[YB (.fz (.int b))]) (Xu n) (λj=>.int (R i j)) (λj=>frD (Qs (R i j) b)) (Zdp Za) (by rw[Xk];omega) rfl λj _=>Zx (Zb Za (Zb Za Zh)) (Zc7 hb bb)
theorem Zyd{n:Nat}(hn:n<=100){R:Nat->Nat->Int}{b:Int}(hb:0<b)(bb:Bt 300 b)(bR:∀i j,i<n->j<n->Bt 300 (R i j)):∃m k S,Told Yb [tbD (Zgd n R b)] (.int m)/\Told Y6 [.int m,tbD (Zgd n R b)] (Wd n S)/\0<m/\0<k/\b=m*k/\Bt 300 m/\∀x y,x<n->y<n->k*S x y=R x y:=by
 have hz:∀r∈Zgd n R b,r.length<=1000:=λr hr=>by
  unfold Zgd at hr;obtain⟨x,_,rfl⟩:=Qe.mp hr;rw[Xg,Xk];omega
 have hB:Z5c (Zgd n R b) b:=λr hr q hq=>by
  unfold Zgd at hr;obtain⟨x,_,rfl⟩:=Qe.mp hr;obtain⟨y,_,rfl⟩:=Qe.mp hq;exact Z2z (by omega)
 have hN:∀r∈Zgd n R b,∀q∈r,Bt 300 q.num:=λr hr q hq=>by
  unfold Zgd at hr;obtain⟨x,hx,rfl⟩:=Qe.mp hr;obtain⟨y,hy,rfl⟩:=Qe.mp hq;exact Z3w (by omega) (bR x y (Qd.mp hx) (Qd.mp hy))
 obtain⟨m,e1,m0,hm,k,rfl⟩:=Zhd hb bb (by decide) (Zgd n R b) hz hB;have k0:0<k:=by
  by_cases c:0<k
  .exact c
  .have:=V8 (a:=m) (b:=k) (by omega) (by omega)
   omega
 have bm:Bt 300 m:=Zlp hb ⟨k,rfl⟩ bb;have e2:=Zku m0 bm (Zgd n R (m*k)) (by rw[Zvd];omega) hz hm hN;have sc:∀x y,x<n->y<n->k*scI m (Qs (R x y) (m*k))=R x y:=λx y hx hy=>by
  have hd:((Qs (R x y) (m*k)).den:Int)∣m:=hm _ (Qe.mpr ⟨x,Qd.mpr hx,rfl⟩) _ (Qe.mpr ⟨y,Qd.mpr hy,rfl⟩);have:=Z4v hd;have e:((k*scI m (Qs (R x y) (m*k)):Int):Rat)=((R x y:Int):Rat):=by
   have nk:((k:Int):Rat)≠0:=by
    intro z;have:k=0:=by exact_mod_cast z
    omega
   have nm:((m:Int):Rat)≠0:=by
    intro z;have:m=0:=by exact_mod_cast z
    omega
   rw[Rat.intCast_mul,this,Rat.divInt_eq_div,Rat.intCast_mul];rw[Rat.mul_comm,Rat.mul_assoc];exact Rat.div_mul_cancel (λz=>(Rat.mul_eq_zero.mp z).elim nm nk)
  exact_mod_cast e
 obtain⟨S,hS⟩:∃S:Nat->Nat->Int,S= λi j=>scI m (Qs (R i j) (m*k)):=⟨_,rfl⟩;have sc':∀x y,x<n->y<n->k*S x y=R x y:=λx y hx hy=>by rw[hS];exact sc x y hx hy
 have er:JB ((Zgd n R (m*k)).map λr=>.list (r.map λq=>.int (scI m q)))=Wd n S:=by
  rw[hS];unfold Zgd Wd;rw[Qu];refine YT JB (XH λi _=>?_);show JB _=Zas _ _;rw[Qu];rfl
 rw[er]at e2;exact⟨m,k,S,e1,e2,m0,k0,rfl,bm,sc'⟩
theorem Dg.over{n:Nat}{S R:Nat->Nat->Int}{k:Int}(k0:0<k)(d:Dg n R)(e:∀x y,x<n->y<n->k*S x y=R x y):Dg n S where
 nn:=λi j hi hj=>by
  have h1:=e i j hi hj;have h2:=d.nn i j hi hj;refine Int.not_lt.mp λz=>?_;have:=Int.mul_neg_of_pos_of_neg k0 z;omega
 dg:=λi hi=>by
  have h1:=e i i hi hi;rw[d.dg i hi]at h1;rcases Int.mul_eq_zero.mp h1 with z|z
  .omega
  .exact z
def rk(ns:List Int):List Int:=Za0 (dnc ns)
theorem Z7d{x:Int}:x∈rk ns↔x∈ns:=(Ww _).mem_iff.trans ((Zh4 ns).2 x)
theorem Z2q(ns:List Int):(rk ns).Pairwise (·<·):=by
 have nd:(rk ns).Nodup:=(Ww _).nodup_iff.mpr (Zh4 ns).1;have:=List.Pairwise.and (W8 (dnc ns)) nd;exact this.imp λh=>Int.lt_iff_le_and_ne.mpr h
def sg(n:Nat)(f:Nat->Int)(q:Int):List Int:=sdI n λx=>decide (q<=f x.toNat) !=decide (q<=f 0)
theorem Zi1{n:Nat}{c d:Int->Bool}(h:∀x:Nat,x<n->c x=d x):sdI n c=sdI n d:=by
 unfold sdI;exact YT _ (List.filter_congr λx m=>h x (Qd.mp m))
theorem Znd{n:Nat}{f:Nat->Int}{v:Int}{x:Nat}(hx:x<n):decide ((x:Int)∈byd n f v)=decide (v<=f x):=by
 refine decide_eq_decide.mpr ?_;unfold byd;rw[Zdd,decide_eq_true_eq,XX];exact⟨λh=>h.2.2,λh=>⟨by omega,by omega,h⟩⟩
theorem Zgt{n:Nat}(h0:0<n){f:Nat->Int}{v:Int}:(0:Int)∈byd n f v↔v<=f 0:=by
 have:=Znd (v:=v) (f:=f) h0;exact decide_eq_decide.mp this
theorem Z8x{n:Nat}(h0:0<n)(f:Nat->Int)(v:Int):ctO n (byd n f v)=sg n f v:=by
 unfold ctO sg
 by_cases c:v<=f 0
 .rw[YL ((Zgt h0).mpr c)]
  refine Zi1 λx hx=>?_;rw[Znd hx,XX,YQ c];cases decide (v<=f x)<;>rfl
 .rw[YM λz=>c ((Zgt h0).mp z)]
  refine Zi1 λx hx=>?_;rw[Znd hx,XX,YS c];cases decide (v<=f x)<;>rfl
def gt(rs:List Int)(k:Nat):Int:=rs.getD k 0
def cuL(n:Nat)(f:Nat->Int)(b:Int)(rs:List Int):List (List Int×Rat):=(Xu (rs.length-1)).map λk=>(sg n f (gt rs (k+1)),Qs (gt rs (k+1)-gt rs k) b)
def vl(n:Nat)(f:Nat->Int):List Int:=(Xu n).map f
end My
variable {j2:FE}{rs:List Int}{R S:Nat->Nat->Int}{RR:Xa->Ze->Prop}
namespace My
open PySem L2 PySem.Spec
theorem Zg5{k:Nat}(h:k<rs.length):gt rs k∈rs:=by
 unfold gt;rw[Xj,Xm h];exact Uq h
theorem Zkp(p:rs.Pairwise (·<·)){k l:Nat}(h:k<l)(hl:l<rs.length):gt rs k<gt rs l:=by
 unfold gt;rw[Xj,Xm (by omega),Xj,Xm hl];exact VR.mp p k l (by omega) hl h
theorem Ycj(p:rs.Pairwise (·<·)){k l:Nat}(hk:k<rs.length)(h:gt rs k<gt rs l):k<l:=by
 refine Nat.lt_of_not_le λc=>?_;rcases QT l k with z|z
 .have:=Zkp p z hk
  omega
 .have:k=l:=by omega
  subst this;omega
theorem Ztp{x:Int}(h:x∈rs):∃k,k<rs.length/\gt rs k=x:=by
 obtain⟨k,hk,e⟩:=List.getElem_of_mem h;exact⟨k,hk,by unfold gt;rw[Xj,Xm hk];exact e⟩
theorem Z2g{n:Nat}{f:Nat->Int}{x:Int}:x∈rk (vl n f)↔∃i,i<n/\f i=x:=by
 rw[Z7d];unfold vl;rw[Qe];exact⟨λ⟨i,h,e⟩=>⟨i,Qd.mp h,e⟩,λ⟨i,h,e⟩=>⟨i,Qd.mpr h,e⟩⟩
def Mc(n:Nat)(f:Nat->Int)(b:Int)(p:List Int×Rat):Prop:=∃i j,i<n/\j<n/\f i<f j/\(∀x,x<n->f x<=f i\/f j<=f x)/\p=(sg n f (f j),Qs (f j-f i) b)
theorem Zs6{n:Nat}{f:Nat->Int}{b:Int}{p:List Int×Rat}:p∈cuL n f b (rk (vl n f))↔Mc n f b p:=by
 have up:=Z2q (vl n f);have mm:=λx=>Z2g (n:=n) (f:=f) (x:=x);generalize rk (vl n f)=rs at up mm|-
 unfold cuL;rw[Qe];constructor
 .rintro⟨k,hk,rfl⟩
  have hk:=Qd.mp hk;obtain⟨i,hi,ei⟩:=(mm _).mp (Zg5 (rs:=rs) (k:=k) (by omega));obtain⟨j,hj,ej⟩:=(mm _).mp (Zg5 (rs:=rs) (k:=k+1) (by omega));refine⟨i,j,hi,hj,?_,λx hx=>?_,?_⟩
  .rw[ei,ej];exact Zkp up (by omega) (by omega)
  .obtain⟨l,hl,el⟩:=Ztp ((mm (f x)).mpr ⟨x,hx,rfl⟩)
   rw[ei,ej,<-el];rcases QT k l with z|z
   .rcases QT (k+1) l with w|w
    .exact .inr (Int.le_of_lt (Zkp up w hl))
    .have:l=k+1:=by omega
     subst this;exact .inr (Int.le_refl _)
   .rcases QT l k with w|w
    .exact .inl (Int.le_of_lt (Zkp up w (by omega)))
    .have:l=k:=by omega
     subst this;exact .inl (Int.le_refl _)
  .rw[ei,ej]
 .rintro⟨i,j,hi,hj,lt,no,rfl⟩
  obtain⟨k,hk,ek⟩:=Ztp ((mm (f i)).mpr ⟨i,hi,rfl⟩);obtain⟨l,hl,el⟩:=Ztp ((mm (f j)).mpr ⟨j,hj,rfl⟩);have kl:k<l:=Ycj up hk (by omega);have e:l=k+1:=by
   refine Nat.le_antisymm (Nat.le_of_not_lt λz=>?_) kl;obtain⟨x,hx,ex⟩:=(mm _).mp (Zg5 (rs:=rs) (k:=k+1) (by omega));have a1:=Zkp up (k:=k) (l:=k+1) (by omega) (by omega);have a2:=Zkp up (k:=k+1) (l:=l) z hl;have:=no x hx;omega
  subst e;exact⟨k,Qd.mpr (by omega),by rw[ek,el]⟩
theorem Zyk{n:Nat}{f:Nat->Int}{b:Int}{k l:Nat}(hkl:k<l)(hl:l<(cuL n f b (rk (vl n f))).length):((cuL n f b (rk (vl n f))).getD k ([],0)).1≠((cuL n f b (rk (vl n f))).getD l ([],0)).1:=by
 have up:=Z2q (vl n f);have mm:=λx=>Z2g (n:=n) (f:=f) (x:=x);generalize rk (vl n f)=rs at up mm hl|-
 unfold cuL at hl|-
 rw[Xg,Xk]at hl;rw[Xj,Xj,Xp,Xp,Qy (by omega),Qy hl];show sg n f (gt rs (k+1))≠sg n f (gt rs (l+1));obtain⟨i,hi,ei⟩:=(mm _).mp (Zg5 (rs:=rs) (k:=k) (by omega));obtain⟨j,hj,ej⟩:=(mm _).mp (Zg5 (rs:=rs) (k:=k+1) (by omega));have a1:=Zkp up (k:=k) (l:=k+1) (by omega) (by omega);have a2:=Zkp up (k:=k+1) (l:=l+1) (by omega) (by omega);generalize gt rs (k+1)=q at a1 a2 ej|-
 generalize gt rs (l+1)=q' at a2|-
 generalize gt rs k=p at a1 ei|-
 intro e;have m:∀x:Nat,x<n->(decide (q<=f x) !=decide (q<=f 0))=(decide (q'<=f x) !=decide (q'<=f 0)):=λx hx=>by
  have h:(x:Int)∈sg n f q↔(x:Int)∈sg n f q':=by rw[e]
  unfold sg at h;rw[Zdd,Zdd,XX]at h;have h:(decide (q<=f x) !=decide (q<=f 0))=YD↔(decide (q'<=f x) !=decide (q'<=f 0))=YD:=⟨λz=>(h.mp ⟨by omega,by omega,z⟩).2.2,λz=>(h.mpr ⟨by omega,by omega,z⟩).2.2⟩;exact Bool.eq_iff_iff.mpr h
 have m1:=m i hi;have m2:=m j hj;rw[YS (show¬q<=f i by omega),YS (show¬q'<=f i by omega)]at m1;rw[YQ (show q<=f j by omega),YS (show¬q'<=f j by omega)]at m2;generalize decide (q<=f 0)=a at m1 m2;generalize decide (q'<=f 0)=c at m1 m2;cases a<;>cases c<;>simp at m1 m2
theorem Mc.map{n:Nat}{f g:Nat->Int}{b c:Int}(h0:0<n)(lt:∀x y,x<n->y<n->(f x<=f y↔g x<=g y))(w:∀x y,x<n->y<n->Qs (f y-f x) b=Qs (g y-g x) c){p:List Int×Rat}(h:Mc n f b p):Mc n g c p:=by
 obtain⟨i,j,hi,hj,l,no,rfl⟩:=h;refine⟨i,j,hi,hj,?_,λx hx=>(no x hx).imp (lt x i hx hi).mp (lt j x hj hx).mp,?_⟩
 .have:=lt j i hj hi
  omega
 .rw[w i j hi hj]
  refine YT (λz=>(z,_)) (Zi1 λx hx=>?_);rw[XX,decide_eq_decide.mpr (lt j x hj hx),decide_eq_decide.mpr (lt j 0 hj h0)]
theorem Mc.neg{n:Nat}{f:Nat->Int}{b:Int}(h0:0<n){p:List Int×Rat}(h:Mc n f b p):Mc n (λi=>- f i) b p:=by
 obtain⟨i,j,hi,hj,l,no,rfl⟩:=h;refine⟨j,i,hj,hi,?_,λx hx=>?_,?_⟩
 .show-f j< -f i
  omega
 .show-f x<= -f j\/- f i<= -f x
  have:=no x hx;omega
 .have e:- f i- -f j=f j-f i:=by omega
  show _=(sg n (λi=>- f i) (- f i),Qs (- f i- -f j) b);rw[e];refine YT (λz=>(z,_)) (Zi1 λx hx=>?_);rw[XX];have q:∀x,x<n->decide (f j<=f x)= !decide (- f i<= -f x):=λx hx=>by
   have:=no x hx;rw[<-decide_not];exact decide_eq_decide.mpr (by omega)
  rw[q x hx,q 0 h0];cases decide (- f i<= -f x)<;>cases decide (- f i<= -f 0)<;>rfl
theorem Znu{n a:Nat}(d:Dg n R)(ha:Ap n R a){f:Nat->Int}(h:Zm8 n R f):(∀i,i<n->plc R a i=f i-f 0)\/∀i,i<n->plc R a i=f 0-f i:=by
 obtain⟨g,hz,hg⟩:∃s:Int,(s=1\/s= -1)/\Nz n λi=>s*(f i-f 0):=by
  by_cases c:∃k,k<n/\(∀j,j<k->f j-f 0=0)/\f k-f 0<0
  .obtain⟨k,k1,k2,k3⟩:=c
   refine⟨-1,.inr rfl,by show -1*(f 0-f 0)=0;omega,λi hi h=>?_⟩;show 0<= -1*(f i-f 0);rcases VB i k with z|z|z
   .have:=k2 i z;omega
   .rw[z];omega
   .have:-1*(f k-f 0)=0:=h k z
    omega
  .refine⟨1,.inl rfl,by show 1*(f 0-f 0)=0;omega,λk hk h=>?_⟩
   show 0<=1*(f k-f 0)
   by_cases z:f k-f 0<0
   .exact YX ⟨k,hk,λj hj=>by have:1*(f j-f 0)=0:=h j hj;omega,z⟩ c
   .omega
 have e:∀i,i<n->plc R a i=g*(f i-f 0):=λi hi=>Zqw d ha hg (λx y h1 h2=>by
  have:=h x y h1 h2;show((g*(f x-f 0)-g*(f y-f 0)).natAbs:Int)=_;rcases hz with rfl|rfl<;>omega) hi
 rcases hz with rfl|rfl
 .exact .inl λi hi=>by rw[e i hi];omega
 .exact .inr λi hi=>by rw[e i hi];omega
theorem Zwr{n:Nat}(h0:0<n)(d:Dg n R){f g:Nat->Int}(hf:Zm8 n R f)(hg:Zm8 n R g):(∀i,i<n->f i-f 0=g i-g 0)\/∀i,i<n->f i-f 0=g 0-g i:=by
 obtain⟨a,ha⟩:=Z5p R h0;rcases Znu d ha hf with e|e<;>rcases Znu d ha hg with e'|e'
 .exact .inl λi hi=>by rw[<-e i hi,e' i hi]
 .exact .inr λi hi=>by rw[<-e i hi,e' i hi]
 .exact .inr λi hi=>by have:=e i hi;have:=e' i hi;omega
 .exact .inl λi hi=>by have:=e i hi;have:=e' i hi;omega
theorem Z70{k m x:Int}(hk:0<k):Qs (k*x) (m*k)=Qs x m:=by
 rw[Int.mul_comm m k];exact Rat.divInt_mul_left (by omega)
theorem Z44{n:Nat}{k m:Int}(h0:0<n)(d:Dg n R)(k0:0<k)(sc:∀x y,x<n->y<n->k*S x y=R x y){f g:Nat->Int}(hf:Zm8 n R f)(hg:Zm8 n S g)(p:List Int×Rat):Mc n g m p↔Mc n f (m*k) p:=by
 have hk:Zm8 n R λi=>k*g i:=λi j h1 h2=>by
  have e:=hg i j h1 h2;show((k*g i-k*g j).natAbs:Int)=_;rw[<-sc i j (by omega) h2,<-e,<-Int.mul_sub,Int.natAbs_mul,Int.natCast_mul,Vl (by omega)]
 have le:∀x y:Int,x<=y↔k*x<=k*y:=λx y=>(Int.mul_le_mul_left k0).symm;rcases Zwr h0 d hf hk with e|e
 .have e2:∀x y,x<n->y<n->f y-f x=k*(g y-g x):=λx y hx hy=>by
   have a:=e x hx;have b:=e y hy;rw[Int.mul_sub];omega
  have ll:∀x y,x<n->y<n->(g x<=g y↔f x<=f y):=λx y hx hy=>by
   have a:=e x hx;have b:=e y hy;rw[le];omega
  have ww:∀x y,x<n->y<n->Qs (g y-g x) m=Qs (f y-f x) (m*k):=λx y hx hy=>by rw[e2 x y hx hy,Z70 k0]
  exact⟨Mc.map h0 ll ww,Mc.map h0 (λx y hx hy=>(ll x y hx hy).symm) λx y hx hy=>(ww x y hx hy).symm⟩
 .have e2:∀x y,x<n->y<n->f y-f x=k*(- g y- -g x):=λx y hx hy=>by
   have a:=e x hx;have b:=e y hy;rw[Int.mul_sub,Int.mul_neg,Int.mul_neg];omega
  have ll:∀x y,x<n->y<n->(- g x<= -g y↔f x<=f y):=λx y hx hy=>by
   have a:=e x hx;have b:=e y hy;rw[le,Int.mul_neg,Int.mul_neg];omega
  have ww:∀x y,x<n->y<n->Qs (- g y- -g x) m=Qs (f y-f x) (m*k):=λx y hx hy=>by rw[e2 x y hx hy,Z70 k0]
  refine⟨λh=>Mc.map (f:=λi=>- g i) h0 ll ww (h.neg h0),λh=>?_⟩;have:=(Mc.map (g:=λi=>- g i) h0 (λx y hx hy=>(ll x y hx hy).symm) (λx y hx hy=>(ww x y hx hy).symm) h).neg h0;have e:(λi=>- -g i)=g:=funext λi=>Int.neg_neg _
  rwa[e]at this
def ctD(p:List Int×Rat):Xa:=.tuple [Zv p.1,frD p.2]
def Zs5(L:List (List Int×Rat)):Xa:=.list (L.map ctD)
theorem Zjb(h:∀d∈ds,Yd d=YD):Yd (.list ds)=YD:=by
 rw[Yd]
 induction ds with
 | nil=>rfl
 | cons d ds ih=>rw[Ju,h d (.head _),ih λe he=>h e (.tail _ he)];rfl
theorem Zpp(p:List Int):Yd (Zv p)=YD:=Zjb λd m=>by
 obtain⟨x,_,rfl⟩:=Qe.mp m;rfl
theorem Ybh(p:List Int×Rat):Sh 2 (ctD p):=Zou λd m=>by
 rcases Xi.mp m with rfl|m
 .exact Z0h _
 .rw[Xv.mp m];exact Zdi [p.2.num,(p.2.den:Int)]
theorem Zu0(p:List Int×Rat):Yd (ctD p)=YD:=by
 show(Yd (Zv p.1)&&(Yd (frD p.2)&&YD))=YD;rw[Zpp];rfl
theorem Z73(L:List (List Int×Rat)):Sh 3 (Zs5 L):=Zkr λd m=>by
 obtain⟨p,_,rfl⟩:=Qe.mp m;exact Ybh p
theorem Zrh(L:List (List Int×Rat)):Yd (Zs5 L)=YD:=Zjb λd m=>by
 obtain⟨p,_,rfl⟩:=Qe.mp m;exact Zu0 p
theorem Zxp(p:List Int×Rat):kdT (ctD p)=YB (p.1,[p.2.num,(p.2.den:Int)]):=by
 show((Zf0 (p.1.map Xl)).bind λns=>(Zf0 [.int p.2.num,.int (p.2.den:Int)]).bind λms=>YB (ns,ms))=_;rw[Ze8];rfl
theorem Zsd:∀{a b c:List Int},ltI a b=YD->ltI b c=YD->ltI a c=YD:=by
 intro a
 induction a with
 | nil=>
  intro b c h1 h2;cases b with
  | nil=>cases h1
  | cons y b=>cases c with
   | nil=>cases h2
   | cons z c=>rfl
 | cons x a ih=>
  intro b c h1 h2;cases b with
  | nil=>cases h1
  | cons y b=>cases c with
   | nil=>cases h2
   | cons z c=>
    unfold ltI at h1 h2|-
    by_cases e1:x=y
    .subst e1
     rw[YL rfl]at h1
     by_cases e2:x=z
     .rw[YL e2]at h2|-;exact ih h1 h2
     .rw[YM e2]at h2|-;exact h2
    .rw[YM e1]at h1
     have l1:=YW h1
     by_cases e2:y=z
     .subst e2
      rw[YM e1];exact h1
     .rw[YM e2]at h2
      have l2:=YW h2;rw[YM (by omega)];exact YQ (by omega)
theorem Zmm:∀a:List Int,ltI a a=YF:=by
 intro a
 induction a with
 | nil=>rfl
 | cons x a ih=>unfold ltI;rw[YL rfl];exact ih
theorem Zzo:∀{a b:List Int},a≠b->ltI a b=YF->ltI b a=YD:=by
 intro a
 induction a with
 | nil=>
  intro b ne h;cases b with
  | nil=>exact YX rfl ne
  | cons y b=>cases h
 | cons x a ih=>
  intro b ne h;cases b with
  | nil=>rfl
  | cons y b=>
   unfold ltI at h|-
   by_cases e:x=y
   .subst e
    rw[YL rfl]at h|-
    exact ih (λz=>ne (z▸rfl)) h
   .rw[YM e]at h
    rw[YM (JW e)];have:=of_decide_eq_false h;exact YQ (by omega)
theorem Zvq{lt:Y->Y->Prop}(irr:∀z,¬lt z z)(tr:∀x y z,lt x y->lt y z->lt x z):∀{a b:List Y},a.Pairwise lt->b.Pairwise lt->(∀x,x∈a↔x∈b)->a=b:=by
 intro a
 induction a with
 | nil=>
  intro b _ _ h;cases b with
  | nil=>rfl
  | cons y b=>exact nomatch(h y).mpr (.head _)
 | cons x a ih=>
  intro b ha hb h;cases b with
  | nil=>exact nomatch(h x).mp (.head _)
  | cons y b=>
   obtain⟨a1,a2⟩:=V5.mp ha;obtain⟨b1,b2⟩:=V5.mp hb;have e:x=y:=Classical.byContradiction λc=>by
    have m1:x∈b:=(Xi.mp ((h x).mp (.head _))).resolve_left c;have m2:y∈a:=(Xi.mp ((h y).mpr (.head _))).resolve_left λz=>c z.symm;exact irr x (tr _ _ _ (a1 y m2) (b1 x m1))
   subst e;rw[ih a2 b2 λz=>⟨λm=>?_,λm=>?_⟩]
   .exact(Xi.mp ((h z).mp (.tail _ m))).resolve_left λe=>irr x (e▸a1 z m)
   .exact(Xi.mp ((h z).mpr (.tail _ m))).resolve_left λe=>irr x (e▸b1 z m)
def sCt(L:List (List Int×Rat)):List (List Int×Rat):=sLay ([],0) (lk kdT ltT (L.map ctD)) L
def Dst(L:List (List Int×Rat)):Prop:=∀k l,k<l->l<L.length->(L.getD k ([],0)).1≠(L.getD l ([],0)).1
theorem Zyw{L:List (List Int×Rat)}(h:Dst L)(hi:i<L.length)(hj:j<L.length):lk kdT ltT (L.map ctD) i j=ltI (L.getD i ([],0)).1 (L.getD j ([],0)).1:=by
 have e:∀k,k<L.length->kdT ((L.map ctD).getD k .none)=YB ((L.getD k ([],0)).1,[(L.getD k ([],0)).2.num,((L.getD k ([],0)).2.den:Int)]):=λk hk=>by
  rw[Xj,Xp,Xm hk,Xj,Xm hk];exact Zxp _
 unfold lk;rw[e i hi,e j hj];show ltT _ _=_;unfold ltT
 by_cases c:i=j
 .subst c
  rw[YL rfl,YL rfl,Zmm]
 .rw[YM]
  rcases Nat.lt_or_gt_of_ne c with z|z
  .exact h i j z hj
  .exact λq=>h j i z hi q.symm
theorem Zy8{L:List (List Int×Rat)}(h:Dst L):(sCt L).Pairwise λa b=>ltI a.1 b.1=YD:=by
 refine Z02 (β:=Nat) (d:=([],0)) (vs:=L) ⟨λi j k hi hj hk h1 h2=>?_,λi j hi hj c q=>?_,λi j hi hj q=>?_⟩ λi j hi hj q=>?_
 .rw[Zyw h hi hj]at h1
  rw[Zyw h hj hk]at h2;rw[Zyw h hi hk];exact Zsd h1 h2
 .rw[Zyw h hi hj]at q
  rw[Zyw h hj hi];refine Zzo ?_ q;rcases Nat.lt_or_gt_of_ne c with z|z
  .exact h i j z hj
  .exact λq=>h j i z hi q.symm
 .rw[Zyw h hi hj]at q
  rw[Zyw h hj hi];refine Ud.mpr λz=>?_;have:=Zsd q z;rw[Zmm]at this;cases this
 .rw[Zyw h hi hj]at q
  exact q
theorem Z6u{L M:List (List Int×Rat)}(hL:Dst L)(hM:Dst M)(h:∀p,p∈L↔p∈M):sCt L=sCt M :=
 Zvq (lt:=λa b:List Int×Rat=>ltI a.1 b.1=YD) (λz e=>by rw[Zmm]at e;cases e) (λx y z=>Zsd) (Zy8 hL) (Zy8 hM) λp=>((Zek _ _ L).mem_iff.trans (h p)).trans (Zek _ _ M).mem_iff.symm
theorem Zzl(d d':Y)(lt:Nat->Nat->Bool)(vs:List Y):sLay d lt vs=sLay d' lt vs:=by
 unfold sLay;split
 .rfl
 .refine XH λi hi=>?_
  have:=Qd.mp ((Zc1 (by omega)).mem_iff.mp hi);rw[Xj,Xj,Xm this];rfl
theorem Zje{i:Nat}{δ:Ze}{ts:List OT}{L:List (List Int×Rat)}(hi:δ[i]? =YB (YB (.nd ts)))(ht:ts.map OT.data=L.map ctD)(hl:L.length<64):∃ts' δ',Zbf kdT ltT i δ= .rt (.nd ts') δ'/\ts'.map OT.data=(sCt L).map ctD/\∀t∈ts',t∈ts:=by
 have e:OT.datas ts=L.map ctD:=by rw[datas_map,ht]
 have l2:ts.length=L.length:=by have:=YT List.length ht;rwa[Xg,Xg]at this
 refine⟨sLay (.fz .none) (lk kdT ltT (L.map ctD)) ts,δ.set i YC,?_,?_,λt m=>(Zek _ _ ts).mem_iff.mp m⟩
 .unfold Zbf
  rw[hi];dsimp only;rw[e,YL];rw[XM,decide_eq_true_eq,Va];refine⟨by omega,λd m=>?_⟩;obtain⟨p,_,rfl⟩:=Qe.mp m;rw[Zxp];rfl
 .rw[<-Zob OT.data,ht,OT.data_fz,Zzl Xa.none (ctD ([],0)),Zob];rfl
theorem Zsw(n:Nat)(f:Nat->Int):Zas n f=Zv (vl n f):=by
 unfold Zas Zv vl;rw[Qu];rfl
theorem Zx0{n:Nat}(f:Nat->Int):(rk (vl n f)).length<=n:=by
 have l:(rk (vl n f)).length=(dnc (vl n f)).length:=(Ww _).length_eq;have:=Zra (vl n f);rw[l];refine Q7 this ?_;unfold vl;rw[Xg,Xk];exact XQ _
def Zwz(p:List Int)(lo hi:Option Int):List Int:=(p.drop (HT.sIx p.length 0 lo)).take (HT.sIx p.length p.length hi-HT.sIx p.length 0 lo)
theorem Zwj(p:List Int)(lo hi:Option Int):cutD (p.map Xl) lo hi=(Zwz p lo hi).map Xl:=by
 unfold cutD Zwz;rw[Xg,List.map_take,List.map_drop]
theorem Z5s{e:FE}{r p:List Int}{lo hi:FO}{l h:Option Int}(he:EvV e δ (Zv r))(hl:EvO lo δ l)(hh:EvO hi δ h)(hp:Zwz r l h=p):EvV (fSl e lo hi) δ (Zv p):=hp▸(Z9x (ds:=r.map Xl) he hl hh).cast (by rw[Zwj];rfl)
theorem Yb4(rs:List Int):Zwz rs (YB 1) YC=rs.drop 1:=by
 unfold Zwz;rw[show(YB (1:Int))=YB ((1:Nat):Int)from rfl,HT.sIx_nat,HT.sIx_none];rcases QT rs.length 1 with h|h
 .have:rs=[]:=Q5 (by omega)
  subst this;rfl
 .rw[Nat.min_eq_left h,List.take_of_length_le (by rw[BZ];exact XQ _)]
theorem Zwt(rs:List Int):Zmj (rs.map Xl) ((rs.drop 1).map Xl)=(Xu (rs.length-1)).map λk=>.tuple [.int (gt rs k),.int (gt rs (k+1))]:=by
 unfold Zmj;refine List.ext_getElem (by rw[Xg,List.length_zip,Xg,Xg,BZ,Xg,Xk];omega) λi h1 h2=>?_;rw[Xg,Xk]at h2;rw[VM,List.getElem_zip,VM,VM,VM,List.getElem_range,List.getElem_drop];unfold gt;rw[Xj,Xm (by omega),Xj,Xm (by omega)];show Xa.tuple [.int rs[i],.int rs[1+i]]= .tuple [.int rs[i],.int rs[i+1]];have:∀(k l:Nat) (hk:k<rs.length) (hl:l<rs.length),k=l->rs[k]=rs[l]:=λk l hk hl e=>by subst e;rfl
 rw[this (1+i) (i+1) (by omega) (by omega) (Nat.add_comm _ _)]
theorem Z0v{e:FE}{o:OT}(h:e δ=YB (o,δ))(hi:δ[i]? =YB (YB (.nd ts)))(hl:ts.length<=1000):Zag i e δ= .nx (δ.set i (YB (.nd (ts++[o])))):=by
 rw[Zmv,hi,Zvz,h,Yu,hi,Zvz,Zxn (by omega)]
def Z9n(n:Nat)(f:Nat->Int)(b:Int):List (List Int×Rat):=sCt (cuL n f b (rk (vl n f)))
def ctK(n:Nat)(f:Nat->Int)(b:Int)(rs:List Int)(k:Nat):Xa:=ctD (sg n f (gt rs (k+1)),Qs (gt rs (k+1)-gt rs k) b)
theorem Z50(n:Nat)(f:Nat->Int)(b:Int)(rs:List Int):(cuL n f b rs).map ctD=(Xu (rs.length-1)).map (ctK n f b rs):=by
 unfold cuL;rw[Qu];rfl
theorem Z4z{n:Nat}(hn:n<=10)(f:Nat->Int)(q:Int):(sg n f q).length<=10:=by
 unfold sg sdI;rw[Xg];exact Q7 (List.length_filter_le ..) (by rw[Xk];exact hn)
theorem Zeg{n:Nat}(h0:0<n)(hn:n<=10){b:Int}(d:Dg n R)(hb:0<b)(bb:Bt 300 b)(bR:∀i j,i<n->j<n->Bt 300 (R i j)){f:Nat->Int}(hf:Zm8 n R f) :
  ∃ts,Z8 [tbD (Zgd n R b)]= .ok (.nd ts)/\ts.map OT.data=(Z9n n f b).map ctD/\∀t∈ts,Z7t 0 t=YD:=by
 obtain⟨m,k,S,e1,e2,m0,k0,rfl,bm,sc⟩:=Zyd (n:=n) (by omega) hb bb bR;have dS:=d.over k0 sc;obtain⟨g,e3,hg⟩:=Zmc (S:=S) h0 (by omega) dS;have em:EmM n S:=(Zo0 k0 dS sc h0).mpr ⟨f,hf⟩;have hg:=hg em;rw[YL em,Zsw]at e3;obtain⟨rs,hrs⟩:∃rs,rs=rk (vl n g):=⟨_,rfl⟩;have rl:rs.length<=n:=hrs▸Zx0 g;have up:rs.Pairwise (·<·):=hrs▸Z2q (vl n g);have mm:∀x,x∈rs↔∃i,i<n/\g i=x:=λx=>by rw[hrs];exact Z2g
 obtain⟨T,hT⟩:∃T,T=tbD (Zgd n R (m*k)):=⟨_,rfl⟩;rw[<-hT]at e1 e2|-
 have er:Za0 (dnc (vl n g))=rs:=hrs.symm;have s5:∀{S':FS} {r:RS},S' [YB (.fz T),YB (.fz (.int m)),YB (.fz (Zv (vl n g))),YB (.fz (Zv rs)),YB (.nd []),YC,YC]=r->Zy (wE (Z4 Yb (Zc (Zd 0) Zn)) (Wt 1)) (Zy (wE (Z4 W2 (Zc (Z4 Y6 (Zc (Zd 1) (Zc (Zd 0) Zn))) Zn)) (Wt 2)) (Zy (J7 (tV (Zg gIs (Zd 2) (fC .none))) (Zgg "NoTable") fNx) (Zy (wE (Zaf (Zc (Zd 2) Zn)) (Wt 3)) (Zy (wE (Zez Zn) (J2 4)) S')))) [YB (.fz T),YC,YC,YC,YC,YC,YC]=r:=λh=>
  Wb (Z5 (Zx (Zb Za Zh) e1))<|Wb (Z5 (Zx (Zb (Zx (Zb Za (Zb Za Zh)) e2) Zh) e3))<|Wb (Yx (Zcg (Zm Za Z3 (Z4j _))) rfl)<|Wb (Z5 (er▸Zis (i:=2) (ns:=vl n g) rfl (by unfold vl;rw[Xg,Xk];omega)))<|Wb Znz h
 obtain⟨δ',e6,ts,z5,z6,rfl,ht,ho⟩:=Z04 (it:=Zlc (Zc (Zd 3) (Zc (fSl (Zd 3) (oI (fC (.int 1))) oN) Zn))) (g:=gTp 2 (gCn (gNm 5) (gCn (gNm 6) gNl))) (S:=Zag 4 (Zto (Zc (Z4 Yn (Zc (Zd 2) (Zc (Zd 6) Zn))) (Zc (Z4 Y5 (Zc (Zg gSb (Zd 6) (Zd 5)) (Zc (Zd 1) Zn))) Zn))))
  (δ:=[YB (.fz T),YB (.fz (.int m)),YB (.fz (Zv (vl n g))),YB (.fz (Zv rs)),YB (.nd []),YC,YC]) (ds:=(Xu (rs.length-1)).map λk=>.tuple [.int (gt rs k),.int (gt rs (k+1))])
  (λk δ=>∃ts z5 z6,δ=[YB (.fz T),YB (.fz (.int m)),YB (.fz (Zv (vl n g))),YB (.fz (Zv rs)),YB (.nd ts),z5,z6]/\ts.map OT.data=(Xu k).map (ctK n g m rs)/\∀t∈ts,Z7t 0 t=YD)
  (Zs0 (as:=rs.map Xl) (bs:=(rs.drop 1).map Xl) Za (Z5s (r:=rs) Za (Yd6 Z3) Yeo (Yb4 rs)) (Zwt rs)) ⟨[],YC,YC,rfl,rfl,(λ_ m=>nomatch m)⟩ λi d δ hd q=>by
   obtain⟨ts,z5,z6,rfl,ht,ho⟩:=q;have hi:i<rs.length-1:=by have:=(Xn.mp hd).1;rwa[Xg,Xk]at this
   rw[Xp,Qy hi]at hd;cases hd;obtain⟨x,hx,ex⟩:=(mm _).mp (Zg5 (rs:=rs) (k:=i) (by omega));obtain⟨y,hy,ey⟩:=(mm _).mp (Zg5 (rs:=rs) (k:=i+1) (by omega));have lt:=Zkp up (k:=i) (l:=i+1) (by omega) (by omega);have eb:=Zw7 hn (f:=g) (v:=gt rs (i+1)) hy (by omega) hx (by omega);rw[Zsw,Z8x h0]at eb;have tl:ts.length=i:=by have:=YT List.length ht;rwa[Xg,Xg,Xk]at this
   obtain⟨w,ew,dw⟩:=Zx (F:=Y5) (as:=Zc (Zg gSb (Zd 6) (Zd 5)) (Zc (Zd 1) Zn)) (δ:=[YB (.fz T),YB (.fz (.int m)),YB (.fz (Zv (vl n g))),YB (.fz (Zv rs)),YB (.nd ts),YB (.fz (.int (gt rs i))),YB (.fz (.int (gt rs (i+1))))]) (Zb (Zem Za Za) (Zb Za Zh)) (Zmu (by omega) bm);refine⟨_,_,rfl,.inl (Z0v (o:=.tp [ndZ (sg n g (gt rs (i+1))),w]) (ts:=ts) ?_ rfl (by omega)),ts++[.tp [ndZ (sg n g (gt rs (i+1))),w]],_,_,rfl,?_,λt m=>?_⟩
   .show Zto _ [YB (.fz T),YB (.fz (.int m)),YB (.fz (Zv (vl n g))),YB (.fz (Zv rs)),YB (.nd ts),YB (.fz (.int (gt rs i))),YB (.fz (.int (gt rs (i+1))))]=YB (_,[YB (.fz T),YB (.fz (.int m)),YB (.fz (Zv (vl n g))),YB (.fz (Zv rs)),YB (.nd ts),YB (.fz (.int (gt rs i))),YB (.fz (.int (gt rs (i+1))))])
    rw[Zuz,Zu3 (Zuc (Zb Za (Zb Za Zh)) eb) (Zu3 ew rfl)];exact YL (e:=YC) (show 2<=Xw by rw[X7];decide)
   .rw[JZ,ht,Uw,JZ]
    refine YT (_++·) ?_;show[OT.data (.tp [ndZ (sg n g (gt rs (i+1))),w])]=[ctK n g m rs i];rw[OT.data_tp,Qq,Qq,List.map_nil,Zcc,dw];rfl
   .rcases Qt.mp m with m|m
    .exact ho t m
    .rw[Xv.mp m]
     show decide ((List.map _ (sg n g (gt rs (i+1)))).length<Xw)=YD;have:=Z4z hn g (gt rs (i+1));exact YQ (by rw[Xg,X7];omega)
 rw[Xg,Xk,<-Z50]at ht;obtain⟨ts',δ',e7,h1,h2⟩:=Zje (i:=4) (δ:=[YB (.fz T),YB (.fz (.int m)),YB (.fz (Zv (vl n g))),YB (.fz (Zv rs)),YB (.nd ts),z5,z6]) rfl ht (by unfold cuL;rw[Xg,Xk];omega);refine⟨ts',?_,?_,λt m=>ho t (h2 t m)⟩
 .unfold Z8
  rw[Jf (np:=1) (by rfl)];show(Wi [YB (.fz T),YC,YC,YC,YC,YC,YC]).told=_;rw[show Wi [YB (.fz T),YC,YC,YC,YC,YC,YC]= .rt (.nd ts') δ' from s5 (Wb e6 e7)];rfl
 .rw[h1,hrs]
  refine YT _ (Z6u (λk l=>Zyk) (λk l=>Zyk) λp=>?_);rw[Zs6,Zs6];exact Z44 h0 d k0 sc hf hg p
theorem Zk8{n:Nat}(h0:0<n)(hn:n<=10){b:Int}(d:Dg n R)(hb:0<b)(bb:Bt 300 b)(bR:∀i j,i<n->j<n->Bt 300 (R i j))(ne:¬EmM n R):Z8 [tbD (Zgd n R b)]= .exn "NoTable" :=by
 obtain⟨m,k,S,e1,e2,m0,k0,rfl,bm,sc⟩:=Zyd (n:=n) (by omega) hb bb bR;have dS:=d.over k0 sc;obtain⟨g,e3,_⟩:=Zmc (S:=S) h0 (by omega) dS;rw[YM λz=>ne ((Zo0 k0 dS sc h0).mp z)]at e3;exact Zu7 rfl (Wb (Z5 (Zx (Zb Za Zh) e1))<|Wb (Z5 (Zx (Zb (Zx (Zb Za (Zb Za Zh)) e2) Zh) e3))<|Zst (Zb4 (Zcg (Zm Za Z3 (Z4j _))) (Zs7 _ _)))
theorem Zo3{n:Nat}(hn:n<=10){f:Nat->Int}{rs:List Int}{i:Nat}(hi:i<rs.length){op:Xa->Xa->Option Xa}{c:Int->Int->Bool}(ho:∀x y,op (.int x) (.int y)=YB (.bool (c x y))){z1 z3 z5:Option OT}:EvV (Y9 1 [0,2,4] (iRa (Zc (Zbt Zdv (Zc (Zd 0) Zn)) Zn)) (gNm 0) (tV (Zg op (Yk gIx (Zd 1) (Zd 0)) (Yk gIx (Zd 2) (Zd 3)))) (Zd 0)) [YB (.fz (Zas n f)),z1,YB (.fz (Zv rs)),z3,YB (.fz (.int (i:Nat))),z5] (Zv (sdI n λx=>c (f x.toNat) (gt rs i))):=by
 have hi':EvI (iRa (Zc (Zbt Zdv (Zc (Zd 0) Zn)) Zn)) [YB (.fz (Zas n f)),z1,YB (.fz (Zv rs)),z3,YB (.fz (.int (i:Nat))),z5] ((Xu n).map λi:Nat=>Xl (0+(i:Int))):=Zcd (Zb (Jq (Zb Za Zh) (Zoj n f)) Zh) (by omega);have e0:(λi:Nat=>Xl (0+(i:Int)))= λi:Nat=>Xl (i:Int):=funext λi=>by rw[Q8]
 rw[e0]at hi';have:=Zww (t:=tV (Zg op (Yk gIx (Zd 1) (Zd 0)) (Yk gIx (Zd 2) (Zd 3)))) (me:=Zd 0) (cs:=[YB (.fz (Zas n f)),YB (.fz (Zv rs)),YB (.fz (.int (i:Nat)))]) (caps:=[0,2,4]) (Xu n) (λi:Nat=>Xl (i:Int)) (λx:Nat=>c (f x) (gt rs i)) hi' (by rw[Xk];omega) rfl (λx hx=>Zcg (Zm (Ja Za Za (Zb5 (Qd.mp hx))) (Zdj (p:=rs) (i:=(i:Nat)) Za Za (by omega) (by omega)) (by rw[ho,XX];rfl))) λi _ _=>rfl;refine this.cast ?_;unfold Zv sdI;rw[Qu];rfl
theorem Zi5{n:Nat}(h0:0<n)(hn:n<=10)(f:Nat->Int){b:Int}(hb:0<b)(bb:Bt 300 b):Told Jy [Zas n f,.int b] (Zs5 (Z9n n f b)):=by
 obtain⟨rs,hrs⟩:∃rs,rs=rk (vl n f):=⟨_,rfl⟩;have rl:rs.length<=n:=hrs▸Zx0 f;have er:Za0 (dnc (vl n f))=rs:=hrs.symm;have ev:(YB (YB (OT.fz (Zas n f))):Option (Option OT))=YB (YB (.fz (Zv (vl n f)))):=by rw[Zsw]
 refine Wq rfl<|Wa (Z5 (er▸Zis (i:=0) (ns:=vl n f) (by rw[<-ev];rfl) (by unfold vl;rw[Xg,Xk];omega)))<|Wa Znz ?_;refine Zre (ds:=Zbs (1:Nat) (rs.length-1)) (λk δ=>∃ts z4 z5,δ=[YB (.fz (Zas n f)),YB (.fz (.int b)),YB (.fz (Zv rs)),YB (.nd ts),z4,z5]/\ts.map OT.data=(Xu k).map (ctK n f b rs)) (Zzp (m:=1) (n:=rs.length) (Zb Z3 (Zb (Zbv Za) Zh)) (by omega) (by omega)) ⟨[],YC,YC,rfl,rfl⟩ (λi d δ hd q=>?_) λδ' q=>?_
 .obtain⟨ts,z4,z5,rfl,ht⟩:=q
  obtain⟨hi,rfl⟩:=Yz hd;have tl:ts.length=i:=by have:=YT List.length ht;rwa[Xg,Xg,Xk]at this
  have ei:((1:Nat):Int)+(i:Int)=((i+1:Nat):Int):=by omega
  rw[ei];have sd:∃z,J7 (tV (Zg (Zsv YF) (fC (.int 0)) (Zd 5))) (wE (Y9 1 [0,2,4] (iRa (Zc (Zbt Zdv (Zc (Zd 0) Zn)) Zn)) (gNm 0) (tV (Zg gLt (Yk gIx (Zd 1) (Zd 0)) (Yk gIx (Zd 2) (Zd 3)))) (Zd 0)) (Wt 5)) fNx [YB (.fz (Zas n f)),YB (.fz (.int b)),YB (.fz (Zv rs)),YB (.nd ts),YB (.fz (.int (i+1:Nat))),YB (.fz (Zv (byd n f (gt rs (i+1)))))]= .nx [YB (.fz (Zas n f)),YB (.fz (.int b)),YB (.fz (Zv rs)),YB (.nd ts),YB (.fz (.int (i+1:Nat))),YB (.fz (Zv z))]/\z=sg n f (gt rs (i+1)):=by
   by_cases c:(0:Int)∈byd n f (gt rs (i+1))
   .refine⟨_,Zb4 (Zcg (Zm Z3 Za (by rw[Zeu,YQ c];rfl))) (Z5 (Zo3 hn (i:=i+1) (by omega) (c:=λx y=>decide (x<y)) λx y=>Ybi x y)),Zi1 λx hx=>?_⟩
    rw[YQ ((Zgt h0).mp c),XX]
    by_cases q:gt rs (i+1)<=f x
    .rw[YQ q,YS (by omega)];rfl
    .rw[YS q,YQ (by omega)];rfl
   .refine⟨_,Yx (Zcg (Zm Z3 Za (by rw[Zeu,YS c];rfl))) rfl,Zi1 λx hx=>?_⟩
    rw[YS (λz=>c ((Zgt h0).mpr z))];cases decide (gt rs (i+1)<=f (x:Int).toNat)<;>rfl
  obtain⟨z,es,rfl⟩:=sd;refine⟨_,_,rfl,.inl (Wb (Z5 (Zo3 hn (i:=i+1) (by omega) (c:=λx y=>decide (y<=x)) λx y=>Z6z x y)) (Wb es (Ztr (d:=ctK n f b rs i) (ts:=ts) (Ziu (Zb Za (Zb (Zx (Zb (Zem ((Zdj (p:=rs) (i:=((i+1:Nat):Int)) Za Za (by omega) (by omega)).cast (y:=.int (gt rs (i+1))) (by rw[XX];rfl)) ((Zdj (p:=rs) (i:=((i+1:Nat):Int)-1) Za (Zem Za Z3) (by omega) (by omega)).cast (y:=.int (gt rs i)) (by rw[show((i+1:Nat):Int)-1=(i:Nat) by omega,XX];rfl))) (Zb Za Zh)) (Zc7 hb bb)) Zh)) (show 2<=1000 by decide)) rfl (by omega)))),_,_,_,rfl,?_⟩;rw[JZ,ht,Uw,JZ];refine YT (_++·) ?_;show[OT.data (.fz _)]=_;rw[OT.data_fz];rfl
 .obtain⟨ts,z4,z5,rfl,ht⟩:=q
  rw[Zw,<-Z50]at ht;obtain⟨ts',δ',e7,h1,_⟩:=Zje (i:=3) (δ:=[YB (.fz (Zas n f)),YB (.fz (.int b)),YB (.fz (Zv rs)),YB (.nd ts),z4,z5]) rfl ht (by unfold cuL;rw[Xg,Xk];omega);refine⟨_,_,e7,?_⟩;rw[OT.data_nd,h1,hrs];rfl
theorem Zrz{as:FA}{N:Ze->Prop}{R:Xa->Ze->Prop}(h:EpA as δ λds δ1=>∃o,F ds= .ok o/\N (δ1.set i (YB o))):EpS (wE (Z4 F as) (J2 i)) δ N R:=by
 obtain⟨ts,δ1,e1,o,e2,q⟩:=h;exact Ze0 (by rw[Zkn,e1];show okO (F _) _=_;rw[e2];rfl) q
theorem Zoe(p:List Int):Zv p=Zas p.length λi=>p.getD i 0:=by
 unfold Zv Zas;refine YT JB (List.ext_getElem (by rw[Xg,Xg,Xk]) λi h1 h2=>?_);rw[Xg]at h1;rw[VM,VM,List.getElem_range];show _=Xl (p.getD i 0);rw[Xj,Xm h1];rfl
theorem Zol{n:Nat}(hn:n<=10)(f:Nat->Int):Yh [Zas n f]= .ok (Yl n (inG λi j=>((f i-f j).natAbs:Int))):=by
 have e:(Y9 1 [0] (Zji (Zd 0)) (gNm 0) Zgn (Y9 1 [0] (Zji (Zd 1)) (gNm 0) Zgn (Zbt Zqj (Zc (Zg gSb (Zd 1) (Zd 0)) Zn)))) [YB (.fz (Zas n f))]=YB (Yl n (inG λi j=>((f i-f j).natAbs:Int)),[YB (.fz (Zas n f))]) :=
  Zex (cs:=[YB (.fz (Zas n f))]) (Xu n) (λi:Nat=>Xl (f i)) (λi=>.nd ((Xu n).map λj=>.fz (inG (λi j=>((f i-f j).natAbs:Int)) i j))) rfl (by rw[Xk,X7];omega) rfl λi _=>
   Zex (cs:=[YB (.fz (.int (f i)))]) (Xu n) (λi:Nat=>Xl (f i)) (λj=>.fz (inG (λi j=>((f i-f j).natAbs:Int)) i j)) rfl (by rw[Xk,X7];omega) rfl λj _=>Zuf (Jq (Zb (Zem Za Za) Zh) (Zh6 _))
 unfold Yh;rw[Jf (by rfl)];unfold J8;show RS.told (wE _ Jp [YB (.fz (Zas n f))])=_;rw[Zbp,e];rfl
theorem Zi2{n:Nat}(hn:n<=10){P:Int}(hP:P=100000000000000000000)(x:Int):ToldI Wy (dk x) [.int n] λd t'=>∃(f:Nat->Int) (x':Int),d=Zas n f/\(∀i,i<n->-P<=f i/\f i<=P)/\t'=dk x':=by
 refine Zcf rfl (Zr (Zb9 (Zk7 (Z0 (Ze4 (Zb Z3 (Zb Z3 (Zb (Zm Z3 Z3 Ycl) Zh))) (show 3<=1000 by decide)) (Wz rfl (Zb Z3 Zh) (by decide) (btc (by decide +kernel) (by decide +kernel)) λr x1 r0 r1=>?_)))));obtain⟨far,em,m0,m1⟩:=Z2u (a:=4) (b:=9) (c:=100000000000000000000) (lo:=1) (hi:=P) (by rw[hP];decide +kernel) (by rw[hP];decide +kernel) (by rw[hP];decide +kernel) r0 r1;refine⟨_,em,?_⟩;rw[OT.data_fz];have bm:Bt 400 (2*far+1):=Zm7 (m:=70) (by omega) (JQ (show 2*far+1<=2*P+1 by omega) (by rw[hP];decide +kernel)) (by decide);obtain⟨ts,t',δ',e,⟨z,x2,c,rfl,hc,hl,hb⟩,e3⟩:=Ybp (t:=Zgn) (e:=Zg gSb (Z6 1 Zi (Zc (Zg Zdl (Zg Zib (fC (.int 2)) (Zd 2)) (fC (.int 1))) Zn)) (Zd 2)) (g:=gNm 0) (it:=iRa (Zc (Zd 1) Zn)) (δ:=[YB (dk x1),YB (.fz (.int n)),YB (.fz (.int far))]) (caps:=[0,2]) (n:=1) (o:=0) (q:=1) (ds:=Zbs 0 n) (t0:=dk x1)
  (λk acc δ=>∃z x2 c,δ=[z,YB (dk x2),YB (.fz (.int far))]/\acc=c.map Xl/\c.length=k/\∀v∈c,-P<=v/\v<=P) (Zcd (Zb Za Zh) (by omega)) (by rw[Zw];omega) (by rfl) rfl ⟨YC,x1,[],rfl,rfl,rfl,λv m=>nomatch m⟩ (λk d acc δ hd q=>by
   obtain⟨z,x2,c,rfl,rfl,hl,hb⟩:=q;refine⟨_,rfl,W0 (show EvT Zgn _ YD from rfl) ⟨λ_=>Zce (Wz rfl (Zb (Zbw (Z1m Z3 Za) Z3) Zh) (by omega) bm λr x3 q0 q1=>Z0 Za ⟨_,Z9y _ _,_,x3,c++[r-far],rfl,by rw[JZ];rfl,by rw[QL,hl];rfl,λv hv=>?_⟩),λz=>nomatch z⟩⟩;rcases Qt.mp hv with h|h
   .exact hb v h
   .rw[Xv.mp h];omega) λacc δ' q=>by obtain⟨z,x2,c,rfl,_⟩:=q;exact⟨_,rfl⟩
 cases e3;rw[Zw]at hl;refine J6 ⟨_,_,e,dk x2,rfl,λi=>c.getD i 0,x2,?_,λi hi=>?_,rfl⟩
 .rw[OT.data_nd,hc,<-hl];exact Zoe c
 .show -P<=c.getD i 0/\c.getD i 0<=P
  rw[Xj,Xm (by omega)];exact hb _ (Uq (by omega))
theorem Nn.dg{n:Nat}(h:Nn R):Dg n R:=⟨λi j _ _=>h.nn i j,λi _=>h.z i⟩
theorem Ycb(e:∀i j,i<m->j<m->S i j=R i j):EmM m S↔EmM m R :=
 exists_congr λg=>forall_congr' λi=>forall_congr' λj=>forall_congr' λh1=>forall_congr' λh2=>by rw[e i j (by omega) h2]
theorem range_getD{n:Nat}(h:i<n):(Xu n).getD i 0=i:=by
 rw[Xj,Qy h];rfl
theorem Ztc{n:Nat}(hn:n<=10):Pts n (Xu n) (.list (Zbs 0 n)) where
 ix:=λi hi=>by
  rw[Xk]at hi;rw[range_getD hi,Zlb];unfold Zbs;rw[Zej _ hi,Xh,Q8]
 ln:=by rw[Zos,Zw,Xk]
 lt:=λi hi=>by
  rw[Xk]at hi;rw[range_getD hi];exact hi
 sm:=by rw[Xk];omega
theorem Zsu{S:FS}{N:Ze->Prop}{R:Xa->Ze->Prop}(I:Ze->Prop)(hi:EvI it δ ds)(h0:I δ)(turn:∀d∈ds,∀δ,I δ->∃δ1,g d δ=YB δ1/\EpS S δ1 I R)(fin:∀δ',I δ'->N δ'):EpS (Zae it g S) δ N R :=
 Wr (λ_=>I) hi h0 (λ_ d δ hd q=>turn d (QF hd) δ q) fin
theorem Yb7:Zgp (.int 10) (.int 18)=YB (.int 1000000000000000000):=rfl
theorem Z8v{xs:List Str}{u h0:FS}{k:Nat}(h:u δ= .nx δ'):Zzk xs u D k h0 δ= .nx δ':=by unfold Zzk;rw[h]
theorem Zki:Told Ws [exD "NoTable"] (.bool YD) :=
 Wq rfl<|Wa (Yx (Zg4 (Z0r (p:=YF) (x :="NoTable") Za rfl (by decide +kernel))) rfl) (Zan (Zxb (Zyv (p:=YD) (x :="NoTable") Za rfl (by decide +kernel)) (Zyv (p:=YD) (x :="NoTable") Za rfl (by decide +kernel))))
theorem Zz3{d:Xa}{n:Nat}(h:Sh n d)(hn:n<=64)(hp:Yd d=YD):gEq d d=YB (.bool YD)/\gNe d d=YB (.bool YF):=by
 have s:=(h.shp hn).ok;unfold gEq gNe;rw[YL (by rw[s];rfl),YL (by rw[s];rfl),Znp hp];exact⟨rfl,rfl⟩
theorem Z7p{w:Str}(h:PyData.strOk w=YD):Sh 0 (.str w):=⟨by rw[Bv];exact h,Nat.le_of_eq rfl⟩
theorem Zt3(w:Str):Yd (.str w)=YD:=by rw[Yd]
theorem Zv6{w:Str}(h:PyData.strOk w=YD):gNe (.str w) (.str w)=YB (.bool YF)/\gEq (.str w) (.str w)=YB (.bool YD):=by
 have:=Zz3 (Z7p h) (by decide) (Zt3 w);exact⟨this.2,this.1⟩
theorem Zo8:PyData.strOk "refused"=YD:=by decide +kernel
def oE(x:Int)(n:Nat)(R:Nat->Nat->Int)(z3 z4 z5:Option OT):Ze:=[YB (dk x),YB (.fz (.int n)),YB (Yl n (inG R)),z3,z4,z5]
theorem Zw9{n:Nat}(h0:0<n)(hn:n<=10)(x:Int):ToldI Zac (dk x) [.int n] λd t'=>∃R x',d=Wd n R/\Dg n R/\(∀i j,i<n->j<n->Bt 300 (R i j))/\t'=dk x':=by
 obtain⟨P,hP⟩:∃P:Int,P=100000000000000000000:=⟨_,rfl⟩;have bn:Bt 400 (n:Int):=Zm7 (m:=70) (by omega) (JQ (show(n:Int)<=100 by omega) (by decide +kernel)) (by decide);refine Zcf rfl (Zr (Zdu (Z5y (Zce (Wz rfl (Zb Z3 Zh) (by decide) (btc (by decide +kernel) (by decide +kernel)) λr x1 r0 r1=>Z0 Z3 ⟨_,Z0t _ _,_,rfl,λ_=>?_,λ_=>Zdw ?_⟩)))))
 .refine J6 (Jx rfl (W3 (Z0 Za (J9 ⟨dk x1,rfl,(Z2d hn x1).mono λd t' z=>?_⟩))))
  obtain⟨R,x',rfl,hR,bR,rfl⟩:=z;exact⟨_,rfl,R,x',rfl,hR.dg,λi j _ _=>bR i j,rfl⟩
 .refine Zr (Zrz (W3 (Jx rfl (W3 (Z0 Za (J9 ⟨dk x1,rfl,(Zi2 hn hP x1).mono λd t' z=>?_⟩))))))
  obtain⟨f,x2,rfl,hf,rfl⟩:=z;refine J9 ⟨_,Zol hn f,?_⟩;have I0:∃R:Nat->Nat->Int,Yl n (inG λi j=>((f i-f j).natAbs:Int))=Yl n (inG R)/\Nn R/\∀i j,R i j<=2*P:=by
   refine⟨λi j=>if i<n/\j<n then((f i-f j).natAbs:Int)else 0,Zij λi j hi hj=>(YL ⟨hi,hj⟩).symm,⟨λi=>?_,λi j=>?_⟩,λi j=>?_⟩
   .try dsimp only
    split<;>omega
   .try dsimp only
    split<;>omega
   .try dsimp only
    split
    .rename_i c
     have:=hf i c.1;have:=hf j c.2;omega
    .omega
  obtain⟨R,eR,hR,bR⟩:=I0;rw[eR];refine Zr (Wr (ds:=Zbs 0 2) (λk δ=>∃x R z3 z4 z5,δ=oE x n R z3 z4 z5/\Nn R/\∀i j,R i j<=2*P+10*k) (Zcd (n:=2) (Zb Z3 Zh) (by decide)) ⟨x2,R,YC,YC,YC,rfl,hR,λi j=>by have:=bR i j;omega⟩ (λk d δ hd q=>?_) λδ' q=>?_)
  .obtain⟨x,R,z3,z4,z5,rfl,hR,bR⟩:=q
   obtain⟨hk,rfl⟩:=Yz hd;rw[Q8];refine⟨_,rfl,Zr (Zb9 (Wz rfl (Zb Za Zh) (by omega) bn λa x2 a0 a1=>Zr (Zb9 (Wz rfl (Zb Za Zh) (by omega) bn λb x3 b0 b1=>?_))))⟩;obtain⟨a,rfl⟩:=Int.eq_ofNat_of_zero_le a0;obtain⟨b,rfl⟩:=Int.eq_ofNat_of_zero_le b0;have ha:a<n:=by omega
   have hb:b<n:=by omega
   refine Zdu (W0 (Zcg (Zm3 Za Za rfl)) ⟨λc=>?_,λc=>?_⟩)
   .have ne:a≠b:=λz=>by
     subst z;rw[YQ rfl]at c;cases c
    refine Zr (Zfa (Zce (Z0 (d:=.int (R a b)) (Zqu (Zdz (f:=inG R) (n:=n) (a:=a) (b:=b) (i0:=2) (i9:=4) (i10:=5) ha hb rfl rfl rfl)) (Wz rfl (Zb Z3 Zh) (by decide) (btc (by decide +kernel) (by decide +kernel)) λr x4 r0 r1=>⟨_,Zo1 _ _,R a b+r,R,n,a,b,rfl,rfl,Za,ha,Za,hb,?_⟩))));have v0:=hR.nn a b;have v1:=bR a b;have hv:0<=R a b+r/\R a b+r<=2*P+10*(k+1:Nat):=by omega
    generalize R a b+r=v at hv|-
    have val:EvV (Yk gIx (Yk gIx (Zcm 2) (Zd 4)) (Zd 5)) (oE x4 n (upR R a b v) (YB (.fz (.int k))) (YB (.fz (.int a))) (YB (.fz (.int b)))) (.int v):=(Zdz (f:=inG (upR R a b v)) (n:=n) (a:=a) (b:=b) (i0:=2) (i9:=4) (i10:=5) ha hb rfl rfl rfl).cast (YT Xl (YL ⟨rfl,rfl⟩));refine Zfa (Z0 (Zqu val) ⟨v,upR R a b v,n,b,a,rfl,rfl,Za,hb,Za,ha,x4,_,_,_,_,rfl,hR.put ne hv.1,Zon (Zon (λi j=>?_) hv.2 a b) hv.2 b a⟩);have:=bR i j;omega
   .exact Zdw ⟨x3,R,_,_,_,rfl,hR,λi j=>by have:=bR i j;omega⟩
  .obtain⟨x,R,z3,z4,z5,rfl,hR,bR⟩:=q
   exact Z58 rfl ⟨dk x,rfl,R,x,Jt n (inG R),hR.dg,λi j _ _=>Zm7 (m:=160) (hR.nn i j) (JQ (bR i j) (by rw[Zw,hP];decide +kernel)) (by decide),rfl⟩
theorem Zny{T:Xa}{o:OT}(h:Z8 [T]= .ok o):Y8 [T]= .ok o:=by
 have key:∃δ',Jg [YB (.fz T),YC,YC,YC]= .rt o δ' :=
  ⟨_,Wb (Z5 Z3) (Wb (Zjl rfl) (Wb (Z8v (Z5e (Zb Za Zh) h)) (Zhl (Zb4 (Zcg (Zm Za Z3 rfl)) (by rw[Zgy];rfl)))))⟩
 obtain⟨δ',e⟩:=key;unfold Y8;rw[Jf (np:=1) (by rfl)];show(Jg [YB (.fz T),YC,YC,YC]).told=_;rw[e];rfl
theorem Z2m{T:Xa}(h:Z8 [T]= .exn "NoTable"):Told Y8 [T] (.str "refused") :=
 Wq rfl<|Wa (Z5 Z3)<|Wa (Zjl rfl)<|Wa (Z6m (Z25 (Zb Za Zh) h) (by decide +kernel) (Z5 (Za (d:=exD "NoTable") rfl)))<|Wa (Yx (Zcg (Zm (Za (d:=exD "NoTable") rfl) Z3 rfl)) rfl) (Zan (Ja (Ze4 (Zb Z3 (Zb Z3 Zh)) (show 2<=1000 by decide)) (Jq (Zb (Zx (Zb (Za (d:=exD "NoTable") rfl) Zh) Zki) Zh) (Zxm YD)) rfl))
theorem Zoh(L:List (List Int×Rat)):gNe (Zs5 L) (Zs5 L)=YB (.bool YF):=Znn (Z73 L) (Zrh L) (by decide)
theorem Zzy(L:List (List Int×Rat)):Told Zax [Zs5 L,Zs5 L] (.bool YD):=by
 refine Wq rfl<|Wa (Yx (Zxv (Zj7 (p:=YD) (Zg4 (Zor Za rfl))) (Zcg (Zm Za Za (Zoh L)))) rfl) ?_;refine Zre (ds:=L.map ctD) (λ_ δ=>∃z,δ=[YB (.fz (Zs5 L)),YB (.fz (Zs5 L)),z]) (Zdp Za) ⟨YC,rfl⟩ (λi d δ hd q=>?_) λδ' q=>?_
 .obtain⟨z,rfl⟩:=q
  obtain⟨p,_,rfl⟩:=Qe.mp (QF hd);exact⟨_,_,rfl,.inl (Yx (Zxv (Zj7 (p:=YD) (Zg4 (Zor Za rfl))) (Zxv (Zj7 (p:=YD) (Zg4 (Zor (Ja (d:=Zv p.1) Za Z3 rfl) rfl))) (Zj7 (p:=YD) (Zg4 (Zor (Ja (d:=frD p.2) Za Z3 rfl) rfl))))) rfl),_,rfl⟩
 .obtain⟨z,rfl⟩:=q
  exact Zan Z3
theorem Zus{c:Nat}{d:Xa}(hi:δ[i]? =YB (YB (.nd ts)))(hj:j<δ.length)(h:∀t∈ts,Z7t c t=YD):Zlt i j c d δ= .nx ((δ.set i (YB (.nd (ts.map (Zv2 c d))))).set j YC):=by
 unfold Zlt;rw[hi];dsimp only;rw[YL ⟨hj,Va.mpr h⟩]
def lw(ns:List Int)(z1 z2 z3 z4 z5 z6 z7 z8 z9 z10 z11:Option OT):Ze:=[YB (.fz (Zv ns)),z1,z2,z3,z4,z5,z6,z7,z8,z9,z10,z11]
theorem Zr3(n:Nat)(R:Nat->Nat->Int):Zmd n (inG R)=Wd n R:=rfl
open Classical in
theorem Zvv(ns:List Int)(hl:ns.length<=63):Zfm [.list (ns.map Xl)]= .ok (.fz (.bool YD)):=by
 show Zfm [Zv ns]=_;have key:EpS Zf9 (lw ns YC YC YC YC YC YC YC YC YC YC YC) (λ_=>False) λd _=>d= .bool YD:=by
  refine Zr (Zsu (ds:=(1000000000000000000::Zwz ns YC (YB 10)).map Xl) (λδ=>∃z1 z2 z3 z4 z5 z6 z7 z8 z9 z10 z11,δ=lw ns z1 z2 z3 z4 z5 z6 z7 z8 z9 z10 z11)
   (Zdp (Zyt (ds:=[.int 1000000000000000000]) (es:=(Zwz ns YC (YB 10)).map Xl) (Ze4 (Zb (Zm Z3 Z3 Yb7) Zh) (show 1<=1000 by decide)) (Z5s (r:=ns) Za Yeo (Yd6 Z3) rfl) ?_)) ⟨_,_,_,_,_,_,_,_,_,_,_,rfl⟩ (λd hd δ q=>?_) λδ' q=>?_)
  .have:(Zwz ns YC (YB 10)).length<=ns.length:=by
    unfold Zwz;rw[Um,BZ];omega
   rw[Xg];show 1+_<=_;omega
  .obtain⟨z1,z2,z3,z4,z5,z6,z7,z8,z9,z10,z11,rfl⟩:=q
   obtain⟨c,_,rfl⟩:=Qe.mp hd;clear hd;obtain⟨x0,eD⟩:=Z1e c;obtain⟨P,hP⟩:∃P:Int,P=100000000000000000000:=⟨_,rfl⟩;refine⟨_,rfl,Zr (Ze0 (Zuc (Zb Za Zh) eD) (Zr (Zb9 (Jx rfl (W3 (Zce (Z0 Z3 (Wz rfl (Zb Z3 Zh) (by decide) (btc (by decide +kernel) (by decide +kernel)) λr x1 r0 r1=>⟨_,Zo1 _ _,J9 ⟨dk x1,rfl,?_⟩⟩))))))))⟩;obtain⟨n,hx⟩:∃n:Nat,1+r=(n:Int):=⟨(1+r).toNat,by omega⟩;rw[hx];have n0:0<n:=by omega
   have n1:n<=10:=by omega
   refine(Zi2 n1 hP x1).mono λd t' z=>?_;obtain⟨f,x2,rfl,hf,rfl⟩:=z;show EpS _ (lw ns (YB (.fz (.int c))) (YB (dk x2)) (YB (.fz (Zas n f))) z4 z5 z6 z7 z8 z9 z10 z11) _ _;refine Zr (Zb9 (Jx rfl (J9 ⟨dk x2,rfl,(Ztg x2).mono λd t z=>?_⟩)));obtain⟨b,x3,rfl,b0,b1,rfl⟩:=z;have bb:Bt 300 b:=Bt.mono (m:=40) (Bt.of_lt (by omega) (by omega)) (by decide);have bp:0<b:=by omega
   show EpS _ (lw ns (YB (.fz (.int c))) (YB (dk x3)) (YB (.fz (Zas n f))) (YB (.fz (.int b))) z5 z6 z7 z8 z9 z10 z11) _ _;obtain⟨R,hR⟩:∃R:Nat->Nat->Int,R= λi j=>((f i-f j).natAbs:Int):=⟨_,rfl⟩;have eT:∀{δ:Ze},δ[3]? =YB (YB (.fz (Zas n f)))->δ[4]? =YB (YB (.fz (.int b)))->EvV (Z4 Yi (Zc (Z4 Yh (Zc (Zd 3) Zn)) (Zc (Zd 4) Zn))) δ (tbD (Zgd n R b)):=λh3 h4=>Zx (Zb (Zx (d:=Wd n R) (Zb (Za h3) Zh) (Told.of (Zol n1 f) (by rw[Jt,Zr3,hR]))) (Zb (Za h4) Zh)) (Zgf n1 R bp bb);refine Zr (Wh (Z5 (eT rfl rfl)) ?_);show EpS _ (lw ns (YB (.fz (.int c))) (YB (dk x3)) (YB (.fz (Zas n f))) (YB (.fz (.int b))) (YB (.fz (tbD (Zgd n R b)))) z6 z7 z8 z9 z10 z11) _ _;have dR:Dg n R:=by
    rw[hR];exact⟨λi j _ _=>by omega,λi _=>by show((f i-f i).natAbs:Int)=0;omega⟩
   have bR:∀i j,i<n->j<n->Bt 300 (R i j):=λi j hi hj=>by
    have:=hf i hi;have:=hf j hj;rw[hR];show Bt 300 ((f i-f j).natAbs:Int);refine Zm7 (m:=160) (by omega) (JQ (show((f i-f j).natAbs:Int)<=2*P by omega) (by rw[hP];decide +kernel)) (by decide)
   have fR:Zm8 n R f:=λi j _ _=>by rw[hR]
   obtain⟨ts,eY,eYd,eYo⟩:=Zeg n0 n1 dR bp bb bR fR;have eYD:(OT.nd ts).data=Zs5 (Z9n n f b):=by rw[OT.data_nd,eYd];rfl
   refine Zr (Zsu (ds:=Zbs 0 2) (λδ=>∃z6 z7 z8,δ=lw ns (YB (.fz (.int c))) (YB (dk x3)) (YB (.fz (Zas n f))) (YB (.fz (.int b))) (YB (.fz (tbD (Zgd n R b)))) z6 z7 z8 z9 z10 z11) (Zcd (n:=2) (Zb Z3 Zh) (by decide)) ⟨_,_,_,rfl⟩ (λd _ δ q=>?_) λδ' q=>?_)
   .obtain⟨z6,z7,z8,rfl⟩:=q
    refine⟨_,rfl,Zr (Ze0 (Zuc (Zb Za Zh) (Zny eY)) ?_)⟩;show EpS _ (lw ns (YB (.fz (.int c))) (YB (dk x3)) (YB (.fz (Zas n f))) (YB (.fz (.int b))) (YB (.fz (tbD (Zgd n R b)))) (YB (.fz d)) (YB (.nd ts)) z8 z9 z10 z11) _ _;refine Zr (Wh (Yx (Zj7 (p:=YD) (Zg4 (Zx (Zb (Zcx rfl eYD) (Zb (Zx (Zb Za (Zb Za Zh)) (Zi5 n0 n1 f bp bb)) Zh)) (Zzy _)))) rfl) ?_);refine Zr (Wh (Yx (Zcg (Zm Za (eT rfl rfl) (Znn (Yag _) (Zxa _) (by decide)))) rfl) ?_);exact Wh (Zus rfl (show 8<12 by decide) eYo) ⟨_,_,_,rfl⟩
   .obtain⟨z6,z7,z8,rfl⟩:=q
    generalize(YB (OT.fz (tbD (Zgd n R b))):Option OT)=z5;clear eY eYd eYo eYD fR bR dR hR eT ts R hf hx r0 r1 r x1 eD x0;refine Zr (Zb9 (Jx rfl (W3 (Zce (Z0 Z3 (Wz rfl (Zb Z3 Zh) (by decide) (btc (by decide +kernel) (by decide +kernel)) λr x4 r0 r1=>⟨_,Zo1 _ _,J9 ⟨dk x4,rfl,?_⟩⟩))))));obtain⟨m,hx⟩:∃m:Nat,1+r=(m:Int):=⟨(1+r).toNat,by omega⟩;rw[hx];have m0:0<m:=by omega
    have m1:m<=10:=by omega
    refine(Zw9 m0 m1 x4).mono λd t' z=>?_;obtain⟨R,x5,rfl,dR,bR,rfl⟩:=z;show EpS _ (lw ns (YB (.fz (.int c))) (YB (dk x5)) (YB (.fz (Zas n f))) (YB (.fz (.int b))) z5 z6 z7 z8 (YB (.fz (Wd m R))) z10 z11) _ _;obtain⟨pl,eL,eP⟩:=Zpc (R:=R) (Ztc m1) (by rw[Xk];omega) dR.nn;rw[Xk]at eL eP;have sbR:∀i j,i<m->j<m->sb R (Xu m) i j=R i j:=λi j hi hj=>by unfold sb;rw[range_getD hi,range_getD hj]
    have iff:EmM m (sb R (Xu m))↔EmM m R:=Ycb sbR;refine Zr (Wh (Z5 (Zx (Zb Za (Zb ((Yan (Zb (Jq (Zb Za Zh) (Zel m R)) Zh) (by omega) (by omega)).cast (by rw[XX])) Zh)) eL)) ?_);refine Zr (Wh (Z5 Z3) ?_);have eTab:∀{δ:Ze},δ[9]? =YB (YB (.fz (Wd m R)))->δ[4]? =YB (YB (.fz (.int b)))->EvV (Z4 Yi (Zc (Zd 9) (Zc (Zd 4) Zn))) δ (tbD (Zgd m R b)):=λh9 h4=>Zx (Zb (Za h9) (Zb (Za h4) Zh)) (Zgf m1 R bp bb)
    by_cases em:EmM m R
    .rw[YL (iff.mpr em)]
     obtain⟨pl1,pl2⟩:=eP (iff.mpr em);have er:Zv pl=Zas m λi=>pl.getD i 0:=by rw[<-pl1];exact Zoe pl
     rw[er];have fR:Zm8 m R λi=>pl.getD i 0:=λi j h1 h2=>by
      rw[<-sbR i j (by omega) h2];exact pl2.1 i j h1 (by omega)
     generalize(λi=>pl.getD i 0)=g at fR;obtain⟨ts,eY,eYd,_⟩:=Zeg m0 m1 dR bp bb bR fR;have eYD:(OT.nd ts).data=Zs5 (Z9n m g b):=by rw[OT.data_nd,eYd];rfl
     refine Zr (Wh (Zb4 (Zcg (Zm Za Z3 (Zo2 _))) (Z5 (Zx (Zb Za (Zb Za Zh)) (Zi5 m0 m1 g bp bb)))) ?_);exact Wh (Yx (Zcg (Zm (Zx (Zb (eTab rfl rfl) Zh) (Told.of (Zny eY) eYD)) Za (Zoh _))) rfl) ⟨_,_,_,_,_,_,_,_,_,_,_,rfl⟩
    .rw[YM λz=>em (iff.mp z)]
     refine Zr (Wh (Yx (Zcg (Zm Za Z3 (Zo2 _))) rfl) ?_);exact Wh (Yx (Zcg (Zm (Zx (Zb (eTab rfl rfl) Zh) (Z2m (Zk8 m0 m1 dR bp bb bR em))) Za (Zv6 Zo8).1)) rfl) ⟨_,_,_,_,_,_,_,_,_,_,_,rfl⟩
  .obtain⟨z1,z2,z3,z4,z5,z6,z7,z8,z9,z10,z11,rfl⟩:=q
   exact J6 (Z0 Z3 rfl)
 rcases key with⟨_,_,z⟩|⟨o,δ',e,h⟩
 .exact z.elim
 .exact Told.ok (Wq rfl ⟨o,δ',e,h⟩)
end My
namespace L2
open PySem PySem.Spec PyProof.Rows
structure Ei(K:Xc)(x:Str)(st:YK)(f:YG)(fd:XF):Prop where
 a:Ql K XN x=YB (YB (.ref f))
 F:Fun K x x st f fd
structure En(K:Xc)(mg:Str->Option Xd)(x:Str)(st:YK)(ps:List Str)(f:YG)(fd:XF):Prop where
 F:Fun K x x st f fd
 b:Binds K fd ps []
 m:mg x=YB (.ref f)
structure Ec(K:Xc)(mg:Str->Option Xd)(x:Str)(f:YG):Prop where
 m:mg x=YB (.ref f)
 a:Uy K x f
section
variable {f:YG}{fd:XF}
theorem en0(X:K.In h)(G:h.Ns XN mg)(q:Ei K x st f fd)(hb:∀(kV doc pm:Xd) (an:Option YG) (cdv ct:Xd) (us:List Xd),us.length=ps.length->bindArgs (VF x x (Zfr st) (Jw st) (Zj st) .none kV doc pm an cdv ct) ⟨us,[]⟩=pure (ps.zip us)):En K mg x st ps f fd:=⟨q.F,q.F.binds hb,PySem.W.mg_of X G q.a⟩
abbrev Bd(x:Str)(st:YK)(ps:List Str)(us:List Xd):Prop:=∀(kV doc pm:Xd) (an:Option YG) (cdv ct:Xd),bindArgs (VF x x (Zfr st) (Jw st) (Zj st) .none kV doc pm an cdv ct) ⟨us,[]⟩=pure (ps.zip us)
theorem l_c{n:Nat}(h:us.length=n+1):∃u vs,us=u::vs/\vs.length=n:=by
 cases us with
 | nil=>cases h
 | cons u vs=>exact⟨u,vs,rfl,Nat.succ.inj h⟩
theorem en1(X:K.In h)(G:h.Ns XN mg)(q:Ei K x st f fd){p0:Str}(hb:∀v0,Bd x st [p0] [v0]:=by exact λ_ _ _ _ _ _ _=>rfl):En K mg x st [p0] f fd:=en0 X G q λa b c d e g us hl=>by
 have h0:us.length=1:=hl;obtain⟨u0,us0,e0,h1⟩:=l_c h0;cases Q5 h1;subst e0;exact hb u0 a b c d e g
theorem en2(X:K.In h)(G:h.Ns XN mg)(q:Ei K x st f fd){p0 p1:Str}(hb:∀v0 v1,Bd x st [p0,p1] [v0,v1]:=by exact λ_ _ _ _ _ _ _ _=>rfl):En K mg x st [p0,p1] f fd:=en0 X G q λa b c d e g us hl=>by
 have h0:us.length=2:=hl;obtain⟨u0,us0,e0,h1⟩:=l_c h0;obtain⟨u1,us1,e1,h2⟩:=l_c h1;cases Q5 h2;subst e1;subst e0;exact hb u0 u1 a b c d e g
theorem en3(X:K.In h)(G:h.Ns XN mg)(q:Ei K x st f fd){p0 p1 p2:Str}(hb:∀v0 v1 v2,Bd x st [p0,p1,p2] [v0,v1,v2]:=by exact λ_ _ _ _ _ _ _ _ _=>rfl):En K mg x st [p0,p1,p2] f fd:=en0 X G q λa b c d e g us hl=>by
 have h0:us.length=3:=hl;obtain⟨u0,us0,e0,h1⟩:=l_c h0;obtain⟨u1,us1,e1,h2⟩:=l_c h1;obtain⟨u2,us2,e2,h3⟩:=l_c h2;cases Q5 h3;subst e2;subst e1;subst e0;exact hb u0 u1 u2 a b c d e g
theorem en4(X:K.In h)(G:h.Ns XN mg)(q:Ei K x st f fd){p0 p1 p2 p3:Str}(hb:∀v0 v1 v2 v3,Bd x st [p0,p1,p2,p3] [v0,v1,v2,v3]:=by exact λ_ _ _ _ _ _ _ _ _ _=>rfl):En K mg x st [p0,p1,p2,p3] f fd:=en0 X G q λa b c d e g us hl=>by
 have h0:us.length=4:=hl;obtain⟨u0,us0,e0,h1⟩:=l_c h0;obtain⟨u1,us1,e1,h2⟩:=l_c h1;obtain⟨u2,us2,e2,h3⟩:=l_c h2;obtain⟨u3,us3,e3,h4⟩:=l_c h3;cases Q5 h4;subst e3;subst e2;subst e1;subst e0;exact hb u0 u1 u2 u3 a b c d e g
theorem ec(X:K.In h)(G:h.Ns XN mg)(a:Ql K XN x=YB (YB (.ref f))):Ec K mg x f:=⟨PySem.W.mg_of X G a,a⟩
end
theorem fsc{P:List Str}{sc:U3}(h1:sc.kind= .function:=by rfl)(h2:sc.isCoroutine=YF:=by rfl)(h3:sc.isGenerator=YF:=by rfl)(h4:N.Nodup:=by decide +kernel)(h5:N.take P.length=P:=by rfl)(h6:∀x∈P,sc.names.lookup x=YB .local\/sc.names.lookup x=YB .cell:=by decide +kernel)(h7:∀y∈sc.names,y.2≠ .free:=by decide +kernel):Zq N P sc:=⟨h1,h2,h3,h4,h5,h6,h7⟩
end L2
namespace My
open PySem L2 PySem.Spec
def top(i:Nat):YK:=PySem.Challenge.pw_farcuts_k55_cuts_of_lines.main.body.getD i (.Pass ⟨0,0,0,0⟩)
abbrev Zfp:YK:=top 37
abbrev Zcq:YK:=top 44
abbrev Zf4:YK:=top 35
abbrev Zfo:YK:=top 36
abbrev Zbj:YK:=top 38
abbrev Zhp:YK:=top 50
abbrev Zff:YK:=top 51
abbrev Zd5:YK:=top 46
abbrev Zft:YK:=top 48
abbrev Zcb:YK:=top 47
abbrev Zca:YK:=top 41
abbrev Zc4:YK:=top 40
abbrev Zbm:YK:=top 42
abbrev Zfq:YK:=top 43
abbrev Zc2:YK:=top 45
abbrev Zd2:YK:=top 53
abbrev Zea:YK:=top 39
abbrev Zab:YK:=top 49
abbrev Zfs:YK:=top 13
abbrev Zbr:YK:=top 25
abbrev Zjv:YK:=top 26
abbrev Zdh:YK:=top 32
abbrev Jc:YK:=top 14
abbrev Zf5:YK:=top 15
abbrev Zfw:YK:=top 16
abbrev Zb8:YK:=top 28
abbrev Zf1:YK:=top 18
abbrev Zb6:YK:=top 30
abbrev Zf8:YK:=top 29
abbrev Zd6:YK:=top 31
abbrev Zak:YK:=top 20
abbrev Zbh:YK:=top 22
abbrev Zee:YK:=top 21
abbrev Zcp:YK:=top 23
abbrev Zeb:YK:=top 33
abbrev Zfl:YK:=top 52
abbrev Zzt:YK:=top 54
set_option genInjectivity false in
set_option genSizeOfSpec false in
structure Txt(K:Xc)(mg:Str->Option Xd)(f:Nat->YG)(fd:Nat->XF)(cls:Nat->YG):Prop where
 e_law_take:En K mg "_law_take" Zfp ["deck","many"] (f 0) (fd 0)
 e_law_bottom:En K mg "_law_bottom" Zcq ["deck"] (f 1) (fd 1)
 e_law_stir:En K mg "_law_stir" Zf4 ["cell","k"] (f 2) (fd 2)
 e_law_deck:En K mg "_law_deck" Zfo ["cell"] (f 3) (fd 3)
 e_law_fraction:En K mg "_law_fraction" Zbj ["top","bottom"] (f 4) (fd 4)
 e_law_due:En K mg "_law_due" Zhp ["places","bottom"] (f 5) (fd 5)
 e_law_good:En K mg "_law_good" Zff ["found","due"] (f 6) (fd 6)
 e_law_lined:En K mg "_law_lined" Zd5 ["places"] (f 7) (fd 7)
 e_law_fits:En K mg "_law_fits" Zft ["rows","points","places","place"] (f 8) (fd 8)
 e_law_on_line:En K mg "_law_on_line" Zcb ["rows","points"] (f 9) (fd 9)
 e_law_add_cut:En K mg "_law_add_cut" Zca ["rows","bits","weight"] (f 10) (fd 10)
 e_law_nought:En K mg "_law_nought" Zc4 ["n"] (f 11) (fd 11)
 e_law_shortest:En K mg "_law_shortest" Zbm ["rows"] (f 12) (fd 12)
 e_law_long:En K mg "_law_long" Zfq ["deck","n"] (f 13) (fd 13)
 e_law_places:En K mg "_law_places" Zc2 ["deck","n"] (f 14) (fd 14)
 e_law_other:En K mg "_law_other" Zd2 ["deck","n"] (f 15) (fd 15)
 e_law_table:En K mg "_law_table" Zea ["rows","bottom"] (f 16) (fd 16)
 e_law_is_refused:En K mg "_law_is_refused" Zab ["caught"] (f 17) (fd 17)
 e_is_whole:En K mg "is_whole" Zfs ["thing"] (f 18) (fd 18)
 e_check_points:En K mg "check_points" Zbr ["n","points"] (f 19) (fd 19)
 e_cut_of:En K mg "cut_of" Zjv ["n","points"] (f 20) (fd 20)
 e_cut_beyond:En K mg "cut_beyond" Zdh ["places","least"] (f 21) (fd 21)
 e_greatest_divisor:En K mg "greatest_divisor" Jc ["a","b"] (f 22) (fd 22)
 e_in_least:En K mg "in_least" Zf5 ["top","bottom"] (f 23) (fd 23)
 e_fraction:En K mg "fraction" Zfw ["top","bottom"] (f 24) (fd 24)
 e_first_apart:En K mg "first_apart" Zb8 ["rows"] (f 25) (fd 25)
 e_pairs_of:En K mg "pairs_of" Zf1 ["n"] (f 26) (fd 26)
 e_fits_places:En K mg "fits_places" Zb6 ["rows","places"] (f 27) (fd 27)
 e_place_of:En K mg "place_of" Zf8 ["rows","apart","point"] (f 28) (fd 28)
 e_places_of:En K mg "places_of" Zd6 ["rows"] (f 29) (fd 29)
 e_shared_bottom:En K mg "shared_bottom" Zak ["numbers"] (f 30) (fd 30)
 e_table_bottom:En K mg "table_bottom" Zbh ["table"] (f 31) (fd 31)
 e_tops_over:En K mg "tops_over" Zee ["bottom","numbers"] (f 32) (fd 32)
 e_table_over:En K mg "table_over" Zcp ["bottom","table"] (f 33) (fd 33)
 e_line_cuts:En K mg "line_cuts" Zeb ["table"] (f 34) (fd 34)
 e_law_told:En K mg "_law_told" Zfl ["table"] (f 35) (fd 35)
 e_law:En K mg "law" Zzt ["script"] (f 36) (fd 36)
 z_ValueError:mg "ValueError"=YC
 z_abs:mg "abs"=YC
 z_bool:mg "bool"=YC
 z_enumerate:mg "enumerate"=YC
 z_int:mg "int"=YC
 z_isinstance:mg "isinstance"=YC
 z_len:mg "len"=YC
 z_list:mg "list"=YC
 z_min:mg "min"=YC
 z_range:mg "range"=YC
 z_set:mg "set"=YC
 z_sorted:mg "sorted"=YC
 z_tuple:mg "tuple"=YC
 z_zip:mg "zip"=YC
 c_CutError:Ec K mg "CutError" (cls 0)
 c_NoCut:Ec K mg "NoCut" (cls 1)
 c_NoName:Ec K mg "NoName" (cls 2)
 c_NoNumber:Ec K mg "NoNumber" (cls 3)
 c_NoOrder:Ec K mg "NoOrder" (cls 4)
 c_NoPoint:Ec K mg "NoPoint" (cls 5)
 c_NoRow:Ec K mg "NoRow" (cls 6)
 c_NoTable:Ec K mg "NoTable" (cls 7)
 c_NoText:Ec K mg "NoText" (cls 8)
 c_NoWeb:Ec K mg "NoWeb" (cls 9)
 c_TooMany:Ec K mg "TooMany" (cls 10)
 x_NoCut:Zbl K (cls 1)
 x_NoNumber:Zbl K (cls 3)
 x_NoTable:Zbl K (cls 7)
 r_CutError:Zhi K (cls 0)
 r_NoCut:Zhi K (cls 1)
 r_NoNumber:Zhi K (cls 3)
 r_NoTable:Zhi K (cls 7)
 u_NoCut_CutError:Be K (.ref (cls 1)) (.ref (cls 0))=YB YD
 kt_NoCut_NoTable:Qi K (.ref (cls 1)) (.ref (cls 7))=YB YF
 kt_NoCut_ValueError:Qi K (.ref (cls 1)) (.type "ValueError")=YB YD
 ka_NoCut_0:Bu K (.ref (cls 1)) [.ref (cls 1),.ref (cls 2),.ref (cls 3),.ref (cls 4),.ref (cls 5),.ref (cls 6),.ref (cls 8),.ref (cls 9),.ref (cls 10)]=YB YD
 u_NoNumber_CutError:Be K (.ref (cls 3)) (.ref (cls 0))=YB YD
 kt_NoNumber_NoTable:Qi K (.ref (cls 3)) (.ref (cls 7))=YB YF
 kt_NoNumber_ValueError:Qi K (.ref (cls 3)) (.type "ValueError")=YB YD
 ka_NoNumber_0:Bu K (.ref (cls 3)) [.ref (cls 1),.ref (cls 2),.ref (cls 3),.ref (cls 4),.ref (cls 5),.ref (cls 6),.ref (cls 8),.ref (cls 9),.ref (cls 10)]=YB YD
 u_NoTable_CutError:Be K (.ref (cls 7)) (.ref (cls 0))=YB YD
 kt_NoTable_NoTable:Qi K (.ref (cls 7)) (.ref (cls 7))=YB YD
 kt_NoTable_ValueError:Qi K (.ref (cls 7)) (.type "ValueError")=YB YD
 ka_NoTable_0:Bu K (.ref (cls 7)) [.ref (cls 1),.ref (cls 2),.ref (cls 3),.ref (cls 4),.ref (cls 5),.ref (cls 6),.ref (cls 8),.ref (cls 9),.ref (cls 10)]=YB YF
end My
variable {f cls:Nat->YG}{fd:Nat->XF}{p0 p1:Str}
namespace My
open PySem L2 PySem.Spec
theorem Txt.kx_NoTable(T:Txt K mg f fd cls):∀x∈xsL,∃C,Uy K x C/\Qi K (.ref C) (.ref (cls 7))=YB (Zpf x "NoTable"):=λx hx=>by
 simp only[xsL,Xi,Bs,or_false]at hx;rcases hx with rfl|rfl|rfl
 .exact⟨_,T.c_NoCut.a,T.kt_NoCut_NoTable.trans (YT YB (by decide +kernel))⟩
 .exact⟨_,T.c_NoNumber.a,T.kt_NoNumber_NoTable.trans (YT YB (by decide +kernel))⟩
 .exact⟨_,T.c_NoTable.a,T.kt_NoTable_NoTable.trans (YT YB (by decide +kernel))⟩
theorem Txt.kx_ValueError(T:Txt K mg f fd cls):∀x∈xsL,∃C,Uy K x C/\Qi K (.ref C) (.type "ValueError")=YB (Zpf x "ValueError"):=λx hx=>by
 simp only[xsL,Xi,Bs,or_false]at hx;rcases hx with rfl|rfl|rfl
 .exact⟨_,T.c_NoCut.a,T.kt_NoCut_ValueError.trans (YT YB (by decide +kernel))⟩
 .exact⟨_,T.c_NoNumber.a,T.kt_NoNumber_ValueError.trans (YT YB (by decide +kernel))⟩
 .exact⟨_,T.c_NoTable.a,T.kt_NoTable_ValueError.trans (YT YB (by decide +kernel))⟩
theorem Txt.kxt_0(T:Txt K mg f fd cls):∀x∈xsL,∃C,Uy K x C/\Bu K (.ref C) [.ref (cls 1),.ref (cls 2),.ref (cls 3),.ref (cls 4),.ref (cls 5),.ref (cls 6),.ref (cls 8),.ref (cls 9),.ref (cls 10)]=YB ((["NoCut","NoName","NoNumber","NoOrder","NoPoint","NoRow","NoText","NoWeb","TooMany"]:List Str).any (Zpf x)):=λx hx=>by
 simp only[xsL,Xi,Bs,or_false]at hx;rcases hx with rfl|rfl|rfl
 .exact⟨_,T.c_NoCut.a,T.ka_NoCut_0.trans (YT YB (by decide +kernel))⟩
 .exact⟨_,T.c_NoNumber.a,T.ka_NoNumber_0.trans (YT YB (by decide +kernel))⟩
 .exact⟨_,T.c_NoTable.a,T.ka_NoTable_0.trans (YT YB (by decide +kernel))⟩
theorem Txt.ku_CutError(T:Txt K mg f fd cls):∀x∈xsL,Zpf x "CutError"=YD->∃C,Uy K x C/\Zbl K C/\Be K (.ref C) (.ref (cls 0))=YB YD:=λx hx=>by
 simp only[xsL,Xi,Bs,or_false]at hx;rcases hx with rfl|rfl|rfl
 .exact λ_=>⟨_,T.c_NoCut.a,T.x_NoCut,T.u_NoCut_CutError⟩
 .exact λ_=>⟨_,T.c_NoNumber.a,T.x_NoNumber,T.u_NoNumber_CutError⟩
 .exact λ_=>⟨_,T.c_NoTable.a,T.x_NoTable,T.u_NoTable_CutError⟩
section
variable {base:YH}
theorem Zh3:Zq ["deck","many","taken"] ["deck","many"] (Zj Zfp):=fsc
theorem Za2(T:Txt K mg f fd cls):FnOk P w K mg base CX0 1 (f 0) (fd 0) ["deck","many"] (spI K (sI Zi)):=by
 refine Zg8 T.e_law_take.F Zh3 (S:=Zdc) rfl rfl (λcdv A outer s H E hr=>?_);have hu:=hr.units;exact(xsq (xst 2 Zh3.nd (Z4s (xix (xo 0) xci) (xv 1))) (xsq (Zyh (Zyz 0 (Zx3 (xix (xo 0) xci) (xv 1)) xci)) (Zf (xrt (xv 2)))))
theorem Zks:Zq ["deck"] ["deck"] (Zj Zcq):=fsc
theorem Zkd(T:Txt K mg f fd cls):FnOk P w K mg base CX0 2 (f 1) (fd 1) ["deck"] (spI K (sI Jv)):=by
 have G_law_take:=Za2 (P:=P) (w:=w) (base:=base) T;refine Zg8 T.e_law_bottom.F Zks (S:=Zby) rfl rfl (λcdv A outer s H E hr=>?_);have hu:=hr.units;exact(Zf (xrt (Zjz xci (Z1 (Yg (i:=0) G_law_take (hr.mono (by decide)) (by rfl) T.e_law_take.m T.e_law_take.F.kp T.e_law_take.b J4 (xa1 (xix (xls (Zk xci (Zk xci (xa1 (Zqi xci xci))))) (Z1 (Yg (i:=0) G_law_take (hr.mono (by decide)) (by rfl) T.e_law_take.m T.e_law_take.F.kp T.e_law_take.b J4 (xa1 xci))))))))))
theorem Zd0:Zq ["cell","k","number"] ["cell","k"] (Zj Zf4):=fsc
theorem Znk(T:Txt K mg f fd cls):FnOk P w K mg base CX0 1 (f 2) (fd 2) ["cell","k"] (spD K (sD Yc)):=by
 refine Yr T.e_law_stir.F Zd0 (S:=Zc5) rfl rfl (λcdv A outer s H E hr=>?_);have hu:=hr.units;exact(xsq (xst 2 Zd0.nd (Zjz (Zjz (Zs3 (Z4s (xv 0) (Zqi xci xci)) xci) (Zs3 (Zs3 (Zqi xci xci) (Zjz (xv 1) xci)) (Zjz (xv 1) xci))) (xv 1))) (xsq (xst 2 Zd0.nd (Zjz (Zs3 (xv 2) (xv 2)) (Zs3 xci (xv 2)))) (Zf (xrt (Zx3 (Z4s (Zs3 (xv 2) (xv 2)) (Zjz (Zqi xci xci) xci)) xci)))))
theorem Zng:Zq ["cell"] ["cell"] (Zj Zfo):=fsc
theorem Zm5(T:Txt K mg f fd cls):FnOk P w K mg base CX0 2 (f 3) (fd 3) ["cell"] (spD K (sD Jh)):=by
 have G_law_stir:=Znk (P:=P) (w:=w) (base:=base) T;refine Yr T.e_law_deck.F Zng (S:=Jm) rfl rfl (λcdv A outer s H E hr=>?_);have hu:=hr.units;exact(xsq (xif (xge (xv 0) (Zqi xci xci)) (Zf (xrt (xls (xa1 (Zuk (xv 0) (Zqi xci xci)))))) xnl) (Zf (xrt (xls (xa1 (Zjz (Zs3 (Zjz (Zs3 (xcl G_law_stir (hr.mono (by decide)) T.e_law_stir.m T.e_law_stir.F.kp T.e_law_stir.b (Zk (xv 0) (xa1 xci))) (Zqi xci xci)) (xcl G_law_stir (hr.mono (by decide)) T.e_law_stir.m T.e_law_stir.F.kp T.e_law_stir.b (Zk (xv 0) (xa1 xci)))) (Zqi xci xci)) (xcl G_law_stir (hr.mono (by decide)) T.e_law_stir.m T.e_law_stir.F.kp T.e_law_stir.b (Zk (xv 0) (xa1 xci)))))))))
theorem Y7:Zq ["top","bottom","one","other","rest"] ["top","bottom"] (Zj Zbj):=fsc
theorem Zcz(T:Txt K mg f fd cls):FnOk P w K mg base CX0 1 (f 4) (fd 4) ["top","bottom"] (spD K (sD Wc)):=by
 refine Yr T.e_law_fraction.F Y7 (S:=Zaq) rfl rfl (λcdv A outer s H E hr=>?_);have hu:=hr.units;exact(xsq (xst 2 Y7.nd (Zc8 Znb (Zkk Zhk Zb3 (by rfl) T.z_abs L2.B.boot_abs (xa1 (xv 0))))) (xsq (xst 3 Y7.nd (xv 1)) (xsq (Znx (Zn4 X3 (xne hu (xv 3) xci) (xsq (xst 4 Y7.nd (Z4s (xv 2) (xv 3))) (xsq (xst 2 Y7.nd (xv 3)) (Zf (xst 3 Y7.nd (xv 4))))))) (Zf (xrt (xtp (Zk (Zx3 (xv 0) (xv 2)) (xa1 (Zx3 (xv 1) (xv 2))))))))))
theorem Zaj:Zq ["places","bottom","rows","found","k","side"] ["places","bottom"] (Zj Zhp):=fsc
theorem Zpe(T:Txt K mg f fd cls):FnOk P w K mg base CX0 2 (f 5) (fd 5) ["places","bottom"] (spD K (sD Jy)):=by
 have G_law_fraction:=Zcz (P:=P) (w:=w) (base:=base) T;refine Yr T.e_law_due.F Zaj (S:=Zdo) rfl rfl (λcdv A outer s H E hr=>?_);have hu:=hr.units;exact(xsq (Zok (Znv (i:=2) Zaj.nd rfl (Qm rfl) (Zfu (Zh0 (by rfl) (by rfl) T.z_sorted L2.B.boot_sorted (by rfl) T.z_set L2.B.boot_set (xa1 (xv 0)))))) (xsq (xso 3 Zaj.nd (xls xa0)) (xsq (xfr X3 rfl (Z07 (Zh8 (by rfl) T.z_range (Zk xci (xa1 (xln T.z_len (xa1 (xv 2))))))) (xg 4 Zaj.nd) (xsq (Zm4 (Zbx (i:=5) (own:=["point"]) (caps:=[0,2,4]) (N':=["point","places","rows","k"]) YF Zaj.nd rfl (Qx rfl) (by exact⟨rfl,by decide +kernel,rfl,by decide +kernel,rfl,rfl⟩) (by rfl) (by decide) (Za8 (Zz (by rfl) T.z_range (xa1 (xln T.z_len (xa1 (xv 0)))))) (λ_ _ _ _ _=>(xg 0 (by show JC (["point","places","rows","k"]:List Str);decide +kernel))) (λ_ _ _ _ _=>(Zfn (xge (xix (xv 1) (xv 0)) (xix (xv 2) (xv 3))))) (λ_ _ _ _ _=>(xv 0)))) (xsq (xif (Zbe Zvw (Zbb (Zyc rfl) Zwc xci (xv 5) (hm:=(by with_unfolding_all rfl)))) (Zf (Zm4 (Zbx (i:=5) (own:=["point"]) (caps:=[0,2,4]) (N':=["point","places","rows","k"]) YF Zaj.nd rfl (Qx rfl) (by exact⟨rfl,by decide +kernel,rfl,by decide +kernel,rfl,rfl⟩) (by rfl) (by decide) (Za8 (Zz (by rfl) T.z_range (xa1 (xln T.z_len (xa1 (xv 0)))))) (λ_ _ _ _ _=>(xg 0 (by show JC (["point","places","rows","k"]:List Str);decide +kernel))) (λ_ _ _ _ _=>(Zfn (xlt (xix (xv 1) (xv 0)) (xix (xv 2) (xv 3))))) (λ_ _ _ _ _=>(xv 0))))) xnl) (Zf (Zfd (Ze1 3 (xtp (Zk (xv 5) (xa1 (xcl G_law_fraction (hr.mono (by decide)) T.e_law_fraction.m T.e_law_fraction.F.kp T.e_law_fraction.b (Zk (Zuk (xix (xv 2) (xv 4)) (xix (xv 2) (Zuk (xv 4) xci))) (xa1 (xv 1))))))))))))) (Zf (Zjf (Zi7 3 Zy6 hu (by rfl) T.z_sorted L2.B.boot_sorted))))))
theorem Zht:Zq ["found","due","row"] ["found","due"] (Zj Zff):=fsc
theorem Zm6(T:Txt K mg f fd cls):FnOk P w K mg base CX0 1 (f 6) (fd 6) ["found","due"] (spD K (sD Zax)):=by
 refine Yr T.e_law_good.F Zht (S:=Zc3) rfl rfl (λcdv A outer s H E hr=>?_);have hu:=hr.units;exact(xsq (xif (MW.mt (Zdy (Zd4 (xno (J0 (Jz (Ziz (Zpy (by decide) (by rfl) T.z_isinstance L2.B.boot_isinstance (by rfl) T.z_list L2.B.boot_list (xv 0))) (λ_=>rfl)))) (Zc0 (xne hu (xv 0) (xv 1)))))) (Zf (xrt (Zgl Zgo))) xnl) (xsq (xfr X3 rfl (xil (xv 0)) (xg 2 Zht.nd) (Zf (xif (MW.mt (Zdy (Zd4 (xno (J0 (Jz (Ziz (Zpy (by decide) (by rfl) T.z_isinstance L2.B.boot_isinstance (by rfl) T.z_tuple L2.B.boot_tuple (xv 2))) (λ_=>rfl)))) (Zdy (Zd4 (xno (J0 (Jz (Ziz (Zpy (by decide) (by rfl) T.z_isinstance L2.B.boot_isinstance (by rfl) T.z_list L2.B.boot_list (xix (xv 2) xci))) (λ_=>rfl)))) (Zc0 (xno (J0 (Jz (Ziz (Zpy (by decide) (by rfl) T.z_isinstance L2.B.boot_isinstance (by rfl) T.z_tuple L2.B.boot_tuple (xix (xv 2) xci))) (λ_=>rfl)))))))))) (Zf (xrt (Zgl Zgo))) xnl))) (Zf (xrt (Zgl Zgo)))))
theorem Zl8:Zq ["places"] ["places"] (Zj Zd5):=fsc
theorem Zgc(T:Txt K mg f fd cls):FnOk P w K mg base CX0 1 (f 7) (fd 7) ["places"] (spD K (sD Yh)):=by
 refine Yr T.e_law_lined.F Zl8 (S:=J8) rfl rfl (λcdv A outer s H E hr=>?_);have hu:=hr.units;exact(Zf (xrt (Za5 (Zct (own:=["one"]) (caps:=[0]) (N':=["one","places"]) (by exact⟨rfl,by decide +kernel,rfl,by decide +kernel,rfl,rfl⟩) (by rfl) (by decide) (xil (xv 0)) (λ_ _ _ _ _=>(xg 0 (by show JC (["one","places"]:List Str);decide +kernel))) (λ_ _ _ _ _=>(Zam Za4)) (λ_ _ _ _ _=>(Za5 (Zct (own:=["other"]) (caps:=[0]) (N':=["other","one"]) (by exact⟨rfl,by decide +kernel,rfl,by decide +kernel,rfl,rfl⟩) (by rfl) (by decide) (xil (xv 1)) (λ_ _ _ _ _=>(xg 0 (by show JC (["other","one"]:List Str);decide +kernel))) (λ_ _ _ _ _=>(Zam Za4)) (λ_ _ _ _ _=>(Zc8 Znb (Zkk Zhk Zb3 (by rfl) T.z_abs L2.B.boot_abs (xa1 (Zuk (xv 1) (xv 0)))))))))))))
theorem Zd7:Zq ["rows","points","places","place","here","k"] ["rows","points","places","place"] (Zj Zft):=fsc
theorem Zmx(T:Txt K mg f fd cls):FnOk P w K mg base CX0 1 (f 8) (fd 8) ["rows","points","places","place"] (spD K (sD Wo)):=by
 refine Yr T.e_law_fits.F Zd7 (S:=Zat) rfl rfl (λcdv A outer s H E hr=>?_);have hu:=hr.units;exact(xsq (xst 4 Zd7.nd (xix (xv 1) (xln T.z_len (xa1 (xv 2))))) (xsq (xfr X3 rfl (Za8 (Zz (by rfl) T.z_range (xa1 (xln T.z_len (xa1 (xv 2)))))) (xg 5 Zd7.nd) (Zf (xif (xne hu (Zc8 Znb (Zkk Zhk Zb3 (by rfl) T.z_abs L2.B.boot_abs (xa1 (Zuk (xix (xv 2) (xv 5)) (xv 3))))) (xix (xix (xv 0) (xix (xv 1) (xv 5))) (xv 4))) (Zf (xrt (Zgl Zgo))) xnl))) (Zf (xrt (Zgl Zgo)))))
theorem Wj:Zq ["rows","points","places","k","far","good","place"] ["rows","points"] (Zj Zcb):=fsc
theorem Zig(T:Txt K mg f fd cls):FnOk P w K mg base CX0 2 (f 9) (fd 9) ["rows","points"] (spD K (sD Wk)):=by
 have G_law_fits:=Zmx (P:=P) (w:=w) (base:=base) T;refine Yr T.e_law_on_line.F Wj (S:=Ji) rfl rfl (λcdv A outer s H E hr=>?_);have hu:=hr.units;exact(xsq (xso 2 Wj.nd (xls (xa1 xci))) (xsq (xfr X3 rfl (Z07 (Zh8 (by rfl) T.z_range (Zk xci (xa1 (xln T.z_len (xa1 (xv 1))))))) (xg 3 Wj.nd) (xsq (xst 4 Wj.nd (xix (xix (xv 0) (xix (xv 1) xci)) (xix (xv 1) (xv 3)))) (xsq (xso 5 Wj.nd (xls xa0)) (xsq (xfr X3 rfl (Z8k (Z6o (xtp (Zk (xv 4) (xa1 (Zuk xci (xv 4))))))) (xg 6 Wj.nd) (Zf (xif (J0 (Jz (xcl G_law_fits (hr.mono (by decide)) T.e_law_fits.m T.e_law_fits.F.kp T.e_law_fits.b (Zk (xv 0) (Zk (xv 1) (Zk (xo 2) (xa1 (xv 6)))))) (λ_=>rfl))) (Zf (Zfd (Ze1 5 (xv 6)))) xnl))) (xsq (xif (xeq hu (xo 5) (xls xa0)) (Zf (xrt (Zgl Ze3))) xnl) (Zf (Zfd (Ze1 2 (Zjs (Zoo (xix (xo 5) xci))))))))))) (Zf (Zf6 (Zgb 2)))))
theorem Zbq:Zq ["rows","bits","weight","one","other"] ["rows","bits","weight"] (Zj Zca):=fsc
theorem Zik(T:Txt K mg f fd cls):FnOk P w K mg base CX0 1 (f 10) (fd 10) ["rows","bits","weight"] (spI K (sI Wm)):=by
 refine Zg8 T.e_law_add_cut.F Zbq (S:=Zbd) rfl rfl (λcdv A outer s H E hr=>?_);have hu:=hr.units;exact(Zf (xfr X3 rfl (Za8 (Zz (by rfl) T.z_range (xa1 (xln T.z_len (xa1 (xo 0)))))) (xg 3 Zbq.nd) (Zf (xfr X3 rfl (Za8 (Zz (by rfl) T.z_range (xa1 (xln T.z_len (xa1 (xo 0)))))) (xg 4 Zbq.nd) (Zf (xif (xne hu (J5 Z36 (Zg7 Zyq Zjq (J5 Z3z (Zg7 Zxw Zse (xv 1) (xv 3))) xci)) (J5 Z36 (Zg7 Zyq Zjq (J5 Z3z (Zg7 Zxw Zse (xv 1) (xv 4))) xci))) (Zf (Zed (Zd1 0 (Zjz (xix (xix (xo 0) (xv 3)) (xv 4)) (xv 2)) (xv 3) (xv 4) (λ_ _=>rfl)))) xnl))))))
theorem Zky:Zq ["n"] ["n"] (Zj Zc4):=fsc
theorem Zju(T:Txt K mg f fd cls):FnOk P w K mg base CX0 1 (f 11) (fd 11) ["n"] (spD K (sD Yo)):=by
 refine Yr T.e_law_nought.F Zky (S:=Wx) rfl rfl (λcdv A outer s H E hr=>?_);have hu:=hr.units;exact(Zf (xrt (Za5 (Zct (own:=["one"]) (caps:=[0]) (N':=["one","n"]) (by exact⟨rfl,by decide +kernel,rfl,by decide +kernel,rfl,rfl⟩) (by rfl) (by decide) (Za8 (Zz (by rfl) T.z_range (xa1 (xv 0)))) (λ_ _ _ _ _=>(xg 0 (by show JC (["one","n"]:List Str);decide +kernel))) (λ_ _ _ _ _=>(Zam Za4)) (λ_ _ _ _ _=>(Za5 (Zct (own:=["other"]) (caps:=[]) (N':=["other"]) (by exact⟨rfl,by decide +kernel,rfl,by decide +kernel,rfl,rfl⟩) (by rfl) (by decide) (Za8 (Zz (by rfl) T.z_range (xa1 (xv 1)))) (λ_ _ _ _ _=>(xg 0 (by show JC (["other"]:List Str);decide +kernel))) (λ_ _ _ _ _=>(Zam Za4)) (λ_ _ _ _ _=>xci))))))))
theorem Wu:Zq ["rows","n","by","one","other"] ["rows"] (Zj Zbm):=fsc
theorem Zh2(T:Txt K mg f fd cls):FnOk P w K mg base CX0 1 (f 12) (fd 12) ["rows"] (spI K (sI W5)):=by
 refine Zg8 T.e_law_shortest.F Wu (S:=Zau) rfl rfl (λcdv A outer s H E hr=>?_);have hu:=hr.units;exact(xsq (xst 1 Wu.nd (xln T.z_len (xa1 (xo 0)))) (Zf (xfr X3 rfl (Za8 (Zz (by rfl) T.z_range (xa1 (xv 1)))) (xg 2 Wu.nd) (Zf (xfr X3 rfl (Za8 (Zz (by rfl) T.z_range (xa1 (xv 1)))) (xg 3 Wu.nd) (Zf (xfr X3 rfl (Za8 (Zz (by rfl) T.z_range (xa1 (xv 1)))) (xg 4 Wu.nd) (Zf (Zed (Zd1 0 (Zc8 Z94 (Zkk Z1i (Zrb (by rfl)) (by rfl) T.z_min L2.B.boot_min (Zk (xix (xix (xo 0) (xv 3)) (xv 4)) (xa1 (Zjz (xix (xix (xo 0) (xv 3)) (xv 2)) (xix (xix (xo 0) (xv 2)) (xv 4))))))) (xv 3) (xv 4) (λ_ _=>rfl)))))))))))
theorem Yy:Zq ["deck","n","rows","kind","k","bits","ways","most","one","other"] ["deck","n"] (Zj Zfq):=fsc
theorem Zne(T:Txt K mg f fd cls):FnOk P w K mg base CX0 2 (f 13) (fd 13) ["deck","n"] (spI K (sI Zap)):=by
 have G_law_add_cut:=Zik (P:=P) (w:=w) (base:=base) T;have G_law_nought:=Zju (P:=P) (w:=w) (base:=base) T;have G_law_shortest:=Zh2 (P:=P) (w:=w) (base:=base) T;have G_law_take:=Za2 (P:=P) (w:=w) (base:=base) T;refine Zg8 T.e_law_long.F Yy (S:=Zcw) rfl rfl (λcdv A outer s H E hr=>?_);have hu:=hr.units;exact(xsq (xso 2 Yy.nd (xcl G_law_nought (hr.mono (by decide)) T.e_law_nought.m T.e_law_nought.F.kp T.e_law_nought.b (xa1 (xv 1)))) (xsq (xst 3 Yy.nd (Z1 (Yg (i:=0) G_law_take (hr.mono (by decide)) (by rfl) T.e_law_take.m T.e_law_take.F.kp T.e_law_take.b J4 (xa1 xci)))) (xsq (xif (xne hu (xv 3) xci) (Zf (xfr X3 rfl (Za8 (Zz (by rfl) T.z_range (xa1 (Z1 (Yg (i:=0) G_law_take (hr.mono (by decide)) (by rfl) T.e_law_take.m T.e_law_take.F.kp T.e_law_take.b J4 (xa1 xci)))))) (xg 4 Yy.nd) (xsq (xst 5 Yy.nd (Z1 (Yg (i:=0) G_law_take (hr.mono (by decide)) (by rfl) T.e_law_take.m T.e_law_take.F.kp T.e_law_take.b J4 (xa1 (J5 Ybc (Zg7 Z5i Z6e xci (xv 1))))))) (Zf (Zke (Zkt (Z1 (Yg (i:=2) G_law_add_cut (hr.mono (by decide)) (by rfl) T.e_law_add_cut.m T.e_law_add_cut.F.kp T.e_law_add_cut.b J4 (Zk (xv 5) (xa1 (Zjz xci (Z1 (Yg (i:=0) G_law_take (hr.mono (by decide)) (by rfl) T.e_law_take.m T.e_law_take.F.kp T.e_law_take.b J4 (xa1 (xix (xls (Zk xci (xa1 (Zqi xci xci)))) (Z1 (Yg (i:=0) G_law_take (hr.mono (by decide)) (by rfl) T.e_law_take.m T.e_law_take.F.kp T.e_law_take.b J4 (xa1 xci)))))))))))))))))) xnl) (xsq (xif (xgt (xv 3) xci) (xsq (xso 6 Yy.nd (xcl G_law_nought (hr.mono (by decide)) T.e_law_nought.m T.e_law_nought.F.kp T.e_law_nought.b (xa1 (xv 1)))) (xsq (xst 7 Yy.nd (xix (xls (Zk xci (Zk xci (xa1 (Zqi xci xci))))) (Z1 (Yg (i:=0) G_law_take (hr.mono (by decide)) (by rfl) T.e_law_take.m T.e_law_take.F.kp T.e_law_take.b J4 (xa1 xci))))) (xsq (xfr X3 rfl (Za8 (Zz (by rfl) T.z_range (xa1 (xv 1)))) (xg 8 Yy.nd) (Zf (xfr X3 rfl (Za8 (Zz (by rfl) T.z_range (xa1 (xv 8)))) (xg 9 Yy.nd) (xsq (Zed (Zd1 6 (xix (xls (Zk (Zjz xci (Z1 (Yg (i:=0) G_law_take (hr.mono (by decide)) (by rfl) T.e_law_take.m T.e_law_take.F.kp T.e_law_take.b J4 (xa1 (xv 7))))) (xa1 (xv 7)))) (Zc8 Z49 (Z6r Zxl Zly (by rfl) T.z_int L2.B.boot_int (xa1 (J5 Ydh (Yb6 (Zx5 hu) Z3r (xv 3) xci (hm:=(Zcv _)))))))) (xv 8) (xv 9) (λ_ _=>rfl))) (xsq (xif (MW.mt (Z8d (Z54 (xeq hu (xv 3) xci) (Zz6 (xeq hu (Z1 (Yg (i:=0) G_law_take (hr.mono (by decide)) (by rfl) T.e_law_take.m T.e_law_take.F.kp T.e_law_take.b J4 (xa1 xci))) xci))))) (Zf (Zed (Zd1 6 xci (xv 8) (xv 9) (λ_ _=>rfl)))) xnl) (Zf (Zed (Zd1 6 (Zjs (Zoo (xix (xix (xo 6) (xv 8)) (xv 9)))) (xv 9) (xv 8) (λ_ _=>rfl))))))))) (xsq (Zke (Zkt (Z1 (Yg (i:=6) G_law_shortest (hr.mono (by decide)) (by rfl) T.e_law_shortest.m T.e_law_shortest.F.kp T.e_law_shortest.b J4 xa0)))) (Zf (xfr X3 rfl (Za8 (Zz (by rfl) T.z_range (xa1 (xv 1)))) (xg 8 Yy.nd) (Zf (Zyh (Zyz 2 (Za5 (Zct (own:=["number","more"]) (caps:=[]) (N':=["number","more"]) (by exact⟨rfl,by decide +kernel,rfl,by decide +kernel,rfl,rfl⟩) (by rfl) (by decide) (Zt7 (Zub (by rfl) T.z_zip L2.B.boot_zip (Zk (xix (xo 2) (xv 8)) (xa1 (xix (xo 6) (xv 8)))))) (λ_ _ _ _ _=>(Zy3 (Zy5 (n:=2) (by rfl) (Zgu (Zma (Zo6 (Zo5 (i:=0) (by show JC (["number","more"]:List Str);decide +kernel))) (Zgu (Zma (Zo6 (Zo5 (i:=1) (by show JC (["number","more"]:List Str);decide +kernel))) (Zri Zsn)))))))) (λ_ _ _ _ _=>(Zam Za4)) (λ_ _ _ _ _=>(Zjz (xv 0) (xv 1))))) (xv 8)))))))))) xnl) (Zf (Zf6 (Zgb 2)))))))
theorem Zeo:Zq ["deck","n","far"] ["deck","n"] (Zj Zc2):=fsc
theorem Zeh(T:Txt K mg f fd cls):FnOk P w K mg base CX0 2 (f 14) (fd 14) ["deck","n"] (spI K (sI Wy)):=by
 have G_law_take:=Za2 (P:=P) (w:=w) (base:=base) T;refine Zg8 T.e_law_places.F Zeo (S:=Zbu) rfl rfl (λcdv A outer s H E hr=>?_);have hu:=hr.units;exact(xsq (Zok (Znv (i:=2) Zeo.nd rfl (Qm rfl) (xix (xls (Zk xci (Zk xci (xa1 (Zqi xci xci))))) (Z1 (Yg (i:=0) G_law_take (hr.mono (by decide)) (by rfl) T.e_law_take.m T.e_law_take.F.kp T.e_law_take.b J4 (xa1 xci)))))) (Zf (xrt (Zv8 (Z21 (own:=["point"]) (caps:=[0,2]) (N':=["point","deck","far"]) (o:=0) (q:=1) (by exact⟨rfl,by decide +kernel,rfl,by decide +kernel,rfl,rfl⟩) (by rfl) (by decide) rfl (by decide) (Za8 (Zz (by rfl) T.z_range (xa1 (xv 1)))) (λ_ _ _ _ _=>(xg 0 (by show JC (["point","deck","far"]:List Str);decide +kernel))) (λ_ _ _ _ _=>(Zam Za4)) (λ_ _ _ _ _=>(Zuk (Z1 (Yg (i:=1) G_law_take (hr.mono (by decide)) (by rfl) T.e_law_take.m T.e_law_take.F.kp T.e_law_take.b J4 (xa1 (Zjz (Zs3 xci (xv 2)) xci)))) (xv 2))))))))
theorem J1:Zq ["deck","n","rows","k","one","other"] ["deck","n"] (Zj Zd2):=fsc
theorem Zlj(T:Txt K mg f fd cls):FnOk P w K mg base CX0 3 (f 15) (fd 15) ["deck","n"] (spI K (sI Zac)):=by
 have G_law_lined:=Zgc (P:=P) (w:=w) (base:=base) T;have G_law_long:=Zne (P:=P) (w:=w) (base:=base) T;have G_law_places:=Zeh (P:=P) (w:=w) (base:=base) T;have G_law_take:=Za2 (P:=P) (w:=w) (base:=base) T;refine Zg8 T.e_law_other.F J1 (S:=Zch) rfl rfl (λcdv A outer s H E hr=>?_);have hu:=hr.units;exact(xsq (xif (xeq hu (Z1 (Yg (i:=0) G_law_take (hr.mono (by decide)) (by rfl) T.e_law_take.m T.e_law_take.F.kp T.e_law_take.b J4 (xa1 xci))) xci) (Zf (xrt (Z1 (Yg (i:=0) G_law_long (hr.mono (by decide)) (by rfl) T.e_law_long.m T.e_law_long.F.kp T.e_law_long.b J4 (xa1 (xv 1)))))) xnl) (xsq (xso 2 J1.nd (xcl G_law_lined (hr.mono (by decide)) T.e_law_lined.m T.e_law_lined.F.kp T.e_law_lined.b (xa1 (Z1 (Yg (i:=0) G_law_places (hr.mono (by decide)) (by rfl) T.e_law_places.m T.e_law_places.F.kp T.e_law_places.b J4 (xa1 (xv 1))))))) (xsq (xfr X3 rfl (Za8 (Zz (by rfl) T.z_range (xa1 xci))) (xg 3 J1.nd) (xsq (xst 4 J1.nd (Z1 (Yg (i:=0) G_law_take (hr.mono (by decide)) (by rfl) T.e_law_take.m T.e_law_take.F.kp T.e_law_take.b J4 (xa1 (xv 1))))) (xsq (xst 5 J1.nd (Z1 (Yg (i:=0) G_law_take (hr.mono (by decide)) (by rfl) T.e_law_take.m T.e_law_take.F.kp T.e_law_take.b J4 (xa1 (xv 1))))) (Zf (xif (xne hu (xv 4) (xv 5)) (xsq (Zed (Zd1 2 (Zjz (Zjs (Zoo (xix (xix (xo 2) (xv 4)) (xv 5)))) (Z1 (Yg (i:=0) G_law_take (hr.mono (by decide)) (by rfl) T.e_law_take.m T.e_law_take.F.kp T.e_law_take.b J4 (xa1 xci)))) (xv 4) (xv 5) (λ_ _=>rfl))) (Zf (Zed (Zd1 2 (Zjs (Zoo (xix (xix (xo 2) (xv 4)) (xv 5)))) (xv 5) (xv 4) (λ_ _=>rfl))))) xnl))))) (Zf (Zf6 (Zgb 2))))))
theorem Zk4:Zq ["rows","bottom"] ["rows","bottom"] (Zj Zea):=fsc
theorem Zmf(T:Txt K mg f fd cls):FnOk P w K mg base CX0 2 (f 16) (fd 16) ["rows","bottom"] (spD K (sD Yi)):=by
 have G_law_fraction:=Zcz (P:=P) (w:=w) (base:=base) T;refine Yr T.e_law_table.F Zk4 (S:=Zcj) rfl rfl (λcdv A outer s H E hr=>?_);have hu:=hr.units;exact(Zf (xrt (Za5 (Zct (own:=["row"]) (caps:=[1]) (N':=["row","bottom"]) (by exact⟨rfl,by decide +kernel,rfl,by decide +kernel,rfl,rfl⟩) (by rfl) (by decide) (xil (xv 0)) (λ_ _ _ _ _=>(xg 0 (by show JC (["row","bottom"]:List Str);decide +kernel))) (λ_ _ _ _ _=>(Zam Za4)) (λ_ _ _ _ _=>(Za5 (Zct (own:=["number"]) (caps:=[1]) (N':=["number","bottom"]) (by exact⟨rfl,by decide +kernel,rfl,by decide +kernel,rfl,rfl⟩) (by rfl) (by decide) (xil (xv 0)) (λ_ _ _ _ _=>(xg 0 (by show JC (["number","bottom"]:List Str);decide +kernel))) (λ_ _ _ _ _=>(Zam Za4)) (λ_ _ _ _ _=>(xcl G_law_fraction (hr.mono (by decide)) T.e_law_fraction.m T.e_law_fraction.F.kp T.e_law_fraction.b (Zk (xv 0) (xa1 (xv 1))))))))))))
theorem Zfv:Zq ["caught"] ["caught"] (Zj Zab):=fsc
theorem Zga(T:Txt K mg f fd cls):FnOk P w K mg base CX0 1 (f 17) (fd 17) ["caught"] (spD K (sD Ws)):=by
 refine Yr T.e_law_is_refused.F Zfv (S:=J3) rfl rfl (λcdv A outer s H E hr=>?_);have hu:=hr.units;exact(xsq (xif (J0 (Jz (Zw4 T.kxt_0 (Z14 (Ys (Zbi (v:=.ref (cls 1)) (by rfl) T.c_NoCut.m rfl) (Ys (Zbi (v:=.ref (cls 2)) (by rfl) T.c_NoName.m rfl) (Ys (Zbi (v:=.ref (cls 3)) (by rfl) T.c_NoNumber.m rfl) (Ys (Zbi (v:=.ref (cls 4)) (by rfl) T.c_NoOrder.m rfl) (Ys (Zbi (v:=.ref (cls 5)) (by rfl) T.c_NoPoint.m rfl) (Ys (Zbi (v:=.ref (cls 6)) (by rfl) T.c_NoRow.m rfl) (Ys (Zbi (v:=.ref (cls 8)) (by rfl) T.c_NoText.m rfl) (Ys (Zbi (v:=.ref (cls 9)) (by rfl) T.c_NoWeb.m rfl) (Ys (Zbi (v:=.ref (cls 10)) (by rfl) T.c_TooMany.m rfl) Zdq))))))))) (λ_ _ _ h=>h) (.cons (.own _) (.cons (.own _) (.cons (.own _) (.cons (.own _) (.cons (.own _) (.cons (.own _) (.cons (.own _) (.cons (.own _) (.cons (.own _) .nil))))))))) (by show 9<=Xw;decide) (by rfl) T.z_isinstance L2.B.boot_isinstance (xv 0))) (λ_=>rfl))) (Zf (xrt (Zgl Zgo))) xnl) (Zf (xrt (Zsg (Z6l (Zrk T.kx_NoTable (Zya (Zbi (v:=.ref (cls 7)) (by rfl) T.c_NoTable.m rfl) (.own _) (by rfl) T.z_isinstance L2.B.boot_isinstance (xv 0))) (Z7x (Zrk T.kx_ValueError (Zya (Zsq (v:=.ty "ValueError") (by rfl) T.z_ValueError PyProof.Rows.Boot.«ValueError» rfl) (.ty _) (by rfl) T.z_isinstance L2.B.boot_isinstance (xv 0)))))))))
theorem Zm2:Zq ["thing"] ["thing"] (Zj Zfs):=fsc
theorem Zb2(T:Txt K mg f fd cls):FnOk P w K mg base CX0 1 (f 18) (fd 18) ["thing"] (spD K (sD Yq)):=by
 refine Yr T.e_is_whole.F Zm2 (S:=Zcr) rfl rfl (λcdv A outer s H E hr=>?_);have hu:=hr.units;exact(Zf (xrt (Zsg (Z6l (Ziz (Zpy (by decide) (by rfl) T.z_isinstance L2.B.boot_isinstance (by rfl) T.z_int L2.B.boot_int (xv 0))) (Z7x (Z10 (Ya8 (Ziz (Zpy (by decide) (by rfl) T.z_isinstance L2.B.boot_isinstance (by rfl) T.z_bool L2.B.boot_bool (xv 0))))))))))
theorem Jo:Zq ["n","points","point"] ["n","points"] (Zj Zbr):=fsc
theorem Zc9(T:Txt K mg f fd cls):FnOk P w K mg base CX0 2 (f 19) (fd 19) ["n","points"] (spD K (sD Yp)):=by
 have G_is_whole:=Zb2 (P:=P) (w:=w) (base:=base) T;refine Yr T.e_check_points.F Jo (S:=Wf) rfl rfl (λcdv A outer s H E hr=>?_);have hu:=hr.units;exact(Zf (xfr X3 rfl (xil (xv 1)) (xg 2 Jo.nd) (Zf (xif (MW.mt (Zdy (Zd4 (xno (J0 (Jz (xcl G_is_whole (hr.mono (by decide)) T.e_is_whole.m T.e_is_whole.F.kp T.e_is_whole.b (xa1 (xv 2))) (λ_=>rfl)))) (Zc0 (xno (Zj5 (Zjx Z1t Zwu xci (xv 2) (xv 0)))))))) (Zf Zbg) xnl))))
theorem Zci(T:Txt K mg f fd cls):FnOk P w K mg base (CX1 P w) 2 (f 19) (fd 19) ["n","points"] (spX K (sX K Yp)):=by
 have G_is_whole:=Zb2 (P:=P) (w:=w) (base:=base) T;refine Zl0 T.e_check_points.F Jo (S:=Wf) rfl rfl (λcdv A outer s H E hr=>?_);have hu:=hr.units;exact(Zco (Z7u (Z6n rfl (xil (xv 1)) (xg 2 Jo.nd) (Zf (xif (MW.mt (Zdy (Zd4 (xno (J0 (Jz (xcl G_is_whole (hr.mono (by decide)) T.e_is_whole.m T.e_is_whole.F.kp T.e_is_whole.b (xa1 (xv 2))) (λ_=>rfl)))) (Zc0 (xno (Zj5 (Zjx Z1t Zwu xci (xv 2) (xv 0)))))))) (Zf Zbg) xnl)) (Zco (Zw2 (Zwg (MW.mt (Zdy (Zd4 (xno (J0 (Jz (xcl G_is_whole (hr.mono (by decide)) T.e_is_whole.m T.e_is_whole.F.kp T.e_is_whole.b (xa1 (xv 2))) (λ_=>rfl)))) (Zc0 (xno (Zj5 (Zjx Z1t Zwu xci (xv 2) (xv 0)))))))) (Zco (Zgw T.c_NoCut.a (Zgs rfl hr.hd (by rfl) T.c_NoCut.m T.r_NoCut))) (Zhv _)))))))
theorem Ze6:Zq ["n","points","others"] ["n","points"] (Zj Zjv):=fsc
theorem Zlo(T:Txt K mg f fd cls):FnOk P w K mg base CX0 3 (f 20) (fd 20) ["n","points"] (spD K (sD Jb)):=by
 have G_check_points:=Zc9 (P:=P) (w:=w) (base:=base) T;have GX_check_points:=Zci (P:=P) (w:=w) (base:=base) T;refine Yr T.e_cut_of.F Ze6 (S:=Je) rfl rfl (λcdv A outer s H E hr=>?_);have hu:=hr.units;exact(xsq (Z86 (Zke (Zkt (xcl G_check_points (hr.mono (by decide)) T.e_check_points.m T.e_check_points.F.kp T.e_check_points.b (Zk (xv 0) (xa1 (xv 1))))))) (xsq (Zno (Zbx (i:=2) (own:=["point"]) (caps:=[1]) (N':=["point","points"]) YD Ze6.nd rfl (Qx rfl) (by exact⟨rfl,by decide +kernel,rfl,by decide +kernel,rfl,rfl⟩) (by rfl) (by decide) (Za8 (Zz (by rfl) T.z_range (xa1 (xv 0)))) (λ_ _ _ _ _=>(xg 0 (by show JC (["point","points"]:List Str);decide +kernel))) (λ_ _ _ _ _=>(Zfn (Zbe Zvw (Zbb (Zla rfl) Zwc (xv 0) (xv 1) (hm:=(by with_unfolding_all rfl)))))) (λ_ _ _ _ _=>(xv 0)))) (xsq (xif (MW.mt (Zdy (Zd4 (xeq hu (xln T.z_len (xa1 (xv 1))) xci) (Zc0 (xeq hu (xln T.z_len (xa1 (xo 2))) xci))))) (Zf Zbg) xnl) (xsq (xif (Zbe Zvw (Zbb (Zyc rfl) Zwc xci (xv 1) (hm:=(by with_unfolding_all rfl)))) (Zf (Zf6 (Zgb 2))) xnl) (Zf (xrt (Zfu (Zh0 (by rfl) (by rfl) T.z_sorted L2.B.boot_sorted (by rfl) T.z_set L2.B.boot_set (xa1 (xv 1))))))))))
theorem Zi0(T:Txt K mg f fd cls):FnOk P w K mg base (CX1 P w) 3 (f 20) (fd 20) ["n","points"] (spX K (sX K Jb)):=by
 have G_check_points:=Zc9 (P:=P) (w:=w) (base:=base) T;have GX_check_points:=Zci (P:=P) (w:=w) (base:=base) T;refine Zl0 T.e_cut_of.F Ze6 (S:=Je) rfl rfl (λcdv A outer s H E hr=>?_);have hu:=hr.units;exact(Zha (Z1k (Zmw (Znf GX_check_points (hr.mono (by decide)) (by rfl) T.e_check_points.m T.e_check_points.F.kp T.e_check_points.b (Zk (xv 0) (xa1 (xv 1)))))) (Z86 (Zke (Zkt (xcl G_check_points (hr.mono (by decide)) T.e_check_points.m T.e_check_points.F.kp T.e_check_points.b (Zk (xv 0) (xa1 (xv 1))))))) (Zha (Z03 _) (Zno (Zbx (i:=2) (own:=["point"]) (caps:=[1]) (N':=["point","points"]) YD Ze6.nd rfl (Qx rfl) (by exact⟨rfl,by decide +kernel,rfl,by decide +kernel,rfl,rfl⟩) (by rfl) (by decide) (Za8 (Zz (by rfl) T.z_range (xa1 (xv 0)))) (λ_ _ _ _ _=>(xg 0 (by show JC (["point","points"]:List Str);decide +kernel))) (λ_ _ _ _ _=>(Zfn (Zbe Zvw (Zbb (Zla rfl) Zwc (xv 0) (xv 1) (hm:=(by with_unfolding_all rfl)))))) (λ_ _ _ _ _=>(xv 0)))) (Zha (Zw2 (Zwg (MW.mt (Zdy (Zd4 (xeq hu (xln T.z_len (xa1 (xv 1))) xci) (Zc0 (xeq hu (xln T.z_len (xa1 (xo 2))) xci))))) (Zco (Zgw T.c_NoCut.a (Zgs rfl hr.hd (by rfl) T.c_NoCut.m T.r_NoCut))) (Zhv _))) (xif (MW.mt (Zdy (Zd4 (xeq hu (xln T.z_len (xa1 (xv 1))) xci) (Zc0 (xeq hu (xln T.z_len (xa1 (xo 2))) xci))))) (Zf Zbg) xnl) (Zhv _))))
theorem Zen:Zq ["places","least"] ["places","least"] (Zj Zdh):=fsc
theorem Zfb(T:Txt K mg f fd cls):FnOk P w K mg base CX0 4 (f 21) (fd 21) ["places","least"] (spD K (sD Yn)):=by
 have G_cut_of:=Zlo (P:=P) (w:=w) (base:=base) T;have GX_cut_of:=Zi0 (P:=P) (w:=w) (base:=base) T;refine Yr T.e_cut_beyond.F Zen (S:=Y4) rfl rfl (λcdv A outer s H E hr=>?_);have hu:=hr.units;exact(Zf (Z86 (xrt (xcl G_cut_of (hr.mono (by decide)) T.e_cut_of.m T.e_cut_of.F.kp T.e_cut_of.b (Zk (xln T.z_len (xa1 (xv 0))) (xa1 (Za5 (Zct (own:=["point","place"]) (caps:=[1]) (N':=["point","place","least"]) (by exact⟨rfl,by decide +kernel,rfl,by decide +kernel,rfl,rfl⟩) (by rfl) (by decide) (Zta (Ztv (by rfl) T.z_enumerate L2.B.boot_enumerate (xa1 (xv 0)))) (λ_ _ _ _ _=>(xg2 rfl (xg 0 (by show JC (["point","place","least"]:List Str);decide +kernel)) (xg 1 (by show JC (["point","place","least"]:List Str);decide +kernel)))) (λ_ _ _ _ _=>(Zfn (xge (xv 1) (xv 2)))) (λ_ _ _ _ _=>(xv 0))))))))))
theorem Zdx(T:Txt K mg f fd cls):FnOk P w K mg base (CX1 P w) 4 (f 21) (fd 21) ["places","least"] (spX K (sX K Yn)):=by
 have G_cut_of:=Zlo (P:=P) (w:=w) (base:=base) T;have GX_cut_of:=Zi0 (P:=P) (w:=w) (base:=base) T;refine Zl0 T.e_cut_beyond.F Zen (S:=Y4) rfl rfl (λcdv A outer s H E hr=>?_);have hu:=hr.units;exact(Zco (Z4a (Zmw (Znf GX_cut_of (hr.mono (by decide)) (by rfl) T.e_cut_of.m T.e_cut_of.F.kp T.e_cut_of.b (Zk (xln T.z_len (xa1 (xv 0))) (xa1 (Za5 (Zct (own:=["point","place"]) (caps:=[1]) (N':=["point","place","least"]) (by exact⟨rfl,by decide +kernel,rfl,by decide +kernel,rfl,rfl⟩) (by rfl) (by decide) (Zta (Ztv (by rfl) T.z_enumerate L2.B.boot_enumerate (xa1 (xv 0)))) (λ_ _ _ _ _=>(xg2 rfl (xg 0 (by show JC (["point","place","least"]:List Str);decide +kernel)) (xg 1 (by show JC (["point","place","least"]:List Str);decide +kernel)))) (λ_ _ _ _ _=>(Zfn (xge (xv 1) (xv 2)))) (λ_ _ _ _ _=>(xv 0))))))))))
theorem Z9:Zq ["a","b","left"] ["a","b"] (Zj Jc):=fsc
theorem Zal(T:Txt K mg f fd cls):FnOk P w K mg base CX0 1 (f 22) (fd 22) ["a","b"] (spD K (sD Z7)):=by
 refine Yr T.e_greatest_divisor.F Z9 (S:=Jl) rfl rfl (λcdv A outer s H E hr=>?_);have hu:=hr.units;exact(xsq (xst 0 Z9.nd (Zc8 Znb (Zkk Zhk Zb3 (by rfl) T.z_abs L2.B.boot_abs (xa1 (xv 0))))) (xsq (xst 1 Z9.nd (Zc8 Znb (Zkk Zhk Zb3 (by rfl) T.z_abs L2.B.boot_abs (xa1 (xv 1))))) (xsq (Znx (Zn4 X3 (xne hu (xv 1) xci) (xsq (xst 2 Z9.nd (Z4s (xv 0) (xv 1))) (xsq (xst 0 Z9.nd (xv 1)) (Zf (xst 1 Z9.nd (xv 2))))))) (Zf (xrt (xv 0))))))
theorem Zd3:Zq ["top","bottom","shared"] ["top","bottom"] (Zj Zf5):=fsc
theorem Zhr(T:Txt K mg f fd cls):FnOk P w K mg base CX0 2 (f 23) (fd 23) ["top","bottom"] (spD K (sD Zar)):=by
 have G_greatest_divisor:=Zal (P:=P) (w:=w) (base:=base) T;refine Yr T.e_in_least.F Zd3 (S:=Zda) rfl rfl (λcdv A outer s H E hr=>?_);have hu:=hr.units;exact(xsq (xst 2 Zd3.nd (xcl G_greatest_divisor (hr.mono (by decide)) T.e_greatest_divisor.m T.e_greatest_divisor.F.kp T.e_greatest_divisor.b (Zk (xv 0) (xa1 (xv 1))))) (xsq (xif (xlt (xv 1) xci) (Zf (xst 2 Zd3.nd (Zx4 (Z55 (xv 2))))) xnl) (Zf (xrt (xtp (Zk (Zx3 (xv 0) (xv 2)) (xa1 (Zx3 (xv 1) (xv 2)))))))))
theorem Zh9:Zq ["top","bottom"] ["top","bottom"] (Zj Zfw):=fsc
theorem Zhj(T:Txt K mg f fd cls):FnOk P w K mg base CX0 3 (f 24) (fd 24) ["top","bottom"] (spD K (sD Y5)):=by
 have G_in_least:=Zhr (P:=P) (w:=w) (base:=base) T;have G_is_whole:=Zb2 (P:=P) (w:=w) (base:=base) T;refine Yr T.e_fraction.F Zh9 (S:=Za3) rfl rfl (λcdv A outer s H E hr=>?_);have hu:=hr.units;exact(xsq (xif (MW.mt (Zdy (Zd4 (xno (J0 (Jz (xcl G_is_whole (hr.mono (by decide)) T.e_is_whole.m T.e_is_whole.F.kp T.e_is_whole.b (xa1 (xv 0))) (λ_=>rfl)))) (Zdy (Zd4 (xno (J0 (Jz (xcl G_is_whole (hr.mono (by decide)) T.e_is_whole.m T.e_is_whole.F.kp T.e_is_whole.b (xa1 (xv 1))) (λ_=>rfl)))) (Zc0 (xeq hu (xv 1) xci))))))) (Zf Zbg) xnl) (Zf (xrt (xcl G_in_least (hr.mono (by decide)) T.e_in_least.m T.e_in_least.F.kp T.e_in_least.b (Zk (xv 0) (xa1 (xv 1)))))))
theorem Zgi(T:Txt K mg f fd cls):FnOk P w K mg base (CX1 P w) 3 (f 24) (fd 24) ["top","bottom"] (spX K (sX K Y5)):=by
 have G_in_least:=Zhr (P:=P) (w:=w) (base:=base) T;have G_is_whole:=Zb2 (P:=P) (w:=w) (base:=base) T;refine Zl0 T.e_fraction.F Zh9 (S:=Za3) rfl rfl (λcdv A outer s H E hr=>?_);have hu:=hr.units;exact(Zha (Zw2 (Zwg (MW.mt (Zdy (Zd4 (xno (J0 (Jz (xcl G_is_whole (hr.mono (by decide)) T.e_is_whole.m T.e_is_whole.F.kp T.e_is_whole.b (xa1 (xv 0))) (λ_=>rfl)))) (Zdy (Zd4 (xno (J0 (Jz (xcl G_is_whole (hr.mono (by decide)) T.e_is_whole.m T.e_is_whole.F.kp T.e_is_whole.b (xa1 (xv 1))) (λ_=>rfl)))) (Zc0 (xeq hu (xv 1) xci))))))) (Zco (Zgw T.c_NoNumber.a (Zgs rfl hr.hd (by rfl) T.c_NoNumber.m T.r_NoNumber))) (Zhv _))) (xif (MW.mt (Zdy (Zd4 (xno (J0 (Jz (xcl G_is_whole (hr.mono (by decide)) T.e_is_whole.m T.e_is_whole.F.kp T.e_is_whole.b (xa1 (xv 0))) (λ_=>rfl)))) (Zdy (Zd4 (xno (J0 (Jz (xcl G_is_whole (hr.mono (by decide)) T.e_is_whole.m T.e_is_whole.F.kp T.e_is_whole.b (xa1 (xv 1))) (λ_=>rfl)))) (Zc0 (xeq hu (xv 1) xci))))))) (Zf Zbg) xnl) (Zhv _))
theorem Zdt:Zq ["rows","point"] ["rows"] (Zj Zb8):=fsc
theorem Zid(T:Txt K mg f fd cls):FnOk P w K mg base CX0 1 (f 25) (fd 25) ["rows"] (spD K (sD Wl)):=by
 refine Yr T.e_first_apart.F Zdt (S:=Jj) rfl rfl (λcdv A outer s H E hr=>?_);have hu:=hr.units;exact(xsq (xfr X3 rfl (Za8 (Zz (by rfl) T.z_range (xa1 (xln T.z_len (xa1 (xv 0)))))) (xg 1 Zdt.nd) (Zf (xif (xgt (xix (xix (xv 0) xci) (xv 1)) xci) (Zf (xrt (xv 1))) xnl))) (Zf (xrt xci)))
theorem Zb7:Zq ["n","pairs","i","j"] ["n"] (Zj Zf1):=fsc
theorem Zni(T:Txt K mg f fd cls):FnOk P w K mg base CX0 1 (f 26) (fd 26) ["n"] (spD K (sD Za1)):=by
 refine Yr T.e_pairs_of.F Zb7 (S:=Zdf) rfl rfl (λcdv A outer s H E hr=>?_);have hu:=hr.units;exact(xsq (xso 1 Zb7.nd (xls xa0)) (xsq (xfr X3 rfl (Za8 (Zz (by rfl) T.z_range (xa1 (xv 0)))) (xg 2 Zb7.nd) (Zf (xfr X3 rfl (Z07 (Zh8 (by rfl) T.z_range (Zk (Zjz (xv 2) xci) (xa1 (xv 0))))) (xg 3 Zb7.nd) (Zf (Zfd (Ze1 1 (xtp (Zk (xv 2) (xa1 (xv 3)))))))))) (Zf (Zf6 (Zgb 1)))))
theorem Zbk:Zq ["rows","places","i","j"] ["rows","places"] (Zj Zb6):=fsc
theorem Zif(T:Txt K mg f fd cls):FnOk P w K mg base CX0 2 (f 27) (fd 27) ["rows","places"] (spD K (sD Yw)):=by
 have G_pairs_of:=Zni (P:=P) (w:=w) (base:=base) T;refine Yr T.e_fits_places.F Zbk (S:=Jd) rfl rfl (λcdv A outer s H E hr=>?_);have hu:=hr.units;exact(xsq (xfr X3 rfl (xil (xcl G_pairs_of (hr.mono (by decide)) T.e_pairs_of.m T.e_pairs_of.F.kp T.e_pairs_of.b (xa1 (xln T.z_len (xa1 (xv 0)))))) (xg2 rfl (xg 2 Zbk.nd) (xg 3 Zbk.nd)) (Zf (xif (xne hu (Zc8 Znb (Zkk Zhk Zb3 (by rfl) T.z_abs L2.B.boot_abs (xa1 (Zuk (xix (xv 1) (xv 2)) (xix (xv 1) (xv 3)))))) (xix (xix (xv 0) (xv 2)) (xv 3))) (Zf (xrt (Zgl Zgo))) xnl))) (Zf (xrt (Zgl Zgo))))
theorem Zhu:Zq ["rows","apart","point","far"] ["rows","apart","point"] (Zj Zf8):=fsc
theorem Znj(T:Txt K mg f fd cls):FnOk P w K mg base CX0 1 (f 28) (fd 28) ["rows","apart","point"] (spD K (sD Zav)):=by
 refine Yr T.e_place_of.F Zhu (S:=Zde) rfl rfl (λcdv A outer s H E hr=>?_);have hu:=hr.units;exact(xsq (xst 3 Zhu.nd (xix (xix (xv 0) xci) (xv 2))) (xsq (xif (xeq hu (Zc8 Znb (Zkk Zhk Zb3 (by rfl) T.z_abs L2.B.boot_abs (xa1 (Zuk (xix (xix (xv 0) xci) (xv 1)) (xv 3))))) (xix (xix (xv 0) (xv 1)) (xv 2))) (Zf (xrt (xv 3))) xnl) (Zf (xrt (Zx4 (Z55 (xv 3)))))))
theorem Zdg:Zq ["rows","apart","places"] ["rows"] (Zj Zd6):=fsc
theorem Zge(T:Txt K mg f fd cls):FnOk P w K mg base CX0 3 (f 29) (fd 29) ["rows"] (spD K (sD W2)):=by
 have G_first_apart:=Zid (P:=P) (w:=w) (base:=base) T;have G_fits_places:=Zif (P:=P) (w:=w) (base:=base) T;have G_place_of:=Znj (P:=P) (w:=w) (base:=base) T;refine Yr T.e_places_of.F Zdg (S:=Zck) rfl rfl (λcdv A outer s H E hr=>?_);have hu:=hr.units;exact(xsq (Zok (Znv (i:=1) Zdg.nd rfl (Qm rfl) (xcl G_first_apart (hr.mono (by decide)) T.e_first_apart.m T.e_first_apart.F.kp T.e_first_apart.b (xa1 (xv 0))))) (xsq (Zm4 (Zbx (i:=2) (own:=["point"]) (caps:=[0,1]) (N':=["point","rows","apart"]) YF Zdg.nd rfl (Qx rfl) (by exact⟨rfl,by decide +kernel,rfl,by decide +kernel,rfl,rfl⟩) (by rfl) (by decide) (Za8 (Zz (by rfl) T.z_range (xa1 (xln T.z_len (xa1 (xv 0)))))) (λ_ _ _ _ _=>(xg 0 (by show JC (["point","rows","apart"]:List Str);decide +kernel))) (λ_ _ _ _ _=>(Zam Za4)) (λ_ _ _ _ _=>(xcl G_place_of (hr.mono (by decide)) T.e_place_of.m T.e_place_of.F.kp T.e_place_of.b (Zk (xv 1) (Zk (xv 2) (xa1 (xv 0)))))))) (Zf (xrt (Z0y (Yar (Yff (J0 (Jz (xcl G_fits_places (hr.mono (by decide)) T.e_fits_places.m T.e_fits_places.F.kp T.e_fits_places.b (Zk (xv 0) (xa1 (xv 2)))) (λ_=>rfl))) (xv 2) (Zgl Ze3))))))))
theorem W4:Zq ["numbers","bottom","q"] ["numbers"] (Zj Zak):=fsc
theorem Zgq(T:Txt K mg f fd cls):FnOk P w K mg base CX0 2 (f 30) (fd 30) ["numbers"] (spD K (sD Y0)):=by
 have G_greatest_divisor:=Zal (P:=P) (w:=w) (base:=base) T;refine Yr T.e_shared_bottom.F W4 (S:=Zad) rfl rfl (λcdv A outer s H E hr=>?_);have hu:=hr.units;exact(xsq (xst 1 W4.nd xci) (xsq (xfr X3 rfl (xil (xv 0)) (xg 2 W4.nd) (Zf (xst 1 W4.nd (Zs3 (Zx3 (xv 1) (xcl G_greatest_divisor (hr.mono (by decide)) T.e_greatest_divisor.m T.e_greatest_divisor.F.kp T.e_greatest_divisor.b (Zk (xv 1) (xa1 (xix (xv 2) xci))))) (xix (xv 2) xci))))) (Zf (xrt (xv 1)))))
theorem Jk:Zq ["table","bottom","row"] ["table"] (Zj Zbh):=fsc
theorem Zdb(T:Txt K mg f fd cls):FnOk P w K mg base CX0 3 (f 31) (fd 31) ["table"] (spD K (sD Yb)):=by
 have G_shared_bottom:=Zgq (P:=P) (w:=w) (base:=base) T;refine Yr T.e_table_bottom.F Jk (S:=Zaw) rfl rfl (λcdv A outer s H E hr=>?_);have hu:=hr.units;exact(xsq (xst 1 Jk.nd xci) (xsq (xfr X3 rfl (xil (xv 0)) (xg 2 Jk.nd) (Zf (xst 1 Jk.nd (xcl G_shared_bottom (hr.mono (by decide)) T.e_shared_bottom.m T.e_shared_bottom.F.kp T.e_shared_bottom.b (xa1 (Z0y (Zrm Z6j (Yec (Zth rfl) Zx7 (xls (xa1 (xtp (Zk xci (xa1 (xv 1)))))) (xv 2))))))))) (Zf (xrt (xv 1)))))
theorem Zk2:Zq ["bottom","numbers"] ["bottom","numbers"] (Zj Zee):=fsc
theorem Zlk(T:Txt K mg f fd cls):FnOk P w K mg base CX0 1 (f 32) (fd 32) ["bottom","numbers"] (spD K (sD Zaa)):=by
 refine Yr T.e_tops_over.F Zk2 (S:=Zcl) rfl rfl (λcdv A outer s H E hr=>?_);have hu:=hr.units;exact(Zf (xrt (Za5 (Zct (own:=["q"]) (caps:=[0]) (N':=["q","bottom"]) (by exact⟨rfl,by decide +kernel,rfl,by decide +kernel,rfl,rfl⟩) (by rfl) (by decide) (xil (xv 1)) (λ_ _ _ _ _=>(xg 0 (by show JC (["q","bottom"]:List Str);decide +kernel))) (λ_ _ _ _ _=>(Zam Za4)) (λ_ _ _ _ _=>(Zs3 (xix (xv 0) xci) (Zx3 (xv 1) (xix (xv 0) xci))))))))
theorem Zj8:Zq ["bottom","table"] ["bottom","table"] (Zj Zcp):=fsc
theorem Ze2(T:Txt K mg f fd cls):FnOk P w K mg base CX0 2 (f 33) (fd 33) ["bottom","table"] (spD K (sD Y6)):=by
 have G_tops_over:=Zlk (P:=P) (w:=w) (base:=base) T;refine Yr T.e_table_over.F Zj8 (S:=Zbz) rfl rfl (λcdv A outer s H E hr=>?_);have hu:=hr.units;exact(Zf (xrt (Za5 (Zct (own:=["row"]) (caps:=[0]) (N':=["row","bottom"]) (by exact⟨rfl,by decide +kernel,rfl,by decide +kernel,rfl,rfl⟩) (by rfl) (by decide) (xil (xv 1)) (λ_ _ _ _ _=>(xg 0 (by show JC (["row","bottom"]:List Str);decide +kernel))) (λ_ _ _ _ _=>(Zam Za4)) (λ_ _ _ _ _=>(xcl G_tops_over (hr.mono (by decide)) T.e_tops_over.m T.e_tops_over.F.kp T.e_tops_over.b (Zk (xv 1) (xa1 (xv 0)))))))))
theorem Ym:Zq ["table","bottom","places","ranked","weighted","place","behind"] ["table"] (Zj Zeb):=fsc
theorem Zlx(T:Txt K mg f fd cls):FnOk P w K mg base CX0 5 (f 34) (fd 34) ["table"] (spD K (sD Z8)):=by
 have G_cut_beyond:=Zfb (P:=P) (w:=w) (base:=base) T;have GX_cut_beyond:=Zdx (P:=P) (w:=w) (base:=base) T;have G_fraction:=Zhj (P:=P) (w:=w) (base:=base) T;have GX_fraction:=Zgi (P:=P) (w:=w) (base:=base) T;have G_places_of:=Zge (P:=P) (w:=w) (base:=base) T;have G_table_bottom:=Zdb (P:=P) (w:=w) (base:=base) T;have G_table_over:=Ze2 (P:=P) (w:=w) (base:=base) T;refine Yr T.e_line_cuts.F Ym (S:=Wi) rfl rfl (λcdv A outer s H E hr=>?_);have hu:=hr.units;exact(xsq (xst 1 Ym.nd (xcl G_table_bottom (hr.mono (by decide)) T.e_table_bottom.m T.e_table_bottom.F.kp T.e_table_bottom.b (xa1 (xv 0)))) (xsq (xst 2 Ym.nd (xcl G_places_of (hr.mono (by decide)) T.e_places_of.m T.e_places_of.F.kp T.e_places_of.b (xa1 (xcl G_table_over (hr.mono (by decide)) T.e_table_over.m T.e_table_over.F.kp T.e_table_over.b (Zk (xv 1) (xa1 (xv 0))))))) (xsq (xif (Zbe Z82 (Zbb Zod Zn3 (xv 2) (Zgl Ze3) (hm:=(Zcv _)))) (Zf Zbg) xnl) (xsq (xst 3 Ym.nd (Zfu (Zh0 (by rfl) (by rfl) T.z_sorted L2.B.boot_sorted (by rfl) T.z_set L2.B.boot_set (xa1 (xv 2))))) (xsq (xso 4 Ym.nd (xls xa0)) (xsq (xfr X3 rfl (Zt7 (Zub (by rfl) T.z_zip L2.B.boot_zip (Zk (xv 3) (xa1 (Z7j (Z8q (xv 3) (Zui (Zr0 xci)) (Zr1 Zrd))))))) (xg2 rfl (xg 5 Ym.nd) (xg 6 Ym.nd)) (Zf (Zpr (Zpu 4 (Zz9 (Z3s (Zk (xcl G_cut_beyond (hr.mono (by decide)) T.e_cut_beyond.m T.e_cut_beyond.F.kp T.e_cut_beyond.b (Zk (xv 2) (xa1 (xv 6)))) (xa1 (xcl G_fraction (hr.mono (by decide)) T.e_fraction.m T.e_fraction.F.kp T.e_fraction.b (Zk (Zuk (xv 6) (xv 5)) (xa1 (xv 1)))))))))))) (Zf (Zjf (Zi7 4 Zy6 hu (by rfl) T.z_sorted L2.B.boot_sorted)))))))))
theorem Zkb(T:Txt K mg f fd cls):FnOk P w K mg base (CX1 P w) 5 (f 34) (fd 34) ["table"] (spX K (sX K Z8)):=by
 have G_cut_beyond:=Zfb (P:=P) (w:=w) (base:=base) T;have GX_cut_beyond:=Zdx (P:=P) (w:=w) (base:=base) T;have G_fraction:=Zhj (P:=P) (w:=w) (base:=base) T;have GX_fraction:=Zgi (P:=P) (w:=w) (base:=base) T;have G_places_of:=Zge (P:=P) (w:=w) (base:=base) T;have G_table_bottom:=Zdb (P:=P) (w:=w) (base:=base) T;have G_table_over:=Ze2 (P:=P) (w:=w) (base:=base) T;refine Zl0 T.e_line_cuts.F Ym (S:=Wi) rfl rfl (λcdv A outer s H E hr=>?_);have hu:=hr.units;exact(Zha (Z03 _) (xst 1 Ym.nd (xcl G_table_bottom (hr.mono (by decide)) T.e_table_bottom.m T.e_table_bottom.F.kp T.e_table_bottom.b (xa1 (xv 0)))) (Zha (Z03 _) (xst 2 Ym.nd (xcl G_places_of (hr.mono (by decide)) T.e_places_of.m T.e_places_of.F.kp T.e_places_of.b (xa1 (xcl G_table_over (hr.mono (by decide)) T.e_table_over.m T.e_table_over.F.kp T.e_table_over.b (Zk (xv 1) (xa1 (xv 0))))))) (Zha (Zw2 (Zwg (Zbe Z82 (Zbb Zod Zn3 (xv 2) (Zgl Ze3) (hm:=(Zcv _)))) (Zco (Zgw T.c_NoTable.a (Zgs rfl hr.hd (by rfl) T.c_NoTable.m T.r_NoTable))) (Zhv _))) (xif (Zbe Z82 (Zbb Zod Zn3 (xv 2) (Zgl Ze3) (hm:=(Zcv _)))) (Zf Zbg) xnl) (Zhv _))))
theorem Jr:Zq ["table","caught","found","e"] ["table"] (Zj Zfl):=fsc
theorem Zms(T:Txt K mg f fd cls):FnOk P w K mg base CX0 6 (f 35) (fd 35) ["table"] (spD K (sD Y8)):=by
 have G_law_is_refused:=Zga (P:=P) (w:=w) (base:=base) T;have G_line_cuts:=Zlx (P:=P) (w:=w) (base:=base) T;have GX_line_cuts:=Zkb (P:=P) (w:=w) (base:=base) T;refine Yr T.e_law_told.F Jr (S:=Jg) rfl rfl (λcdv A outer s H E hr=>?_);have hu:=hr.units;exact(xsq (xst 1 Jr.nd (Zgl Ze3)) (xsq (xso 2 Jr.nd (Zgl Ze3)) (xsq (Z77 T.ku_CutError (Z32 (i:=3) Jr.nd rfl rfl (by rfl) T.c_CutError.m T.r_CutError (Zf (Z86 (xso 2 Jr.nd (xcl G_line_cuts (hr.mono (by decide)) T.e_line_cuts.m T.e_line_cuts.F.kp T.e_line_cuts.b (xa1 (xv 0)))))) (Zco (Z6s (Zmw (Znf GX_line_cuts (hr.mono (by decide)) (by rfl) T.e_line_cuts.m T.e_line_cuts.F.kp T.e_line_cuts.b (xa1 (xv 0)))))) (λ_=>(Zf (xst 1 Jr.nd (xv 3)))))) (xsq (xif (Zbe Z82 (Zbb Zod Zn3 (xv 1) (Zgl Ze3) (hm:=(Zcv _)))) (Zf (Zf6 (Zgb 2))) xnl) (Zf (xrt (xix (xls (Zk (Zgl Zsi) (xa1 (Zgl Zsi)))) (Zc8 Z49 (Z6r Zxl Zly (by rfl) T.z_int L2.B.boot_int (xa1 (xcl G_law_is_refused (hr.mono (by decide)) T.e_law_is_refused.m T.e_law_is_refused.F.kp T.e_law_is_refused.b (xa1 (xv 1)))))))))))))
theorem Zb1:Zq ["script","cell","deck","places","bottom","table","turn","found","row","rows","there","due"] ["script"] (Zj Zzt):=fsc
theorem Z4k(T:Txt K mg f fd cls):FnOk P w K mg base CX0 7 (f 36) (fd 36) ["script"] (spD K (sD Zfm)):=by
 have G_law_bottom:=Zkd (P:=P) (w:=w) (base:=base) T;have G_law_deck:=Zm5 (P:=P) (w:=w) (base:=base) T;have G_law_due:=Zpe (P:=P) (w:=w) (base:=base) T;have G_law_good:=Zm6 (P:=P) (w:=w) (base:=base) T;have G_law_lined:=Zgc (P:=P) (w:=w) (base:=base) T;have G_law_on_line:=Zig (P:=P) (w:=w) (base:=base) T;have G_law_other:=Zlj (P:=P) (w:=w) (base:=base) T;have G_law_places:=Zeh (P:=P) (w:=w) (base:=base) T;have G_law_table:=Zmf (P:=P) (w:=w) (base:=base) T;have G_law_take:=Za2 (P:=P) (w:=w) (base:=base) T;have G_law_told:=Zms (P:=P) (w:=w) (base:=base) T;refine Yr T.e_law.F Zb1 (S:=Zf9) rfl rfl (λcdv A outer s H E hr=>?_);have hu:=hr.units;exact(xsq (xfr X3 rfl (xil (Z0y (Zrm Z6j (Yec (Zth rfl) Zx7 (xls (xa1 (Zqi xci xci))) (Z7j (Z8q (xv 0) (Zr1 Zrd) (Zui (Zr0 xci)))))))) (xg 1 Zb1.nd) (xsq (xso 2 Zb1.nd (xcl G_law_deck (hr.mono (by decide)) T.e_law_deck.m T.e_law_deck.F.kp T.e_law_deck.b (xa1 (xv 1)))) (xsq (xst 3 Zb1.nd (Z1 (Yg (i:=2) G_law_places (hr.mono (by decide)) (by rfl) T.e_law_places.m T.e_law_places.F.kp T.e_law_places.b J4 (xa1 (Zjz xci (Z1 (Yg (i:=2) G_law_take (hr.mono (by decide)) (by rfl) T.e_law_take.m T.e_law_take.F.kp T.e_law_take.b J4 (xa1 xci)))))))) (xsq (xst 4 Zb1.nd (Z1 (Yg (i:=2) G_law_bottom (hr.mono (by decide)) (by rfl) T.e_law_bottom.m T.e_law_bottom.F.kp T.e_law_bottom.b J4 xa0))) (xsq (xst 5 Zb1.nd (xcl G_law_table (hr.mono (by decide)) T.e_law_table.m T.e_law_table.F.kp T.e_law_table.b (Zk (xcl G_law_lined (hr.mono (by decide)) T.e_law_lined.m T.e_law_lined.F.kp T.e_law_lined.b (xa1 (xv 3))) (xa1 (xv 4))))) (xsq (xfr X3 rfl (Za8 (Zz (by rfl) T.z_range (xa1 xci))) (xg 6 Zb1.nd) (xsq (xso 7 Zb1.nd (xcl G_law_told (hr.mono (by decide)) T.e_law_told.m T.e_law_told.F.kp T.e_law_told.b (xa1 (xv 5)))) (xsq (xif (xno (J0 (Jz (xcl G_law_good (hr.mono (by decide)) T.e_law_good.m T.e_law_good.F.kp T.e_law_good.b (Zk (xo 7) (xa1 (xcl G_law_due (hr.mono (by decide)) T.e_law_due.m T.e_law_due.F.kp T.e_law_due.b (Zk (xv 3) (xa1 (xv 4))))))) (λ_=>rfl)))) (Zf (xrt (Zgl Zgo))) xnl) (xsq (xif (xne hu (xv 5) (xcl G_law_table (hr.mono (by decide)) T.e_law_table.m T.e_law_table.F.kp T.e_law_table.b (Zk (xcl G_law_lined (hr.mono (by decide)) T.e_law_lined.m T.e_law_lined.F.kp T.e_law_lined.b (xa1 (xv 3))) (xa1 (xv 4))))) (Zf (xrt (Zgl Zgo))) xnl) (Zf (Zw5 (Zu1 7 8 0 Zt0 (.int _) rfl Zb1.nd rfl rfl (by decide) (Qx rfl)))))))) (xsq (xst 9 Zb1.nd (Z1 (Yg (i:=2) G_law_other (hr.mono (by decide)) (by rfl) T.e_law_other.m T.e_law_other.F.kp T.e_law_other.b J4 (xa1 (Zjz xci (Z1 (Yg (i:=2) G_law_take (hr.mono (by decide)) (by rfl) T.e_law_take.m T.e_law_take.F.kp T.e_law_take.b J4 (xa1 xci)))))))) (xsq (xst 10 Zb1.nd (xcl G_law_on_line (hr.mono (by decide)) T.e_law_on_line.m T.e_law_on_line.F.kp T.e_law_on_line.b (Zk (xv 9) (xa1 (Z67 (Ztf (by rfl) (by rfl) T.z_list L2.B.boot_list (by rfl) T.z_range L2.B.boot_range (xa1 (xln T.z_len (xa1 (xv 9)))))))))) (xsq (xst 11 Zb1.nd (Zgl Zsi)) (xsq (xif (Zbe Z0c (Zbb Zzj Z2i (xv 10) (Zgl Ze3) (hm:=(Zcv _)))) (Zf (xst 11 Zb1.nd (xcl G_law_due (hr.mono (by decide)) T.e_law_due.m T.e_law_due.F.kp T.e_law_due.b (Zk (xv 10) (xa1 (xv 4)))))) xnl) (Zf (xif (xne hu (xcl G_law_told (hr.mono (by decide)) T.e_law_told.m T.e_law_told.F.kp T.e_law_told.b (xa1 (xcl G_law_table (hr.mono (by decide)) T.e_law_table.m T.e_law_table.F.kp T.e_law_table.b (Zk (xv 9) (xa1 (xv 4)))))) (xv 11)) (Zf (xrt (Zgl Zgo))) xnl)))))))))))) (Zf (xrt (Zgl Zgo))))
theorem Z1c(T:Txt K mg f fd cls):FnOk P w K mg base CX0 7 (f 36) (fd 36) ["script"] (spD K Z8m):=(Z4k T).imp λvs H Q E q=>by
 obtain⟨L,ds,k,h1,⟨ns,e,hl,hk⟩,h3⟩:=q;exact⟨L,ds,k,h1,⟨_,by rw[e];exact Zvv ns hl,hk⟩,h3⟩
end
theorem Z8z{l:PySem.W.OpenLaw}{fa:YG}(X:K.In h)(G:h.Ns XN mg)(hfa:mg "law"=YB (.ref fa))
  (q1:Ei K "_law_take" Zfp f1 d1)
  (q2:Ei K "_law_bottom" Zcq f2 d2)
  (q3:Ei K "_law_stir" Zf4 f3 d3)
  (q4:Ei K "_law_deck" Zfo f4 d4)
  (q5:Ei K "_law_fraction" Zbj f5 d5)
  (q6:Ei K "_law_due" Zhp f6 d6)
  (q7:Ei K "_law_good" Zff f7 d7)
  (q8:Ei K "_law_lined" Zd5 f8 d8)
  (q9:Ei K "_law_fits" Zft f9 d9)
  (q10:Ei K "_law_on_line" Zcb f10 d10)
  (q11:Ei K "_law_add_cut" Zca f11 d11)
  (q12:Ei K "_law_nought" Zc4 f12 d12)
  (q13:Ei K "_law_shortest" Zbm f13 d13)
  (q14:Ei K "_law_long" Zfq f14 d14)
  (q15:Ei K "_law_places" Zc2 f15 d15)
  (q16:Ei K "_law_other" Zd2 f16 d16)
  (q17:Ei K "_law_table" Zea f17 d17)
  (q18:Ei K "_law_is_refused" Zab f18 d18)
  (q19:Ei K "is_whole" Zfs f19 d19)
  (q20:Ei K "check_points" Zbr f20 d20)
  (q21:Ei K "cut_of" Zjv f21 d21)
  (q22:Ei K "cut_beyond" Zdh f22 d22)
  (q23:Ei K "greatest_divisor" Jc f23 d23)
  (q24:Ei K "in_least" Zf5 f24 d24)
  (q25:Ei K "fraction" Zfw f25 d25)
  (q26:Ei K "first_apart" Zb8 f26 d26)
  (q27:Ei K "pairs_of" Zf1 f27 d27)
  (q28:Ei K "fits_places" Zb6 f28 d28)
  (q29:Ei K "place_of" Zf8 f29 d29)
  (q30:Ei K "places_of" Zd6 f30 d30)
  (q31:Ei K "shared_bottom" Zak f31 d31)
  (q32:Ei K "table_bottom" Zbh f32 d32)
  (q33:Ei K "tops_over" Zee f33 d33)
  (q34:Ei K "table_over" Zcp f34 d34)
  (q35:Ei K "line_cuts" Zeb f35 d35)
  (q36:Ei K "_law_told" Zfl f36 d36)
  (q37:Ei K "law" Zzt f37 d37)
  (z0:Ql K XN "ValueError"=YB YC)
  (z1:Ql K XN "abs"=YB YC)
  (z2:Ql K XN "bool"=YB YC)
  (z3:Ql K XN "enumerate"=YB YC)
  (z4:Ql K XN "int"=YB YC)
  (z5:Ql K XN "isinstance"=YB YC)
  (z6:Ql K XN "len"=YB YC)
  (z7:Ql K XN "list"=YB YC)
  (z8:Ql K XN "min"=YB YC)
  (z9:Ql K XN "range"=YB YC)
  (z10:Ql K XN "set"=YB YC)
  (z11:Ql K XN "sorted"=YB YC)
  (z12:Ql K XN "tuple"=YB YC)
  (z13:Ql K XN "zip"=YB YC)
  (cc_CutError:Ql K XN "CutError"=YB (YB (.ref C_CutError)))
  (cc_NoCut:Ql K XN "NoCut"=YB (YB (.ref C_NoCut)))
  (cc_NoName:Ql K XN "NoName"=YB (YB (.ref C_NoName)))
  (cc_NoNumber:Ql K XN "NoNumber"=YB (YB (.ref C_NoNumber)))
  (cc_NoOrder:Ql K XN "NoOrder"=YB (YB (.ref C_NoOrder)))
  (cc_NoPoint:Ql K XN "NoPoint"=YB (YB (.ref C_NoPoint)))
  (cc_NoRow:Ql K XN "NoRow"=YB (YB (.ref C_NoRow)))
  (cc_NoTable:Ql K XN "NoTable"=YB (YB (.ref C_NoTable)))
  (cc_NoText:Ql K XN "NoText"=YB (YB (.ref C_NoText)))
  (cc_NoWeb:Ql K XN "NoWeb"=YB (YB (.ref C_NoWeb)))
  (cc_TooMany:Ql K XN "TooMany"=YB (YB (.ref C_TooMany)))
  (x_NoCut:Zbl K C_NoCut)
  (x_NoNumber:Zbl K C_NoNumber)
  (x_NoTable:Zbl K C_NoTable)
  (r_CutError:Zhi K C_CutError)
  (r_NoCut:Zhi K C_NoCut)
  (r_NoNumber:Zhi K C_NoNumber)
  (r_NoTable:Zhi K C_NoTable)
  (u_NoCut_CutError:Be K (.ref C_NoCut) (.ref C_CutError)=YB YD)
  (kt_NoCut_NoTable:Qi K (.ref C_NoCut) (.ref C_NoTable)=YB YF)
  (kt_NoCut_ValueError:Qi K (.ref C_NoCut) (.type "ValueError")=YB YD)
  (ka_NoCut_0:Bu K (.ref C_NoCut) [.ref C_NoCut,.ref C_NoName,.ref C_NoNumber,.ref C_NoOrder,.ref C_NoPoint,.ref C_NoRow,.ref C_NoText,.ref C_NoWeb,.ref C_TooMany]=YB YD)
  (u_NoNumber_CutError:Be K (.ref C_NoNumber) (.ref C_CutError)=YB YD)
  (kt_NoNumber_NoTable:Qi K (.ref C_NoNumber) (.ref C_NoTable)=YB YF)
  (kt_NoNumber_ValueError:Qi K (.ref C_NoNumber) (.type "ValueError")=YB YD)
  (ka_NoNumber_0:Bu K (.ref C_NoNumber) [.ref C_NoCut,.ref C_NoName,.ref C_NoNumber,.ref C_NoOrder,.ref C_NoPoint,.ref C_NoRow,.ref C_NoText,.ref C_NoWeb,.ref C_TooMany]=YB YD)
  (u_NoTable_CutError:Be K (.ref C_NoTable) (.ref C_CutError)=YB YD)
  (kt_NoTable_NoTable:Qi K (.ref C_NoTable) (.ref C_NoTable)=YB YD)
  (kt_NoTable_ValueError:Qi K (.ref C_NoTable) (.type "ValueError")=YB YD)
  (ka_NoTable_0:Bu K (.ref C_NoTable) [.ref C_NoCut,.ref C_NoName,.ref C_NoNumber,.ref C_NoOrder,.ref C_NoPoint,.ref C_NoRow,.ref C_NoText,.ref C_NoWeb,.ref C_TooMany]=YB YF)
  :∃fd:XF,(∀(s:Xe) (v:Xd),BindsTo s fd ⟨[v],[]⟩ [("script",v)])/\∀base:YH,K.In base->base.Ns XN mg->FnOk l.prog w K mg base CX0 7 fa fd ["script"] (spD K Z8m):=by
 have e:=hfa.symm.trans (PySem.W.mg_of X G q37.a);cases e;have T:Txt K mg (λk=>[f1,f2,f3,f4,f5,f6,f7,f8,f9,f10,f11,f12,f13,f14,f15,f16,f17,f18,f19,f20,f21,f22,f23,f24,f25,f26,f27,f28,f29,f30,f31,f32,f33,f34,f35,f36,f37].getD k 0) (λk=>[d1,d2,d3,d4,d5,d6,d7,d8,d9,d10,d11,d12,d13,d14,d15,d16,d17,d18,d19,d20,d21,d22,d23,d24,d25,d26,d27,d28,d29,d30,d31,d32,d33,d34,d35,d36,d37].getD k d37) (λk=>[C_CutError,C_NoCut,C_NoName,C_NoNumber,C_NoOrder,C_NoPoint,C_NoRow,C_NoTable,C_NoText,C_NoWeb,C_TooMany].getD k 0):=⟨en2 X G q1,en1 X G q2,en2 X G q3,en1 X G q4,en2 X G q5,en2 X G q6,en2 X G q7,en1 X G q8,en4 X G q9,en2 X G q10,en3 X G q11,en1 X G q12,en1 X G q13,en2 X G q14,en2 X G q15,en2 X G q16,en2 X G q17,en1 X G q18,en1 X G q19,en2 X G q20,en2 X G q21,en2 X G q22,en2 X G q23,en2 X G q24,en2 X G q25,en1 X G q26,en1 X G q27,en2 X G q28,en3 X G q29,en1 X G q30,en1 X G q31,en1 X G q32,en2 X G q33,en2 X G q34,en1 X G q35,en1 X G q36,en1 X G q37,Qz X G z0,Qz X G z1,Qz X G z2,Qz X G z3,Qz X G z4,Qz X G z5,Qz X G z6,Qz X G z7,Qz X G z8,Qz X G z9,Qz X G z10,Qz X G z11,Qz X G z12,Qz X G z13,ec X G cc_CutError,ec X G cc_NoCut,ec X G cc_NoName,ec X G cc_NoNumber,ec X G cc_NoOrder,ec X G cc_NoPoint,ec X G cc_NoRow,ec X G cc_NoTable,ec X G cc_NoText,ec X G cc_NoWeb,ec X G cc_TooMany,x_NoCut,x_NoNumber,x_NoTable,r_CutError,r_NoCut,r_NoNumber,r_NoTable,u_NoCut_CutError,kt_NoCut_NoTable,kt_NoCut_ValueError,ka_NoCut_0,u_NoNumber_CutError,kt_NoNumber_NoTable,kt_NoNumber_ValueError,ka_NoNumber_0,u_NoTable_CutError,kt_NoTable_NoTable,kt_NoTable_ValueError,ka_NoTable_0⟩;refine⟨d37,λs v=>?_,λbase _ _=>Z1c (P:=l.prog) (w:=w) (base:=base) T⟩;obtain⟨_,_,_,_,_,_,_,_,_,rfl,_,_⟩:=q37.F.ex;exact .of_eq rfl
theorem walk{l:PySem.W.OpenLaw}{q:X6}{d:DefRec}{K:Params->Xc}(hn:l.most=YB 63)(hdf:d.params.defaults=[])
  (hY:∀(w:Qp) (h:YH),YP w h->(K w.params).In h)
  (F:∀(w:Qp) (mg:Str->Option Xd) (fa:YG) (h:YH),(K w.params).In h->h.Ns XN mg->mg d.name=YB (.ref fa) ->
   ∃fd:XF,(∀(s:Xe) (u:Xd),BindsTo s fd ⟨[u],[]⟩ [("script",u)])/\∀base:YH,(K w.params).In base->base.Ns XN mg->FnOk l.prog w (K w.params) mg base CX0 7 fa fd ["script"] (spD (K w.params) Z8m)) :
  PySem.W.WalkO q loose XP YP l.row.toRowW d [] (λf vs=>PySem.call f vs) :=
 L2.Zzc (n:=63) (k:=7) (x :="script") (CX:=λ_=>CX0) (sp:=λw=>spD (K w.params) Z8m) hn (by decide) hdf ⟨rfl,by decide,by decide⟩ hY F (λ_ _ a ns hl _ hS=>Z6d hl hS) λ_ _ _ _ _ z=>z
end My
open PySem PySem.W PyProof.Rows
theorem PySem.W.Fast.tw17216897170103633826:True:=trivial
theorem PySem.W.Fast.tw3614900530147724302:True:=trivial
theorem PySem.W.Fast.tw11544134284613795252:True:=trivial
theorem PySem.W.Fast.tw17204844695247639449:True:=trivial
theorem PySem.W.Fast.tw15544635380987868757:True:=trivial
theorem PySem.W.Fast.tw16260354164552480907:True:=trivial
theorem PySem.W.Fast.tw7194955811278378745:True:=trivial
theorem PySem.W.Fast.tw12579186098036381821:True:=trivial
theorem PySem.W.Fast.tw9921811900025885486:True:=trivial
theorem PySem.W.Fast.tw6354962588847095463:True:=trivial
theorem PySem.W.Fast.tw2979423144026692156:True:=trivial
theorem PySem.W.Fast.tw5615658519310865246:True:=trivial
theorem PySem.W.Fast.tw15233428496920528928:True:=trivial
theorem PySem.W.Fast.tw5247210175076689855:True:=trivial
theorem PySem.W.Fast.tw7732717448963709098:True:=trivial
theorem PySem.W.Fast.tw14393845207776553473:True:=trivial
theorem PySem.W.Fast.tw17828919800084813050:True:=trivial
theorem PySem.W.Fast.tw4816588365990358611:True:=trivial
theorem PySem.W.Fast.tw15557310345397841208:True:=trivial
theorem PySem.W.Fast.tw11291580367661645076:True:=trivial
theorem PySem.W.Fast.tw4806020552981224490:True:=trivial
theorem PySem.W.Fast.tw5689245685912229838:True:=trivial
theorem PySem.W.Fast.tw14819329654694351660:True:=trivial
theorem PySem.W.Fast.tw7337538128811899292:True:=trivial
theorem PySem.W.Fast.tw1642991006888481075:True:=trivial
theorem PySem.W.Fast.tw18355762285318061628:True:=trivial
theorem PySem.W.Fast.tw6863948397652295547:True:=trivial
theorem PySem.W.Fast.tw10886836483799108687:True:=trivial
theorem PySem.W.Fast.tw9851559580133223663:True:=trivial
theorem PySem.W.Fast.tw12280407868243551100:True:=trivial
theorem PySem.W.Fast.tw16801171221476969007:True:=trivial
theorem PySem.W.Fast.tw17685920907684806690:True:=trivial
theorem PySem.W.Fast.tw16485654343336657584:True:=trivial
theorem PySem.W.Fast.tw17688838659056697033:True:=trivial
theorem PySem.W.Fast.tw3440536926042211807:True:=trivial
theorem PySem.W.Fast.tw117449146490980820:True:=trivial
theorem PySem.W.Fast.tw11557741515608591697:True:=trivial
theorem PySem.W.Fast.tw3994640518616955487:True:=trivial
theorem PySem.W.Fast.tw9706080448383850613:True:=trivial
theorem PySem.W.Fast.tw10925004790264847899:True:=trivial
theorem PySem.W.Fast.tw4401428961039339957:True:=trivial
theorem PySem.W.Fast.tw14700298650476655595:True:=trivial
theorem PySem.W.Fast.tw13861033723565359728:True:=trivial
theorem PySem.W.Fast.tw7273057050473222470:True:=trivial
theorem PySem.W.Fast.tw1162479033737865579:True:=trivial
theorem PySem.W.Fast.tw95869265607053015:True:=trivial
theorem PySem.W.Fast.tw12905479468023137702:True:=trivial
theorem PySem.W.Fast.tw2478819978683167369:True:=trivial
theorem PySem.W.Fast.tw11992801122142170441:True:=trivial
theorem PySem.W.Fast.tw3904117221746536001:True:=trivial
theorem PySem.W.Fast.tw17630379398214190606:True:=trivial
theorem PySem.W.Fast.tw9610565860440368212:True:=trivial
theorem PySem.W.Fast.tw1895870445848503873:True:=trivial
theorem PySem.W.Fast.tw11420935125533273941:True:=trivial
theorem PySem.W.Fast.tw9700939910757715444:True:=trivial
theorem PySem.W.Fast.tw1362944728694409208:True:=trivial
theorem PySem.W.Fast.tw10333078048116428477:True:=trivial
theorem PySem.W.Fast.tw7120481964482760817:True:=trivial
theorem PySem.W.Fast.tw12203861821519832629:True:=trivial
theorem PySem.W.Fast.tw15877767965847225069:True:=trivial
set_option maxRecDepth 100000 in
set_option maxHeartbeats 0 in
theorem PySem.Challenge.cw_farcuts_k55_cuts_of_lines_holds : PySem.Challenge.rw_farcuts_k55_cuts_of_lines.Holds := by
 w_on;o_law;k_head;(case hw=>w_witness2)
 k_fill
 refine My.walk (l:=PySem.Challenge.rw_farcuts_k55_cuts_of_lines) rfl rfl (λw h Y_a=>PySem.W.kIn_of Y_a) ?F
 case F=>
  intro w mg fa h KX G hmg;refine' My.Z8z KX G hmg ?_ ?_ ?_ ?_ ?_ ?_ ?_ ?_ ?_ ?_ ?_ ?_ ?_ ?_ ?_ ?_ ?_ ?_ ?_ ?_ ?_ ?_ ?_ ?_ ?_ ?_ ?_ ?_ ?_ ?_ ?_ ?_ ?_ ?_ ?_ ?_ ?_ ?_ ?_ ?_ ?_ ?_ ?_ ?_ ?_ ?_ ?_ ?_ ?_ ?_ ?_ ?_ ?_ ?_ ?_ ?_ ?_ ?_ ?_ ?_ ?_ ?_ ?_ ?_ ?_ ?_ ?_ ?_ ?_ ?_ ?_ ?_ ?_ ?_ ?_ ?_ ?_ ?_ ?_ ?_ ?_
  all_goals try (first|(refine' ⟨?a,L2.Z7l ?l ?c ?k⟩;(case a=>k_is);(case l=>k_is);(case c=>k_is);(case k=>k_is))|k_is|kit_is|(show PySem.W.excIn _ _ _ _=YD;k_exc)|(refine' ⟨?_,?_,?_,?_,?_,?_,?_,?_,?_,?_,?_⟩<;>first|k_is|kit_is|(show PySem.W.isClsIn _ _=YD;k_is)))
#print axioms PySem.Challenge.cw_farcuts_k55_cuts_of_lines_holds
