import PyProof.Rows.All
import Wide.All
import OpenK.AllK
import Wide.FinOn
import PyProof.EqAt
import PyProof.EqKinds
import PyProof.TupleCall
import PyProof.P3In
import PyProof.ZipIter
import PyProof.ListRange
import PyProof.SetRoads
import PyProof.Rows.SetFrom
import PyProof.Rows.SeqMore2
import KE.RegKIsAll
import PyProof.StrWalks
import PyProof.EnumMake
import PyProof.Conv_int
import PyProof.Conv_int_bool
import PyProof.StrBlockI
import PyProof.Draws
import PySem.Challenge.RW_farcuts_k30_whole_rings_of_trees
set_option Elab.async false
set_option linter.all false
set_option maxRecDepth 100000
set_option genSizeOfSpec false
set_option genInjectivity false
open Array renaming map_extract->X4,map_append->Qc,size_map->Qj,map_push->QL,map_reverse->JD,getElem?_toList->Be,length_toList->Vx
open Bool renaming false_ne_true->Xn,and_eq_true->XC,eq_false_iff->JW,false_eq_true->Vn,eq_iff_iff->Us
open Classical renaming byContradiction->Qx,axiomOfChoice->Um
open False renaming elim->V7
open ForInStep renaming yield->Bp
open Int renaming toNat_natCast->Q7,le_refl->JN,toNat_of_nonneg->JV,zero_add->Bh,mul_nonpos_of_nonneg_of_nonpos->Bj,le_trans->Bw,gcd->Bx,gcd_eq_natAbs_gcd_natAbs->VN,mul_add->Ue,min_eq_right->Uk,min_eq_left->Uw
open List renaming getD_eq_getElem?_getD->Xb,length_map->Xd,getElem?_eq_getElem->Xf,mem_singleton->Xj,mem_cons->Xm,range->Xo,getElem?_map->Xp,length_append->Xq,map_congr_left->Xu,mem_map->Xv,getElem?_eq_some_iff->Xw,mem_range->Xx,size_toArray->Xy,length_range->XD,map_cons->XM,mem_append->XQ,map_map->XR,replicate->X5,map_append->Qg,mem_append_right->Qn,nodup_cons->Qo,mem_filter->Qs,rel_of_pairwise_cons->Qt,getElem?_eq_none->Qv,getElem?_append_right->Qw,getElem?_eq_none_iff->Qy,mem_of_getElem?->Qz,getElem?_range->QG,getElem?_append_left->QK,length_singleton->QM,append_assoc->QQ,length_drop->QR,append_nil->QS,pairwise_map->QW,getElem?_set_ne->Q3,getElem_mem->Q4,exists_mem_of_ne_nil->JC,lookup_cons->JH,sum_cons->JK,nodup_append->JL,getElem?_set_self->JP,length_cons->JR,filterMap_cons->JS,Nodup->JT,pairwise_singleton->JZ,filter_cons_of_neg->Ba,length_take->Bb,filter_cons_of_pos->Bk,toArray->Bv,getElem?_of_mem->BX,eq_nil_of_length_eq_zero->BZ,all_eq_true->Vg,getElem?_drop->Vl,find?_eq_none->Vm,length_set->Vr,exists_of_findSome?_eq_some->Vt,replicate_succ->Vy,mem_map_of_mem->Vz,flatMap_append->VB,getElem?_cons_succ->VD,length_replicate->VP,length_filter_le->VR,getElem?_reverse->V0,ext_getElem?->V3,mem_append_left->Ub,getElem?_append->Uc,pairwise_iff_getElem->Ui,drop_eq_getElem_cons->Uj,range_succ->Uq,getElem?_take->Uu,getElem?_replicate->Ux,forIn_nil->UL,flatten_cons->UT,drop_eq_nil_of_le->UV,take_length->U7,not_mem_nil->U8,mem_flatMap->U9
open Nat renaming ne_of_lt->XF,le_refl->X3,ne_of_gt->X6,lt_of_lt_of_le->Qq,le_trans->QD,zero_le->QH,le_of_ble_eq_true->Bf,pow_le_pow_right->Va,mod_eq_of_lt->Vi,lt_succ_self->Vj,le_add_right->Vk,not_lt_zero->Vs,lt_irrefl->Vw,le_of_lt->VM,lt_trichotomy->UW,lt_or_ge->U0
open Ne renaming symm->VF
open Option renaming bind_some->Xg,map_some->Qa,map_none->QC,some->BR,map_eq_some_iff->VG,getD_some->Ua,isSome_iff_exists->Ul
open Option.some renaming inj->Q9
open Or renaming inr->QF,inl->QT
open Prod renaming fst->Qp
open PyProof.Rows renaming seqObj->Q0,IntsAre->BV,callWith_type1->BW,SortSt->Vd,SortKind->Vh,Keyed->Uv,pairsOf->UJ,pendingOf->U5
open PyProof.Rows.SortSt renaming mk'->Vf
open PySem renaming PyData->Xa,Value->Xe,Shared->Xh,wpAny_bind->Xi,starEach->Xr,sizeLine->Xz,FuncData->XJ,wpAny->X8,wpAny_pure->Qd,bootBuiltins->Qh,Program->Qi,sizeLine_eq->Qk,mainGlobals->Ql,model->Qm,Around->QB,World->QJ,wpAny_loadPart'->JM,backTo->JX,assignEach->Bm,sliceBounds->Bq,compareOp->Br,mem_of_lookup->Bu,foldedSetIterable->By,cellsFrom->BJ,NameKind->Vb,wpAny_mono->Vc,IsPair->Vo,wpAny_field->Vp,pushCells->Vq,wpAny_seqItems->VH,wpAny_call_entry->VJ,binaryOp->VL,wpAny_setField_rec->V1,wpAny_Call_Name_kw->V2,wpAny_passesOwn->V5,wpAny_holding->V8,swapsWith->V9,wpAny_truthy_bool->Ug,Keyword->Ur,attributeBase->Uy,wpAny_callSpecial?_slot->U4,Scope->U6
open PySem.Builtin.Int renaming intBits->Bl
open PySem.Builtin.List renaming listTooLong->V4
open PySem.Builtin.SmallTypes renaming nextOf->JF,ownedTupleIsFree->BL
open PySem.F renaming plainAttrs_list->Uo
open PySem.Heap renaming get?_push_of_some->Xl,lt_size->XN,get?_push_size->Qe,size_push->Bg,SameBut->Uh
open PySem.NameKind renaming free->JG,cell->BK
open PySem.Obj renaming mapSeq->QX
open PySem.PassesOwn renaming never->XX
open PySem.PyData renaming int->Xk,list->Qu,eqv->Q6,canLayAll0->Bo,canLay0->BP
open PySem.SeqAt renaming EqAt->Bs,shaped->Uz,canLay_of_shaped->UG
open PySem.Value renaming ref->QZ,none->JB
open PySem.W renaming Frag->Xc,kas_item->X7,mg_none_of->QV,nsIn->Q8,kia_one->JQ,Looks->Bc,keepIn->Ve,kitOne->Vu,findIn->Vv,fnOf->V6
open Rat renaming divInt->XH,divInt_eq_div->Q5,div_def->Ud,intCast_mul->Ut
noncomputable section
open PySem renaming Addr->YG,Heap->YH,Expr->YJ,Stmt->YK
open Bool renaming true->YD,false->YF
open Option renaming some->YB,none->YC
abbrev YL:=@if_pos
abbrev YM:=@if_neg
abbrev YQ:=@decide_eq_true
abbrev YS:=@decide_eq_false
abbrev YT:=@congrArg
abbrev YW:=@of_decide_eq_true
abbrev YX:=@absurd
abbrev YZ:=@beq_iff_eq
namespace L2
open PySem PySem.Spec PyProof.Rows
abbrev Key:=Sum Int Str
def Yax:Key->Xe->Bool
 | .inl k,v=>Xe.isInt k v
 | .inr x,v=>Xe.isStrOf x v
def Yjy(w:QJ):Key->Int
 | .inl k=>hashInt k
 | .inr x=>hashStr w x
theorem Wj:∀{k:Key} {v:Xe},Yax k v=YD->(∃i t,k=Sum.inl i/\v=Value.int i t)\/(∃x t,k=Sum.inr x/\v=Value.str x t)
 | .inl i,v,h=>by
  obtain⟨t,e⟩:=Value.isInt_shape (k:=i) (v:=v) h;exact .inl ⟨i,t,rfl,e⟩
 | .inr x,v,h=>by
  obtain⟨t,e⟩:=Xe.isStrOf_shape (x:=x) (v:=v) h;exact .inr ⟨x,t,rfl,e⟩
theorem Yc4(a b:Int):decide ((Sum.inl a:Key)=Sum.inl b)=(a==b):=by
 by_cases e:a=b
 .subst e;simp
 .have h:¬(Sum.inl a:Key)=Sum.inl b:=λq=>e (Sum.inl.inj q)
  rw[YS h];exact(beq_eq_false_iff_ne.mpr e).symm
theorem Yb8(a b:Str):decide ((Sum.inr a:Key)=Sum.inr b)=decide (a=b):=by
 by_cases e:a=b
 .subst e;simp
 .have h:¬(Sum.inr a:Key)=Sum.inr b:=λq=>e (Sum.inr.inj q)
  rw[YS h,YS e]
theorem Ydv(a:Int)(b:Str):decide ((Sum.inl a:Key)=Sum.inr b)=YF:=YS (λq=>nomatch q)
theorem Ycb(a:Str)(b:Int):decide ((Sum.inr a:Key)=Sum.inl b)=YF:=YS (λq=>nomatch q)
def Zqb(prog:Qi)(w:QJ):PySem.KeyKind prog w Key where
 is:=Yax
 hash:=Yjy w
 inj:=λv a b ha hb=>by
  rcases Wj ha with⟨i,t,rfl,rfl⟩|⟨x,t,rfl,rfl⟩
  .rcases Wj hb with⟨j,u,rfl,e⟩|⟨y,u,rfl,e⟩
   .injection e with e1 _;rw[e1]
   .exact nomatch e
  .rcases Wj hb with⟨j,u,rfl,e⟩|⟨y,u,rfl,e⟩
   .exact nomatch e
   .injection e with e1 _;rw[e1]
 byValue:=λk v h=>by
  rcases Wj h with⟨i,t,rfl,rfl⟩|⟨x,t,rfl,rfl⟩<;>rfl
 pyHash:=λhv h=>by
  rcases Wj hv with⟨i,t,rfl,rfl⟩|⟨x,t,rfl,rfl⟩
  .exact wpAny_pyHash_int h
  .exact wpAny_pyHash_str h
 eqBool:=λhu hv h=>by
  rcases Wj hu with⟨i,t,rfl,rfl⟩|⟨x,t,rfl,rfl⟩
  .rcases Wj hv with⟨j,u,rfl,rfl⟩|⟨y,u,rfl,rfl⟩
   .rw[Yc4]at h;exact wpAny_eqBool_int h
   .rw[Ydv]at h;exact SeqAt.EqAt.int_str i t y u _ _ _ _ h
  .rcases Wj hv with⟨j,u,rfl,rfl⟩|⟨y,u,rfl,rfl⟩
   .rw[Ycb]at h;exact SeqAt.EqAt.str_int x t j u _ _ _ _ h
   .rw[Yb8]at h;exact wpAny_eqBool_str h
 «strs»:=λk x t v h=>by
  rcases Wj h with⟨i,u,rfl,e⟩|⟨y,u,rfl,e⟩
  .exact nomatch e
  .injection e with e1 _
   subst e1;cases v<;>rfl
inductive V where
 | non|bl (b:Bool)|int (i:Int)|str (x:Str)|byt (b:Array UInt8)|flt (b:UInt64)|ref (a:YG)|ty (n:String)
 deriving DecidableEq
def RelV:V->Xe->Prop
 | .non,u=>u=JB
 | .bl b,u=>u=Value.bool b
 | .int i,u=>∃t,u=Value.int i t
 | .str x,u=>∃t,u=Value.str x t
 | .byt b,u=>∃t,u=Xe.bytes b t
 | .flt b,u=>∃t,u=Xe.float b t
 | .ref a,u=>u=QZ a
 | .ty n,u=>u=Value.type n
abbrev Vals:List V->List Xe->Prop:=Paired RelV
theorem Vals.length{xs:List V}{us:List Xe}(r:Vals xs us):xs.length=us.length:=Paired.length r
theorem Vals.get{xs:List V}{us:List Xe}{i:Nat}{x:V}(h:Vals xs us)(e:xs[i]? =YB x):∃u,us[i]? =YB u/\RelV x u:=by
 induction h generalizing i with
 | nil=>exact(Option.some_ne_none _ (e.symm.trans List.getElem?_nil)).elim
 | cons r t ih=>
  cases i with
  | zero=>exact⟨_,rfl,Q9 e▸r⟩
  | succ i=>exact ih e
theorem Vals.set{x:V}{u:Xe}(r:RelV x u){xs:List V}{us:List Xe}(i:Nat)(h:Vals xs us):Vals (xs.set i x) (us.set i u):=by
 induction h generalizing i with
 | nil=>exact .nil
 | cons q t ih=>
  cases i with
  | zero=>exact .cons r t
  | succ i=>exact .cons q (ih i)
theorem Vals.append{xs ys:List V}{us ws:List Xe}(h:Vals xs us)(s:Vals ys ws):Vals (xs++ys) (us++ws):=by
 induction h with
 | nil=>exact s
 | cons r t ih=>exact .cons r ih
theorem Vals.take{xs:List V}{us:List Xe}(n:Nat)(h:Vals xs us):Vals (xs.take n) (us.take n):=by
 induction h generalizing n with
 | nil=>rw[List.take_nil,List.take_nil];exact .nil
 | cons r t ih=>
  cases n with
  | zero=>exact .nil
  | succ n=>exact .cons r (ih n)
theorem Vals.drop{xs:List V}{us:List Xe}(n:Nat)(h:Vals xs us):Vals (xs.drop n) (us.drop n):=by
 induction h generalizing n with
 | nil=>rw[List.drop_nil,List.drop_nil];exact .nil
 | cons r t ih=>
  cases n with
  | zero=>exact .cons r t
  | succ n=>exact ih n
def Yfs:Option V->Option Xe->Prop
 | some v,YB u=>RelV v u
 | none,YC=>True
 | _,_=>False
def KV{κ:Type}:List (κ×V)->List (κ×Xe)->Prop:=Paired λ(p:κ×V) (q:κ×Xe)=>p.1=q.1/\RelV p.2 q.2
def kV:Key->V
 | .inl i=>.int i
 | .inr x=>.str x
inductive HO where
  | lst (xs:List V)
  | tup (xs:List V)
  | dK (kvs:List (Key×V))|dT (kvs:List (List Key×V))
  | set (S:Int->Bool) (n:Nat)
  | ins (C dx:YG) (fs:List (Str×V))
  | own (x:YG)
  | xd (fs:List (Str×V))
  | met (f x:YG)
  | rng (lo hi:Int)
  | frz (o:Obj) (u:HO)
  | tbl (ps:Array Xe)
  | ext (φ:YH->Prop)
abbrev Hp:=YG->Option HO
def upd(H:Hp)(a:YG)(o:HO):Hp:=λb=>if b=a then YB o else H b
theorem Yj{H:Hp}{a:YG}{o:HO}:upd H a o a=YB o:=by unfold upd;rw[YL rfl]
theorem Yc{H:Hp}{a b:YG}{o:HO}(h:b≠a):upd H a o b=H b:=by unfold upd;rw[YM h]
theorem Wd{H:Hp}{a b:YG}{o:HO}(h:H a=YB o)(h':H b=YC):a≠b:=by
 intro e;subst e;rw[h]at h';cases h'
section
variable (P:Qi)(w:QJ)
def ObjOk(H:Hp)(h:YH)(a:YG):HO->Prop
 | .lst xs=>xs.length<=Xz/\∃(its:List Xe) (n:Nat),Vals xs its/\h.get? a=YB { cls:=.type "list",data:=.seq its.toArray n }
 | .tup xs=>xs.length<=Xz/\∃its:List Xe,Vals xs its/\IsTup h a its.toArray
 | .dK kvs=>kvs.length<=Xz/\(a==sysModules)=YF/\∃vs,KV kvs vs/\h.DictOf (Zqb P w) a vs
 | .dT kvs=>kvs.length<=Xz/\(a==sysModules)=YF/\∃xs:List (List Key×YG×Xe),
   Paired (λ(p:List Key×V) (q:List Key×YG×Xe)=>p.1=q.1/\H q.2.1=YB (.tup (p.1.map kV))/\RelV p.2 q.2.2) kvs xs/\
   ∃o es ep,h.get? a=YB o/\o.ExactDict/\o.data= .dict es ep/\es.toList=xs.map (entryOfKey (tupleKind (Zqb P w)))/\(xs.map (·.1)).Nodup
 | .set S n=>h.SetOf (intKind P w) a S n
 | .ins C dx fs=>H dx=YB (.own a)/\fs.length<=1000/\dx≠a/\h.get? a=YB (PySem.W.instObj C dx)/\
   ∃mA,h.Ns1 dx mA/\(∀f,Yfs (fs.lookup f) (mA f))/\PySem.Within mA (fs.map (·.1))
 | .own _=>∃o,h.get? a=YB o
 | .xd fs=>∃mA,h.Ns1 a mA/\∀f,Yfs (fs.lookup f) (mA f)
 | .rng lo hi=>∃t u v,h.get? a=YB { cls:=.type "range",data:=.fields #[.int lo t,.int hi u,.int 1 v] }
 | .frz o u=>h.get? a=YB o/\ObjOk H h a u
 | .tbl ps=>h.get? a=YB { cls:=.none,data:=.fields ps }
 | .met f x=>h.get? a=YB (PySem.W.methodObj (.ref f) (.ref x))
 | .ext φ=>φ h/\(∃o,h.get? a=YB o)/\∀h1 h2:YH,φ h1->(∀o,h1.get? a=YB o->h2.get? a=YB o)->φ h2
def HOk(H:Hp)(h:YH):Prop:=∀a o,H a=YB o->ObjOk P w H h a o
end
section
variable {P:Qi}{w:QJ}{H H':Hp}{h h':YH}{a:YG}{o:HO}
theorem ObjOk.lt(x:ObjOk P w H h a o):a<h.objs.size:=by
 cases o with
 | lst xs=>obtain⟨_,_,_,_,e⟩:=x;exact XN e
 | tup xs=>obtain⟨_,_,_,p⟩:=x;exact p.lt
 | dK kvs=>obtain⟨_,_,_,_,o,_,_,e,_⟩:=x;exact XN e
 | dT kvs=>obtain⟨_,_,_,_,o,_,_,e,_⟩:=x;exact XN e
 | set S n=>obtain⟨o,_,_,_,e,_⟩:=x;exact XN e
 | ins C dx fs=>obtain⟨_,_,_,e,_⟩:=x;exact XN e
 | own y=>obtain⟨_,e⟩:=x;exact XN e
 | xd fs=>obtain⟨_,⟨_,_,_,e,_⟩,_⟩:=x;exact XN e
 | rng lo hi=>obtain⟨_,_,_,e⟩:=x;exact XN e
 | frz ob u=>obtain⟨e,_⟩:=x;exact XN e
 | tbl ps=>exact XN (show h.get? a=YB _ from x)
 | met f y=>exact XN (show h.get? a=YB _ from x)
 | ext φ=>obtain⟨_,⟨_,e⟩,_⟩:=x;exact XN e
theorem Paired.mapP{α β:Type}{F G:α->β->Prop}{l₁:List α}{l₂:List β}(h:Paired F l₁ l₂)(f:∀a b,F a b->G a b):Paired G l₁ l₂:=by
 induction h with
 | nil=>exact .nil
 | cons r t ih=>exact .cons (f _ _ r) ih
theorem ObjOk.stay(x:ObjOk P w H h a o)(k:∀b u,(b=a\/H b=YB (.own a))->h.get? b=YB u->h'.get? b=YB u)
  (ho:∀b,H b=YB (.own a)->H' b=YB (.own a)) (ht:∀b xs,H b=YB (.tup xs)->H' b=YB (.tup xs)):ObjOk P w H' h' a o:=by
 induction o with
 | lst xs=>obtain⟨z,its,n,r,e⟩:=x;exact⟨z,its,n,r,k _ _ (.inl rfl) e⟩
 | tup xs=>obtain⟨z,its,r,ob,e,c⟩:=x;exact⟨z,its,r,ob,k _ _ (.inl rfl) e,c⟩
 | dK kvs=>obtain⟨z,y,vs,r,ob,es,ep,e,c⟩:=x;exact⟨z,y,vs,r,ob,es,ep,k _ _ (.inl rfl) e,c⟩
 | dT kvs=>
  obtain⟨z,y,xs,r,ob,es,ep,e,c⟩:=x;exact⟨z,y,xs,Paired.mapP r λp q z=>⟨z.1,ht _ _ z.2.1,z.2.2⟩,ob,es,ep,k _ _ (.inl rfl) e,c⟩
 | set S n=>obtain⟨ob,es,ep,t,e,c⟩:=x;exact⟨ob,es,ep,t,k _ _ (.inl rfl) e,c⟩
 | ins C dx fs=>
  obtain⟨d,z,ne,e,mA,⟨od,es,ep,e2,c⟩,r⟩:=x;exact⟨ho _ d,z,ne,k _ _ (.inl rfl) e,mA,⟨od,es,ep,k _ _ (.inr d) e2,c⟩,r⟩
 | own y=>obtain⟨ob,e⟩:=x;exact⟨ob,k _ _ (.inl rfl) e⟩
 | xd fs=>obtain⟨mA,⟨od,es,ep,e,c⟩,r⟩:=x;exact⟨mA,⟨od,es,ep,k _ _ (.inl rfl) e,c⟩,r⟩
 | rng lo hi=>obtain⟨t,u,v,e⟩:=x;exact⟨t,u,v,k _ _ (.inl rfl) e⟩
 | frz ob u ih=>obtain⟨e,q⟩:=x;exact⟨k _ _ (.inl rfl) e,ih q⟩
 | tbl ps=>
  have e:h.get? a=YB { cls:=.none,data:=.fields ps }:=x;show h'.get? a=YB { cls:=.none,data:=.fields ps };exact k a _ (.inl rfl) e
 | met f y=>
  have e:h.get? a=YB (PySem.W.methodObj (.ref f) (.ref y)):=x;show h'.get? a=YB (PySem.W.methodObj (.ref f) (.ref y));exact k a _ (.inl rfl) e
 | ext φ=>obtain⟨p,⟨o,e⟩,st⟩:=x;exact⟨st _ _ p λo q=>k _ _ (.inl rfl) q,⟨o,k _ _ (.inl rfl) e⟩,st⟩
theorem HOk.lt(x:HOk P w H h)(e:H a=YB o):a<h.objs.size:=(x a o e).lt
theorem HOk.fresh(x:HOk P w H h)(e:h.objs.size<=a):H a=YC:=by
 cases q:H a with
 | none=>rfl
 | some u=>exact YX (Qq (x.lt q) e) (Vw _)
theorem HOk.kept(x:HOk P w H h)(k:∀b u,h.get? b=YB u->h'.get? b=YB u):HOk P w H h':=λa o e=>
 (x a o e).stay (λb u _ q=>k b u q) (λ_ q=>q) λ_ _ q=>q
theorem HOk.laid(x:HOk P w H h)(k:∀b u,h.get? b=YB u->h'.get? b=YB u)(hp:h.objs.size<=a)(new:ObjOk P w (upd H a o) h' a o):HOk P w (upd H a o) h':=λb u e=>by
 have hn:=x.fresh hp
 by_cases hb:b=a
 .subst hb;rw[Yj]at e;cases e;exact new
 .rw[Yc hb]at e
  exact(x b u e).stay (λc v _ q=>k c v q) (λc q=>by rw[Yc (Wd q hn)];exact q) λc xs q=>by rw[Yc (Wd q hn)];exact q
end
def Rd(H:Hp)(a:YG)(u:HO):Prop:=H a=YB u\/∃o,H a=YB (.frz o u)
theorem Rd.ok{P:Qi}{w:QJ}{H:Hp}{h:YH}{a:YG}{u:HO}(r:Rd H a u)(x:HOk P w H h):ObjOk P w H h a u:=by
 rcases r with r|⟨o,r⟩
 .exact x a u r
 .obtain⟨_,q⟩:=x a _ r
  exact q
def Mut:Option HO->Prop
 | some (.lst _)=>True
 | some (.dK _)=>True
 | some (.dT _)=>True
 | some (.set _ _)=>True
 | some (.ins _ _ _)=>True
 | some (.ext _)=>True
 | _=>False
section
variable {P:Qi}{w:QJ}{H:Hp}{h h':YH}{x e:YG}{o':HO}
theorem HOk.write(ok:HOk P w H h)(mu:Mut (H x))(he:e=x\/H e=YB (.own x))(k:∀b u,b≠e->h.get? b=YB u->h'.get? b=YB u)(heo:∃u,h'.get? e=YB u)
  (new:ObjOk P w (upd H x o') h' x o'):HOk P w (upd H x o') h':=λb u q=>by
 have nown:∀c y,H c=YB (.own y)->c≠x:=λc y r z=>by subst z;rw[r]at mu;exact mu
 have ntup:∀c xs,H c=YB (.tup xs)->c≠x:=λc xs r z=>by subst z;rw[r]at mu;exact mu
 by_cases hb:b=x
 .subst hb;rw[Yj]at q;cases q;exact new
 .rw[Yc hb]at q
  by_cases hbe:b=e
  .have q':H b=YB (.own x):=by
    rcases he with z|z
    .exact YX (hbe.trans z) hb
    .rw[hbe];exact z
   rw[q]at q';cases q';obtain⟨v,hv⟩:=heo;exact⟨v,by rw[hbe];exact hv⟩
  .refine(ok b u q).stay (λc v hc r=>k c v ?_ r) (λc r=>by rw[Yc (nown c b r)];exact r) λc xs r=>by rw[Yc (ntup c xs r)];exact r
   rcases hc with rfl|hc
   .exact hbe
   .rintro rfl
    rcases he with z|z
    .exact nown c b hc z
    .rw[hc]at z;cases z;exact hb rfl
end
structure Un(fs ex:List YG)(H H':Hp)(h h':YH):Prop where
 keep:∀b o,h.get? b=YB o->H b=YC->b∉fs->b∉ex->h'.get? b=YB o
 slot:∀b o,h.get? b=YB o->H b=YC->b∈fs->b∉ex->∃sl,h'.get? b=YB { o with slots:=sl }
 free:∀b o,h.get? b=YB o->H b=YC->b∉ex->H' b=YC
 there:∀b o,h.get? b=YB o->b∉ex->∃o',h'.get? b=YB o'
 tups:∀b xs,H b=YB (.tup xs)->H' b=YB (.tup xs)
 frzs:∀b o u,H b=YB (.frz o u)->H' b=YB (.frz o u)
 tbls:∀b ps,H b=YB (.tbl ps)->∃more,H' b=YB (.tbl (ps++more))
section
variable {fs fs' ex ex':List YG}{H H1 H2:Hp}{h h1 h2 h':YH}{a x e:YG}{o:HO}
theorem Un.any(u:Un fs ex H H1 h h1){b:YG}{ob:Obj}(q:h.get? b=YB ob)(n:H b=YC)(hx:b∉ex):∃sl,h1.get? b=YB { ob with slots:=sl }:=by
 by_cases hb:b∈fs
 .exact u.slot b ob q n hb hx
 .exact⟨ob.slots,u.keep b ob q n hb hx⟩
theorem Un.kept(k:∀b u,h.get? b=YB u->h'.get? b=YB u):Un fs ex H H h h' :=
 ⟨λb ob q _ _ _=>k b ob q,λb ob q _ _ _=>⟨ob.slots,k b ob q⟩,λ_ _ _ n _=>n,λb ob q _=>⟨ob,k b ob q⟩,λ_ _ q=>q,λ_ _ _ q=>q,λ_ ps q=>⟨#[],by rw[q];simp⟩⟩
theorem Un.refl:Un fs ex H H h h:=Un.kept λ_ _ q=>q
theorem Un.laid(k:∀b u,h.get? b=YB u->h'.get? b=YB u)(hp:h.objs.size<=a)(hn:H a=YC):Un fs ex H (upd H a o) h h' where
 keep:=λb u q _ _ _=>k b u q
 slot:=λb u q _ _ _=>⟨u.slots,k b u q⟩
 free:=λb u q n _=>by rw[Yc (XF (Qq (XN q) hp))];exact n
 there:=λb u q _=>⟨u,k b u q⟩
 tups:=λb xs q=>by rw[Yc (Wd q hn)];exact q
 frzs:=λb u xs q=>by rw[Yc (Wd q hn)];exact q
 tbls:=λb ps q=>⟨#[],by rw[Yc (Wd q hn),q];simp⟩
theorem Un.write(mu:Mut (H x))(he:e=x\/H e=YB (.own x))(k:∀b u,b≠e->h.get? b=YB u->h'.get? b=YB u)(heo:∃u,h'.get? e=YB u):Un fs ex H (upd H x o) h h':=by
 have hx:∀b,H b=YC->b≠x:=λb n z=>by subst z;rw[n]at mu;exact mu
 have hb:∀b,H b=YC->b≠e:=λb n z=>by
  subst z;rcases he with r|r
  .exact hx b n r
  .rw[n]at r;cases r
 have hm:∀b u,H b=YB u->¬Mut (YB u)->b≠x:=λb u q nm z=>by subst z;rw[q]at mu;exact nm mu
 refine⟨λb u q n _ _=>k b u (hb b n) q,λb u q n _ _=>⟨u.slots,k b u (hb b n) q⟩,λb u q n _=>by rw[Yc (hx b n)];exact n,λb u q _=>?_,
  λb xs q=>by rw[Yc (hm b _ q λz=>z)];exact q,λb u xs q=>by rw[Yc (hm b _ q λz=>z)];exact q,λb ps q=>⟨#[],by rw[Yc (hm b _ q λz=>z),q];simp⟩⟩
 by_cases hbe:b=e
 .subst hbe;exact heo
 .exact⟨u,k b u hbe q⟩
end
def trk(h:YH)(H:Hp):List YG:=(Xo h.objs.size).filter λa=>(H a).isSome
def Z1j(h:YH)(H:Hp):YH:=PySem.W.hideAll h (trk h H)
theorem Zxw(h:YH)(H:Hp):(Z1j h H).objs.size=h.objs.size:=PySem.W.hideAll_size _ _
theorem Z0e{h:YH}{H:Hp}{b:YG}{o:Obj}(e:h.get? b=YB o)(n:H b=YC):(Z1j h H).get? b=YB o :=
 PySem.W.hideAll_get _ e λhm=>by
  have q:(H b).isSome=YD:=(Qs.mp hm).2;rw[n]at q;simp at q
theorem Z8q{h:YH}{H:Hp}{b:YG}{o:Obj}(e:(Z1j h H).get? b=YB o):h.get? b=YB o/\H b=YC:=by
 have e':h.get? b=YB o:=PySem.W.of_hideAll (trk h H) e;refine⟨e',?_⟩;cases q:H b with
 | none=>rfl
 | some x=>
  have hm:b∈trk h H:=Qs.mpr ⟨Xx.mpr (XN e'),by simp[q]⟩;have z:(Z1j h H).get? b=YC:=PySem.W.hideAll_none (trk h H) hm;rw[z]at e;cases e
def Z5g(g h:YH)(L:YG):List (YG×Obj):=(Xo h.objs.size).filterMap λa=>if a=L\/(g.get? a).isSome=YD then YC else(h.get? a).map λo=>(a,o)
def rest(g h:YH)(L d:YG):List (YG×Obj):=(Z5g g h L).filter λp=>decide (p.1≠d)
structure Mod(K:Xc)(mg:Str->Option Xe)(base:YH):Prop where
 kin:K.In base
 glob:base.Ns Ql mg
 blt:∃mb,base.Ns builtinsNs mb/\∀x:Str,x≠"__name__" ->mb x=Qh x
 nolimit:base.NoLimit
set_option genInjectivity false in
structure Cx where
 prog:Qi
 w:QJ
 K:Xc
 mg:Str->Option Xe
 base:YH
 A:QB
 N:List Str
 s₀:Xh
 H₀:Hp
 env:Env
 outer:List Env
 stack:List Env
 ex:List YG
 fn:Str->Bool
 calm:Bool
 pn:List (YG×Obj)
 xe:Xe->Xh->Prop
def frs(l:List Env):List YG:=l.filterMap (·.frame)
abbrev Cx.fs(X:Cx):List YG:=frs X.outer
def Vis(sc:U6)(x:Str):Prop:=sc.names.lookup x=YB .local\/sc.names.lookup x=YB .cell\/sc.names.lookup x=YB .free
def Loc(sc:U6)(x:Str):Prop:=sc.names.lookup x=YB .local\/sc.names.lookup x=YB .cell
def Look(env:Env)(h:YH)(m:Str->Option Xe)(x:Str)(u:Xe):Prop :=
 (env.kindOf x=YB .local/\m x=YB u)\/((env.kindOf x=YB .cell\/env.kindOf x=YB .free)/\∃c,env.cells.lookup x=YB c/\h.IsCell c (YB u))
structure Cx.Ok(X:Cx):Prop where
 mod:Mod X.K X.mg X.base
 kind:X.env.scope.kind= .function
 glob:X.env.globals=Ql
 blt:X.env.builtins=builtinsNs
 above:X.s₀.heap.objs.size<=X.env.locals
 inj:∀x y c,X.env.cells.lookup x=YB c->X.env.cells.lookup y=YB c->x=y
 has:∀x,(X.env.kindOf x=YB .cell\/X.env.kindOf x=YB .free)->∃c,X.env.cells.lookup x=YB c
 cab:∀x c,X.fn x=YD->X.env.cells.lookup x=YB c->X.s₀.heap.objs.size<=c
 hd:X.calm=YD->X.A.handled=YC
 frames:X.A.frames=YB X.stack
 stk:X.stack=X.outer\/(X.stack=X.env::X.outer/\X.env.frame=YB X.env.locals)
 exf:∀b∈X.ex,b≠X.env.locals/\∀x c,X.env.cells.lookup x=YB c->c≠b
 bs:∀b o,X.base.get? b=YB o->X.s₀.heap.get? b=YB o/\X.H₀ b=YC
 bsz:X.base.objs.size<=X.s₀.heap.objs.size
 noex:∀b o,X.base.get? b=YB o->b∉X.ex
 exfs:∀b∈X.ex,b∉X.fs
 funs:X.s₀.heap.FunFrames X.base X.outer
 frf:∀b∈X.fs,X.H₀ b=YC
structure Inv(X:Cx)(pins:List (YG×Obj))(Y:List (Option V))(H:Hp)(s:Xh):Prop where
 ok:X.Ok
 os:s.os=X.s₀.os
 bare:AllBare s.gens
 base:Un X.fs X.ex X.H₀ H X.s₀.heap s.heap
 loc:∃m,s.heap.Ns X.env.locals m/\∀(i:Nat) (x:Str) (v:V),X.N[i]? =YB x->Y[i]? =YB (YB v)->Vis X.env.scope x->∃u,RelV v u/\Look X.env s.heap m x u
 cell:∀x c,X.env.cells.lookup x=YB c->∃v,s.heap.IsCell c v
 free:H X.env.locals=YC
 freeC:∀x c,X.env.cells.lookup x=YB c->H c=YC
 pin:∀p∈X.pn++pins,s.heap.get? p.1=YB p.2/\H p.1=YC/\p.1≠X.env.locals/\p.1∉X.fs/\∀v,p.2.data≠ .cell v
 hok:HOk X.prog X.w H s.heap
 len:Y.length=X.N.length
section
variable {X:Cx}{pins:List (YG×Obj)}{Y:List (Option V)}{H H':Hp}{s:Xh}{h':YH}
theorem Cx.Ok.nofr(ok:X.Ok){b:YG}{o:Obj}(e:X.base.get? b=YB o):b∉X.fs:=λhb=>by
 have:=(ok.funs.mem hb).1;rw[e]at this;cases this
theorem Inv.bs(I:Inv X pins Y H s):∀b o,X.base.get? b=YB o->s.heap.get? b=YB o/\H b=YC:=λb o e=>
 ⟨I.base.keep b o (I.ok.bs b o e).1 (I.ok.bs b o e).2 (I.ok.nofr e) (I.ok.noex b o e),I.base.free b o (I.ok.bs b o e).1 (I.ok.bs b o e).2 (I.ok.noex b o e)⟩
theorem Inv.bk(I:Inv X pins Y H s):∀b o,X.base.get? b=YB o->s.heap.get? b=YB o:=λb o e=>(I.bs b o e).1
theorem Inv.mod(I:Inv X pins Y H s):Mod X.K X.mg X.base:=I.ok.mod
theorem Inv.kIn(I:Inv X pins Y H s):X.K.In s.heap:=I.ok.mod.kin.keeps I.bk
theorem Inv.lt(I:Inv X pins Y H s):X.env.locals<s.heap.objs.size:=let⟨_,hn,_⟩:=I.loc;hn.lt
theorem Inv.sz(I:Inv X pins Y H s):X.s₀.heap.objs.size<=s.heap.objs.size:=QD I.ok.above (VM I.lt)
theorem Inv.nofs(I:Inv X pins Y H s){a:YG}(h:s.heap.objs.size<=a):a∉X.fs:=λhb=>by
 obtain⟨_,o,ho,_⟩:=I.ok.funs.mem hb;exact YX (Qq (XN ho) (QD I.sz h)) (Vw _)
theorem Inv.cne(I:Inv X pins Y H s):∀x c,X.env.cells.lookup x=YB c->c≠X.env.locals:=λx c e z=>by
 obtain⟨v,o,ho,hd⟩:=I.cell x c e;obtain⟨m,⟨o',es,ep,ho',hd',_⟩,_⟩:=I.loc;rw[z,ho']at ho;cases ho;rw[hd']at hd;cases hd
theorem Inv.funs(I:Inv X pins Y H s):s.heap.FunFrames X.base X.outer:=by
 have all:∀(l:List Env),(∀b∈frs l,b∈X.fs)->X.s₀.heap.FunFrames X.base l->s.heap.FunFrames X.base l:=by
  intro l
  induction l with
  | nil=>intro _ _;trivial
  | cons env r ih=>
   intro hs hl;obtain⟨hk,⟨L,o,hf,hn,ho,hd⟩,hr⟩:=hl;have hL:L∈X.fs:=hs L (by unfold frs;rw[JS,hf];exact List.mem_cons_self);obtain⟨sl,e⟩:=I.base.slot L o ho (I.ok.frf L hL) hL λz=>I.ok.exfs L z hL;exact⟨hk,⟨L,_,hf,hn,e,hd⟩,ih (λb hb=>hs b (by unfold frs;rw[JS,hf];exact List.mem_cons_of_mem _ hb)) hr⟩
 exact all X.outer (λ_ hb=>hb) I.ok.funs
theorem Inv.stack(I:Inv X pins Y H s):s.heap.FunFrames X.base X.stack:=by
 rcases I.ok.stk with e|⟨e,hf⟩
 .rw[e];exact I.funs
 .rw[e]
  obtain⟨m,hn,_⟩:=I.loc;refine .cons (by rw[I.ok.kind];decide) hf hn ?_ I.funs;exact Heap.get?_none_of_le (QD I.ok.bsz I.ok.above)
theorem Inv.stkSub(I:Inv X pins Y H s):∀b∈frs X.stack,b∈X.env.locals::X.fs:=λb hb=>by
 rcases I.ok.stk with e|⟨e,hf⟩
 .rw[e]at hb;exact List.mem_cons_of_mem _ hb
 .rw[e]at hb
  unfold frs at hb;rw[JS,hf]at hb;exact hb
theorem Inv.stkFree(I:Inv X pins Y H s):∀b∈frs X.stack,H b=YC:=λb hb=>by
 rcases Xm.mp (I.stkSub b hb)with e|hb
 .rw[e];exact I.free
 .obtain⟨_,o,ho,_⟩:=I.ok.funs.mem hb
  exact I.base.free b o ho (I.ok.frf b hb) λz=>I.ok.exfs b z hb
theorem Inv.step{g':Array GenState}{t':Nat}{d':Drawn}{ch:List YG}(I:Inv X pins Y H s)
  (hch:∀b∈ch,(b∈X.ex\/X.s₀.heap.objs.size<=b)/\b≠X.env.locals/\(∀x c,X.env.cells.lookup x=YB c->c≠b)/\∀p∈X.pn++pins,p.1≠b)
  (keep:∀b o,b≠X.env.locals->b∉X.fs->b∉ch->s.heap.get? b=YB o->H b=YC->h'.get? b=YB o)
  (slot:∀b o,b≠X.env.locals->b∈X.fs->b∉ch->s.heap.get? b=YB o->H b=YC->∃sl,h'.get? b=YB { o with slots:=sl }) (free:∀b o,b∉ch->s.heap.get? b=YB o->H b=YC->H' b=YC)
  (there:∀b o,b∉ch->s.heap.get? b=YB o->∃o',h'.get? b=YB o')
  (tups:∀b xs,H b=YB (.tup xs)->H' b=YB (.tup xs)) (frzs:∀b o u,H b=YB (.frz o u)->H' b=YB (.frz o u)) (tbls:∀b ps,H b=YB (.tbl ps)->∃more,H' b=YB (.tbl (ps++more)))
  (ns:∀m,s.heap.Ns X.env.locals m->h'.Ns X.env.locals m) (hok:HOk X.prog X.w H' h') (hg:AllBare g') :
  Inv X pins Y H' { s with heap:=h',gens:=g',drawn:=d',toks:=t' }:=by
 have neL:∀b o,X.s₀.heap.get? b=YB o->b≠X.env.locals:=λb o e=>XF (Qq (XN e) I.ok.above);have neC:∀b o,X.s₀.heap.get? b=YB o->b∉X.ex->b∉ch:=λb o e hx hb=>by
  rcases(hch b hb).1 with z|z
  .exact hx z
  .exact YX (Qq (XN e) z) (Vw _)
 have cellK:∀x c,X.env.cells.lookup x=YB c->∀v,s.heap.IsCell c v->h'.IsCell c v:=λx c e v ⟨o,ho,hd⟩=>by
  have nch:c∉ch:=λz=>(hch c z).2.2.1 x c e rfl
  by_cases hc:c∈X.fs
  .obtain⟨sl,q⟩:=slot c o (I.cne x c e) hc nch ho (I.freeC x c e)
   exact⟨_,q,hd⟩
  .exact⟨o,keep c o (I.cne x c e) hc nch ho (I.freeC x c e),hd⟩
 refine⟨I.ok,I.os,hg,⟨λb o e n hb hx=>?_,λb o e n hb hx=>?_,λb o e n hx=>?_,λb o e hx=>?_,λb xs e=>tups b xs (I.base.tups b xs e),λb o xs e=>frzs b o xs (I.base.frzs b o xs e),λb ps e=>?_⟩,?_,λx c e=>?_,?_,λx c e=>?_,λp hp=>?_,hok,I.len⟩
 .exact keep b o (neL b o e) hb (neC b o e hx) (I.base.keep b o e n hb hx) (I.base.free b o e n hx)
 .obtain⟨sl,e1⟩:=I.base.slot b o e n hb hx
  obtain⟨sl',e2⟩:=slot b _ (neL b o e) hb (neC b o e hx) e1 (I.base.free b o e n hx);exact⟨sl',e2⟩
 .obtain⟨o',e1⟩:=I.base.there b o e hx
  exact free b o' (neC b o e hx) e1 (I.base.free b o e n hx)
 .obtain⟨o',e1⟩:=I.base.there b o e hx
  exact there b o' (neC b o e hx) e1
 .obtain⟨m1,e1⟩:=I.base.tbls b ps e
  obtain⟨m2,e2⟩:=tbls b _ e1;exact⟨m1++m2,by rw[e2,Array.append_assoc]⟩
 .obtain⟨m,hn,hl⟩:=I.loc
  refine⟨m,ns m hn,λi x v e1 e2 e3=>?_⟩;obtain⟨u,r,l⟩:=hl i x v e1 e2 e3;refine⟨u,r,?_⟩;rcases l with l|⟨k,c,e,z⟩
  .exact .inl l
  .exact .inr ⟨k,c,e,cellK x c e _ z⟩
 .obtain⟨v,z⟩:=I.cell x c e
  exact⟨v,cellK x c e v z⟩
 .obtain⟨m,⟨o,_,_,ho,_⟩,_⟩:=I.loc
  exact free _ o (λz=>(hch _ z).2.1 rfl) ho I.free
 .obtain⟨v,o,ho,hd⟩:=I.cell x c e
  exact free c o (λz=>(hch c z).2.2.1 x c e rfl) ho (I.freeC x c e)
 .obtain⟨e,n,ne,nf,d⟩:=I.pin p hp
  have nch:p.1∉ch:=λz=>(hch p.1 z).2.2.2 p hp rfl;exact⟨keep p.1 p.2 ne nf nch e n,free p.1 p.2 nch e n,ne,nf,d⟩
theorem Inv.un{t':Nat}(I:Inv X pins Y H s)(u:Un X.fs [] H H' s.heap h')(hok:HOk X.prog X.w H' h'):Inv X pins Y H' { s with heap:=h',toks:=t' }:=by
 obtain⟨m,⟨o,es,ep,ho,r⟩,_⟩:=id I.loc;obtain⟨sl,hL⟩:=u.any ho I.free (by simp);exact I.step (g':=s.gens) (d':=s.drawn) (ch:=[]) (λ_ z=>nomatch z) (λb o _ hb _ e n=>u.keep b o e n hb (by simp)) (λb o _ hb _ e n=>u.slot b o e n hb (by simp)) (λb o _ e n=>u.free b o e n (by simp)) (λb o _ e=>u.there b o e (by simp)) u.tups u.frzs u.tbls (λm' hm=>by
  obtain⟨o',es',ep',ho',r'⟩:=hm;rw[ho]at ho';cases ho';exact⟨_,es',ep',hL,r'⟩) hok I.bare
theorem Inv.call{g':Array GenState}{t':Nat}{d':Drawn}{ch:List YG}(I:Inv X pins Y H s)(u:Un (frs X.stack) ch H H' s.heap h')(hok:HOk X.prog X.w H' h')(hg:AllBare g')
  (hch:∀b∈ch,(b∈X.ex\/X.s₀.heap.objs.size<=b)/\b≠X.env.locals/\(∀x c,X.env.cells.lookup x=YB c->c≠b)/\∀p∈X.pn++pins,p.1≠b) :
  Inv X pins Y H' { s with heap:=h',gens:=g',drawn:=d',toks:=t' }:=by
 obtain⟨m,⟨o,es,ep,ho,r⟩,_⟩:=id I.loc;obtain⟨sl,hL⟩:=u.any ho I.free λz=>(hch _ z).2.1 rfl;exact I.step (ch:=ch) hch (λb o hL hb hc e n=>u.keep b o e n (λz=>(Xm.mp (I.stkSub b z)).elim hL hb) hc) (λb o _ _ hc e n=>u.any e n hc) (λb o hc e n=>u.free b o e n hc) (λb o hc e=>u.there b o e hc) u.tups u.frzs u.tbls (λm' hm=>by
  obtain⟨o',es',ep',ho',r'⟩:=hm;rw[ho]at ho';cases ho';exact⟨_,es',ep',hL,r'⟩) hok hg
theorem Inv.turned{t':Nat}{it:YG}(I:Inv X pins Y H s)(k:∀b o,b≠it->s.heap.get? b=YB o->h'.get? b=YB o)(hn:H it=YC)(hL:it≠X.env.locals)
  (h1:it∈X.ex\/X.s₀.heap.objs.size<=it) (h2:∀x c,X.env.cells.lookup x=YB c->c≠it) (h3:∀p∈X.pn++pins,p.1≠it):Inv X pins Y H { s with heap:=h',toks:=t' }:=by
 have nit:∀b u,H b=YB u->b≠it:=λb u e z=>by rw[z,hn]at e;cases e
 refine I.step (g':=s.gens) (d':=s.drawn) (ch:=[it]) (λb hb=>?_) (λb o _ _ hc e _=>k b o (λz=>hc (by simp[z])) e) (λb o _ _ hc e _=>⟨o.slots,k b o (λz=>hc (by simp[z])) e⟩) (λ_ _ _ _ n=>n)
  (λb o hc e=>⟨o,k b o (λz=>hc (by simp[z])) e⟩) (λ_ _ e=>e) (λ_ _ _ e=>e) (λb ps e=>⟨#[],by rw[e];simp⟩) (λm hm=>?_) (λb u e=>?_) I.bare
 .have e:b=it:=by simpa using hb
  subst e;exact⟨h1,hL,h2,h3⟩
 .obtain⟨o,es,ep,ho,r⟩:=hm
  exact⟨o,es,ep,k _ o (VF hL) ho,r⟩
 .refine(I.hok b u e).stay (λc v hc q=>k c v ?_ q) (λ_ q=>q) λ_ _ q=>q
  rcases hc with z|z
  .rw[z];exact nit b u e
  .exact nit c _ z
theorem Inv.tok(I:Inv X pins Y H s)(t:Nat):Inv X pins Y H { s with toks:=t }:=I.un (h':=s.heap) (t':=t) Un.refl I.hok
theorem Inv.kept{t':Nat}(I:Inv X pins Y H s)(k:∀b u,s.heap.get? b=YB u->h'.get? b=YB u):Inv X pins Y H { s with heap:=h',toks:=t' }:=I.un (Un.kept k) (I.hok.kept k)
theorem Inv.laid{a:YG}{o:HO}{t':Nat}(I:Inv X pins Y H s)(k:∀b u,s.heap.get? b=YB u->h'.get? b=YB u)(hp:s.heap.objs.size<=a)(new:ObjOk X.prog X.w (upd H a o) h' a o) :
  Inv X pins Y (upd H a o) { s with heap:=h',toks:=t' }:=I.un (Un.laid k hp (I.hok.fresh hp)) (I.hok.laid k hp new)
theorem Inv.write{x e:YG}{o:HO}{t':Nat}(I:Inv X pins Y H s)(mu:Mut (H x))(he:e=x\/H e=YB (.own x))(k:∀b u,b≠e->s.heap.get? b=YB u->h'.get? b=YB u)(heo:∃u,h'.get? e=YB u)
  (new:ObjOk X.prog X.w (upd H x o) h' x o):Inv X pins Y (upd H x o) { s with heap:=h',toks:=t' }:=I.un (Un.write mu he k heo) (I.hok.write mu he k heo new)
theorem Inv.pins_of{pins':List (YG×Obj)}(I:Inv X pins Y H s)(h:∀p∈pins',s.heap.get? p.1=YB p.2/\H p.1=YC/\p.1≠X.env.locals/\p.1∉X.fs/\∀v,p.2.data≠ .cell v):Inv X pins' Y H s :=
 ⟨I.ok,I.os,I.bare,I.base,I.loc,I.cell,I.free,I.freeC,λp hp=>(XQ.mp hp).elim (λz=>I.pin p (Ub _ z)) (h p),I.hok,I.len⟩
theorem Zsm{N:List Str}(hN:N.Nodup){i j:Nat}{x:Str}(a:N[i]? =YB x)(b:N[j]? =YB x):i=j:=by
 obtain⟨h1,e1⟩:=Xw.mp a;obtain⟨h2,e2⟩:=Xw.mp b;exact(List.getElem_inj hN).mp (e1.trans e2.symm)
theorem Zoe{M:Model}{A:QB}{E:Xe->Xh->Prop}{i:Nat}{x:Str}{v:V}{u:Xe}{Q:Unit->Xh->Prop}(I:Inv X pins Y H s)(hN:X.N.Nodup)(hi:X.N[i]? =YB x)(hx:Loc X.env.scope x)(r:RelV v u)
  (h:∀s',Inv X pins (Y.set i (YB v)) H s'->(∃a,Uh a s.heap s'.heap/\(a=X.env.locals\/X.env.cells.lookup x=YB a))->Q () s') (hf:X.fn x=YD\/X.env.scope.names.lookup x=YB .local:=by first|exact .inl rfl|exact .inr rfl|assumption):X8 M A (storeName X.env x u) Q E s:=by
 obtain⟨m,hn,hl⟩:=id I.loc;have hcls:(X.env.scope.kind== .class||(X.env.scope.kind== .module&&X.env.locals !=X.env.globals))=YF:=by rw[I.ok.kind];rfl
 have hiσ:i<Y.length:=by rw[I.len];exact(Xw.mp hi).1
 have cne:=I.cne;have tracked:∀{a:YG} {h':YH},(∃o,s.heap.get? a=YB o/\H a=YC)->Uh a s.heap h'->HOk X.prog X.w H h':=fun{a h'} ha hs b ob e=>by
  obtain⟨_,_,hfree⟩:=ha;refine(I.hok b ob e).stay (λc w' hc q=>(hs.2 c ?_).trans q) (λ_ q=>q) λ_ _ q=>q;rintro rfl;rcases hc with rfl|hc
  .rw[hfree]at e;cases e
  .rw[hfree]at hc;cases hc
 rcases hx with hk|hk
 .refine wpAny_storeName_local hk hn (λh' hn' hs=>?_) hcls
  obtain⟨oL,_,_,hoL,_⟩:=id hn;refine h _ ⟨I.ok,I.os,I.bare,⟨λb o e n hb hx=>?_,λb o e n hb hx=>?_,I.base.free,λb o e hx=>?_,I.base.tups,I.base.frzs,I.base.tbls⟩,⟨_,hn',λj y v' e1 e2 e3=>?_⟩,λy c e=>?_,I.free,I.freeC,λp hp=>?_,tracked ⟨oL,hoL,I.free⟩ hs,by simpa using I.len⟩ ⟨_,hs,.inl rfl⟩
  .exact(hs.2 b (XF (Qq (XN e) I.ok.above))).trans (I.base.keep b o e n hb hx)
  .obtain⟨sl,e1⟩:=I.base.slot b o e n hb hx
   exact⟨sl,(hs.2 b (XF (Qq (XN e) I.ok.above))).trans e1⟩
  .obtain⟨o',e1⟩:=I.base.there b o e hx
   exact⟨o',(hs.2 b (XF (Qq (XN e) I.ok.above))).trans e1⟩
  .by_cases hj:j=i
   .subst hj
    rw[hi]at e1;cases e1;rw[JP hiσ]at e2;cases e2;exact⟨u,r,.inl ⟨hk,by simp⟩⟩
   .rw[Q3 (VF hj)]at e2
    obtain⟨u',r',q⟩:=hl j y v' e1 e2 e3;refine⟨u',r',?_⟩;rcases q with⟨k,e⟩|⟨k,c,e,z⟩
    .refine .inl ⟨k,?_⟩
     have:y≠x:=λe=>hj (Zsm hN e1 (e▸hi));simp[this,e]
    .exact .inr ⟨k,c,e,z.sameBut hs (cne y c e)⟩
  .obtain⟨w',z⟩:=I.cell y c e
   exact⟨w',z.sameBut hs (cne y c e)⟩
  .obtain⟨e,n,ne,nf,d⟩:=I.pin p hp
   exact⟨(hs.2 p.1 ne).trans e,n,ne,nf,d⟩
 .have hfn:X.fn x=YD:=by
   rcases hf with z|z
   .exact z
   .rw[z]at hk;cases hk
  obtain⟨c,hc⟩:=I.ok.has x (.inl hk);obtain⟨w',z⟩:=I.cell x c hc;refine wpAny_storeName_cell I.ok.kind hk hc z (λh' hc' hs=>?_);obtain⟨oc,hoc,hocd⟩:=id z;refine h { s with heap:=h' } ⟨I.ok,I.os,I.bare,⟨λb o e n hb hx=>?_,λb o e n hb hx=>?_,I.base.free,λb o e hx=>?_,I.base.tups,I.base.frzs,I.base.tbls⟩,⟨m,hn.sameBut hs (VF (cne x c hc)),λj y v' e1 e2 e3=>?_⟩,λy c' e=>?_,I.free,I.freeC,λp hp=>?_,tracked ⟨oc,hoc,I.freeC x c hc⟩ hs,by simpa using I.len⟩ ⟨c,hs,.inr hc⟩
  .exact(hs.2 b (XF (Qq (XN e) (I.ok.cab x c hfn hc)))).trans (I.base.keep b o e n hb hx)
  .obtain⟨sl,e1⟩:=I.base.slot b o e n hb hx
   exact⟨sl,(hs.2 b (XF (Qq (XN e) (I.ok.cab x c hfn hc)))).trans e1⟩
  .obtain⟨o',e1⟩:=I.base.there b o e hx
   exact⟨o',(hs.2 b (XF (Qq (XN e) (I.ok.cab x c hfn hc)))).trans e1⟩
  .by_cases hj:j=i
   .subst hj
    rw[hi]at e1;cases e1;rw[JP hiσ]at e2;cases e2;exact⟨u,r,.inr ⟨.inl hk,c,hc,hc'⟩⟩
   .rw[Q3 (VF hj)]at e2
    obtain⟨u',r',q⟩:=hl j y v' e1 e2 e3;refine⟨u',r',?_⟩;rcases q with q|⟨k,c',e,z'⟩
    .exact .inl q
    .refine .inr ⟨k,c',e,z'.sameBut hs ?_⟩
     rintro rfl;exact hj (Zsm hN e1 (I.ok.inj _ _ _ e hc▸hi))
  .by_cases hcc:c'=c
   .subst hcc;exact⟨_,hc'⟩
   .obtain⟨w2,z2⟩:=I.cell y c' e
    exact⟨w2,z2.sameBut hs hcc⟩
  .obtain⟨e,n,ne,nf,d⟩:=I.pin p hp
   refine⟨(hs.2 p.1 ?_).trans e,n,ne,nf,d⟩;intro q;rw[q,hoc]at e;have q':oc=p.2:=Q9 e;exact d w' (by rw[<-q'];exact hocd)
theorem Zrr{M:Model}{A:QB}{E:Xe->Xh->Prop}{i:Nat}{x:Str}{v:V}{u:Xe}{Q:Unit->Xh->Prop}(I:Inv X pins Y H s)(hN:X.N.Nodup)(hi:X.N[i]? =YB x)(hx:Loc X.env.scope x)(r:RelV v u)
  (h:∀s',Inv X pins (Y.set i (YB v)) H s'->Q () s') (hf:X.fn x=YD\/X.env.scope.names.lookup x=YB .local:=by first|exact .inl rfl|exact .inr rfl|assumption):X8 M A (storeName X.env x u) Q E s :=
 Zoe I hN hi hx r (λs' I' _=>h s' I') hf
theorem Inv.call'{s':Xh}{ch:List YG}(I:Inv X pins Y H s)(ho:s'.os=s.os)(u:Un (frs X.stack) ch H H' s.heap s'.heap)(hok:HOk X.prog X.w H' s'.heap)(hg:AllBare s'.gens)
  (hch:∀b∈ch,(b∈X.ex\/X.s₀.heap.objs.size<=b)/\b≠X.env.locals/\(∀x c,X.env.cells.lookup x=YB c->c≠b)/\∀p∈X.pn++pins,p.1≠b):Inv X pins Y H' s':=by
 obtain⟨h',g',d',t',o'⟩:=s';have e:o'=s.os:=ho;subst e;exact I.call (g':=g') (t':=t') (d':=d') u hok hg hch
end
abbrev XK:=Xe->Option YG->Hp->Prop
abbrev St:=List (Option V)
abbrev VK:=V->Hp->Prop
abbrev TE:=St->Hp->VK->Prop
abbrev TT:=St->Hp->(Bool->Hp->Prop)->Prop
abbrev TA:=St->Hp->(List V->Hp->Prop)->Prop
set_option genInjectivity false in
structure Ends where
 nx:St->Hp->Prop
 rt:VK
 bk:St->Hp->Prop:=λ_ _=>False
 ct:St->Hp->Prop:=λ_ _=>False
abbrev TS:=Ends->St->Hp->Prop
def EP(X:Cx)(pins:List (YG×Obj))(Y:St)(Q:VK)(u:Xe)(s':Xh):Prop:=∃v H',Inv X pins Y H' s'/\RelV v u/\Q v H'
def TP(X:Cx)(pins:List (YG×Obj))(Y:St)(Q:Bool->Hp->Prop)(b:Bool)(s':Xh):Prop:=∃H',Inv X pins Y H' s'/\Q b H'
def AP(X:Cx)(pins:List (YG×Obj))(Y:St)(Q:List V->Hp->Prop)(us:List Xe)(s':Xh):Prop:=∃vs H',Inv X pins Y H' s'/\Vals vs us/\Q vs H'
def SP(X:Cx)(pins:List (YG×Obj))(D:Ends)(f:Flow)(s':Xh):Prop :=
 match f with
 | .next=>∃Y' H',Inv X pins Y' H' s'/\D.nx Y' H'
 | .brk=>∃Y' H',Inv X pins Y' H' s'/\D.bk Y' H'
 | .cont=>∃Y' H',Inv X pins Y' H' s'/\D.ct Y' H'
 | .ret u=>∃v Y' H',Inv X pins Y' H' s'/\RelV v u/\D.rt v H'
def PE(X:Cx)(e:YJ)(t:TE):Prop :=
 ∀(pins:List (YG×Obj)) (s:Xh) (Y:St) (H:Hp) (Q:VK),Inv X pins Y H s->t Y H Q->X8 (Qm X.prog X.w) X.A (eval e X.env) (EP X pins Y Q) X.xe s
def PT(X:Cx)(e:YJ)(t:TT):Prop :=
 ∀(pins:List (YG×Obj)) (s:Xh) (Y:St) (H:Hp) (Q:Bool->Hp->Prop),Inv X pins Y H s->t Y H Q->X8 (Qm X.prog X.w) X.A (isTrue e X.env (eval e X.env)) (TP X pins Y Q) X.xe s
def PW(X:Cx)(e:YJ)(t:TT):Prop :=
 ∀(whole:Sem Xe) (pins:List (YG×Obj)) (s:Xh) (Y:St) (H:Hp) (Q:Bool->Hp->Prop),Inv X pins Y H s->t Y H Q->X8 (Qm X.prog X.w) X.A (isTrue e X.env whole) (TP X pins Y Q) X.xe s
theorem PW.pt{X:Cx}{e:YJ}{t:TT}(h:PW X e t):PT X e t:=h _
def PA(X:Cx)(es:List YJ)(t:TA):Prop :=
 ∀(pos:Pos) (pins:List (YG×Obj)) (s:Xh) (Y:St) (H:Hp) (Q:List V->Hp->Prop),Inv X pins Y H s->t Y H Q->X8 (Qm X.prog X.w) X.A (spliced (JX pos (Xr es X.env))) (AP X pins Y Q) X.xe s
def PS(X:Cx)(st:YK)(t:TS):Prop :=
 ∀(pins:List (YG×Obj)) (s:Xh) (Y:St) (H:Hp) (D:Ends),Inv X pins Y H s->t D Y H->X8 (Qm X.prog X.w) X.A (exec st X.env) (SP X pins D) X.xe s
def PSs(X:Cx)(st:List YK)(t:TS):Prop :=
 ∀(pins:List (YG×Obj)) (s:Xh) (Y:St) (H:Hp) (D:Ends),Inv X pins Y H s->t D Y H->X8 (Qm X.prog X.w) X.A (execs st X.env) (SP X pins D) X.xe s
theorem thn{α:Type}{t:Sem α}{Q Q':α->Xh->Prop}{M:Model}{A:QB}{E:Xe->Xh->Prop}{s:Xh}(h:X8 M A t Q E s)(hQ:∀a s,Q a s->Q' a s):X8 M A t Q' E s:=Vc h hQ λ_ _ x=>x
section
variable {X:Cx}
def Yhp(i:Nat):TE:=λY H Q=>∃v,Y[i]? =YB (YB v)/\Q v H
def tC(v:V):TE:=λ_ H Q=>Q v H
theorem Z3e{i:Nat}{x:Str}{pos:Pos}(hN:X.N[i]? =YB x)(hv:Vis X.env.scope x)(hd:(x==("__debug__" : Str))=YF:=by decide)(hcd:(x==("__classdict__" : Str))=YF:=by decide):PE X (.Name x pos) (Yhp i):=by
 intro pins s Y H Q I h;obtain⟨v,e,h⟩:=h;obtain⟨m,hn,hl⟩:=I.loc;obtain⟨u,r,l⟩:=hl i x v hN e hv;have fin:EP X pins Y Q u s:=⟨v,H,I,r,h⟩;rcases l with⟨hk,hm⟩|⟨hk,c,hc,hcell⟩
 .exact wpAny_Name (wpAny_loadName_local I.ok.kind hk hn hm fin) hd
 .rcases hk with hk|hk
  .exact wpAny_Name (wpAny_loadName_cell I.ok.kind hk hc hcell fin) hd
  .exact wpAny_Name (wpAny_loadName_free I.ok.kind hk hc hcell fin hcd) hd
theorem Z96{i j pos}:PE X (.Constant (.int i) j pos) (tC (.int i)):=λ_ _ _ H _ I h=>wpAny_Constant_int ⟨.int i,H,I.tok _,⟨_,rfl⟩,h⟩
theorem Ygq{b j pos}:PE X (.Constant (.bool b) j pos) (tC (.bl b)):=λ_ _ _ H _ I h=>Constant_bool ⟨.bl b,H,I,rfl,h⟩
theorem Ybm{j pos}:PE X (.Constant .none j pos) (tC .non):=λ_ _ _ H _ I h=>Constant_none ⟨.non,H,I,rfl,h⟩
theorem Ycx{x j pos}:PE X (.Constant (.str x) j pos) (tC (.str x)):=λ_ _ _ H _ I h=>Calls.Constant_str ⟨.str x,H,I.tok _,⟨_,rfl⟩,h⟩
def Gl(X:Cx)(x:Str):Prop:=X.env.kindOf x=YB .globalImplicit
theorem Zyv{E:Xe->Xh->Prop}{pins:List (YG×Obj)}{s:Xh}{Y:St}{H:Hp}{x:Str}{u:Xe}{pos:Pos}{Q:Xe->Xh->Prop}(I:Inv X pins Y H s)(hg:Gl X x)(hm:X.mg x=YB u)(h:Q u s)
  (hd:(x==("__debug__" : Str))=YF:=by decide):X8 (Qm X.prog X.w) X.A (eval (.Name x pos) X.env) Q E s :=
 Calls.Name_function_global I.ok.kind hg (Calls.loadGlobal_global (by rw[I.ok.glob];exact I.mod.glob.keeps I.bk) hm h) hd
theorem Zi3{E:Xe->Xh->Prop}{pins:List (YG×Obj)}{s:Xh}{Y:St}{H:Hp}{x:Str}{u:Xe}{pos:Pos}{Q:Xe->Xh->Prop}(I:Inv X pins Y H s)(hg:Gl X x)(hm:X.mg x=YC)(hv:Qh x=YB u)(h:Q u s)
  (hn:x≠"__name__" :=by decide) (hd:(x==("__debug__" : Str))=YF:=by decide):X8 (Qm X.prog X.w) X.A (eval (.Name x pos) X.env) Q E s:=by
 obtain⟨mb,h1,h2⟩:=I.mod.blt;exact Calls.Name_function_global I.ok.kind hg (Calls.loadGlobal_builtin (by rw[I.ok.glob];exact I.mod.glob.keeps I.bk) hm (by rw[I.ok.blt];exact h1.keeps I.bk) ((h2 x hn).trans hv) h) hd
theorem Z8e{x:Str}{v:V}{u:Xe}{pos:Pos}(hg:Gl X x)(hm:X.mg x=YB u)(r:RelV v u)(hd:(x==("__debug__" : Str))=YF:=by decide):PE X (.Name x pos) (tC v) :=
 λ_ _ _ H _ I h=>Zyv I hg hm ⟨v,H,I,r,h⟩ hd
theorem Z7e{x:Str}{v:V}{u:Xe}{pos:Pos}(hg:Gl X x)(hm:X.mg x=YC)(hv:Qh x=YB u)(r:RelV v u)(hn:x≠"__name__" :=by decide)(hd:(x==("__debug__" : Str))=YF:=by decide):PE X (.Name x pos) (tC v) :=
 λ_ _ _ H _ I h=>Zi3 I hg hm hv ⟨v,H,I,r,h⟩ hn hd
def t2I(ta tb:TE)(k:Int->Int->Hp->Prop):St->Hp->Prop:=λY H=>ta Y H λx H1=>tb Y H1 λy H2=>∃i j,x= .int i/\y= .int j/\k i j H2
variable {a b:YJ}{ta tb:TE}{pos:Pos}
def Z9a(p:Int->Int->Bool)(ta tb:TE):TE:=λY H Q=>t2I ta tb (λi j H2=>Q (.bl (p i j)) H2) Y H
abbrev tLt:TE->TE->TE:=Z9a λi j=>decide (i<j)
abbrev tLe:TE->TE->TE:=Z9a λi j=>decide (i<=j)
abbrev tGt:TE->TE->TE:=Z9a λi j=>decide (j<i)
abbrev tGe:TE->TE->TE:=Z9a λi j=>decide (j<=i)
abbrev Yla:TE->TE->TE:=Z9a λi j=>decide (i=j)
abbrev Ylb:TE->TE->TE:=Z9a λi j=>!decide (i=j)
def tB(t:TE):TT:=λY H Q=>t Y H λx H1=>∃c,x= .bl c/\Q c H1
variable {tA tB':TT}{rest:List YJ}
def Yjt(t u:TT):TT:=λY H Q=>t Y H λc H1=>if c=YD then u Y H1 Q else Q YF H1
def tOr(t u:TT):TT:=λY H Q=>t Y H λc H1=>if c=YD then Q YD H1 else u Y H1 Q
def Ykv(t:TT):TT:=λY H Q=>t Y H λc H1=>Q (!c) H1
theorem Z4r(ha:PT X a tA):PW X (.BoolOp .And [a] pos) tA:=by
 intro wh pins s Y H Q I h;refine isTrue_and (thn (ha pins s Y H Q I h) λc s1 e=>?_);cases c with
 | true=>exact isTrue_and_nil e
 | false=>exact e
theorem Ycr(ha:PT X a tA):PW X (.BoolOp .Or [a] pos) tA:=by
 intro wh pins s Y H Q I h;refine isTrue_or (thn (ha pins s Y H Q I h) λc s1 e=>?_);cases c with
 | false=>exact isTrue_or_nil e
 | true=>exact e
theorem Yc6(ha:PT X a tA)(hb:PW X (.BoolOp .And (b::rest) pos) tB'):PW X (.BoolOp .And (a::b::rest) pos) (Yjt tA tB'):=by
 intro wh pins s Y H Q I h;refine isTrue_and (thn (ha pins s Y H _ I h) λc s1 qz9=>?_);obtain⟨H1,I1,q1⟩:=qz9;cases c with
 | true=>exact hb wh pins s1 Y H1 Q I1 q1
 | false=>exact⟨H1,I1,q1⟩
theorem Yg5(ha:PT X a tA)(hb:PW X (.BoolOp .Or (b::rest) pos) tB'):PW X (.BoolOp .Or (a::b::rest) pos) (tOr tA tB'):=by
 intro wh pins s Y H Q I h;refine isTrue_or (thn (ha pins s Y H _ I h) λc s1 qz9=>?_);obtain⟨H1,I1,q1⟩:=qz9;cases c with
 | true=>exact⟨H1,I1,q1⟩
 | false=>exact hb wh pins s1 Y H1 Q I1 q1
theorem Z9u(ha:PT X a tA):PT X (.UnaryOp .Not a pos) (Ykv tA):=by
 intro pins s Y H Q I h;exact isTrue_not (ha pins s Y H (λc H1=>Q (!c) H1) I h)
def Yhd(ta tb:TE):TE:=λY H Q=>ta Y H λx H1=>∃c,x= .bl c/\if c=YD then tb Y H1 Q else Q (.bl YF) H1
def Ygi(ta:TE):TE:=λY H Q=>ta Y H λx H1=>∃c,x= .bl c/\Q (.bl (!c)) H1
theorem Ycf{op}{t:TE}(h:PE X a t):PE X (.BoolOp op [a] pos) t:=λpins s Y H Q I hw=>BoolOp_one (h pins s Y H Q I hw)
theorem Yct(ha:PE X a ta)(hb:PE X (.BoolOp .And (b::rest) pos) tb):PE X (.BoolOp .And (a::b::rest) pos) (Yhd ta tb):=by
 intro pins s Y H Q I h;refine BoolOp_and (thn (ha pins s Y H _ I h) λv s1 qz9=>?_);obtain⟨x,H1,I1,r1,q1⟩:=qz9;obtain⟨c,rfl,q1⟩:=q1;cases r1;refine Ug ?_;cases c with
 | true=>exact hb pins s1 Y H1 Q I1 q1
 | false=>exact⟨.bl YF,H1,I1,rfl,q1⟩
theorem Yay(ha:PE X a ta):PE X (.UnaryOp .Not a pos) (Ygi ta):=by
 intro pins s Y H Q I h;refine UnaryOp_ (thn (ha pins s Y H _ I h) λv s1 qz9=>?_);obtain⟨x,H1,I1,r1,q1⟩:=qz9;obtain⟨c,rfl,q1⟩:=q1;cases r1;exact not_of (Ug ⟨.bl (!c),H1,I1,rfl,q1⟩)
def tIf(t:TT)(ta tb:TE):TE:=λY H Q=>t Y H λc H1=>if c=YD then ta Y H1 Q else tb Y H1 Q
theorem Z0l{c:YJ}(hc:PT X c tA)(ha:PE X a ta)(hb:PE X b tb):PE X (.IfExp c a b pos) (tIf tA ta tb):=by
 intro pins s Y H Q I h;refine wpAny_IfExp (thn (hc pins s Y H _ I h) λd s1 qz9=>?_);obtain⟨H1,I1,q1⟩:=qz9;cases d with
 | true=>exact ha pins s1 Y H1 Q I1 q1
 | false=>exact hb pins s1 Y H1 Q I1 q1
end
def SqL(K:Xc)(H:Hp)(a:YG)(xs:List V):Prop :=
 Rd H a (.lst xs)\/
  ∃(o:Obj) (its:Array Xe) (n:Nat),K.lookup a=YB o/\o.cls= .type "list"/\o.dict=YC/\o.data= .seq its n/\its.size<=Xz/\Vals xs its.toList
def SqT(K:Xc)(H:Hp)(a:YG)(xs:List V):Prop :=
 Rd H a (.tup xs)\/
  ∃(o:Obj) (its:Array Xe) (n:Nat),K.lookup a=YB o/\o.cls= .type "tuple"/\o.data= .seq its n/\its.size<=Xz/\Vals xs its.toList
def Yk7:Xe->Option V
 | .none=>YB .non
 | .bool b=>YB (.bl b)
 | .int i _=>YB (.int i)
 | .str x _=>YB (.str x)
 | .bytes b _=>YB (.byt b)
 | .float b _=>YB (.flt b)
 | .ref a=>YB (.ref a)
 | .type n=>YB (.ty n)
 | _=>YC
theorem RelV.abs{x:V}{u:Xe}(r:RelV x u):Yk7 u=YB x:=by
 cases x with
 | non=>cases r;rfl
 | bl _=>cases r;rfl
 | int _=>obtain⟨t,rfl⟩:=r;rfl
 | str _=>obtain⟨t,rfl⟩:=r;rfl
 | byt _=>obtain⟨t,rfl⟩:=r;rfl
 | flt _=>obtain⟨t,rfl⟩:=r;rfl
 | ref _=>cases r;rfl
 | ty _=>cases r;rfl
theorem RelV.inj{x y:V}{u:Xe}(r:RelV x u)(q:RelV y u):x=y:=Q9 (r.abs.symm.trans q.abs)
theorem Vals.inj{xs ys:List V}{us:List Xe}(h:Vals xs us)(k:Vals ys us):xs=ys:=by
 induction h generalizing ys with
 | nil=>cases k;rfl
 | cons r t ih=>
  cases k with
  | cons r' t'=>rw[r.inj r',ih t']
section
variable {X:Cx}{pins:List (YG×Obj)}{Y:St}{H:Hp}{s:Xh}{a:YG}{xs ys:List V}
theorem Inv.list(I:Inv X pins Y H s)(h:SqL X.K H a xs):∃its:List Xe,Vals xs its/\PlainL s.heap a its.toArray/\xs.length<=Xz:=by
 rcases h with h|⟨o,its,n,hk,hc,hd,hs,hz,r⟩
 .obtain⟨z,its,n,r,e⟩:=h.ok I.hok
  exact⟨its,r,⟨_,n,e,rfl,rfl,rfl⟩,z⟩
 .refine⟨its.toList,r,⟨o,n,I.kIn a o hk,hc,hd,by simpa using hs⟩,?_⟩
  have e:=r.length;simp only[Vx]at e;omega
theorem Inv.tuple(I:Inv X pins Y H s)(h:SqT X.K H a xs):∃its:List Xe,Vals xs its/\IsTup s.heap a its.toArray/\xs.length<=Xz:=by
 rcases h with h|⟨o,its,n,hk,hc,hs,hz,r⟩
 .obtain⟨z,its,r,p⟩:=h.ok I.hok
  exact⟨its,r,p,z⟩
 .refine⟨its.toList,r,⟨o,I.kIn a o hk,hc,n,by simpa using hs⟩,?_⟩
  have e:=r.length;simp only[Vx]at e;omega
theorem Inv.list_inj(I:Inv X pins Y H s)(h:SqL X.K H a xs)(h':SqL X.K H a ys):xs=ys:=by
 obtain⟨its,r,⟨o,n,e,_,_,d⟩,_⟩:=I.list h;obtain⟨its',r',⟨o',n',e',_,_,d'⟩,_⟩:=I.list h';rw[e]at e';cases e';rw[d]at d';injection d' with d1 _;have:its=its':=by simpa using YT Array.toList d1
 subst this;exact r.inj r'
end
abbrev Cx.wish(X:Cx)(E:Xe->Xh->Prop):Cx:={ X with xe:=E }
abbrev Cx.nox(X:Cx):Cx:=X.wish λ_ _=>False
theorem Cx.Ok.wish{X:Cx}(ok:X.Ok)(E:Xe->Xh->Prop):(X.wish E).Ok :=
 ⟨ok.mod,ok.kind,ok.glob,ok.blt,ok.above,ok.inj,ok.has,ok.cab,ok.hd,ok.frames,ok.stk,ok.exf,ok.bs,ok.bsz,ok.noex,ok.exfs,ok.funs,ok.frf⟩
theorem Cx.Ok.unwish{X:Cx}{E:Xe->Xh->Prop}(ok:(X.wish E).Ok):X.Ok :=
 ⟨ok.mod,ok.kind,ok.glob,ok.blt,ok.above,ok.inj,ok.has,ok.cab,ok.hd,ok.frames,ok.stk,ok.exf,ok.bs,ok.bsz,ok.noex,ok.exfs,ok.funs,ok.frf⟩
section
variable {X:Cx}{pins:List (YG×Obj)}{Y:St}{H:Hp}{s:Xh}{E:Xe->Xh->Prop}
theorem Inv.wish(I:Inv X pins Y H s)(E:Xe->Xh->Prop):Inv (X.wish E) pins Y H s:=⟨I.ok.wish E,I.os,I.bare,I.base,I.loc,I.cell,I.free,I.freeC,I.pin,I.hok,I.len⟩
theorem Inv.unwish(I:Inv (X.wish E) pins Y H s):Inv X pins Y H s:=⟨I.ok.unwish,I.os,I.bare,I.base,I.loc,I.cell,I.free,I.freeC,I.pin,I.hok,I.len⟩
theorem SP.unwish{D:Ends}{f:Flow}{s':Xh}(h:SP (X.wish E) pins D f s'):SP X pins D f s':=by
 cases f with
 | next=>obtain⟨Y',H',I,q⟩:=h;exact⟨Y',H',I.unwish,q⟩
 | brk=>obtain⟨Y',H',I,q⟩:=h;exact⟨Y',H',I.unwish,q⟩
 | cont=>obtain⟨Y',H',I,q⟩:=h;exact⟨Y',H',I.unwish,q⟩
 | ret u=>obtain⟨v,Y',H',I,r,q⟩:=h;exact⟨v,Y',H',I.unwish,r,q⟩
theorem PSs.nox{st:List YK}{t:TS}(h:PSs X.nox st t):PSs X st t:=λpins s Y H D I hw=>
 Vc (h pins s Y H D (I.wish _) hw) (λ_ _ q=>q.unwish) λ_ _ z=>V7 z
end
section
variable {X:Cx}{st:YK}{rest:List YK}{t u:TS}{e:YJ}{te:TE}{pos:Pos}
def Ye9:TS:=λD Y H=>D.nx Y H
def Ykz(t u:TS):TS:=λD Y H=>t { D with nx:=u D } Y H
theorem Z6j:PSs X [] Ye9:=λ_ _ Y H _ I h=>wpAny_execs_nil ⟨Y,H,I,h⟩
theorem Z1u(h1:PS X st t)(h2:PSs X rest u):PSs X (st::rest) (Ykz t u):=by
 intro pins s Y H D I h;refine wpAny_execs_cons (thn (h1 pins s Y H { D with nx:=u D } I h) λf s1 q=>?_);cases f with
 | next=>
  obtain⟨Y',H',I',q⟩:=q;exact h2 pins s1 Y' H' D I' q
 | ret v=>exact q
 | brk=>exact q
 | cont=>exact q
theorem Z7b(h1:PS X st t):PSs X [st] t:=by
 intro pins s Y H D I h;refine wpAny_execs_cons (thn (h1 pins s Y H D I h) λf s1 q=>?_);cases f with
 | next=>exact wpAny_execs_nil q
 | ret v=>exact q
 | brk=>exact q
 | cont=>exact q
theorem Inv.quiet{pins:List (YG×Obj)}{Y:St}{H:Hp}{s:Xh}(I:Inv X pins Y H s):interactive X.env=YF:=by simp[interactive,I.ok.kind]
def Yf4(te:TE):TS:=λD Y H=>te Y H λ_ H1=>D.nx Y H1
theorem Zpt(he:PE X e te)(hs:V9 e YC pos.line X.env=pure YF:=by rfl):PS X (.Expr e pos) (Yf4 te):=by
 intro pins s Y H D I h;refine wpAny_Expr_any (thn (he pins s Y H _ I h) λv s1 qz9=>?_) I.quiet hs;obtain⟨x,H1,I1,r1,q1⟩:=qz9;exact⟨Y,H1,I1,q1⟩
def Ykt(te:TE):TS:=λD Y H=>te Y H D.rt
theorem Z2q(he:PE X e te):PS X (.Return (YB e) pos) (Ykt te):=by
 intro pins s Y H D I h;refine wpAny_Return_some (thn (he pins s Y H _ I h) λv s1 qz9=>?_);obtain⟨x,H1,I1,r1,q1⟩:=qz9;exact⟨x,Y,H1,I1,r1,q1⟩
def Yj8(c:TT)(t u:TS):TS:=λD Y H=>c Y H λb H1=>if b=YD then t D Y H1 else u D Y H1
theorem Yf9{c:YJ}{a b:List YK}{tc:TT}(hc:PT X c tc)(ha:PSs X a t)(hb:PSs X b u):PS X (.If c a b pos) (Yj8 tc t u):=by
 intro pins s Y H D I h;refine wpAny_If (thn (hc pins s Y H _ I h) λd s1 qz9=>?_);obtain⟨H1,I1,q1⟩:=qz9;cases d with
 | true=>exact ha pins s1 Y H1 D I1 q1
 | false=>exact hb pins s1 Y H1 D I1 q1
def Ydl:TS:=λ_ _ _=>False
theorem Z02:PS X st Ydl:=λ_ _ _ _ _ _ h=>h.elim
end
abbrev TG:=V->St->Hp->(St->Hp->Prop)->Prop
abbrev TGs:=List V->St->Hp->(St->Hp->Prop)->Prop
def PG(X:Cx)(target:YJ)(t:TG):Prop :=
 ∀(pins:List (YG×Obj)) (s:Xh) (Y:St) (H:Hp) (v:V) (u:Xe) (Q:St->Hp->Prop),Inv X pins Y H s->RelV v u->t v Y H Q ->
  X8 (Qm X.prog X.w) X.A (assign target X.env u) (λ_ s'=>∃Y' H',Inv X pins Y' H' s'/\Q Y' H') X.xe s
def PGs(X:Cx)(ts:List YJ)(t:TGs):Prop :=
 ∀(pins:List (YG×Obj)) (s:Xh) (Y:St) (H:Hp) (vs:List V) (us:List Xe) (Q:St->Hp->Prop),Inv X pins Y H s->Vals vs us->t vs Y H Q ->
  X8 (Qm X.prog X.w) X.A (assignInOrder ((Bm ts X.env).map (·.2)) us) (λ_ s'=>∃Y' H',Inv X pins Y' H' s'/\Q Y' H') X.xe s
abbrev Yg1:=V->V->V->Hp->(Hp->Prop)->Prop
def Yjm(X:Cx)(t:Yg1):Prop :=
 ∀(pins:List (YG×Obj)) (s:Xh) (Y:St) (H:Hp) (o i v:V) (ov iv u:Xe) (Q:Hp->Prop),Inv X pins Y H s->RelV o ov->RelV i iv->RelV v u->t o i v H Q ->
  X8 (Qm X.prog X.w) X.A (setItem ov iv u) (λ_ s'=>∃H',Inv X pins Y H' s'/\Q H') X.xe s
abbrev TIp:=V->V->Hp->VK->Prop
section
variable {X:Cx}{pos:Pos}
def Zxl(i:Nat):TG:=λv Y H Q=>Q (Y.set i (YB v)) H
theorem Z8b{i:Nat}{x:Str}(hN:X.N.Nodup)(hi:X.N[i]? =YB x)(hx:Loc X.env.scope x)(hf:X.fn x=YD\/X.env.scope.names.lookup x=YB .local:=by first|exact .inl rfl|exact .inr rfl|assumption):PG X (.Name x pos) (Zxl i):=by
 intro pins s Y H v u Q I r h;exact wpAny_assign_Name (Zrr I hN hi hx r (λs' I'=>⟨_,H,I',h⟩) hf)
def Yj4:TGs:=λvs Y H Q=>vs=[]/\Q Y H
def Ygj(t:TG)(u:TGs):TGs:=λvs Y H Q=>∃v r,vs=v::r/\t v Y H λY' H'=>u r Y' H' Q
theorem Z8j:PGs X [] Yj4:=by
 intro pins s Y H vs us Q I r h;obtain⟨e,h⟩:=h;subst e;cases r;exact assignInOrder_nil ⟨Y,H,I,h⟩
theorem Zz7{e:YJ}{es:List YJ}{t:TG}{u:TGs}(h1:PG X e t)(h2:PGs X es u)
  (hs:(Bm (e::es) X.env).map (·.2)=assign e X.env::(Bm es X.env).map (·.2):=by rfl):PGs X (e::es) (Ygj t u):=by
 intro pins s Y H vs us Q I r h;obtain⟨v,vr,e1,h⟩:=h;subst e1;cases r with
 | cons r rr=>
  rw[hs];refine assignInOrder_cons (thn (h1 pins s Y H _ _ _ I r h) λ_ s1 qz9=>?_);obtain⟨Y1,H1,I1,q1⟩:=qz9;exact h2 pins s1 Y1 H1 _ _ Q I1 rr q1
def Ykm(K:Xc)(n:Nat)(t:TGs):TG:=λv Y H Q=>∃a xs,v= .ref a/\SqT K H a xs/\xs.length=n/\t xs Y H Q
theorem Yc3{es:List YJ}{k:Nat}{t:TGs}{n:Nat}(hc:X.calm=YD)(h:PGs X es t)
  (hn:(Bm es X.env).length=n:=by rfl) (hst:(Bm es X.env).findIdx? (·.1)=YC:=by rfl):PG X (.Tuple es k pos) (Ykm X.K n t):=by
 intro pins s Y H v u Q I r hw;obtain⟨a,xs,e1,hq,hl,hw⟩:=hw;subst e1;cases r;obtain⟨its,rv,ht,hz⟩:=I.tuple hq;refine assign_Tuple_tuple (I.ok.hd hc) ht (by simp[hn,<-hl,rv.length]) hst λh' hx=>?_;have I1:Inv X pins Y H { s with heap:=h' }:=I.kept (t':=s.toks) λb o e=>hx b o (XF (XN e)) e;exact h pins _ Y H xs _ Q I1 (by simpa using rv) hw
def Yie(to ti:TE)(t:Yg1):TG:=λv Y H Q=>to Y H λo H1=>ti Y H1 λi H2=>t o i v H2 λH3=>Q Y H3
theorem Yar{o i:YJ}{to ti:TE}{t:Yg1}(ho:PE X o to)(hi:PE X i ti)(hs:Yjm X t)
  (ha:∀v,assign (.Subscript o i pos) X.env v=(do
   let ov<-holding [v] (eval o X.env)
   let iv<-holding [v,ov] (eval i X.env)
   standAt pos
   holding [v,ov,iv] (setItem ov iv v)
   release [v,ov,iv] []):=by intro _;rfl):PG X (.Subscript o i pos) (Yie to ti t):=by
 intro pins s Y H v u Q I r h;rw[ha];refine Xi (V8 (thn (ho pins s Y H _ I h) λov s1 qz9=>?_));obtain⟨x,H1,I1,r1,q1⟩:=qz9;refine Xi (V8 (thn (hi pins s1 Y H1 _ I1 q1) λiv s2 qz9=>?_));obtain⟨y,H2,I2,r2,q2⟩:=qz9;refine Xi (wpAny_standAt (Xi (V8 (thn (hs pins s2 Y H2 x y v ov iv u _ I2 r1 r2 r q2) λ_ s3 qz9=>?_))));obtain⟨H3,I3,q3⟩:=qz9;exact wpAny_release ⟨Y,H3,I3,q3⟩
def Ya8(te:TE)(g:TG):TS:=λD Y H=>te Y H λx H1=>g x Y H1 D.nx
theorem Z94{tg e:YJ}{te:TE}{g:TG}(he:PE X e te)(hg:PG X tg g)(hs:swapsWithSole [tg] e pos.line X.env=pure YF:=by rfl)(hw:swappedStores [tg] e X.env=pure YC:=by rfl)
  (h1:(Bm [tg] X.env).map (·.2)=[assign tg X.env]:=by rfl):PS X (.Assign [tg] e pos) (Ya8 te g):=by
 intro pins s Y H D I h;refine wpAny_Assign_stores (thn (he pins s Y H _ I h) λv s1 qz9=>?_) hs hw;obtain⟨x,H1,I1,r1,q1⟩:=qz9;rw[h1];exact thn (hg pins s1 Y H1 x v _ I1 r1 q1) λ_ s2 q=>q
theorem Z3z{i:Nat}{x:Str}{e:YJ}{te:TE}{pos':Pos}(hN:X.N.Nodup)(hi:X.N[i]? =YB x)(hx:Loc X.env.scope x)(he:PE X e te)(hs:V9 e (YB (.Name x pos')) pos.line X.env=pure YF:=by rfl)(hf:X.fn x=YD\/X.env.scope.names.lookup x=YB .local:=by first|exact .inl rfl|exact .inr rfl|assumption) :
  PS X (.Assign [.Name x pos'] e pos) (Ya8 te (Zxl i)):=by
 intro pins s Y H D I h;refine wpAny_Assign_Name (thn (he pins s Y H _ I h) λv s1 qz9=>?_) hs;obtain⟨y,H1,I1,r1,q1⟩:=qz9;exact Zrr I1 hN hi hx r1 (λs2 I2=>⟨_,H1,I2,q1⟩) hf
end
section
variable {X:Cx}{pos:Pos}
def Yc1(c:TT)(tb:TS):TS:=λD Y H=>∃W:Nat->St->Hp->Prop,(∃m,W m Y H)/\∀m Y H,W m Y H ->
 c Y H λb H1=>if b=YD then∃N:St->Hp->Prop,(∀Y' H',N Y' H'->∃m',m'<m/\W m' Y' H')/\tb { D with nx:=N,ct:=N,bk:=D.nx } Y H1 else D.nx Y H1
theorem Z0s{c:YJ}{body:List YK}{tc:TT}{tb:TS}(hp:PassesOwn (Qm X.prog X.w) X.A X.env X.xe)(hc:PT X c tc)(hb:PSs X body tb):PS X (.While c body [] pos) (Yc1 tc tb):=by
 intro pins s Y H D I h;obtain⟨W,⟨m0,w0⟩,turn⟩:=h;refine wpAny_While (codeAny_whileLoop (λn s'=>∃Y' H',Inv X pins Y' H' s'/\W n Y' H') ?_ m0 ⟨Y,H,I,w0⟩);rintro n s1 ⟨Y1,H1,I1,w1⟩;refine V5 hp (thn (hc pins s1 Y1 H1 _ I1 (turn n Y1 H1 w1)) λb s2 qz9=>?_);obtain⟨H2,I2,q2⟩:=qz9;cases b with
 | true=>
  obtain⟨N,hN,q2⟩:=q2;rw[YL rfl];refine V5 hp (thn (hb pins s2 Y1 H2 _ I2 q2) λf s3 q3=>?_);cases f with
  | next=>
   obtain⟨Y3,H3,I3,n3⟩:=q3;obtain⟨m',hm,w3⟩:=hN Y3 H3 n3;exact⟨m',hm,Y3,H3,I3,w3⟩
  | cont=>
   obtain⟨Y3,H3,I3,n3⟩:=q3;obtain⟨m',hm,w3⟩:=hN Y3 H3 n3;exact⟨m',hm,Y3,H3,I3,w3⟩
  | brk=>exact q3
  | ret v=>exact q3
 | false=>
  rw[YM Xn];exact wpAny_execs_nil ⟨Y1,H2,I2,q2⟩
end
set_option genInjectivity false in
structure It where
 go:Nat->Hp->Prop
 yld:Nat->Hp->V->Hp->Prop
 stop:Nat->Hp->Prop
def Zmn(X:Cx)(pins:List (YG×Obj))(H:Hp)(b:YG):Prop :=
 H b=YC/\b≠X.env.locals/\b∉X.fs/\(b∈X.ex\/X.s₀.heap.objs.size<=b)/\(∀x c,X.env.cells.lookup x=YB c->c≠b)/\∀p∈X.pn++pins,p.1≠b
theorem Inv.fpOk{X:Cx}{pins:List (YG×Obj)}{Y:St}{H H':Hp}{s:Xh}{b:YG}(I:Inv X pins Y H s)(hb:s.heap.objs.size<=b)(hn:H' b=YC):Zmn X pins H' b:=by
 refine⟨hn,X6 (Qq I.lt hb),I.nofs hb,.inr (QD I.sz hb),λx c e z=>?_,λp hp z=>?_⟩
 .obtain⟨v,q⟩:=I.cell x c e
  exact YX (Qq q.lt (by rw[z];exact hb)) (Vw _)
 .exact YX (Qq (XN (I.pin p hp).1) (by rw[z];exact hb)) (Vw _)
structure Turn(P:Qi)(w:QJ)(K:Xc)(tg:YJ)(J:It)(fp:List YG)(it:YG)(tn:Nat->YH->Prop):Prop where
 mem:it∈fp
 obj:∀i h,tn i h->∀b∈fp,∃o,h.get? b=YB o/\∀v,o.data≠ .cell v
 keep:∀i h h',tn i h->(∀b∈fp,∀o,h.get? b=YB o->h'.get? b=YB o)->tn i h'
 item:∀(X:Cx),X.prog=P->X.w=w->X.K=K->X.calm=YD->∀(i:Nat) (pins:List (YG×Obj)) (s:Xh) (Y:St) (H:Hp) (E:Xe->Xh->Prop),Inv X pins Y H s->(∀b∈fp,Zmn X pins H b)->tn i s.heap->J.go i H ->
  X8 (Qm P w) X.A (pyNext (.ref it)) (λr s1=>∃u,r=YB u/\
   X8 (Qm P w) X.A (letOwnedTupleGo tg (.ref it) u) (λ_ s2=>∃x H',Inv X pins Y H' s2/\RelV x u/\J.yld i H x H'/\tn (i+1) s2.heap/\∀b∈fp,H' b=YC) E s1) E s
 done:∀(X:Cx),X.prog=P->X.w=w->X.K=K->X.calm=YD->∀(i:Nat) (pins:List (YG×Obj)) (s:Xh) (Y:St) (H:Hp) (E:Xe->Xh->Prop),Inv X pins Y H s->(∀b∈fp,Zmn X pins H b)->tn i s.heap->J.stop i H ->
  X8 (Qm P w) X.A (pyNext (.ref it)) (λr s1=>r=YC/\Inv X pins Y H s1) E s
 self:∀(A:QB) (i:Nat) (s:Xh) (Q:Xe->Xh->Prop) (E:Xe->Xh->Prop),tn i s.heap->Q (.ref it) s->X8 (Qm P w) A (pyIter (.ref it)) Q E s
abbrev TI:=St->Hp->(It->Hp->Prop)->Prop
def PIE(X:Cx)(pins:List (YG×Obj))(Y:St)(tg:YJ)(R:It->Hp->Prop)(itv:Xe)(s2:Xh):Prop :=
 ∃(it:YG) (fp:List YG) (tn:Nat->YH->Prop) (J:It) (H':Hp),itv= .ref it/\Inv X pins Y H' s2/\Turn X.prog X.w X.K tg J fp it tn/\tn 0 s2.heap/\(∀b∈fp,Zmn X pins H' b)/\R J H'
def PI(X:Cx)(tg iter:YJ)(wi:TI):Prop :=
 ∀(pins:List (YG×Obj)) (s:Xh) (Y:St) (H:Hp) (R:It->Hp->Prop),Inv X pins Y H s->wi Y H R ->
  X8 (Qm X.prog X.w) X.A (eval iter X.env) (λv s1=>X8 (Qm X.prog X.w) X.A (pyIter v) (PIE X pins Y tg R) X.xe s1) X.xe s
theorem Yc7{M:Model}{A:QB}{E:Xe->Xh->Prop}{s:Xh}{tg:YJ}{it:YG}{u:Xe}{o:Obj}{n:String}{vs:Array Xe}{Q:Unit->Xh->Prop}(ho:s.heap.get? it=YB o)(hc:o.cls= .type n)(hd:o.data= .fields vs)
  (hn:["enumerate","zip","dict_itemiterator","dict_reverseitemiterator","odict_iterator","itertools.zip_longest","itertools.pairwise"].contains n=YF) (hQ:Q () s):X8 M A (letOwnedTupleGo tg (.ref it) u) Q E s:=by
 unfold letOwnedTupleGo;cases tg<;>first
  | exact Qd hQ
  | (cases u<;>first
    | exact Qd hQ
    | (refine Xi (wpAny_load ho ?_)
       rw[hc,hd];show X8 M A (if(["enumerate","zip","dict_itemiterator","dict_reverseitemiterator","odict_iterator","itertools.zip_longest","itertools.pairwise"].contains n&&vs[0]? ==YB (rawInt _))=YD then _ else _) Q E s;rw[YM (by intro h;rw[hn,Bool.false_and]at h;cases h)];exact Qd hQ))
def Itl(K:Xc)(a:YG):It :=
 ⟨λi H=>∃xs x,SqL K H a xs/\xs[i]? =YB x,λi H x H'=>H'=H/\∀xs,SqL K H a xs->xs[i]? =YB x,λi H=>∃xs,SqL K H a xs/\xs.length<=i⟩
def Itr(lo:Int)(n:Nat):It:=⟨λi _=>i<n,λi H x H'=>H'=H/\x= .int (lo+i),λi _=>n<=i⟩
theorem Zuk{P:Qi}{w:QJ}{K:Xc}{tg:YJ}(a it:YG):Turn P w K tg (Itl K a) [it] it (λi h=>h.IsListIter it a i) where
 mem:=by simp
 obj:=λi h st b hb=>by
  have e:b=it:=by simpa using hb
  subst e;obtain⟨o,e,c,d⟩:=st;exact⟨o,e,λv z=>by rw[d]at z;cases z⟩
 keep:=λi h h' st k=>st.at λo e=>k it (by simp) o e
 item:=by
  intro X hP hw hK hc i pins s Y H E I hf st hg;subst hP hw hK;obtain⟨xs,x,hq,hx⟩:=hg;obtain⟨its,rv,p,hz⟩:=I.list hq;obtain⟨u,hu,ru⟩:=rv.get hx;obtain⟨f0,f1,f2,f3,f4,f5⟩:=hf it (by simp);refine wpAny_pyNext_list_item st p.isList (x:=u) (by simpa using hu) λh' st' sb=>?_;have I1:Inv X pins Y H { s with heap:=h' }:=I.turned (t':=s.toks) (λb o hb e=>(sb.2 b hb).trans e) f0 f1 f3 f4 f5;obtain⟨o,e,c,d⟩:=id st';exact⟨u,rfl,Yc7 (s:={ s with heap:=h' }) e c d (by decide) ⟨x,H,I1,ru,⟨rfl,λys hy=>by rw[I.list_inj hy hq];exact hx⟩,st',λb hb=>(hf b hb).1⟩⟩
 done:=by
  intro X hP hw hK hc i pins s Y H E I hf st hg;subst hP hw hK;obtain⟨xs,hq,hx⟩:=hg;obtain⟨its,rv,p,hz⟩:=I.list hq;obtain⟨f0,f1,f2,f3,f4,f5⟩:=hf it (by simp);have hl:=rv.length;exact wpAny_pyNext_list_end (I.ok.hd hc) st p.isList (by simp;omega) λh' eb=>⟨rfl,I.turned (t':=s.toks) (λb o hb e=>eb b o hb e) f0 f1 f3 f4 f5⟩
 self:=λ_ _ _ _ _ st h=>wpAny_pyIter_listiter st h
theorem Zua{P:Qi}{w:QJ}{K:Xc}{tg:YJ}(it:YG)(lo:Int)(n:Nat):Turn P w K tg (Itr lo n) [it] it (λi h=>IsRangeIter h it (lo+(i:Nat)*1) ((n:Int)-(i:Nat)) 1) where
 mem:=by simp
 obj:=λi h st b hb=>by
  have e:b=it:=by simpa using hb
  subst e;exact⟨_,st,λv z=>by
   have z':Data.fields _=Data.cell v:=z;cases z'⟩
 keep:=λi h h' st k=>k it (by simp) _ st
 item:=by
  intro X hP hw hK hc i pins s Y H E I hf st hg;subst hP hw hK;obtain⟨f0,f1,f2,f3,f4,f5⟩:=hf it (by simp);have W:=Walks.range (prog:=X.prog) (w:=X.w) (I.ok.hd hc) it lo 1 n;refine W.item i s _ _ hg st λv h' tk hv st' kk=>?_;obtain⟨t,rfl⟩:=hv;have I1:Inv X pins Y H { s with heap:=h',toks:=tk }:=I.turned (λb o hb e=>kk b o (by simpa using hb) e) f0 f1 f3 f4 f5;refine⟨_,rfl,Yc7 (s:={ s with heap:=h',toks:=tk }) (n :="range_iterator") st' rfl rfl (by decide) ⟨.int (lo+i),H,I1,⟨t,?_⟩,⟨rfl,rfl⟩,st',λb hb=>(hf b hb).1⟩⟩;rw[Int.mul_one]
 done:=by
  intro X hP hw hK hc i pins s Y H E I hf st hg;subst hP hw hK;obtain⟨f0,f1,f2,f3,f4,f5⟩:=hf it (by simp);exact wpAny_pyNext_range_end (I.ok.hd hc) st (by have:n<=i:=hg;omega) λh' eb=>⟨rfl,I.turned (t':=s.toks) (λb o hb e=>eb b o hb e) f0 f1 f3 f4 f5⟩
 self:=λ_ _ _ _ _ st h=>wpAny_pyIter_rangeiter st h
end L2
open PySem PySem.Spec L2
variable {a:YG}{X:Cx}{e tg iter:YJ}{h h':YH}{H H' H1 H2:Hp}{pins:List (YG×Obj)}{ch:List YG}{es:List YJ}{body:List YK}{N:List Str}{us:List Xe}{M:Model}{i t' j:Nat}{pos pos':Pos}{A:QB}{w:QJ}{P:Qi}{st:YK}{x:Str}{ta tb te to:TE}{α β:Type}{K:Xc}{u:Xe}{E Q:Xe->Xh->Prop}{s s':Xh}
namespace L2
open PySem PySem.Spec PyProof.Rows
def Yb7(K:Xc)(tl:TE):TI:=λY H R=>tl Y H λx H1=>∃a,x= .ref a/\(∃xs,SqL K H1 a xs)/\R (Itl K a) H1
theorem Z7m{l:YJ}{tl:TE}(hl:PE X l tl):PI X tg l (Yb7 X.K tl):=by
 intro pins s Y H R I h;refine thn (hl pins s Y H _ I h) λv s1 qz9=>?_;obtain⟨x,H1,I1,r1,q1⟩:=qz9;obtain⟨a,e,⟨xs,hq⟩,q⟩:=q1;subst e;cases r1;obtain⟨its,rv,p,hz⟩:=I1.list hq;refine wpAny_pyIter_list p.isList ?_;refine⟨s1.heap.objs.size,[s1.heap.objs.size],_,_,H1,rfl,I1.kept (t':=s1.toks) λb o e=>Xl _ e,Zuk a _,⟨_,Qe _ rfl,rfl,rfl⟩,λb hb=>?_,q⟩;have e:b=s1.heap.objs.size:=by simpa using hb
 subst e;exact I1.fpOk (X3 _) (I1.hok.fresh (X3 _))
theorem Zro{Y:St}{R:It->Hp->Prop}{lo hi:Int}{t u v:Tok}{tk:Nat}(I:Inv X pins Y H s)(h1:-(2^62)<=lo)(h2:lo<2^62)(h3:-(2^62)<=hi)(h4:hi<2^62)
  (q:R (Itr lo (hi-lo).toNat) H):X8 (Qm X.prog X.w) X.A (pyIter (.ref s.heap.objs.size)) (PIE X pins Y tg R) E { s with heap:=s.heap.push { cls:=.type "range",data:=.fields #[.int lo t,.int hi u,.int 1 v] },toks:=tk }:=by
 refine wpAny_pyIter_range (IsRange.new ..) (small_one h1 h2 h3 h4) ?_;have I1:Inv X pins Y H { s with heap:=s.heap.push { cls:=.type "range",data:=.fields #[.int lo t,.int hi u,.int 1 v] },toks:=tk }:=I.kept λb o e=>Xl _ e;refine⟨(s.heap.push { cls:=.type "range",data:=.fields #[.int lo t,.int hi u,.int 1 v] }).objs.size,[(s.heap.push { cls:=.type "range",data:=.fields #[.int lo t,.int hi u,.int 1 v] }).objs.size],_,_,H,rfl,
  I1.kept (t':=tk) λb o e=>Xl _ e,Zua _ lo (hi-lo).toNat,?_,λb hb=>?_,q⟩
 .have e1:lo+((0:Nat):Int)*1=lo:=by simp
  have e2:(((hi-lo).toNat:Nat):Int)-((0:Nat):Int)=Builtin.Range.rangeSize lo hi 1:=by rw[rangeSize_one];split<;>omega
  show IsRangeIter _ _ (lo+((0:Nat):Int)*1) ((((hi-lo).toNat:Nat):Int)-((0:Nat):Int)) 1;rw[e1,e2];exact Qe _ rfl
 .have e:b=(s.heap.push { cls:=.type "range",data:=.fields #[.int lo t,.int hi u,.int 1 v] }).objs.size:=by simpa using hb
  subst e;exact I1.fpOk (X3 _) (I1.hok.fresh (X3 _))
def Yfa(ta:TA):TI:=λY H R=>ta Y H λvs H1=>∃j:Int,vs=[.int j]/\-(2^62)<=j/\j<2^62/\R (Itr 0 j.toNat) H1
def Yf6(ta:TA):TI:=λY H R=>ta Y H λvs H1=>∃i j:Int,vs=[.int i,.int j]/\(-(2^62)<=i/\i<2^62/\-(2^62)<=j/\j<2^62)/\R (Itr i (j-i).toNat) H1
theorem Zwz{a:YJ}{ta:TA}{p:Pos}(hg:Gl X "range")(hm:X.mg "range"=YC)(ha:PA X [a] ta)(hs:Xr [a] X.env=[(YF,eval a X.env)]:=by rfl):PI X tg (.Call (.Name "range" p) [a] [] pos) (Yfa ta):=by
 intro pins s Y H R I h;refine Call_ (Zi3 I hg hm boot_range (BW (thn (ha pos pins s Y H _ I h) λus s1 qz9=>?_) hs rfl));obtain⟨vs,H1,I1,r1,q1⟩:=qz9;obtain⟨j,e,q1,q2,q⟩:=q1;subst e;cases r1 with
 | cons r rr=>
  cases rr;obtain⟨t,rfl⟩:=r;exact call_range_1 (Zro I1 (by omega) (by omega) q1 q2 (by simpa using q))
theorem Zw0{a b:YJ}{ta:TA}{p:Pos}(hg:Gl X "range")(hm:X.mg "range"=YC)(ha:PA X [a,b] ta)(hs:Xr [a,b] X.env=[(YF,eval a X.env),(YF,eval b X.env)]:=by rfl)(hs2:Xr [b] X.env=[(YF,eval b X.env)]:=by rfl) :
  PI X tg (.Call (.Name "range" p) [a,b] [] pos) (Yf6 ta):=by
 intro pins s Y H R I h;refine Call_ (Zi3 I hg hm boot_range (BW (thn (ha pos pins s Y H _ I h) λus s1 ⟨vs,H1,I1,r1,q1⟩=>?_) (by rw[hs,hs2]) (by rw[hs2];rfl)));obtain⟨i,j,e,⟨q1,q2,q3,q4⟩,q⟩:=q1;subst e;cases r1 with
 | cons r rr=>
  cases rr with
  | cons r' rr=>
   cases rr;obtain⟨t,rfl⟩:=r;obtain⟨t',rfl⟩:=r';exact call_range_2 (Zro I1 q1 q2 q3 q4 q)
def Ykj(wi:TI)(g:TG)(tb:TS):TS:=λD Y H=>wi Y H λJ H1=>∃W:Nat->Nat->St->Hp->Prop,(∃m,W 0 m Y H1)/\∀i m Y H,W i m Y H ->
 (J.stop i H/\D.nx Y H)\/(J.go i H/\∃N:St->Hp->Prop,(∀Y' H',N Y' H'->∃m',m'<m/\W (i+1) m' Y' H')/\∀x H',J.yld i H x H'->g x Y H' λY2 H2=>tb { D with nx:=N,ct:=N,bk:=D.nx } Y2 H2)
def Zns(fp:List YG)(h:YH):List (YG×Obj):=fp.filterMap λb=>(h.get? b).map λo=>(b,o)
theorem Zew{fp:List YG}{b:YG}{o:Obj}(hb:b∈fp)(e:h.get? b=YB o):(b,o)∈Zns fp h:=List.mem_filterMap.mpr ⟨b,hb,by rw[e];rfl⟩
theorem Zvl{fp:List YG}{p:YG×Obj}(hp:p∈Zns fp h):p.1∈fp/\h.get? p.1=YB p.2:=by
 obtain⟨b,hb,e⟩:=List.mem_filterMap.mp hp;cases q:h.get? b with
 | none=>rw[q]at e;cases e
 | some o=>
  rw[q]at e;have e':(b,o)=p:=Q9 e;subst e';exact⟨hb,q⟩
theorem Inv.pinned{Y:St}{fp:List YG}(I:Inv X pins Y H s)(hf:∀b∈fp,Zmn X pins H b)(ho:∀b∈fp,∃o,s.heap.get? b=YB o/\∀v,o.data≠ .cell v):Inv X (pins++Zns fp s.heap) Y H s :=
 I.pins_of λp hp=>(XQ.mp hp).elim (λz=>I.pin p (Qn _ z)) λz=>by
  obtain⟨hb,e⟩:=Zvl z;obtain⟨f0,f1,f2,_⟩:=hf p.1 hb;obtain⟨o,e',d⟩:=ho p.1 hb;rw[e]at e';cases e';exact⟨e,f0,f1,f2,d⟩
theorem Inv.unpinned{pl:List (YG×Obj)}{Y:St}(I:Inv X (pins++pl) Y H s):Inv X pins Y H s:=I.pins_of λp hp=>I.pin p (Qn _ (Ub _ hp))
theorem Ybg{wi:TI}{g:TG}{tb:TS}(hp:PassesOwn (Qm X.prog X.w) X.A X.env X.xe)(hc:X.calm=YD)(hi:PI X tg iter wi)(hg:PG X tg g)(hb:PSs X body tb)
  (hs:∀x,By iter X.env x=pure x:=by intro _;rfl):PS X (.For tg iter body [] pos) (Ykj wi g tb):=by
 intro pins s Y H D I h;refine wpAny_For (thn (hi pins s Y H _ I h) λv s1 h1=>thn h1 λitv s2 h2=>?_) hs;obtain⟨it,fp,tn,J,H2,e,I2,T,st2,f2,W,⟨m0,w0⟩,turn⟩:=h2;subst e
 -- what stays YD of the iterator's objects through the loop
 have stat:∀{H':Hp},(∀b∈fp,H' b=YC)->∀b∈fp,Zmn X pins H' b:=λhn b hb=>⟨hn b hb,(f2 b hb).2⟩;refine codeAny_forLoop_any (λn s'=>∃i Y' H',Inv X pins Y' H' s'/\tn i s'.heap/\(∀b∈fp,H' b=YC)/\W i n Y' H') ?_ m0 ⟨0,Y,H2,I2,st2,λb hb=>(f2 b hb).1,w0⟩;rintro n s3 ⟨i,Y3,H3,I3,st3,fr3,w3⟩;rcases turn i n Y3 H3 w3 with⟨stop,qn⟩|⟨go,N,hN,step⟩
 .refine V5 hp (thn (T.done X rfl rfl rfl hc i pins s3 Y3 H3 X.xe I3 (stat fr3) st3 stop) λr s4 qz9=>?_)
  obtain⟨hr,I4⟩:=qz9;subst hr;exact wpAny_execs_nil ⟨Y3,H3,I4,qn⟩
 .refine V5 hp (thn (T.item X rfl rfl rfl hc i pins s3 Y3 H3 X.xe I3 (stat fr3) st3 go) λr s4 qz9=>?_)
  obtain⟨u,hr,h4⟩:=qz9;subst hr;refine V5 hp (thn h4 λ_ s5 qz9=>?_);obtain⟨x,H5,I5,r5,y5,st5,fr5⟩:=qz9;have I5':=I5.pinned (stat fr5) (T.obj _ _ st5);refine V5 hp (thn (hg _ s5 Y3 H5 x u _ I5' r5 (step x H5 y5)) λ_ s6 qz9=>?_);obtain⟨Y6,H6,I6,q6⟩:=qz9;refine V5 hp (thn (hb _ s6 Y6 H6 _ I6 q6) λf s7 q7=>?_);have again:∀{Y7:St} {H7:Hp},Inv X (pins++Zns fp s5.heap) Y7 H7 s7->N Y7 H7->∃m,m<n/\∃i Y' H',Inv X pins Y' H' s7/\tn i s7.heap/\(∀b∈fp,H' b=YC)/\W i m Y' H':=fun{Y7 H7} I7 n7=>by
   obtain⟨m',hm,w7⟩:=hN Y7 H7 n7;refine⟨m',hm,i+1,Y7,H7,I7.unpinned,T.keep _ _ _ st5 λb hb o e=>(I7.pin (b,o) (Qn _ (Qn _ (Zew hb e)))).1,λb hb=>?_,w7⟩;obtain⟨o,e,d⟩:=T.obj _ _ st5 b hb;exact(I7.pin (b,o) (Qn _ (Qn _ (Zew hb e)))).2.1
  cases f with
  | next=>obtain⟨Y7,H7,I7,n7⟩:=q7;exact again I7 n7
  | cont=>obtain⟨Y7,H7,I7,n7⟩:=q7;exact again I7 n7
  | brk=>obtain⟨Y7,H7,I7,q7⟩:=q7;exact⟨Y7,H7,I7.unpinned,q7⟩
  | ret v=>obtain⟨x7,Y7,H7,I7,r7,q7⟩:=q7;exact⟨x7,Y7,H7,I7.unpinned,r7,q7⟩
abbrev R2:=V->V->Hp->VK->Prop
def OpR(X:Cx)(f:Xe->Xe->Sem Xe)(r:R2):Prop :=
 ∀(pins:List (YG×Obj)) (s:Xh) (Y:St) (H:Hp) (x y:V) (v u:Xe) (Q:VK),Inv X pins Y H s->RelV x v->RelV y u->r x y H Q ->
  X8 (Qm X.prog X.w) X.A (f v u) (EP X pins Y Q) X.xe s
def UnR(X:Cx)(f:Xe->Sem Xe)(r:V->Hp->VK->Prop):Prop :=
 ∀(pins:List (YG×Obj)) (s:Xh) (Y:St) (H:Hp) (x:V) (v:Xe) (Q:VK),Inv X pins Y H s->RelV x v->r x H Q ->
  X8 (Qm X.prog X.w) X.A (f v) (EP X pins Y Q) X.xe s
def Zbn(X:Cx)(f:Xe)(r:List V->Hp->VK->Prop):Prop :=
 ∀(pins:List (YG×Obj)) (s:Xh) (Y:St) (H:Hp) (xs:List V) (us:List Xe) (Q:VK),Inv X pins Y H s->Vals xs us->r xs H Q ->
  X8 (Qm X.prog X.w) X.A (call f us) (EP X pins Y Q) X.xe s
def Ykn(X:Cx)(r:V->Hp->(Bool->Hp->Prop)->Prop):Prop :=
 ∀(pins:List (YG×Obj)) (s:Xh) (Y:St) (H:Hp) (x:V) (v:Xe) (Q:Bool->Hp->Prop),Inv X pins Y H s->RelV x v->r x H Q ->
  X8 (Qm X.prog X.w) X.A (truthy v) (TP X pins Y Q) X.xe s
def tOp(r:R2)(ta tb:TE):TE:=λY H Q=>ta Y H λx H1=>tb Y H1 λy H2=>r x y H2 Q
def tUn(r:V->Hp->VK->Prop)(ta:TE):TE:=λY H Q=>ta Y H λx H1=>r x H1 Q
def rI(C:Int->Int->Prop)(g:Int->Int->V):R2:=λx y H Q=>∃i j,x= .int i/\y= .int j/\C i j/\Q (g i j) H
def rI0(g:Int->Int->V):R2:=λx y H Q=>∃i j,x= .int i/\y= .int j/\Q (g i j) H
def rU(g:Int->V):V->Hp->VK->Prop:=λx H Q=>∃i,x= .int i/\Q (g i) H
section
variable {a b c:YJ}{tc:TE}
theorem Ygf(ha:PE X a ta)(hb:PE X b tb){Y:St}{R:V->V->Hp->Prop}(I:Inv X pins Y H s)
  (h:ta Y H λx H1=>tb Y H1 λy H2=>R x y H2)  {f:Xe->Xe->Sem Xe}
  (hf:∀v u s2 x y H2,Inv X pins Y H2 s2->RelV x v->RelV y u->R x y H2->X8 (Qm X.prog X.w) X.A (f v u) Q X.xe s2) :
  X8 (Qm X.prog X.w) X.A (eval a X.env) (λv s₁=>X8 (Qm X.prog X.w) X.A (eval b X.env) (λu s₂=>X8 (Qm X.prog X.w) X.A (f v u) Q X.xe s₂) X.xe s₁) X.xe s:=by
 refine thn (ha pins s Y H _ I h) λv s1 qz9=>?_;obtain⟨x,H1,I1,r1,q1⟩:=qz9;refine thn (hb pins s1 Y H1 _ I1 q1) λu s2 qz9=>?_;obtain⟨y,H2,I2,r2,q2⟩:=qz9;exact hf v u s2 x y H2 I2 r1 r2 q2
theorem Z6n{op:Operator}{r:R2}(ho:OpR X (VL op) r)(ha:PE X a ta)(hb:PE X b tb):PE X (.BinOp a op b pos) (tOp r ta tb):=by
 intro pins s Y H Q I h;exact wpAny_BinOp (Ygf ha hb I h λv u s2 x y H2 I2 rx ry q=>ho pins s2 Y H2 x y v u Q I2 rx ry q)
theorem Yf7{op:UnaryOp}{r:V->Hp->VK->Prop}(ho:UnR X (unaryOp op) r)(ha:PE X a ta):PE X (.UnaryOp op a pos) (tUn r ta):=by
 intro pins s Y H Q I h;refine UnaryOp_ (thn (ha pins s Y H _ I h) λv s1 qz9=>?_);obtain⟨x,H1,I1,r1,q1⟩:=qz9;exact ho pins s1 Y H1 x v Q I1 r1 q1
theorem opI{f:Xe->Xe->Sem Xe}{C:Int->Int->Prop}{g:Int->Int->Int}
  (rule:∀(i j:Int) (t u:Tok) (s:Xh) (Q:Xe->Xh->Prop) (E:Xe->Xh->Prop),C i j->Q (.int (g i j) s.toks) { s with toks:=s.toks+1 }->X8 (Qm X.prog X.w) X.A (f (.int i t) (.int j u)) Q E s) :
  OpR X f (rI C λi j=>.int (g i j)):=by
 intro pins s Y H x y v u Q I rx ry h;obtain⟨i,j,rfl,rfl,hc,q⟩:=h;obtain⟨t,rfl⟩:=rx;obtain⟨t',rfl⟩:=ry;exact rule i j t t' s _ _ hc ⟨.int (g i j),H,I.tok _,⟨_,rfl⟩,q⟩
theorem Yif{f:Xe->Xe->Sem Xe}{g:Int->Int->Int}
  (rule:∀(i j:Int) (t u:Tok) (s:Xh) (Q:Xe->Xh->Prop) (E:Xe->Xh->Prop),Q (.int (g i j) s.toks) { s with toks:=s.toks+1 }->X8 (Qm X.prog X.w) X.A (f (.int i t) (.int j u)) Q E s) :
  OpR X f (rI0 λi j=>.int (g i j)):=by
 intro pins s Y H x y v u Q I rx ry h;obtain⟨i,j,rfl,rfl,q⟩:=h;obtain⟨t,rfl⟩:=rx;obtain⟨t',rfl⟩:=ry;exact rule i j t t' s _ _ ⟨.int (g i j),H,I.tok _,⟨_,rfl⟩,q⟩
theorem Yec{f:Xe->Xe->Sem Xe}{g:Int->Int->Bool}
  (rule:∀(i j:Int) (t u:Tok) (s:Xh) (Q:Xe->Xh->Prop) (E:Xe->Xh->Prop),Q (.bool (g i j)) s->X8 (Qm X.prog X.w) X.A (f (.int i t) (.int j u)) Q E s) :
  OpR X f (rI0 λi j=>.bl (g i j)):=by
 intro pins s Y H x y v u Q I rx ry h;obtain⟨i,j,rfl,rfl,q⟩:=h;obtain⟨t,rfl⟩:=rx;obtain⟨t',rfl⟩:=ry;exact rule i j t t' s _ _ ⟨.bl (g i j),H,I,rfl,q⟩
def Yen(i j:Int):Prop:=0<=j/\j<=1000000/\i.natAbs<2^64
def CMul(i j:Int):Prop:=(-(2^64)<i/\i<2^64)\/(-(2^64)<j/\j<2^64)
theorem CMul.ok{i j:Int}(h:CMul i j):IntMulOk i j:=by
 rcases h with⟨h1,h2⟩|⟨h1,h2⟩
 .exact .of_left (intBits_le_64 h1 h2)
 .exact .of_right (intBits_le_64 h1 h2)
theorem Yco:OpR X (VL .Add) (rI0 λi j=>.int (i+j)):=Yif λ_ _ _ _ _ _ _ q=>add_int q
theorem Zvr:OpR X (VL .Sub) (rI0 λi j=>.int (i-j)):=Yif λ_ _ _ _ _ _ _ q=>sub_int q
theorem Z6a:OpR X (VL .Mod) (rI (λ_ j=>j≠0) λi j=>.int (i.fmod j)):=opI λ_ _ _ _ _ _ _ hc q=>mod_int' hc q
theorem Yb6:OpR X (VL .Pow) (rI Yen λi j=>.int (i^j.toNat)):=opI λ_ _ _ _ _ _ _ hc q=>pow_int_small hc.1 hc.2.1 hc.2.2 q
theorem unI{f:Xe->Sem Xe}{g:Int->Int}
  (rule:∀(i:Int) (t:Tok) (s:Xh) (Q:Xe->Xh->Prop) (E:Xe->Xh->Prop),Q (.int (g i) s.toks) { s with toks:=s.toks+1 }->X8 (Qm X.prog X.w) X.A (f (.int i t)) Q E s) :
  UnR X f (rU λi=>.int (g i)):=by
 intro pins s Y H x v Q I rx h;obtain⟨i,rfl,q⟩:=h;obtain⟨t,rfl⟩:=rx;exact rule i t s _ _ ⟨.int (g i),H,I.tok _,⟨_,rfl⟩,q⟩
theorem Z97:UnR X (unaryOp .USub) (rU λi=>.int (-i)):=unI λ_ _ _ _ _ q=>neg_int q
end
section
variable {a b c:YJ}{tc:TE}
theorem Ydg{Y:St}{Q:VK}{k k':Bool}(I:Inv X pins Y H s)(q:Q (.bl k) H)(e:k=k'):EP X pins Y Q (.bool k') s:=by
 subst e;exact⟨.bl k,H,I,rfl,q⟩
theorem Zt4:OpR X (Br .Lt) (rI0 λi j=>.bl (decide (i<j))):=Yec λ_ _ _ _ _ _ _ q=>lt_int q
theorem Ybi:OpR X (Br .LtE) (rI0 λi j=>.bl (decide (i<=j))):=Yec λ_ _ _ _ _ _ _ q=>le_int q
theorem Z5t:OpR X (Br .Gt) (rI0 λi j=>.bl (decide (j<i))):=Yec λ_ _ _ _ _ _ _ q=>gt_int q
theorem Yg0:OpR X (Br .GtE) (rI0 λi j=>.bl (decide (j<=i))):=Yec λ_ _ _ _ _ _ _ q=>ge_int q
theorem Zp9:OpR X (Br .IsNot) (λx y H Q=>y= .non/\Q (.bl (!decide (x= .non))) H):=by
 intro pins s Y H x y v u Q I rx ry h;obtain⟨rfl,q⟩:=h;cases ry;refine isnot_none_gen (Ydg I q ?_);cases x<;>first
  | (cases rx;rfl)
  | (obtain⟨t,rfl⟩:=rx;rfl)
theorem W4(b:YJ){op:CmpOp}(h:op≠ .In:=by decide)(h2:op≠ .NotIn:=by decide):behindInMarks op b=YF:=by
 have e1:(op==CmpOp.In)=YF:=by cases op<;>first|rfl|exact YX rfl h
 have e2:(op==CmpOp.NotIn)=YF:=by cases op<;>first|rfl|exact YX rfl h2
 cases b<;>simp[behindInMarks,e1,e2]
theorem Z6t{op:CmpOp}{r:R2}(ho:OpR X (Br op) r)(ha:PE X a ta)(hb:PE X b tb)(hm:behindInMarks op b=YF):PE X (.Compare a [op] [b] pos) (tOp r ta tb):=by
 intro pins s Y H Q I h;exact wpAny_Compare1 (Ygf ha hb I h λv u s2 x y H2 I2 rx ry q=>ho pins s2 Y H2 x y v u Q I2 rx ry q) hm
def Ya2(t:TE):TT:=λY H Q=>t Y H λx H'=>∃k,x= .bl k/\Q k H'
theorem Z5d{op:CmpOp}{r:R2}(ho:OpR X (Br op) r)(ha:PE X a ta)(hb:PE X b tb)(hm:behindInMarks op b=YF):PT X (.Compare a [op] [b] pos) (Ya2 (tOp r ta tb)):=by
 intro pins s Y H Q I h;refine wpAny_isTrue_Compare1 (thn (ha pins s Y H _ I h) λv s1 ⟨x,H1,I1,r1,q1⟩=>thn (hb pins s1 Y H1 _ I1 q1) λu s2 ⟨y,H2,I2,r2,q2⟩=>
  thn (ho pins s2 Y H2 x y v u _ I2 r1 r2 q2) λc s3 ⟨z,H3,I3,r3,k,e,q3⟩=>?_) hm
 subst e;cases r3;exact Ug ⟨H3,I3,q3⟩
def Z32(r r':R2)(ta tb tc:TE):TE:=λY H Q=>ta Y H λx H1=>tb Y H1 λy H2=>r x y H2 λz H3=>∃k,z= .bl k/\
 (if k=YD then tc Y H3 λw' H4=>r' y w' H4 Q else Q (.bl YF) H3)
theorem Z0p{op op':CmpOp}{r r':R2}(ho:OpR X (Br op) r)(ho':OpR X (Br op') r')(ha:PE X a ta)(hb:PE X b tb)(hc:PE X c tc)
  (hm:lastMarks [op,op'] [b,c]=YF:=by with_unfolding_all rfl):PE X (.Compare a [op,op'] [b,c] pos) (Z32 r r' ta tb tc):=by
 intro pins s Y H Q I h;refine Compare_chain (thn (ha pins s Y H _ I h) λv s1 ⟨x,H1,I1,r1,q1⟩=>chain_link (thn (hb pins s1 Y H1 _ I1 q1) λu s2 ⟨y,H2,I2,r2,q2⟩=>
  thn (ho pins s2 Y H2 x y v u _ I2 r1 r2 q2) λd s3 ⟨z,H3,I3,r3,k,e,q3⟩=>?_)) hm
 subst e;cases r3;refine Ug ?_;cases k with
 | false=>exact ite_ff ⟨.bl YF,H3,I3,rfl,q3⟩
 | true=>exact ite_tt (chain_last (thn (hc pins s3 Y H3 _ I3 q3) λw' s4 ⟨z',H4,I4,r4,q4⟩=>ho' pins s4 Y H4 y z' u w' Q I4 r2 r4 q4))
def Yg3(K:Xc)(x:V)(H:Hp)(k:Bool):Prop :=
 match x with
 | .non=>k=YF
 | .bl b=>k=b
 | .int i=>k=(i !=0)
 | .str y=>y.length<=Xz/\k=((y.length:Int) !=0)
 | .byt y=>y.size<=Xz/\k=((y.size:Int) !=0)
 | .ref p=>(∃xs,SqL K H p xs/\k= !xs.isEmpty)\/(∃xs,SqT K H p xs/\k= !xs.isEmpty)\/∃kvs,H p=YB (.dK kvs)/\k= !kvs.isEmpty
 | _=>False
theorem Ztn{κ:Type}{kvs:List (κ×V)}{vs:List (κ×Xe)}(r:KV kvs vs):(!vs.isEmpty)= !kvs.isEmpty:=by
 cases r<;>rfl
theorem Zk1{xs:List V}{its:List Xe}(r:Vals xs its):(!its.toArray.isEmpty)= !xs.isEmpty:=by
 cases r<;>simp
theorem Zk4:(Xz:Nat)<2^63:=by rw[Qk];decide
theorem Ya4:Ykn X (λx H Q=>∃k,Yg3 X.K x H k/\Q k H):=by
 intro pins s Y H x v Q I rx h;obtain⟨k,e,q⟩:=h;have hl:=Zk4;have hs:Xz=16777216:=Qk;cases x with
 | non=>
  cases rx;have e':k=YF:=e;subst e';exact truthy_none ⟨H,I,q⟩
 | bl b=>
  cases rx;have e':k=b:=e;subst e';exact Ug ⟨H,I,q⟩
 | int i=>
  obtain⟨t,rfl⟩:=rx;have e':k=(i !=0):=e;subst e';exact PySem.P.truthy_int ⟨H,I,q⟩
 | str y=>
  obtain⟨t,rfl⟩:=rx;obtain⟨hy,e'⟩:y.length<=Xz/\k=((y.length:Int) !=0):=e;subst e';exact PySem.P.truthy_str (by omega) ⟨H,I.tok _,q⟩
 | byt y=>
  obtain⟨t,rfl⟩:=rx;obtain⟨hy,e'⟩:y.size<=Xz/\k=((y.size:Int) !=0):=e;subst e';exact PySem.W.truthy_bytes (by omega) ⟨H,I.tok _,q⟩
 | ref p=>
  cases rx;have e':(∃xs,SqL X.K H p xs/\k= !xs.isEmpty)\/(∃xs,SqT X.K H p xs/\k= !xs.isEmpty)\/∃kvs,H p=YB (.dK kvs)/\k= !kvs.isEmpty:=e;rcases e' with⟨xs,hx,e'⟩|⟨xs,hx,e'⟩|⟨kvs,hx,e'⟩
  .subst e'
   obtain⟨its,r,pl,hz⟩:=I.list hx;have hlen:=r.length;exact wpAny_truthy_list pl.isList (by simp only[Xy];omega) ⟨H,I.tok _,by rw[Zk1 r];exact q⟩
  .subst e'
   obtain⟨its,r,pl,hz⟩:=I.tuple hx;have hlen:=r.length;exact truthy_tuple pl (by simp only[Xy];omega) ⟨H,I.tok _,by rw[Zk1 r];exact q⟩
  .subst e'
   obtain⟨hz,hS,vs,r,m⟩:kvs.length<=Xz/\(p==sysModules)=YF/\∃vs,KV kvs vs/\s.heap.DictOf (Zqb X.prog X.w) p vs:=I.hok p _ hx;have hlen:kvs.length=vs.length:=Paired.length r;exact wpAny_truthy_dict hS m (by omega) ⟨H,I.tok _,by rw[Ztn r];exact q⟩
 | _=>exact(show False from e).elim
theorem Z0i(ha:PE X a ta)(he:∀whole,isTrue a X.env whole=(do let v<-whole;standAt a.pos;holding [v] (truthy v))) :
  PT X a (λY H Q=>ta Y H λx H'=>∃k,Yg3 X.K x H' k/\Q k H'):=by
 intro pins s Y H Q I h;refine isTrue_plain (thn (ha pins s Y H _ I h) λv s1 qz9=>?_) (he _);obtain⟨x,H1,I1,r1,q1⟩:=qz9;exact Ya4 pins s1 Y H1 x v Q I1 r1 q1
theorem vals1{x:V}{us:List Xe}(r:Vals [x] us):∃u,us=[u]/\RelV x u:=by
 cases r with
 | cons r1 r2=>cases r2;exact⟨_,rfl,r1⟩
theorem vals2{x y:V}(r:Vals [x,y] us):∃u w',us=[u,w']/\RelV x u/\RelV y w':=by
 cases r with
 | cons r1 r2=>
  cases r2 with
  | cons r3 r4=>cases r4;exact⟨_,_,rfl,r1,r3⟩
theorem Zmj:Zbn X (.builtin "abs") (λxs H Q=>∃i,xs=[.int i]/\Q (.int (if i<0 then -i else i)) H):=by
 intro pins s Y H xs us Q I r h;obtain⟨i,rfl,q⟩:=h;obtain⟨u,rfl,t,rfl⟩:=vals1 r;exact call_abs_int λu tk=>⟨.int (if i<0 then -i else i),H,I.tok _,⟨_,rfl⟩,q⟩
theorem Zo4(hc:X.calm=YD):Zbn X (.builtin "min") (λxs H Q=>∃i j,xs=[.int i,.int j]/\Q (.int (if j<i then j else i)) H):=by
 intro pins s Y H xs us Q I r h;obtain⟨i,j,rfl,q⟩:=h;obtain⟨u,w',rfl,⟨t,rfl⟩,⟨t',rfl⟩⟩:=vals2 r;refine min_two_ints (I.ok.hd hc) λh' tk k=>⟨_,H,I.kept k,?_,q⟩
 by_cases hj:j<i
 .rw[YL hj,YL hj];exact⟨_,rfl⟩
 .rw[YM hj,YM hj];exact⟨_,rfl⟩
theorem Zwo:Zbn X (.type "int") (λxs H Q=>(∃i,xs=[.int i]/\Q (.int i) H)\/∃k,xs=[.bl k]/\Q (.int (if k then 1 else 0)) H):=by
 intro pins s Y H xs us Q I r h;rcases h with⟨i,rfl,q⟩|⟨k,rfl,q⟩
 .obtain⟨u,rfl,t,rfl⟩:=vals1 r
  exact call_int_int ⟨.int i,H,I,⟨_,rfl⟩,q⟩
 .obtain⟨u,rfl,r1⟩:=vals1 r
  cases r1;exact call_int_bool ⟨.int (if k then 1 else 0),H,I.tok _,⟨_,rfl⟩,q⟩
end
structure ObjM(h:YH)(x dx C:YG)(mA:Str->Option Xe):Prop where
 obj:h.get? x=YB (PySem.W.instObj C dx)
 ns:h.Ns1 dx mA
 ne:dx≠x
theorem Zwe{dx:YG}{mA:Str->Option Xe}(n:h.Ns1 dx mA):∃od,h.get? dx=YB od/\∀name,PySem.W.lookIn name od=YB (mA name):=by
 obtain⟨o,es,ep,ho,hd,hk,_,hm⟩:=n;refine⟨o,ho,λname=>?_⟩;have e:=hm name;unfold nsFind findBy at e;rw[<-Array.find?_toList]at e;unfold PySem.W.lookIn;rw[hd];dsimp only;split
 .rename_i y q
  rw[q]at e;exact YT YB e
 .rename_i q
  rw[q]at e;have a:es.toList.any (·.refKey)=YF:=by
   rw[List.any_eq_false];intro y hy;obtain⟨z,t,hkey⟩:=hk y (Array.mem_toList_iff.mp hy);simp[DictEntry.refKey,hkey]
  have a':¬es.toList.any (·.refKey)=YD:=by rw[a];exact Xn
  rw[YM a'];exact YT YB e
theorem ObjM.look{x dx C:YG}{mA:Str->Option Xe}(I:ObjM h x dx C mA):∃od,PySem.W.InstAt h x (PySem.W.instObj C dx) C (YB od)/\∀name,PySem.W.lookIn name od=YB (mA name) :=
 let⟨od,ho,hl⟩:=Zwe I.ns
 ⟨od,⟨I.obj,rfl,rfl,ho⟩,hl⟩
section
variable {prog:Qi}{x dx C f:YG}{mA:Str->Option Xe}{name:Str}{v:Xe}
end
section
variable {C dx:YG}{fs fs':List (Str×V)}
theorem Z7q(hok:HOk P w H h)(e:H a=YB (.ins C dx fs)):∃mA,ObjM h a dx C mA/\(∀f,Yfs (fs.lookup f) (mA f))/\PySem.Within mA (fs.map (·.1))/\fs.length<=1000/\H dx=YB (.own a):=by
 obtain⟨d,z,ne,ob,mA,n,r,q⟩:=(show ObjOk P w H h a (.ins C dx fs)from hok a _ e);exact⟨mA,⟨ob,n,ne⟩,r,q,z,d⟩
end
structure Cls(K:Xc)(C:YG):Prop where
 pg:PySem.W.plainGet K C Str.empty=YD
 hd:PySem.W.hasDictIn K C=YD
 po:PySem.W.plainOver K C=YD
 sa:Vv K (.ref C) "__setattr__"=YB (YB (.builtin "object.__setattr__"))
theorem Cls.get{C:YG}(c:Cls K C)(f:Str):PySem.W.plainGet K C f=YD:=c.pg
structure Con(K:Xc)(C:YG)(f:Str)(v:V)(u:Xe):Prop where
 at_:Vv K (.ref C) f=YB (YB u)
 rel:RelV v u
 get:PySem.W.specialIn K u "__get__"=YB YC
 cp:PySem.W.copiedNames.contains f=YF
structure Meth(K:Xc)(C:YG)(m:Str)(f:YG):Prop where
 at_:Vv K (.ref C) m=YB (YB (.ref f))
 fn:PySem.W.isFn K (.ref f)=YD
 kp:Ve K (.ref f)=YD
section
variable {Y:St}{C dx:YG}{fs:List (Str×V)}{f:Str}{v:V}
end
section
variable {o value:YJ}{f:Str}{tpos:Pos}{tv:TE}
end
section
variable {Y:St}{c:Xe}{b:Bool}
inductive Zuc(K:Xc)(H:Hp):V->Xe->Prop where
 | non:Zuc K H .non (.type "NoneType")
 | bl (x:Bool):Zuc K H (.bl x) (.type "bool")
 | int (i:Int):Zuc K H (.int i) (.type "int")
 | str (x:Str):Zuc K H (.str x) (.type "str")
 | flt (x:UInt64):Zuc K H (.flt x) (.type "float")
 | lst {a:YG} {xs:List V} (e:H a=YB (.lst xs)):Zuc K H (.ref a) (.type "list")
 | frz {a:YG} {o:Obj} {xs:List V} (e:H a=YB (.frz o (.lst xs))):Zuc K H (.ref a) (.type "list")
 | tup {a:YG} {xs:List V} (e:H a=YB (.tup xs)):Zuc K H (.ref a) (.type "tuple")
 | dK {a:YG} {kvs:List (Key×V)} (e:H a=YB (.dK kvs)):Zuc K H (.ref a) (.type "dict")
 | dT {a:YG} {kvs:List (List Key×V)} (e:H a=YB (.dT kvs)):Zuc K H (.ref a) (.type "dict")
 | ins {a C dx:YG} {fs:List (Str×V)} (e:H a=YB (.ins C dx fs)) (cl:Cls K C) (ha:Vv K (.ref C) "__class__"=YB (YB (.builtin "object.__class__")))
   (hn:PySem.W.specialIn K (.builtin "object.__class__") "__get__"=YB (YB (.builtin "getset_descriptor.__get__"))) (htk:PySem.W.takesIn K (.builtin "object.__class__")=YB YD)
   (hm:PySem.W.mroIn K C (.type "object")=YB YD):Zuc K H (.ref a) (.ref C)
theorem Zbu{x:V}{t:Xe}(I:Inv X pins Y H s)(rx:RelV x u)(ty:Zuc X.K H x t)(e:Vu X.K t c=YB b)(h:∀tk,Q (.bool b) { s with toks:=tk }) :
  X8 (Qm X.prog X.w) A (call (.builtin "isinstance") [u,c]) Q E s:=by
 cases ty with
 | non=>cases(show u=JB from rx);exact JQ PySem.W.kitx_none I.kIn True.intro e (λz=>nomatch z) h
 | bl y=>cases(show u=Value.bool y from rx);exact JQ PySem.W.kitx_bool I.kIn True.intro e (λz=>nomatch z) h
 | int i=>obtain⟨t,q⟩:=(show∃t,u=Value.int i t from rx);cases q;exact JQ PySem.W.kitx_int I.kIn True.intro e (λz=>nomatch z) h
 | str y=>obtain⟨t,q⟩:=(show∃t,u=Value.str y t from rx);cases q;exact JQ PySem.W.kitx_str I.kIn True.intro e (λz=>nomatch z) h
 | flt y=>obtain⟨t,q⟩:=(show∃t,u=Xe.float y t from rx);cases q;exact JQ PySem.W.kitx_float I.kIn True.intro e (λz=>nomatch z) h
 | @lst a xs ea=>
  cases(show u=QZ a from rx);obtain⟨_,_,n,_,h1⟩:=(show ObjOk X.prog X.w H s.heap a (.lst xs)from I.hok a _ ea);exact JQ PySem.W.kitx_list I.kIn ⟨_,h1,rfl⟩ e (λz=>nomatch z) h
 | @frz a ob xs ea=>
  cases(show u=QZ a from rx);obtain⟨_,_,_,n,_,h1⟩:=(show ObjOk X.prog X.w H s.heap a (.frz ob (.lst xs))from I.hok a _ ea);exact JQ PySem.W.kitx_list I.kIn ⟨_,h1,rfl⟩ e (λz=>nomatch z) h
 | @tup a xs ea=>
  cases(show u=QZ a from rx);obtain⟨_,_,_,p⟩:=(show ObjOk X.prog X.w H s.heap a (.tup xs)from I.hok a _ ea);obtain⟨o,h1,h2,_⟩:=p;exact JQ PySem.W.kitx_tuple I.kIn ⟨o,h1,h2⟩ e (λz=>nomatch z) h
 | @dK a kvs ea=>
  cases(show u=QZ a from rx);obtain⟨_,_,vs,_,p⟩:=(show ObjOk X.prog X.w H s.heap a (.dK kvs)from I.hok a _ ea);obtain⟨o,es,ep,h1,h2,_⟩:=p;exact JQ PySem.W.kitx_dict I.kIn ⟨o,h1,h2.1⟩ e (λz=>nomatch z) h
 | @dT a kvs ea=>
  cases(show u=QZ a from rx);obtain⟨_,_,xs,_,o,es,ep,h1,h2,_⟩:=(show ObjOk X.prog X.w H s.heap a (.dT kvs)from I.hok a _ ea);exact JQ PySem.W.kitx_dict I.kIn ⟨o,h1,h2.1⟩ e (λz=>nomatch z) h
 | @ins a C dx fs ea cl ha hn htk hm=>
  cases(show u=QZ a from rx);obtain⟨mA,O,_⟩:=Z7q I.hok ea;obtain⟨od,J,_⟩:=O.look;exact JQ (PySem.W.kitx_own (cl.get _) cl.hd ha hn htk hm) I.kIn J e (λz=>nomatch z) h
end
structure Room(k:Nat)(A:QB):Prop where
 hd:A.handled=YC
 dp:A.depth+3*k+5<recursionLimit
 un:A.units+16*k+200<cLine
theorem Room.mono{k:Nat}(r:Room k A)(h:j<=k):Room j A:=⟨r.hd,by have:=r.dp;omega,by have:=r.un;omega⟩
theorem Room.deeper{k:Nat}(r:Room (k+1) A)(env:Env):Room k (A.deeper env) :=
 ⟨r.hd,by have:=r.dp;show A.depth+1+3*k+5<_;omega,by have:=r.un;show A.units+3+16*k+200<_;omega⟩
theorem Room.depth{k:Nat}(r:Room k A):A.depth<recursionLimit:=by have:=r.dp;omega
theorem Room.units{k:Nat}(r:Room k A):A.units+64<cLine:=by have:=r.un;omega
def Yki:TA:=λ_ H Q=>Q [] H
def Yhh(ta:TE)(tr:TA):TA:=λY H Q=>ta Y H λx H1=>tr Y H1 λxs H2=>Q (x::xs) H2
section
variable {t:TA}
theorem Ze4:PA X [] Yki:=λ_ _ _ _ H Q I h=>Calls.spliced_nil ⟨[],H,I,.nil,h⟩
theorem Zbj(ha:PE X e te)(hr:PA X es t)(hs:Xr (e::es) X.env=(YF,eval e X.env)::Xr es X.env:=by rfl):PA X (e::es) (Yhh te t):=by
 intro pos pins s Y H Q I h;rw[hs];show X8 _ _ (spliced ((YF,eval e X.env)::JX pos (Xr es X.env))) _ _ s;refine Calls.spliced_cons (thn (ha pins s Y H _ I h) λu s1 qz9=>?_);obtain⟨x,H1,I1,r1,q1⟩:=qz9;refine thn (hr pos pins s1 Y H1 _ I1 q1) λus s2 qz9=>?_;obtain⟨xs,H2,I2,r2,q2⟩:=qz9;exact⟨x::xs,H2,I2,.cons r1 r2,q2⟩
def Yk4(t:TA):TE:=λY H Q=>t Y H λxs H1=>xs.length<=Xz/\∀p,H1 p=YC->Q (.ref p) (upd H1 p (.tup xs))
def Yjz(t:TA):TE:=λY H Q=>t Y H λxs H1=>xs.length<=Xz/\∀p,H1 p=YC->Q (.ref p) (upd H1 p (.lst xs))
theorem Ycd{x1}(h:PA X es t):PE X (.Tuple es x1 pos) (Yk4 t):=by
 intro pins s Y H Q I hq;refine wpAny_Tuple_spliced (thn (h pos pins s Y H _ I hq) λus s1 ⟨xs,H1,I1,r,z,q⟩=>⟨by rw[<-r.length];exact z,?_⟩);have hf:H1 s1.heap.objs.size=YC:=I1.hok.fresh (X3 _);refine⟨.ref s1.heap.objs.size,upd H1 s1.heap.objs.size (.tup xs),I1.laid (t':=s1.toks) (λb u e=>Xl _ e) (X3 _) ?_,rfl,q _ hf⟩;exact⟨z,us,r,⟨_,Qe _ rfl,rfl,_,rfl⟩⟩
theorem Z2n(h:PA X es t):PE X (.List es pos) (Yjz t):=by
 intro pins s Y H Q I hq;refine wpAny_List_spliced (thn (h pos pins s Y H _ I hq) λus s1 ⟨xs,H1,I1,r,z,q⟩=>⟨by rw[<-r.length];exact z,?_⟩);have hf:H1 s1.heap.objs.size=YC:=I1.hok.fresh (X3 _);refine⟨.ref s1.heap.objs.size,upd H1 s1.heap.objs.size (.lst xs),I1.laid (t':=s1.toks) (λb u e=>Xl _ e) (X3 _) ?_,rfl,q _ hf⟩;exact⟨z,us,0,r,Qe _ rfl⟩
end
abbrev Sp:=List V->Hp->VK->XK->Prop
abbrev CXT:=List Env->Hp->Xh->XK->Xe->Xh->Prop
structure Yd4(P:Qi)(w:QJ)(K:Xc)(mg:Str->Option Xe)(base:YH)(A:QB)(outer:List Env)(s:Xh)(H:Hp):Prop where
 frames:A.frames=YB outer
 mod:Mod K mg base
 bs:∀b o,base.get? b=YB o->s.heap.get? b=YB o/\H b=YC
 bsz:base.objs.size<=s.heap.objs.size
 funs:s.heap.FunFrames base outer
 frf:∀b∈frs outer,H b=YC
 hok:HOk P w H s.heap
 bare:AllBare s.gens
def CE(outer:List Env)(P:Qi)(w:QJ)(H:Hp)(s:Xh)(Q:VK)(u:Xe)(s':Xh):Prop :=
 ∃v H',s'.os=s.os/\AllBare s'.gens/\Un (frs outer) [] H H' s.heap s'.heap/\HOk P w H' s'.heap/\RelV v u/\Q v H'
def CR(CX:CXT)(outer:List Env)(P:Qi)(w:QJ)(H:Hp)(s:Xh)(Q:VK)(E:XK)(r:Result)(s':Xh):Prop :=
 match r with
 | .ok (.ret u)=>CE outer P w H s Q u s'
 | .ok _=>False
 | .error e=>CX outer H s E e s'
structure FnOk(P:Qi)(w:QJ)(K:Xc)(mg:Str->Option Xe)(base:YH)(CX:CXT)(k:Nat)(f:YG)(fd:XJ)(ps:List Str)(sp:Sp):Prop where
 len:∀vs H Q E,sp vs H Q E->vs.length=ps.length
 run:∀(A:QB) (outer:List Env) (s:Xh) (H:Hp) (args:Args) (us:List Xe) (vs:List V) (Q:VK) (E:XK),Room k A->Yd4 P w K mg base A outer s H->BindsTo s fd args (ps.zip us)->Vals vs us->sp vs H Q E ->
  codeAny (Qm P w) A (.call (.ref f) args) (CR CX outer P w H s Q E) s
theorem FnOk.imp{mg:Str->Option Xe}{base:YH}{CX:CXT}{k:Nat}{f:YG}{fd:XJ}{ps:List Str}{sp sp':Sp}(F:FnOk P w K mg base CX k f fd ps sp)
  (h:∀vs H Q E,sp' vs H Q E->sp vs H Q E):FnOk P w K mg base CX k f fd ps sp' :=
 ⟨λvs H Q E q=>F.len vs H Q E (h _ _ _ _ q),λA outer s H args us vs Q E hr he hb hv hs=>F.run A outer s H args us vs Q E hr he hb hv (h _ _ _ _ hs)⟩
section
variable {Y:St}
theorem Inv.env0(I:Inv X pins Y H s):Yd4 X.prog X.w X.K X.mg X.base X.A X.stack s H :=
 ⟨I.ok.frames,I.ok.mod,I.bs,QD I.ok.bsz I.sz,I.stack,I.stkFree,I.hok,I.bare⟩
theorem Inv.after{Q:VK}(I:Inv X pins Y H s)(h:CE X.stack X.prog X.w H s Q u s'):EP X pins Y Q u s':=by
 obtain⟨v,H',os,bare,un,hok,r,q⟩:=h;obtain⟨hh,g,d,t,os'⟩:=s';obtain rfl:os'=s.os:=os;exact⟨v,H',I.call (h':=hh) (g':=g) (d':=d) (t':=t) (ch:=[]) un hok bare (λb z=>YX z (by simp)),r,q⟩
end
def Z6l(sp:Sp)(dvs:List V)(E:XK)(t:TA):TE:=λY H Q=>t Y H λvs H1=>sp (vs++dvs) H1 Q E
def Binds(K:Xc)(fd:XJ)(ps:List Str)(ds:List Xe):Prop :=
 ∀(s:Xh) (us:List Xe),K.In s.heap->(us++ds).length=ps.length->BindsTo s fd ⟨us,[]⟩ (ps.zip (us++ds))
theorem Binds.all{fd:XJ}{ps:List Str}(h:∀us:List Xe,us.length=ps.length->bindArgs fd ⟨us,[]⟩=pure (ps.zip us)):Binds K fd ps []:=λs us _ hl=>by
 rw[QS]at hl|-
 exact .of_eq (h us hl)
def Zk9(CX:CXT)(X:Cx)(E:XK):Prop:=∀(pins:List (YG×Obj)) (Y:St) (H:Hp) (s:Xh) (e:Xe) (s':Xh),Inv X pins Y H s->CX X.stack H s E e s'->X.xe e s'
section
variable {CX:CXT}{k:Nat}{f C:YG}{fd:XJ}{ps:List Str}{sp:Sp}{dvs:List V}{ds:List Xe}{E:XK}{m:Str}{p apos:Pos}{o:YJ}{t:TA}
theorem Z3g{Y:St}{Q:VK}{vs:List V}(F:FnOk X.prog X.w X.K X.mg X.base CX k f fd ps sp)(hr:Room k X.A)(hb:Binds X.K fd ps ds)(hd:Vals dvs ds)(hx:Zk9 CX X E)
  (I:Inv X pins Y H s) (r:Vals vs us) (h:sp (vs++dvs) H Q E):X8 (Qm X.prog X.w) X.A (call (.ref f) us) (EP X pins Y Q) X.xe s:=by
 have r2:Vals (vs++dvs) (us++ds):=r.append hd;have hl:(us++ds).length=ps.length:=by rw[<-r2.length];exact F.len _ _ _ _ h
 refine wpAny_call (codeAny_mono (F.run X.A X.stack s H ⟨us,[]⟩ (us++ds) (vs++dvs) Q E hr I.env0 (hb s us I.kIn hl) r2 h) λr s' hq=>?_);cases r with
 | error e=>exact hx pins Y H s e s' I hq
 | ok fl=>
  cases fl with
  | ret u=>exact I.after hq
  | next=>exact V7 hq
  | brk=>exact V7 hq
  | cont=>exact V7 hq
theorem Z8a(F:FnOk X.prog X.w X.K X.mg X.base CX k f fd ps sp)(hr:Room k X.A)(hg:Gl X x)(hm:X.mg x=YB (.ref f))(hk:Ve X.K (.ref f)=YD)(hb:Binds X.K fd ps ds)(hd:Vals dvs ds)(hx:Zk9 CX X E)
  (ha:PA X (e::es) t) (hdb:(x==("__debug__" : Str))=YF:=by decide) (he:Xr (e::es) X.env=(YF,eval e X.env)::Xr es X.env:=by rfl) (hpl:(JX pos (Xr es X.env)).any (·.1)=YF:=by rfl) :
  PE X (.Call (.Name x p) (e::es) [] pos) (Z6l sp dvs E t):=by
 intro pins s Y H Q I h;refine V2 (Zyv I hg hm ?_ hdb);refine PySem.W.callWith_K (h₀:=X.base) I.ok.mod.kin hk (thn (ha pos pins s Y H _ I h) λus s1 qz9=>?_) he hpl;obtain⟨vs,H1,I1,r,q⟩:=qz9;refine⟨I1.kIn,?_⟩;exact Z3g F hr hb hd hx I1 r q
structure Mk(K:Xc)(C f:YG):Prop where
 makes:PySem.W.makesIn K C=YD
 init:Vv K (.ref C) "__init__"=YB (YB (.ref f))
 fn:PySem.W.isFn K (.ref f)=YD
 kp:Ve K (.ref C)=YD
end
section
variable {CX:CXT}{k:Nat}{f C:YG}{fd:XJ}{ps ks:List Str}{sp:Sp}{E:XK}{m:Str}{p apos kpos:Pos}{o:YJ}{kws:List Ur}{t tk:TA}{nm:Option Str}
structure Yia(K:Xc)(fd:XJ)(ps ks:List Str)(g:List Xe->List Xe->List Xe)(gV:List V->List V->List V):Prop where
 to:∀(s:Xh) (us ws:List Xe),K.In s.heap->(g us ws).length=ps.length->BindsTo s fd ⟨us,ks.zip ws⟩ (ps.zip (g us ws))
 rel:∀{vs:List V} {us:List Xe} {zs:List V} {ws:List Xe},Vals vs us->Vals zs ws->Vals (gV vs zs) (g us ws)
variable {g:List Xe->List Xe->List Xe}{gV:List V->List V->List V}
end
structure Zv(N P:List Str)(sc:U6):Prop where
 kind:sc.kind= .function
 co:sc.isCoroutine=YF
 gen:sc.isGenerator=YF
 nd:N.Nodup
 pre:N.take P.length=P
 par:∀x∈P,sc.names.lookup x=YB .local\/sc.names.lookup x=YB .cell
 nofree:∀y∈sc.names,y.2≠ .free
theorem Zn8{kindOf:Str->Option Vb}:∀{binds:List (Str×Xe)} {m:Str->Option Xe},(∀v,(x,v)∉binds)->bindL kindOf binds m x=m x
 | [],_,_=>rfl
 | (n,v)::r,m,h=>by
  unfold bindL;rw[Zn8 λw hw=>h w (List.mem_cons_of_mem _ hw)];split
  .have:x≠n:=by rintro rfl;exact h v List.mem_cons_self
   simp[this]
  .rfl
theorem Znl{kindOf:Str->Option Vb}:∀{binds:List (Str×Xe)} {m:Str->Option Xe},(∀v,(x,v)∉binds)->bindC kindOf binds m x=m x
 | [],_,_=>rfl
 | (n,v)::r,m,h=>by
  unfold bindC;rw[Znl λw hw=>h w (List.mem_cons_of_mem _ hw)];split
  .rfl
  .have:x≠n:=by rintro rfl;exact h v List.mem_cons_self
   simp[this]
theorem Zng{kindOf:Str->Option Vb}{v:Xe}:∀{P:List Str} {vs:List Xe} {i:Nat} {m:Str->Option Xe},P.Nodup->P[i]? =YB x->vs[i]? =YB v->kindOf x=YB .local ->
  bindL kindOf (P.zip vs) m x=YB v
 | [],_,_,_,_,h,_,_=>by simp at h
 | _::_,[],_,_,_,_,h,_=>by simp at h
 | p::P,w::vs,0,m,nd,h1,h2,hk=>by
  simp at h1 h2;subst h1;subst h2;show bindL kindOf ((p,w)::P.zip vs) m p=_;unfold bindL;rw[Zn8 λv hv=>(Qo.mp nd).1 (List.of_mem_zip hv).1,YL hk];simp
 | p::P,w::vs,i+1,m,nd,h1,h2,hk=>by
  show bindL kindOf ((p,w)::P.zip vs) m x=_;unfold bindL;exact Zng (i:=i) (Qo.mp nd).2 (by simpa using h1) (by simpa using h2) hk
theorem Znu{kindOf:Str->Option Vb}{v:Xe}:∀{P:List Str} {vs:List Xe} {i:Nat} {m:Str->Option Xe},P.Nodup->P[i]? =YB x->vs[i]? =YB v->kindOf x≠YB .local ->
  bindC kindOf (P.zip vs) m x=YB v
 | [],_,_,_,_,h,_,_=>by simp at h
 | _::_,[],_,_,_,_,h,_=>by simp at h
 | p::P,w::vs,0,m,nd,h1,h2,hk=>by
  simp at h1 h2;subst h1;subst h2;show bindC kindOf ((p,w)::P.zip vs) m p=_;unfold bindC;rw[Znl λv hv=>(Qo.mp nd).1 (List.of_mem_zip hv).1,YM hk];simp
 | p::P,w::vs,i+1,m,nd,h1,h2,hk=>by
  show bindC kindOf ((p,w)::P.zip vs) m x=_;unfold bindC;exact Znu (i:=i) (Qo.mp nd).2 (by simpa using h1) (by simpa using h2) hk
def start(N:List Str)(vs:List V):St:=vs.map YB++X5 (N.length-vs.length) YC
def Z21(CX:CXT)(P:Qi)(w:QJ)(K:Xc)(mg:Str->Option Xe)(base:YH)(N:List Str)(qual:Str)(scope:U6)(f:YG)(cd:Xe)(A:QB)(outer:List Env)(s:Xh)(H:Hp)(E:XK):Cx where
 prog:=P
 w:=w
 K:=K
 mg:=mg
 base:=base
 A:=A.deeper (envOfC qual scope s.heap.objs.size f cd)
 N:=N
 s₀:=s
 H₀:=H
 env:=envOfC qual scope s.heap.objs.size f cd
 outer:=outer
 stack:=envOfC qual scope s.heap.objs.size f cd::outer
 ex:=[]
 calm:=YD
 fn:=λ_=>YD
 pn:=[]
 xe:=λe s'=>X8 (Qm P w) (A.deeper (envOfC qual scope s.heap.objs.size f cd)) (leaving (envOfC qual scope s.heap.objs.size f cd) e) (λ_ s''=>CX outer H s E e s'') (λe' s''=>CX outer H s E e' s'') s'
theorem Zrq{sc:U6}{n:Nat}(h:sc.names.lookup x=YB .cell):∃c,(BJ n sc.names []).lookup x=YB c:=by
 have q:=PySem.W.cellsFrom_some sc.names n [] (.inl h);exact Ul.mp q
theorem Zuz{CX:CXT}{mg:Str->Option Xe}{base:YH}{ps:List Str}{qual:Str}{scope:U6}{f:YG}{cd:Xe}{outer:List Env}{s1:Xh}{E:XK}{vs:List V}
  (S:Zv N ps scope) (hd:A.handled=YC) (e0:Yd4 P w K mg base A outer s H) (hl:vs.length=ps.length) (r:Vals vs us)
  (x:InCallC s s.heap.objs.size (bindL (envOfC qual scope s.heap.objs.size f cd).kindOf (ps.zip us) λ_=>YC) (BJ (s.heap.objs.size+1) scope.names []) (bindC (envOfC qual scope s.heap.objs.size f cd).kindOf (ps.zip us) λ_=>YC) s1) :
  Inv (Z21 CX P w K mg base N qual scope f cd A outer s H E) [] (start N vs) H s1:=by
 have hpl:ps.length<=N.length:=by have:=YT List.length S.pre;rw[Bb]at this;omega
 obtain⟨h1,tk,rfl,hk⟩:=x.done;have noA:∀b:YG,b∉(Z21 CX P w K mg base N qual scope f cd A outer s H E).ex:=λb z=>YX (show b∈([]:List YG)from z) (by simp);refine⟨⟨e0.mod,S.kind,rfl,rfl,X3 _,λy z c h1 h2=>?_,λy hy=>?_,λy c _ h=>?_,λ_=>hd,QB.frames_deeper e0.frames,.inr ⟨rfl,rfl⟩,λb z=>YX z (noA b),e0.bs,e0.bsz,λb _ _=>noA b,λb z=>YX z (noA b),e0.funs,e0.frf⟩,
  rfl,e0.bare,Un.kept hk,⟨_,x.toInCall.ns,λi y v h1 h2 h3=>?_⟩,λy c h=>⟨_,x.cell y c h⟩,e0.hok.fresh (X3 _),λy c h=>?_,λp hp=>YX (show p∈([]:List (YG×Obj))from hp) (by simp),e0.hok.kept hk,?_⟩
 .exact name_of_addr x.apart (Bu h1) (Bu h2)
 .have hy:scope.names.lookup y=YB .cell\/scope.names.lookup y=YB .free:=hy
  rcases hy with hy|hy
  .exact Zrq hy
  .exact YX rfl (S.nofree _ (Bu hy))
 .exact VM (x.above y c (Bu h))
 .have hi:i<vs.length:=by
   unfold start at h2
   by_cases hi:i<vs.length
   .exact hi
   .rw[Qw (by simpa using hi)]at h2
    rw[Ux]at h2;split at h2<;>cases h2
  have ha:vs[i]? =YB v:=by
   unfold start at h2;rw[QK (by simpa using hi),Xp]at h2;cases e:vs[i]? with
   | none=>rw[e]at h2;cases h2
   | some a=>rw[e]at h2;cases h2;rfl
  obtain⟨u,hu,rv⟩:=r.get ha;have hp:ps[i]? =YB y:=by
   rw[<-S.pre,List.getElem?_take_of_lt (by omega)];exact h1
  have ndP:ps.Nodup:=by rw[<-S.pre];exact S.nd.sublist (List.take_sublist _ _)
  refine⟨u,rv,?_⟩;rcases S.par y (Qz hp)with k|k
  .exact .inl ⟨k,Zng ndP hp hu k⟩
  .obtain⟨c,e⟩:=Zrq (n:=s.heap.objs.size+1) k
   refine .inr ⟨.inl k,c,e,?_⟩;have q:=x.cell y c e;rw[Znu ndP hp hu (by show scope.names.lookup y≠_;rw[k];decide)]at q;exact q
 .exact e0.hok.fresh (VM (x.above y c (Bu h)))
 .unfold start
  show _=N.length;rw[Xq,Xd,VP];omega
theorem Yfg{CX:CXT}{mg:Str->Option Xe}{base:YH}{k:Nat}{f:YG}{name qual:Str}{params:Arguments}{scope:U6}{dV kV doc pm cdv ct oc:Xe}{an od:Option YG}
  {osl:Array (Option Xe)} {ps:List Str} {sp:Sp} (lk:K.lookup f=YB ⟨oc,od,.func (V6 name qual params body scope dV kV doc pm an cdv ct),osl⟩) (hcd:PySem.W.codeIn K cdv qual=YD) (S:Zv N ps scope)
  (len:∀vs H Q E,sp vs H Q E->vs.length=ps.length)
  (hbody:∀(A:QB) (outer:List Env) (s:Xh) (H:Hp) (vs:List V) (Q:VK) (E:XK),Room k (A.deeper (envOfC qual scope s.heap.objs.size f cdv))->sp vs H Q E ->
   ∃t,PSs (Z21 CX P w K mg base N qual scope f cdv A outer s H E) body t/\t { nx:=λ_ H'=>Q .non H',rt:=Q } (start N vs) H) :
  FnOk P w K mg base CX (k+1) f (V6 name qual params body scope dV kV doc pm an cdv ct) ps sp:=by
 refine⟨len,λA outer s H args us vs Q E hr e0 hb r hsp=>?_⟩;have hl:=len _ _ _ _ hsp;have KX:K.In s.heap:=e0.mod.kin.keeps λb o e=>(e0.bs b o e).1;have lim:s.heap.NoLimit:=e0.mod.nolimit.keeps λb o e=>(e0.bs b o e).1;have hkind:∀y∈ps.zip us,scope.names.lookup y.1=YB .local\/(scope.names.lookup y.1=YB .cell/\((BJ (s.heap.objs.size+1) scope.names []).lookup y.1).isSome=YD):=λ⟨n,v⟩ hy=>by
  rcases S.par n (List.of_mem_zip hy).1 with q|q
  .exact .inl q
  .exact .inr ⟨q,PySem.W.cellsFrom_some _ _ _ (.inl q)⟩
 refine codeAny_call_function hr.depth (KX _ _ lk) rfl S.co S.gen rfl (PySem.W.codeRec_of KX hcd) (hb _ _ _ _ ?_);refine wpAny_newFunctionEnv_cells S.kind hkind λenv he s1 x=>?_;subst he;refine⟨lim.keeps x.toInCall.keep,codeAny_func ?_⟩;obtain⟨t,ht,hq⟩:=hbody A outer s H vs Q E (hr.deeper _) hsp;have I:Inv (Z21 CX P w K mg base N qual scope f cdv A outer s H E) [] (start N vs) H s1:=Zuz S hr.hd e0 hl r x;refine Vc (ht [] s1 (start N vs) H _ I hq) (λfl s' hs=>?_) λe s' hs=>hs;have fin:∀{Y':St} {H':Hp} {v:V} {u:Xe},Inv (Z21 CX P w K mg base N qual scope f cdv A outer s H E) [] Y' H' s'->RelV v u->Q v H'->CE outer P w H s Q u s' :=
  fun{Y' H' v u} J rv q=>⟨v,H',J.os,J.bare,J.base,J.hok,rv,q⟩
 cases fl with
 | ret u=>
  obtain⟨v,Y',H',J,rv,q⟩:=hs;exact fin J rv q
 | next=>
  obtain⟨Y',H',J,q⟩:=hs;exact fin (v:=V.non) (u:=JB) J rfl q
 | brk=>
  obtain⟨_,_,_,q⟩:=hs;exact V7 q
 | cont=>
  obtain⟨_,_,_,q⟩:=hs;exact V7 q
section
variable {p:Pos}{t:TA}{id T:String}{r:List V->Hp->VK->Prop}
def tCB(r:List V->Hp->VK->Prop)(t:TA):TE:=λY H Q=>t Y H λvs H1=>r vs H1 Q
theorem Zij(hc:Zbn X (.builtin id) r)(hg:Gl X x)(hm:X.mg x=YC)(hv:Qh x=YB (.builtin id))(ha:PA X (e::es) t)(hn:x≠"__name__" :=by decide)(hdb:(x==("__debug__" : Str))=YF:=by decide)
  (he:Xr (e::es) X.env=(YF,eval e X.env)::Xr es X.env:=by rfl) (hpl:(JX pos (Xr es X.env)).any (·.1)=YF:=by rfl):PE X (.Call (.Name x p) (e::es) [] pos) (tCB r t):=by
 intro pins s Y H Q I h;refine V2 (Zi3 I hg hm hv ?_ hn hdb);refine PyProof.Rows.callWith_builtin1 (thn (ha pos pins s Y H _ I h) λus s1 qz9=>?_) he hpl;obtain⟨vs,H1,I1,r1,q1⟩:=qz9;exact hc pins s1 Y H1 vs us Q I1 r1 q1
theorem Zcl(hc:Zbn X (.type T) r)(hg:Gl X x)(hm:X.mg x=YC)(hv:Qh x=YB (.type T))(ha:PA X (e::es) t)(hn:x≠"__name__" :=by decide)(hdb:(x==("__debug__" : Str))=YF:=by decide)
  (he:Xr (e::es) X.env=(YF,eval e X.env)::Xr es X.env:=by rfl) (hpl:(JX pos (Xr es X.env)).any (·.1)=YF:=by rfl):PE X (.Call (.Name x p) (e::es) [] pos) (tCB r t):=by
 intro pins s Y H Q I h;refine V2 (Zi3 I hg hm hv ?_ hn hdb);refine BW (thn (ha pos pins s Y H _ I h) λus s1 qz9=>?_) he hpl;obtain⟨vs,H1,I1,r1,q1⟩:=qz9;exact hc pins s1 Y H1 vs us Q I1 r1 q1
end
end L2
namespace HT
open PySem PyProof.Rows
section
open PySem.SeqAt
open PySem.AutoSeq1 (wpAny_loadPart')
open PySem.MeetsSeq PySem.MeetsSeq2 PySem.MeetsSeq3
end
section
variable {prog:Qi}
theorem cat_tup{t b:YG}{vs ws:List Xe}(ht:IsTup s.heap t vs.toArray)(hb:IsTup s.heap b ws.toArray)(hv:vs≠[])
  (h1:ws=[]->Q (.ref t) s) (h2:ws≠[]->Q (.ref s.heap.objs.size) { s with heap:=s.heap.push { cls:=.type "tuple",data:=.seq (vs++ws).toArray } })
  (hsz:vs.length+ws.length<=Xz):X8 (Qm prog w) A (VL .Add (.ref t) (.ref b)) Q E s:=by
 obtain⟨⟨cls,dd,data,sl⟩,ho,hc,n,hd⟩:=id ht;obtain⟨⟨cls2,dd2,data2,sl2⟩,ho2,hc2,n2,hd2⟩:=id hb;simp only at hc hd hc2 hd2;subst hc hd hc2 hd2;have e:vs.toArray++ws.toArray=(vs++ws).toArray:=by simp
 by_cases hw:ws=[]
 .exact concat_meets ⟨_,ho,rfl⟩ ⟨_,ho2,rfl⟩ noFill_tuple_add seq_tuple_add PySem.F.slot_tuple_add PySem.F.entry_tuple_add (PySem.F.args_tuple_add_2 _ _)
   (tuple_addW1 t b vs.toArray ws.toArray n n2 dd dd2 sl sl2 (by simpa using hv) (by simp[hw])) ⟨ho,ho2,h1 hw⟩
 .refine concat_meets ⟨_,ho,rfl⟩ ⟨_,ho2,rfl⟩ noFill_tuple_add seq_tuple_add PySem.F.slot_tuple_add PySem.F.entry_tuple_add (PySem.F.args_tuple_add_2 _ _)
   (tuple_addW2 t b vs.toArray ws.toArray n n2 dd dd2 sl sl2 (by simpa using hv) (by simpa using hw) (by rw[Xy,Xy];exact hsz)) ⟨ho,ho2,?_⟩
  rw[e];exact h2 hw
def sIx(n d:Nat):Option Int->Nat
 | none=>d
 | some v=>if v<0 then(v+(n:Int)).toNat else min v.toNat n
theorem sIx_none(n d:Nat):sIx n d YC=d:=rfl
theorem sIx_nat(n d k:Nat):sIx n d (YB (k:Int))=min k n:=by
 show(if(k:Int)<0 then((k:Int)+(n:Int)).toNat else min (k:Int).toNat n)=min k n;rw[YM (by omega),Q7]
end
end HT
namespace L2
open PySem PySem.Spec PyProof.Rows
abbrev TO:=St->Hp->(Option Int->Hp->Prop)->Prop
def PO(X:Cx)(e:Option YJ)(t:TO):Prop :=
 ∀(pins:List (YG×Obj)) (s:Xh) (Y:St) (H:Hp) (Q:Option Int->Hp->Prop),Inv X pins Y H s->t Y H Q ->
  X8 (Qm X.prog X.w) X.A (evalPart e X.env) (λu s'=>∃o H',Inv X pins Y H' s'/\IsPart u o/\Q o H') X.xe s
def Z74:TO:=λ_ H Q=>Q YC H
def Ygl(t:TE):TO:=λY H Q=>t Y H λx H1=>∃i,x= .int i/\Q (YB i) H1
section
variable {lo hi:Option YJ}{tl th:TO}{p2:Pos}
theorem Z5h:PO X YC Z74:=by
 intro pins s Y H Q I h;rw[evalPart_none];exact Qd ⟨YC,H,I,.none,h⟩
theorem Z5a(h:PE X e te):PO X (YB e) (Ygl te):=by
 intro pins s Y H Q I hw;rw[evalPart_some];refine thn (h pins s Y H _ I hw) λu s1 qz9=>?_;obtain⟨x,H1,I1,r1,q1⟩:=qz9;obtain⟨i,rfl,q⟩:=q1;obtain⟨t,rfl⟩:=r1;exact⟨YB i,H1,I1,.int i t,q⟩
def SlR(X:Cx)(r:V->Option Int->Option Int->Hp->VK->Prop):Prop :=
 ∀(pins:List (YG×Obj)) (s:Xh) (Y:St) (H:Hp) (x:V) (v vl vu:Xe) (lo hi:Option Int) (sl:YG) (Q:VK),Inv X pins Y H s->RelV x v->s.heap.IsSliceOf sl vl vu .none->IsPart vl lo->IsPart vu hi->r x lo hi H Q ->
  ∃T id,typeLookup (.type T) "__getitem__"=pure (YB (.builtin id))/\s.TypeIs v T/\X8 (Qm X.prog X.w) X.A (getItem v (.ref sl)) (EP X pins Y Q) X.xe s
def tSl(r:V->Option Int->Option Int->Hp->VK->Prop)(te:TE)(tl th:TO):TE:=λY H Q=>te Y H λx H1=>tl Y H1 λl H2=>th Y H2 λu H3=>r x l u H3 Q
theorem Z0x{r:V->Option Int->Option Int->Hp->VK->Prop}(hr:SlR X r)(he:PE X e te)(hl:PO X lo tl)(hu:PO X hi th):PE X (.Subscript e (.Slice lo hi YC p2) pos) (tSl r te tl th):=by
 intro pins s Y H Q I h;refine Subscript_ (thn (he pins s Y H _ I h) λv s1 qz9=>?_);obtain⟨x,H1,I1,r1,q1⟩:=qz9;refine wpAny_Slice (thn (hl pins s1 Y H1 _ I1 q1) λvl s2 qz9=>?_);obtain⟨l,H2,I2,pl,q2⟩:=qz9;refine thn (hu pins s2 Y H2 _ I2 q2) λvu s3 qz9=>?_;obtain⟨u,H3,I3,pu,q3⟩:=qz9;rw[evalPart_none];refine Qd ?_;have I4:Inv X pins Y H3 { s3 with heap:=s3.heap.push { cls:=.type "slice",data:=.fields #[vl,vu,.none] } }:=I3.kept (t':=s3.toks) λb ob q=>Xl _ q;obtain⟨T,id,hT,ht,hg⟩:=hr pins { s3 with heap:=s3.heap.push { cls:=.type "slice",data:=.fields #[vl,vu,.none] } } Y H3 x v vl vu l u s3.heap.objs.size Q I4 r1 (Heap.IsSliceOf.new ..) pl pu q3;show X8 (Qm X.prog X.w) X.A (subscriptTail e (.Slice lo hi YC p2) v (.ref s3.heap.objs.size)) (EP X pins Y Q) X.xe { s3 with heap:=s3.heap.push { cls:=.type "slice",data:=.fields #[vl,vu,.none] } };exact tail_any (ops:=[.ref s3.heap.objs.size,v]) ht hT hg (by with_unfolding_all rfl)
def Z89(xs:List V)(lo hi:Option Int):List V:=(xs.drop (HT.sIx xs.length 0 lo)).take (HT.sIx xs.length xs.length hi-HT.sIx xs.length 0 lo)
theorem Zqr(xs:List V)(lo hi:Option Int):(Z89 xs lo hi).length<=xs.length:=by
 unfold Z89;rw[Bb,QR];omega
def Z9l(K:Xc):R2:=λx y H Q=>∃a b xs ys,x= .ref a/\y= .ref b/\SqT K H a xs/\SqT K H b ys/\xs≠[]/\xs.length+ys.length<=Xz/\
 (ys=[]->Q (.ref a) H)/\(ys≠[]->∀p,H p=YC->Q (.ref p) (upd H p (.tup (xs++ys))))
theorem Vals.nil_iff{xs:List V}(r:Vals xs us):us=[]↔xs=[]:=by
 cases r with
 | nil=>simp
 | cons _ _=>simp
theorem Z7v:OpR X (VL .Add) (Z9l X.K):=by
 intro pins s Y H x y v u Q I rx ry h;obtain⟨a,b,xs,ys,rfl,rfl,ha,hb,hx,hz,q1,q2⟩:=h;cases rx;cases ry;obtain⟨its,r1,p1,_⟩:=I.tuple ha;obtain⟨its2,r2,p2,_⟩:=I.tuple hb;refine HT.cat_tup p1 p2 (λz=>hx (r1.nil_iff.mp z)) (λz=>⟨.ref a,H,I,rfl,q1 (r2.nil_iff.mp z)⟩) (λz=>?_) (by rw[<-r1.length,<-r2.length];exact hz);refine⟨.ref s.heap.objs.size,_,I.laid (t':=s.toks) (o:=.tup (xs++ys)) (λb ob q=>Xl _ q) (X3 _) ?_,rfl,q2 (λw=>z (r2.nil_iff.mpr w)) _ (I.hok.fresh (X3 _))⟩;exact⟨by rw[Xq];exact hz,_,r1.append r2,IsTup.new _ _⟩
end
def ixN(n:Nat)(i:Int):Option Nat:=if 0<=i then(if i<n then YB i.toNat else YC)else if -(n:Int)<=i then YB (i+n).toNat else YC
def atI(xs:List α)(i:Int):Option α:=(ixN xs.length i).bind λj=>xs[j]?
theorem Zpo{n:Nat}{i:Int}(h:ixN n i=YB j):seqIndex? i n=YB j/\j<n/\-(n:Int)<=i/\i<n:=by
 unfold ixN at h
 by_cases h0:0<=i
 .rw[YL h0]at h
  by_cases h1:i<n
  .rw[YL h1]at h
   have e:i.toNat=j:=Q9 h;exact⟨by rw[seqIndex_of h0 h1,e],by omega,by omega,h1⟩
  .rw[YM h1]at h;cases h
 .rw[YM h0]at h
  by_cases h1:-(n:Int)<=i
  .rw[YL h1]at h
   have e:(i+n).toNat=j:=Q9 h;exact⟨by rw[seqIndex_neg (by omega) h1,e],by omega,h1,by omega⟩
  .rw[YM h1]at h;cases h
theorem Zqs{xs:List α}{i:Int}{v:α}(h:atI xs i=YB v):∃j,seqIndex? i xs.length=YB j/\xs[j]? =YB v/\j<xs.length/\-(xs.length:Int)<=i/\i<xs.length:=by
 unfold atI at h;cases e:ixN xs.length i with
 | none=>rw[e]at h;cases h
 | some j=>
  rw[e]at h;obtain⟨h1,h2,h3,h4⟩:=Zpo e;exact⟨j,h1,h,h2,h3,h4⟩
theorem Z5z{xs:List α}{v:α}(h:xs[j]? =YB v):atI xs (j:Int)=YB v:=by
 have hj:j<xs.length:=(Xw.mp h).1;have e:ixN xs.length (j:Int)=YB j:=by
  unfold ixN;rw[YL (by omega),YL (by omega)];simp
 unfold atI;rw[e];exact h
theorem Zq0{α:Type}(xs:List α)(v:α):atI (xs++[v]) (-1)=YB v:=by
 have hl:(xs++[v]).length=xs.length+1:=by simp
 have e:ixN (xs++[v]).length (-1)=YB xs.length:=by
  unfold ixN;rw[hl,YM (by decide),YL (by omega)];congr 1;omega
 unfold atI;rw[e];show(xs++[v])[xs.length]? =YB v;simp
def Ziv(b:YJ):Prop:=∀o i,subscripted b YF o i=operate [o,i] (getItem o i)
def IxR(X:Cx)(r:R2):Prop :=
 ∀(value slice:YJ) (pins:List (YG×Obj)) (s:Xh) (Y:St) (H:Hp) (x y:V) (v u:Xe) (Q:VK),Inv X pins Y H s->RelV x v->RelV y u->r x y H Q ->
  subscripted slice YF v u=operate [v,u] (getItem v u)->X8 (Qm X.prog X.w) X.A (subscriptTail value slice v u) (EP X pins Y Q) X.xe s
def MtR(X:Cx)(id:String)(r:V->List V->Hp->VK->Prop):Prop :=
 ∀(pins:List (YG×Obj)) (s:Xh) (Y:St) (H:Hp) (x:V) (xs:List V) (v:Xe) (us:List Xe) (Q:VK),Inv X pins Y H s->RelV x v->Vals xs us->r x xs H Q ->
  X8 (Qm X.prog X.w) X.A (call (.builtin id) (v::us)) (EP X pins Y Q) X.xe s
section
variable {a b:YJ}
theorem IxR.or{r r':R2}(h:IxR X r)(h':IxR X r'):IxR X (λx y H Q=>r x y H Q\/r' x y H Q):=by
 intro value slice pins s Y H x y v u Q I rx ry q hs;rcases q with q|q
 .exact h value slice pins s Y H x y v u Q I rx ry q hs
 .exact h' value slice pins s Y H x y v u Q I rx ry q hs
theorem Z67{r:R2}(hr:IxR X r)(ha:PE X a ta)(hb:PE X b tb)(hs:Ziv b):PE X (.Subscript a b pos) (tOp r ta tb):=by
 intro pins s Y H Q I h;exact Subscript_ (Ygf ha hb I h λv u s2 x y H2 I2 rx ry q=>hr a b pins s2 Y H2 x y v u Q I2 rx ry q (hs _ _))
def Yhg(K:Xc):R2:=λx y H Q=>∃p xs i v,x= .ref p/\y= .int i/\SqL K H p xs/\atI xs i=YB v/\Q v H
def Yi3(K:Xc):R2:=λx y H Q=>∃p xs i v,x= .ref p/\y= .int i/\SqT K H p xs/\atI xs i=YB v/\Q v H
def Yjj:R2:=λx y H Q=>∃z i c,x= .str z/\y= .int i/\z.length<=Xz/\atI z.cps.toList i=YB c/\Q (.str ⟨#[c]⟩) H
theorem Zvx:IxR X (Yhg X.K):=by
 intro value slice pins s Y H x y v u Q I rx ry h hs;obtain⟨p,xs,i,z,rfl,rfl,hq,he,q⟩:=h;cases rx;obtain⟨t,rfl⟩:=ry;obtain⟨its,r,pl,hz⟩:=I.list hq;obtain⟨j,h1,h2,h3,h4,h5⟩:=Zqs he;obtain⟨w,ew,rw'⟩:=r.get h2;have hl:=r.length;have hn:=Zk4;have fin:EP X pins Y Q w s:=⟨z,H,I,rw',q⟩
 by_cases h0:0<=i
 .have hj:i.toNat=j:=by
   rw[seqIndex_of h0 h5]at h1;exact Q9 h1
  exact item_listR pl.isList h0 (by omega) (by rw[hj];simpa using ew) fin hs
 .have hj:(i+(its.toArray.size:Int)).toNat=j:=by
   rw[seqIndex_neg (by omega) h4]at h1;rw[Xy,<-hl];exact Q9 h1
  exact subscriptTail_builtinR (x:=w) pl.isList.typeIs slot_list_getitem.lookup
   (wpAny_getItem_list_neg (Q:=λr s'=>r=w/\EP X pins Y Q r s') pl.isList (by omega) (by rw[Xy]<;>omega) (by omega) (by rw[hj];simpa using ew) ⟨rfl,fin⟩) hs
theorem Ydu:IxR X (Yi3 X.K):=by
 intro value slice pins s Y H x y v u Q I rx ry h hs;obtain⟨p,xs,i,z,rfl,rfl,hq,he,q⟩:=h;cases rx;obtain⟨t,rfl⟩:=ry;obtain⟨its,r,pl,hz⟩:=I.tuple hq;obtain⟨j,h1,h2,h3,h4,h5⟩:=Zqs he;obtain⟨w,ew,rw'⟩:=r.get h2;have hl:=r.length;have hn:=Zk4;have fin:EP X pins Y Q w s:=⟨z,H,I,rw',q⟩;exact subscriptTail_builtinR (x:=w) pl.typeIs slot_tuple_getitem.lookup
  (getItem_tuple (j:=j) (Q:=λr s'=>r=w/\EP X pins Y Q r s') pl (by omega) (by omega) (by rw[Xy,<-hl];exact h1) (by simpa using ew) ⟨rfl,fin⟩) hs
theorem Z9x:IxR X Yjj:=by
 intro value slice pins s Y H x y v u Q I rx ry h hs;obtain⟨z,i,c,rfl,rfl,hz,he,q⟩:=h;obtain⟨t,rfl⟩:=rx;obtain⟨t',rfl⟩:=ry;obtain⟨j,h1,h2,h3,h4,h5⟩:=Zqs he;have hl:z.cps.toList.length=z.length:=by simp[Str.length]
 rw[hl]at h1 h4 h5;have hn:=Zk4;exact tail_any (typeIs_str s z t) slot_str_getitem.lookup (getItem_str (c:=c) (by
  have e1:decide (i< -(2^63:Int))=YF:=YS (by omega);have e2:decide (i>=2^63)=YF:=YS (by omega);rw[e1,e2,Bool.or_false]) (by rw[h1];simpa using h2) ⟨.str ⟨#[c]⟩,H,I.tok _,⟨_,rfl⟩,q⟩) hs
def rIx(K:Xc):R2:=λx y H Q=>Yhg K x y H Q\/Yi3 K x y H Q\/Yjj x y H Q
theorem Ydp:IxR X (rIx X.K):=Zvx.or (Ydu.or Z9x)
theorem Zt9(its:List Xe)(n j:Nat)(u:Xe):QX (·.setIfInBounds j u) { cls:=.type "list",data:=.seq its.toArray n }={ cls:=.type "list",data:=.seq (its.set j u).toArray n }:=by
 simp[QX]
theorem Inv.lst{Y:St}{p:YG}{xs:List V}(I:Inv X pins Y H s)(h:H p=YB (.lst xs)) :
  ∃(its:List Xe) (n:Nat),Vals xs its/\s.heap.get? p=YB { cls:=.type "list",data:=.seq its.toArray n }/\xs.length<=Xz:=by
 obtain⟨z,its,n,r,e⟩:=I.hok p _ h;exact⟨its,n,r,e,z⟩
theorem Inv.lstUpd{Y:St}{p:YG}{xs ys:List V}{its its':List Xe}{n n':Nat}{f:Obj->Obj}(I:Inv X pins Y H s)(h:H p=YB (.lst xs))
  (ho:s.heap.get? p=YB { cls:=.type "list",data:=.seq its.toArray n }) (hf:f { cls:=.type "list",data:=.seq its.toArray n }={ cls:=.type "list",data:=.seq its'.toArray n' }) (r:Vals ys its') (hz:ys.length<=Xz) (t:Nat) :
  Inv X pins Y (upd H p (.lst ys)) { s with heap:=s.heap.update p f,toks:=t }:=by
 have e:(s.heap.update p f).get? p=YB { cls:=.type "list",data:=.seq its'.toArray n' }:=by
  rw[Heap.get?_update_self f ho (by rw[hf]<;>rfl),hf]
 refine I.write (x:=p) (e:=p) (by rw[h];trivial) (.inl rfl) (λb u hb q=>(Heap.get?_update_other _ _ (VF hb)).trans q) ⟨_,e⟩ ?_;exact⟨hz,its',n',r,e⟩
def Ycw:V->V->V->Hp->(Hp->Prop)->Prop:=λo i v H Q=>∃p xs k j,o= .ref p/\i= .int k/\H p=YB (.lst xs)/\ixN xs.length k=YB j/\Q (upd H p (.lst (xs.set j v)))
theorem set_list:Yjm X Ycw:=by
 intro pins s Y H o i v ov iv u Q I ro ri rv h;obtain⟨p,xs,k,j,rfl,rfl,hp,hj,q⟩:=h;cases ro;obtain⟨t,rfl⟩:=ri;obtain⟨its,n,r,ho,hz⟩:=I.lst hp;obtain⟨h1,h2,h3,h4⟩:=Zpo hj;have hl:=r.length;have hn:=Zk4;have I':Inv X pins Y (upd H p (.lst (xs.set j v))) { s with heap:=s.heap.update p (QX (·.setIfInBounds j u)) } :=
  I.lstUpd hp ho (Zt9 its n j u) (r.set rv j) (by rw[Vr];exact hz) s.toks
 by_cases h0:0<=k
 .have hk:k.toNat=j:=by
   rw[seqIndex_of h0 h4]at h1;exact Q9 h1
  exact PySem.W.ki_setAt ho h0 (by omega) (by rw[Xy,<-hl];exact h4) (by rw[hk];exact⟨_,I',q⟩)
 .have hk:(k+(its.toArray.size:Int)).toNat=j:=by
   rw[seqIndex_neg (by omega) h3]at h1;rw[Xy,<-hl];exact Q9 h1
  exact PySem.W.ki_setBack ho (by omega) (by rw[Xy,<-hl];exact h3) (by omega) (by rw[hk];exact⟨_,I',q⟩)
theorem Zot(lo hi:Option Int)(n:Nat):(Bq lo hi YC n).1=((HT.sIx n 0 lo:Nat):Int)/\(Bq lo hi YC n).2.1=((HT.sIx n n hi:Nat):Int)/\(Bq lo hi YC n).2.2=1:=by
 refine⟨?_,?_,rfl⟩
 .cases lo with
  | none=>simp[Bq,HT.sIx]
  | some i=>
   simp only[Bq,HT.sIx,Option.getD_none,show(1:Int)>0 by decide,if_true]
   by_cases h:i<0
   .simp only[h,if_true]<;>omega
   .simp only[h,if_false]<;>omega
 .cases hi with
  | none=>simp[Bq,HT.sIx]
  | some i=>
   simp only[Bq,HT.sIx,Option.getD_none,show(1:Int)>0 by decide,if_true]
   by_cases h:i<0
   .simp only[h,if_true]<;>omega
   .simp only[h,if_false]<;>omega
theorem Zmp(its:List Xe)(lo hi:Option Int):slicePick its.toArray lo hi YC=((its.drop (HT.sIx its.length 0 lo)).take (HT.sIx its.length its.length hi-HT.sIx its.length 0 lo)).toArray:=by
 obtain⟨h1,h2,h3⟩:=Zot lo hi its.toArray.size;unfold slicePick;rw[h1,h2,h3];simp only[sliceRange_one,pick_run,Xy]<;>rfl
def Yi1(K:Xc):V->Option Int->Option Int->Hp->VK->Prop:=λx lo hi H Q=>∃a xs,x= .ref a/\SqL K H a xs/\∀p,H p=YC->Q (.ref p) (upd H p (.lst (Z89 xs lo hi)))
theorem Z4q:SlR X (Yi1 X.K):=by
 intro pins s Y H x v vl vu lo hi sl Q I rx hs pl pu h;obtain⟨a,xs,rfl,hx,q⟩:=h;cases rx;obtain⟨its,r,ht,hz⟩:=I.list hx;have hlen:=r.length;refine⟨"list",_,slot_list_getitem.lookup,ht.isList.typeIs,?_⟩;refine wpAny_getItem_list_slice ht.isList hs pl pu .none (by simp) ?_ (by rw[Xy]<;>omega);rw[Zmp,<-hlen];refine⟨.ref s.heap.objs.size,_,I.laid (t':=s.toks) (o:=.lst (Z89 xs lo hi)) (λb ob q=>Xl _ q) (X3 _) ?_,rfl,q _ (I.hok.fresh (X3 _))⟩;exact⟨QD (Zqr xs lo hi) hz,_,0,(r.drop (HT.sIx xs.length 0 lo)).take (HT.sIx xs.length xs.length hi-HT.sIx xs.length 0 lo),Qe _ rfl⟩
def Zi1:V->Bool
 | .non=>YD
 | .bl _=>YD
 | .int _=>YD
 | .str _=>YD
 | _=>YF
def eqV:V->V->Bool
 | .non,.non=>YD
 | .bl a,.bl b=>a==b
 | .bl a,.int b=>(if a then 1 else 0)==b
 | .int a,.bl b=>a==(if b then 1 else 0)
 | .int a,.int b=>a==b
 | .str a,.str b=>a==b
 | _,_=>YF
theorem Z9k{y x:V}{v:Xe}(ry:RelV y u)(rx:RelV x v)(fy:Zi1 y=YD)(fx:Zi1 x=YD):Bs A s u v (eqV y x):=by
 cases y with
 | non=>
  cases ry;cases x with
  | non=>cases rx;exact Bs.same _
  | bl b=>cases rx;exact Bs.none_bool b
  | int b=>obtain⟨t,rfl⟩:=rx;exact Bs.none_int b t
  | str b=>obtain⟨t,rfl⟩:=rx;exact Bs.none_str b t
  | _=>exact YX (show YF=YD from fx) Xn
 | bl a=>
  cases ry;cases x with
  | non=>cases rx;exact Bs.bool_none a
  | bl b=>cases rx;exact Bs.bool_bool a b
  | int b=>obtain⟨t,rfl⟩:=rx;exact Bs.bool_int a b t
  | str b=>obtain⟨t,rfl⟩:=rx;exact Bs.bool_str a b t
  | _=>exact YX (show YF=YD from fx) Xn
 | int a=>
  obtain⟨t',rfl⟩:=ry;cases x with
  | non=>cases rx;exact Bs.int_none a t'
  | bl b=>cases rx;exact Bs.int_bool a t' b
  | int b=>obtain⟨t,rfl⟩:=rx;exact Bs.int_int a t' b t
  | str b=>obtain⟨t,rfl⟩:=rx;exact SeqAt.EqAt.int_str a t' b t
  | _=>exact YX (show YF=YD from fx) Xn
 | str a=>
  obtain⟨t',rfl⟩:=ry;cases x with
  | non=>cases rx;exact Bs.str_none a t'
  | bl b=>cases rx;exact Bs.str_bool a t' b
  | int b=>obtain⟨t,rfl⟩:=rx;exact SeqAt.EqAt.str_int a t' b t
  | str b=>obtain⟨t,rfl⟩:=rx;exact Bs.str_str a t' b t
  | _=>exact YX (show YF=YD from fx) Xn
 | _=>exact YX (show YF=YD from fy) Xn
def eqU(x:V)(u:Xe):Bool:=match u with
 | .none=>eqV .non x
 | .bool b=>eqV (.bl b) x
 | .int i _=>eqV (.int i) x
 | .str z _=>eqV (.str z) x
 | _=>YF
theorem Z2w{x y:V}(r:RelV y u)(f:Zi1 y=YD):eqU x u=eqV y x:=by
 cases y with
 | non=>cases r;rfl
 | bl b=>cases r;rfl
 | int i=>obtain⟨t,rfl⟩:=r;rfl
 | str z=>obtain⟨t,rfl⟩:=r;rfl
 | _=>exact YX (show YF=YD from f) Xn
theorem Zm7{x:V}{xs:List V}(h:Vals xs us)(f:xs.all Zi1=YD):us.any (eqU x)=xs.any λy=>eqV y x:=by
 induction h with
 | nil=>rfl
 | cons r t ih=>
  rw[List.all_cons,XC]at f;rw[List.any_cons,List.any_cons,Z2w r f.1,ih f.2]
theorem Zii{x:V}{v:Xe}(rx:RelV x v)(fx:Zi1 x=YD){xs:List V}(h:Vals xs us)(f:xs.all Zi1=YD):∀u∈us,Bs A s u v (eqU x u):=by
 induction h with
 | nil=>intro u hu;cases hu
 | cons r t ih=>
  intro u' hu;rw[List.all_cons,XC]at f;rcases Xm.mp hu with rfl|hu
  .rw[Z2w r f.1];exact Z9k r rx f.1 fx
  .exact ih f.2 u' hu
def inV(x:V)(xs:List V):Bool:=xs.any λy=>eqV y x
def rIn(K:Xc)(neg:Bool):R2:=λx y H Q=>∃p xs,y= .ref p/\(SqL K H p xs\/SqT K H p xs)/\Zi1 x=YD/\xs.all Zi1=YD/\Q (.bl (if neg then !inV x xs else inV x xs)) H
theorem Zv5:OpR X (Br .In) (rIn X.K YF):=by
 intro pins s Y H x y v u Q I rx ry h;obtain⟨p,xs,rfl,hq,fx,fs,q⟩:=h;cases ry;rcases hq with hq|hq
 .obtain⟨its,r,pl,hz⟩:=I.list hq
  refine SeqAt.in_listAt (eqU x) pl.isList (λw hw=>Zii rx fx r fs w (by simpa using hw)) ⟨.bl _,H,I,rfl,?_⟩;rw[show its.toArray.any (eqU x)=its.any (eqU x) by simp,Zm7 r fs];exact q
 .obtain⟨its,r,pl,hz⟩:=I.tuple hq
  refine SeqAt.in_tupleAt (eqU x) pl (λw hw=>Zii rx fx r fs w (by simpa using hw)) ⟨.bl _,H,I,rfl,?_⟩;rw[show its.toArray.any (eqU x)=its.any (eqU x) by simp,Zm7 r fs];exact q
theorem Znt:OpR X (Br .NotIn) (rIn X.K YD):=by
 intro pins s Y H x y v u Q I rx ry h;obtain⟨p,xs,rfl,hq,fx,fs,q⟩:=h;cases ry;rcases hq with hq|hq
 .obtain⟨its,r,pl,hz⟩:=I.list hq
  refine SeqAt.notIn_listAt (eqU x) pl.isList (λw hw=>Zii rx fx r fs w (by simpa using hw)) ⟨.bl _,H,I,rfl,?_⟩;rw[show its.toArray.any (eqU x)=its.any (eqU x) by simp,Zm7 r fs];exact q
 .obtain⟨its,r,pl,hz⟩:=I.tuple hq
  refine SeqAt.notIn_tupleAt (eqU x) pl (λw hw=>Zii rx fx r fs w (by simpa using hw)) ⟨.bl _,H,I,rfl,?_⟩;rw[show its.toArray.any (eqU x)=its.any (eqU x) by simp,Zm7 r fs];exact q
theorem Zox:Zbn X (.builtin "len") (λxs H Q=>∃p ys,xs=[.ref p]/\(SqL X.K H p ys\/SqT X.K H p ys)/\Q (.int ys.length) H):=by
 intro pins s Y H xs us Q I r h;obtain⟨p,ys,rfl,hq,q⟩:=h;obtain⟨u,rfl,rx⟩:=vals1 r;cases rx;have hn:=Zk4;rcases hq with hq|hq
 .obtain⟨its,r',pl,hz⟩:=I.list hq
  have hlen:=r'.length;exact Calls.call_len_list pl.isList (by simp only[Xy]<;>omega) ⟨.int ys.length,H,I.tok _,⟨s.toks+1,by rw[Xy,hlen]⟩,q⟩
 .obtain⟨its,r',pl,hz⟩:=I.tuple hq
  have hlen:=r'.length;exact len_tuple pl (by simp only[Xy]<;>omega) ⟨.int ys.length,H,I.tok _,⟨s.toks+1,by rw[Xy,hlen]⟩,q⟩
theorem Zo3:Zbn X (.type "list") (λxs H Q=>∃p ys,xs=[.ref p]/\(SqL X.K H p ys\/SqT X.K H p ys)/\∀l,H l=YC->Q (.ref l) (upd H l (.lst ys))):=by
 intro pins s Y H xs us Q I r h;obtain⟨p,ys,rfl,hq,q⟩:=h;obtain⟨u,rfl,rx⟩:=vals1 r;cases rx;have fin:∀(its:List Xe),Vals ys its->ys.length<=Xz->∀(h':YH) (c':Nat),(∀b o',s.heap.get? b=YB o'->h'.get? b=YB o') ->
   h'.get? s.heap.objs.size=YB { cls:=.type "list",dict:=YC,data:=.seq its.toArray c',slots:=#[] }->EP X pins Y Q (.ref s.heap.objs.size) { s with heap:=h' }:=λits r' hz h' c' kp e=>
  ⟨.ref s.heap.objs.size,_,I.laid (t':=s.toks) kp (X3 _) (show ObjOk X.prog X.w _ h' _ (.lst ys)from⟨hz,its,c',r',e⟩),rfl,q _ (I.hok.fresh (X3 _))⟩
 rcases hq with hq|hq
 .obtain⟨its,r',pl,hz⟩:=I.list hq
  have hlen:=r'.length;obtain⟨o,ho,hc,n,hd⟩:=pl.isList;exact call_list_seq p (.inl rfl) ho hc hd (λh' c' kp e=>fin its r' hz h' c' kp e) (by simp only[Xy]<;>omega)
 .obtain⟨its,r',pl,hz⟩:=I.tuple hq
  have hlen:=r'.length;obtain⟨o,ho,hc,n,hd⟩:=pl;exact call_list_seq p (.inr rfl) ho hc hd (λh' c' kp e=>fin its r' hz h' c' kp e) (by simp only[Xy]<;>omega)
def tyV(K:Xc)(T:String)(x:V)(H:Hp):Prop:=match x with
 | .str _=>T="str"
 | .int _=>T="int"
 | .ref p=>(T="list"/\∃xs,SqL K H p xs)\/(T="tuple"/\∃o,K.lookup p=YB o/\o.cls= .type "tuple"/\o.dict=YC)\/
   (T="dict"/\((∃kvs,H p=YB (.dK kvs))\/∃kvs,H p=YB (.dT kvs)))\/(T="set"/\∃S n,H p=YB (.set S n))
 | _=>False
theorem Yaq{Y:St}{T:String}{x:V}{v:Xe}(I:Inv X pins Y H s)(r:RelV x v)(ty:tyV X.K T x H) :
  s.TypeIs v T/\∀a,v= .ref a->∃ob,s.heap.get? a=YB ob/\ob.dict=YC:=by
 cases x with
 | str z=>
  obtain⟨t,rfl⟩:=r;cases(show T="str"from ty);exact⟨typeIs_str s z t,λ_ e=>nomatch e⟩
 | int i=>
  obtain⟨t,rfl⟩:=r;cases(show T="int"from ty);exact⟨typeIs_int s i t,λ_ e=>nomatch e⟩
 | ref p=>
  cases r;rcases ty with⟨rfl,xs,hq⟩|⟨rfl,o,hk,hc,hd⟩|⟨rfl,hk⟩|⟨rfl,S,n,hk⟩
  .obtain⟨its,_,pl,_⟩:=I.list hq
   refine⟨pl.isList.typeIs,λa e=>?_⟩;cases e;obtain⟨o,n,e,c,hd,_⟩:=pl;exact⟨o,e,hd⟩
  .refine⟨⟨o,I.kIn p o hk,hc⟩,λa e=>?_⟩
   cases e;exact⟨o,I.kIn _ o hk,hd⟩
  .have z:∃o,s.heap.get? p=YB o/\o.ExactDict:=by
    rcases hk with⟨kvs,hk⟩|⟨kvs,hk⟩
    .obtain⟨_,_,_,_,o,_,_,e,ex,_⟩:=I.hok p _ hk
     exact⟨o,e,ex⟩
    .obtain⟨_,_,_,_,o,_,_,e,ex,_⟩:=I.hok p _ hk
     exact⟨o,e,ex⟩
   obtain⟨o,e,ex⟩:=z;refine⟨⟨o,e,ex.1⟩,λa e2=>?_⟩;cases e2;exact⟨o,e,ex.2.1⟩
  .obtain⟨o,_,_,_,e,ex,_⟩:=I.hok p _ hk
   refine⟨⟨o,e,ex.1⟩,λa e2=>?_⟩;cases e2;exact⟨o,e,ex.2.1⟩
 | _=>exact V7 ty
def tBM(K:Xc)(T:String)(r:V->List V->Hp->VK->Prop)(to:TE)(t:TA):TE:=λY H Q=>to Y H λx H1=>tyV K T x H1/\t Y H1 λxs H2=>r x xs H2 Q
variable {o:YJ}{t:TA}{name:Str}{apos cpos:Pos}{T id:String}{r:V->List V->Hp->VK->Prop}
theorem Z17(pa:PlainAttrs T)(slot:Slot T name id)(hty:typeOf (.builtin id)=pure (.type "method_descriptor"))(hm:MtR X id r)(ho:PE X o to)(ha:PA X (e::es) t)
  (hbase:Uy o name X.env (eval o X.env)=eval o X.env:=by rfl)
  (hfew:((JX cpos (Xr (e::es) X.env)).all (λx=>!x.1)&&(backToKw cpos (keywordEach [] X.env)).all (λx=>x.1.isSome)
   &&decide ((e::es).length+([]:List Ur).length+(if([]:List Ur).isEmpty then 0 else 1)<30))=YD:=by rfl)
  (hline:(apos.endLine==cpos.line)=YD:=by rfl) (hs:Xr (e::es) X.env=(YF,eval e X.env)::Xr es X.env:=by rfl) (hplain:(JX cpos (Xr es X.env)).any (·.1)=YF:=by rfl) :
  PE X (.Call (.Attribute o name apos) (e::es) [] cpos) (tBM X.K T r to t):=by
 intro pins s Y H Q I h;refine wpAny_Call_method_late hbase hfew hline rfl (thn (ho pins s Y H _ I h) λv s1 qz9=>?_);obtain⟨x,H1,I1,r1,ty,q1⟩:=qz9;obtain⟨h1,h2⟩:=Yaq I1 r1 ty;refine⟨T,id,pa,slot,hty,h1,h2,?_⟩;have hA:=ha cpos pins s1 Y H1 _ I1 q1;rw[hs]at hA|-
 refine Calls.callWith_builtin (by show(YF||(JX cpos (Xr es X.env)).any (·.1))=YF;rw[hplain]<;>rfl) (Calls.evalArgs_plain ?_);refine thn hA λus s2 qz9=>?_;obtain⟨vs,H2,I2,r2,q2⟩:=qz9;exact hm pins s2 Y H2 x vs v us Q I2 r1 r2 q2
end
def MtM(X:Cx)(id:String)(r:V->List V->Hp->VK->Prop):Prop :=
 ∀(pins:List (YG×Obj)) (s:Xh) (Y:St) (H:Hp) (x:V) (xs:List V) (v:Xe) (us:List Xe) (Q:VK),Inv X pins Y H s->RelV x v->Vals xs us->r x xs H Q ->
  X8 (Qm X.prog X.w) X.A (call (.builtin id) (v::us)) (EP X pins Y Q) X.xe s
theorem Vals.one{x:V}(h:Vals [x] us):∃u,us=[u]/\RelV x u:=by
 cases h with
 | cons r t=>cases t;exact⟨_,rfl,r⟩
theorem Vals.eraseIdx:∀{xs:List V} {us:List Xe} (i:Nat),Vals xs us->Vals (xs.eraseIdx i) (us.eraseIdx i)
 | _,_,_,.nil=>.nil
 | _,_,0,.cons _ t=>t
 | _,_,i+1,.cons r t=>.cons r (Vals.eraseIdx i t)
theorem Vals.rep{xs:List V}(h:Vals xs us):∀k:Nat,Vals (X5 k xs).flatten (X5 k us).flatten
 | 0=>.nil
 | k+1=>by
  rw[Vy,Vy,UT,UT];exact Vals.append h (Vals.rep h k)
theorem Zoi:∀(l:List α) (i:Nat),(l.eraseIdx i).length<=l.length
 | [],_=>X3 _
 | _::_,0=>Nat.le_succ _
 | _::r,i+1=>Nat.succ_le_succ (Zoi r i)
theorem foldl_rep(its:List Xe):∀(k:Nat) (acc:List Xe),
  List.foldl (λx1 x2=>x1++x2) acc.toArray (X5 k its.toArray)=(acc++(X5 k its).flatten).toArray
 | 0,acc=>by simp
 | k+1,acc=>by
  have e:acc.toArray++its.toArray=(acc++its).toArray:=by simp
  have e2:(acc++its)++(X5 k its).flatten=acc++(X5 (k+1) its).flatten:=by
   rw[Vy,UT,QQ]
  rw[<-e2,<-foldl_rep its k (acc++its),<-e,Vy,List.foldl_cons]
end L2
variable {dx C l:YG}{CX:CXT}{op:CmpOp}{ps:List Str}{vs:List Xe}{lo hi:Option YJ}{apos p2 cpos:Pos}{prog:Qi}{sp:Sp}{name qual:Str}{kindOf:Str->Option Vb}{mA mg:Str->Option Xe}{id:String}{tc:TE}{scope:U6}{v:Xe}
namespace L2
open PySem PySem.Spec PyProof.Rows
section
variable {Y:St}{b:YG}{xs ys zs:List V}
theorem Inv.lset{its its':List Xe}{n:Nat}{f:Array Xe->Array Xe}(I:Inv X pins Y H s)(hH:H l=YB (.lst xs))
  (e:s.heap.get? l=YB { cls:=.type "list",data:=.seq its.toArray n }) (hf:f its.toArray=its'.toArray) (hv:Vals ys its') (hz:ys.length<=Xz) :
  Inv X pins Y (upd H l (.lst ys)) { s with heap:=s.heap.update l (QX f),toks:=t' }:=by
 have q:=PySem.IsL.update e f;rw[hf]at q;refine I.write (x:=l) (e:=l) (by rw[hH];exact trivial) (.inl rfl) (λb' u hb hu=>(Heap.get?_update_other s.heap (QX f) (VF hb)).trans hu) ⟨_,q⟩ ?_;exact⟨hz,its',_,hv,q⟩
theorem Inv.lnew{its:List Xe}(I:Inv X pins Y H s)(hv:Vals ys its)(hz:ys.length<=Xz) :
  Inv X pins Y (upd H s.heap.objs.size (.lst ys)) { s with heap:=s.heap.push { cls:=.type "list",data:=.seq its.toArray },toks:=t' } :=
 I.laid (λ_ _ q=>Xl _ q) (X3 _) ⟨hz,its,0,hv,Qe _ rfl⟩
theorem Inv.fresh(I:Inv X pins Y H s):H s.heap.objs.size=YC:=I.hok.fresh (X3 _)
theorem Inv.lstM(I:Inv X pins Y H s)(hH:H l=YB (.lst xs)):xs.length<=Xz/\∃(its:List Xe) (n:Nat),Vals xs its/\xs.length=its.length/\s.heap.get? l=YB { cls:=.type "list",data:=.seq its.toArray n }:=by
 obtain⟨z,its,n,r,e⟩:=I.hok l _ hH;exact⟨z,its,n,r,r.length,e⟩
theorem Zsl{n:Nat}(h:n<=Xz):V4 n=YF:=by
 unfold V4;exact YS (by omega)
end
def Z8r:V->List V->Hp->VK->Prop:=λx vs H Q=>∃l xs y,x= .ref l/\vs=[y]/\H l=YB (.lst xs)/\xs.length<Xz/\Q .non (upd H l (.lst (xs++[y])))
theorem Znr:MtM X "list.append" Z8r:=by
 intro pins s Y H x vs v us Q I rx rv h;obtain⟨l,xs,y,rfl,rfl,hH,hz,q⟩:=h;cases rx;obtain⟨u,rfl,ru⟩:=rv.one;obtain⟨z,its,n,r,hl,e⟩:=I.lstM hH;refine call_meets F.slot_list_append ⟨_,e,rfl⟩ F.entry_list_append (F.args_list_append_2 _ _) (PySem.list_append l its.toArray n u (by rw[Xy];omega)) ⟨e,?_⟩;refine⟨.non,_,I.lset (its':=its++[u]) hH e (by simp) (r.append (.cons ru .nil)) ?_,rfl,q⟩;rw[Xq,QM];omega
def Z5l:V->List V->Hp->VK->Prop:=λx vs H Q=>∃l b xs zs,x= .ref l/\vs=[.ref b]/\H l=YB (.lst xs)/\H b=YB (.lst zs)/\xs.length+zs.length<=Xz/\Q .non (upd H l (.lst (xs++zs)))
theorem Zy2:MtM X "list.extend" Z5l:=by
 intro pins s Y H x vs v us Q I rx rv h;obtain⟨l,b,xs,zs,rfl,rfl,hH,hB,hz,q⟩:=h;cases rx;obtain⟨u,rfl,ru⟩:=rv.one;cases ru;obtain⟨z,its,n,r,hl,e⟩:=I.lstM hH;obtain⟨z2,its2,n2,r2,hl2,e2⟩:=I.lstM hB;have hsz:its.toArray.size+its2.toArray.size<=Xz:=by rw[Xy,Xy];omega
 have hlong:¬(!its.toArray.isEmpty&&V4 (its.toArray.size+its2.toArray.size))=YD:=by
  rw[Zsl hsz,Bool.and_false];exact Xn
 refine call_meets F.slot_list_extend ⟨_,e,rfl⟩ F.entry_list_extend (F.args_list_extend_2 _ _)
  (AutoSeq1.list_extend_list_list_0 l its.toArray n b its2.toArray n2 hlong (by rw[Xy];omega) (by omega)) ⟨e,e2,?_⟩
 refine⟨.non,_,I.lset (its':=its++its2) hH e (by simp) (r.append r2) ?_,rfl,q⟩;rw[Xq];omega
def Yau:V->List V->Hp->VK->Prop:=λx vs H Q=>∃l xs i k y,x= .ref l/\vs=[.int i]/\H l=YB (.lst xs)/\-(2^63)<=i/\i<2^63/\seqIndex? i xs.length=YB k/\xs[k]? =YB y/\Q y (upd H l (.lst (xs.eraseIdx k)))
theorem Z2k:MtM X "list.pop" Yau:=by
 intro pins s Y H x vs v us Q I rx rv h;obtain⟨l,xs,i,k,y,rfl,rfl,hH,h1,h2,hk,hy,q⟩:=h;cases rx;obtain⟨u,rfl,ru⟩:=rv.one;obtain⟨t,rfl⟩:=ru;obtain⟨z,its,n,r,hl,e⟩:=I.lstM hH;obtain⟨w,hw,rw'⟩:=r.get hy;refine call_meets F.slot_list_pop ⟨_,e,rfl⟩ F.entry_list_pop (F.args_list_pop_2 _ _)
  (MeetsSeq.list_pop_at l its.toArray n i t k w (fitsIndex_both h1 h2) (by rw[Xy,<-hl];exact hk) (by rw[<-Be];exact hw) (by rw[Xy];omega)) ⟨e,?_⟩
 refine⟨y,_,I.lset (its':=its.eraseIdx k) hH e ?_ (r.eraseIdx k) ?_,rw',q⟩
 .show its.toArray.eraseIdxIfInBounds k=(its.eraseIdx k).toArray
  rw[List.eraseIdxIfInBounds_toArray]
 .have:=Zoi xs k
  omega
def Ykk:R2:=λx y H Q=>∃l k xs,x= .ref l/\y= .int k/\H l=YB (.lst xs)/\-(2^63)<=k/\k<2^63/\xs.length*k.toNat<=Xz/\
 ∀p,H p=YC->Q (.ref p) (upd H p (.lst (X5 k.toNat xs).flatten))
theorem len_rep(xs:List α)(k:Nat):(X5 k xs).flatten.length=k*xs.length:=by
 induction k with
 | zero=>simp
 | succ k ih=>rw[Vy,UT,Xq,ih,Nat.succ_mul,Nat.add_comm]
theorem Z9q:OpR X (VL .Mult) Ykk:=by
 intro pins s Y H x y v u Q I rx ry h;obtain⟨l,k,xs,rfl,rfl,hH,h1,h2,hz,q⟩:=h;cases rx;obtain⟨t,rfl⟩:=ry;obtain⟨z,its,n,r,hl,e⟩:=I.lstM hH;have hlen:its.toArray.size*k.toNat<=Xz:=by rw[Xy,<-hl];exact hz
 have hcap:¬its.toArray.size*k.toNat>(2^63-1)/8:=by
  have:(Xz:Nat)<=(2^63-1)/8:=by decide
  omega
 have hfit:¬(!Builtin.List.listFitsIndex k)=YD:=by
  rw[fitsIndex_both h1 h2];exact Xn
 have hlong:¬V4 (its.toArray.size*k.toNat)=YD:=by
  rw[Zsl hlen];exact Xn
 have hnew:List.foldl (λx1 x2=>x1++x2) #[] (X5 (if its.toArray.isEmpty=YD then 0 else k.toNat) its.toArray)=(X5 k.toNat its).flatten.toArray:=by
  have f0:∀m:Nat,List.foldl (λx1 x2=>x1++x2) #[] (X5 m its.toArray)=(X5 m its).flatten.toArray:=λm=>by
   have:=foldl_rep its m [];rw[List.nil_append]at this;exact this
  rw[f0];cases its with
  | nil=>simp
  | cons a r'=>rw[YM (by simp)]
 refine wpAny_binaryOp_repeat_ref (T :="list") (U :="int") (by decide) ⟨_,e,rfl⟩ (λs'=>typeIs_int s' k t) noFill_list_mul F.fills_int_mul F.slot_int_rmul repeat_list F.slot_int_index.lookup
  (call_meets F.slot_int_rmul (typeIs_int s k t) F.entry_int_rmul (F.args_int_rmul_2 _ _) (int___rmul___int_list k t l its.toArray n)
   ⟨e,rfl,⟨_,e,rfl⟩,call_meets F.slot_list_mul ⟨_,e,rfl⟩ F.entry_list_mul (F.args_list_mul_2 _ _) (AutoListH.list___mul___list_int_3 l its.toArray n k t hfit hcap hlong) ⟨e,?_⟩⟩)
 rw[hnew];exact⟨.ref _,_,I.lnew (t':=s.toks) (r.rep k.toNat) (by rw[len_rep,Nat.mul_comm];exact hz),rfl,q _ I.fresh⟩
end L2
namespace Att
open PySem PySem.W PySem.Calls PyProof.Rows
theorem Zjp{P:Params}:∀(ns:List Int) (vs:List Xe),WellAll P h vs (ns.map WData.int)->BV vs ns:=by
 intro ns
 induction ns with
 | nil=>
  intro vs w;rw[List.map_nil]at w;cases w;exact .nil
 | cons n ns ih=>
  intro vs w;rw[XM]at w;cases w with
  | cons a b=>
   cases a;exact .cons _ _ (ih _ b)
theorem Zu3{l:OpenLaw}{n:Nat}(hn:l.most=YB n){P:Params}{args:List WData}{vals:List Xe}
  (hpre:l.row.toRowW.claim.pre args=YD) (hwl:WellAll P h vals args) :
  ∃a vs ns,vals=[QZ a]/\args=[WData.list (ns.map WData.int)]/\h.get? a=YB { cls:=.type "list",data:=.seq vs.toArray }/\BV vs ns/\ns.length<=n:=by
 have hsh:WShape.hasAll [] args [.list .int]=YD:=(pre_splitW hpre).1;have hc:l.pre.holds [] { args:=args }=YD:=(pre_splitW hpre).2;obtain⟨d,r,rfl,h1,h2⟩:=hasAllW_cons hsh;obtain rfl:=hasAllW_nil h2;obtain⟨xs,rfl,h3⟩:=hasW_list h1;obtain⟨ns,rfl⟩:=items_int h3;have hlen:ns.length<=n:=by
  unfold OpenLaw.pre at hc;have h4:(WTm.not (.lt (.lit (.int (n:Int))) (.len (.arg 0)))).holds [] { args:=[.list (ns.map .int)] }=YD:=by
   have h4:=(holds_andW hc).1;rw[hn]at h4;exact h4
  have h5:=condW_of h4 (w_not (w_lt w_lit (w_len_list (w_arg rfl))));rw[Xd]at h5;refine Nat.le_of_not_lt λq=>?_;have q':(n:Int)<((ns.length:Nat):Int):=by omega
  first
   | (rw[YQ q']at h5;exact YX h5 (by decide))
   | (simp at h5;omega)
 cases hwl with
 | cons w1 w2=>
  cases w2;cases w1 with
  | list ho hall=>exact⟨_,_,ns,rfl,rfl,ho,Zjp ns _ hall,hlen⟩
theorem Zyd(l:OpenLaw)(args:List WData):l.row.toRowW.claim.post args (.bool YD) args=YD :=
 postW_of (r:=l.row.toRowW) (X:=(YD==YD))
  (show WShape.has [] (.bool YD) .bool=YD by first|rfl|decide|simp[WShape.has,WShape.arms,WShape.armsAll])
  (show(WTm.eq .res (.lit (.bool YD))).value [] { args:=args,res:=YB (.bool YD),after:=args }=YB (.bool (YD==YD))from w_eq_bool (w_res rfl) w_lit) rfl
theorem attach_call{l:OpenLaw}{n:Nat}{q:Qi}{loose:List Str}{XP:(Str->Option Xe)->YH->Prop}{YP:QJ->YH->Prop}{d:DefRec}
  (hn:l.most=YB n) (hdf:d.params.defaults=[])
  (call:∀(w:QJ) (s₀ s₁:Xh) (mg mb:Str->Option Xe) (fa:YG) (o:Obj) (pm cd doc:Xe) (a:YG) (vs:List Xe) (ns:List Int),
   Ground q loose [] XP w s₀ mg mb s₁.heap->YP w s₁.heap ->
   s₁.heap.get? fa=YB o->o.data= .func (docDef d.name d.params d.body d.scope pm cd doc)->s₁.heap.CodeRec cd d.name->mg d.name=YB (.ref fa) ->
   s₁.heap.get? a=YB { cls:=.type "list",data:=.seq vs.toArray }->BV vs ns->ns.length<=n->s₁.gens=#[] ->
   codeAny (Qm l.prog w) callerA (.call (.ref fa) ⟨[.ref a],[]⟩) (λr s'=>r= .ok (.ret (.bool YD))/\OldK s₁.heap s'.heap/\s'.os=s₁.os/\AllBare s'.gens) s₁) :
  WalkO q loose XP YP l.row.toRowW d [] (λf vs=>PySem.call f vs):=by
 intro w s₀ s₁ mg mb G Y_a fa o pm cd doc dV kV ho hd hcd hD hmg hg args vals as hpre hlay hrd hwl hlo;obtain rfl:dV= .none:=Dflts.none hD hdf;obtain rfl:kV= .none:=Dflts.noKw hD;obtain⟨a,vs,ns,rfl,rfl,hobj,hints,hlen⟩:=Zu3 hn hpre hwl;refine enter_call (codeAny_mono (call w s₀ s₁ mg mb fa o pm cd doc a vs ns G Y_a ho (fd_plain hd) hcd hmg hobj hints hlen hg) λr s' hq=>?_);obtain⟨rfl,h2,h3,h4⟩:=hq;exact⟨.inl ⟨.bool YD,.bool YD,[],rfl,λ_=>rfl,.bool YD,Zyd l _,λ_=>⟨List.Pairwise.nil,λ_ hm=>(nomatch hm)⟩⟩,h2,h3,h4⟩
section
variable {K:Frag}
end
end Att
namespace L2
open PySem PySem.Spec PyProof.Rows
theorem Zur{ns:List Int}(h:BV vs ns):Vals (ns.map V.int) vs:=by
 induction h with
 | nil=>exact .nil
 | cons n t h ih=>exact .cons ⟨t,rfl⟩ ih
def Only(H:Hp):Prop:=∀b,H b=YC\/∃o xs,H b=YB (.frz o (.lst xs))
theorem Z1p{mb:Str->Option Xe}{k:Nat}{fa:YG}{fd:XJ}{s₁:Xh}{ns:List Int}
  (KX:K.In s₁.heap) (hns:s₁.heap.Ns Ql mg) (hb:s₁.heap.Ns builtinsNs mb) (hbb:∀x:Str,x≠"__name__" ->mb x=Qh x) (hlim:s₁.heap.NoLimit) (hg:s₁.gens=#[])
  (ha:s₁.heap.get? a=YB { cls:=.type "list",data:=.seq vs.toArray }) (hi:BV vs ns) (hl:ns.length<=Xz) (hr:Room k callerA)
  (F:∀base:YH,K.In base->base.Ns Ql mg->FnOk P w K mg base CX k fa fd [x] sp) (hbind:∀(s:Xh) (u:Xe),BindsTo s fd ⟨[u],[]⟩ [(x,u)])
  (hsp:∀H:Hp,Only H->SqL K H a (ns.map V.int)->sp [.ref a] H (λv _=>v= .bl YD) λ_ _ _=>False)
  (hCX:∀H e s',CX [] H s₁ (λ_ _ _=>False) e s'->False) :
  codeAny (Qm P w) callerA (.call (.ref fa) ⟨[.ref a],[]⟩) (λr s'=>r= .ok (.ret (.bool YD))/\OldK s₁.heap s'.heap/\s'.os=s₁.os/\AllBare s'.gens) s₁:=by
 have rv:=Zur hi;have lenV:=hi.length
 -- from an abstract heap in which nothing but the script may be tracked
 have core:∀H:Hp,Only H->SqL K H a (ns.map V.int)->HOk P w H s₁.heap->(∀b,H b≠YC->b=a)->(H a≠YC->K.lookup a=YC) ->
   codeAny (Qm P w) callerA (.call (.ref fa) ⟨[.ref a],[]⟩) (λr s'=>r= .ok (.ret (.bool YD))/\OldK s₁.heap s'.heap/\s'.os=s₁.os/\AllBare s'.gens) s₁:=by
  intro H hO hS hok hA hK;have base_of:∀{b:YG} {o:Obj},s₁.heap.get? b=YB o->H b=YC->(Z1j s₁.heap H).get? b=YB o:=λe n=>Z0e e n;have noA:∀{b:YG} {o:Obj} {es:Array DictEntry} {ep:Nat},s₁.heap.get? b=YB o->o.data= .dict es ep->H b=YC:=fun{b o es ep} e d=>by
   cases q:H b with
   | none=>rfl
   | some u=>
    have e':b=a:=hA b (by rw[q];simp);subst e';rw[ha]at e;cases e;have d':Data.seq vs.toArray _=Data.dict es ep:=d;cases d'
  have nsK:∀{b:YG} {m:Str->Option Xe},s₁.heap.Ns b m->(Z1j s₁.heap H).Ns b m:=fun{b m} ⟨o,es,ep,e,d,r⟩=>⟨o,es,ep,base_of e (noA e d),d,r⟩;have hKb:K.In (Z1j s₁.heap H):=λb o e=>base_of (KX b o e) (by
   cases q:H b with
   | none=>rfl
   | some u=>
    have e':b=a:=hA b (by rw[q];simp);subst e';rw[hK (by rw[q];simp)]at e;cases e)
  have hM:Mod K mg (Z1j s₁.heap H):=⟨hKb,nsK hns,⟨mb,nsK hb,hbb⟩,let⟨mc,h1,h2⟩:=hlim;⟨mc,nsK h1,h2⟩⟩;have e0:Yd4 P w K mg (Z1j s₁.heap H) callerA [] s₁ H:=⟨rfl,hM,λb o e=>Z8q e,Nat.le_of_eq (Zxw _ _),trivial,λb hb=>YX (show b∈([]:List YG)from hb) (by simp),hok,.of_eq hg⟩;refine codeAny_mono ((F _ hKb (nsK hns)).run callerA [] s₁ H ⟨[.ref a],[]⟩ [.ref a] [.ref a] _ _ hr e0 (hbind s₁ (.ref a)) (.cons rfl .nil) (hsp H hO hS)) λr s' h=>?_;cases r with
  | error e=>exact(hCX H e s' h).elim
  | ok fl=>
   cases fl with
   | next=>exact V7 h
   | brk=>exact V7 h
   | cont=>exact V7 h
   | ret u=>
    obtain⟨v,H',os,bare,un,hok',r',q⟩:=h;have q':v= .bl YD:=q;subst q';obtain rfl:u=Value.bool YD:=r';refine⟨rfl,OldK.of_keep λb o e=>?_,os,bare⟩;cases q:H b with
    | none=>exact un.keep b o e q (by intro z;exact YX (show b∈([]:List YG)from z) (by simp)) (by simp)
    | some u=>
     rcases hO b with z|⟨ob,xs,z⟩
     .rw[q]at z;cases z
     .have z2:=un.frzs b ob _ z
      obtain⟨e1,_⟩:=hok b _ z;obtain⟨e2,_⟩:=hok' b _ z2;rw[e]at e1;cases e1;exact e2
 cases hk:K.lookup a with
 | some o=>
  -- the script is one of the module's own objects
  have e:=KX a o hk;rw[ha]at e;cases e;refine core (λ_=>YC) (λ_=>.inl rfl) (.inr ⟨_,vs.toArray,_,hk,rfl,rfl,rfl,by rw[Xy,lenV];exact hl,by simpa using rv⟩) (λb u z=>by have z':(YC:Option HO)=YB u:=z;cases z') (λb z=>YX rfl z) λz=>YX rfl z
 | none=>
  refine core (λb=>if b=a then YB (.frz { cls:=.type "list",data:=.seq vs.toArray } (.lst (ns.map V.int)))else YC) (λb=>?_) (.inl (.inr ⟨{ cls:=.type "list",data:=.seq vs.toArray },YL rfl⟩)) (λb u z=>?_) (λb z=>?_) λ_=>hk
  .by_cases hb:b=a
   .exact .inr ⟨_,_,YL hb⟩
   .exact .inl (YM hb)
  .by_cases hb:b=a
   .have z':=(YL hb).symm.trans z
    cases z';subst hb;exact⟨ha,by rw[Xd];exact hl,vs,_,rv,ha⟩
   .have z':=(YM hb).symm.trans z
    cases z'
  .by_cases hb:b=a
   .exact hb
   .exact YX (YM hb) z
abbrev KOf(_:K.In h):Xc:=K
theorem Z6y{l:PySem.W.OpenLaw}{n k:Nat}{q:Qi}{loose:List Str}{XP:(Str->Option Xe)->YH->Prop}{YP:QJ->YH->Prop}{d:DefRec}{K:Params->Xc}{CX:QJ->CXT}{sp:QJ->Sp}
  (hn:l.most=YB n) (hn2:n<=Xz) (hdf:d.params.defaults=[]) (hr:Room k callerA)
  (hY:∀(w:QJ) (h:YH),YP w h->(K w.params).In h)
  (F:∀(w:QJ) (mg:Str->Option Xe) (fa:YG) (h:YH),(K w.params).In h->h.Ns Ql mg->mg d.name=YB (.ref fa) ->
   ∃fd:XJ,(∀(s:Xh) (u:Xe),BindsTo s fd ⟨[u],[]⟩ [(x,u)])/\
    ∀base:YH,(K w.params).In base->base.Ns Ql mg->FnOk l.prog w (K w.params) mg base (CX w) k fa fd [x] (sp w))
  (hsp:∀(w:QJ) (H:Hp) (a:YG) (ns:List Int),ns.length<=n->Only H->SqL (K w.params) H a (ns.map V.int)->sp w [.ref a] H (λv _=>v= .bl YD) λ_ _ _=>False)
  (hCX:∀(w:QJ) (H:Hp) (s:Xh) (e:Xe) (s':Xh),CX w [] H s (λ_ _ _=>False) e s'->False) :
  PySem.W.WalkO q loose XP YP l.row.toRowW d [] (λf vs=>PySem.call f vs):=by
 refine Att.attach_call hn hdf λw s₀ s₁ mg mb fa o pm cd doc a vs ns G Y_a ho hd hcd hmg hobj hints hlen hg=>?_;have KX:=hY w _ Y_a;obtain⟨fd,hb,hF⟩:=F w mg fa _ KX G.T.g hmg;exact Z1p KX G.T.g G.T.b G.T.builtins G.T.nolimit hg hobj hints (QD hlen hn2) hr hF hb (λH hO hS=>hsp w H a ns hlen hO hS) λH e s'=>hCX w H s₁ e s'
def Zg1(s:YK):Arguments:=match s with
 | .FunctionDef _ a _ _ _ _ _ _ _ _=>a
 | _=>{ posonlyargs:=[],args:=[],vararg:=YC,kwonlyargs:=[],kw_defaults:=[],kwarg:=YC,defaults:=[] }
def Zc7(s:YK):List YK:=match s with
 | .FunctionDef _ _ b _ _ _ _ _ _ _=>b
 | _=>[]
def Zn(s:YK):U6:=match s with
 | .FunctionDef _ _ _ _ _ _ sc _ _ _=>sc
 | _=>{ kind:=.function,names:=[],isGenerator:=YF,isCoroutine:=YF }
abbrev CX0:CXT:=λ_ _ _ _ _ _=>False
abbrev E0:XK:=λ_ _ _=>False
theorem Zqn:Zk9 CX0 X E0:=λ_ _ _ _ _ _ _ h=>h.elim
structure Fun(K:Xc)(x qual:Str)(st:YK)(f:YG)(fd:XJ):Prop where
 ex:∃(oc:Xe) (od:Option YG) (kV doc pm:Xe) (an:Option YG) (cdv ct:Xe) (osl:Array (Option Xe)),
  fd=V6 x qual (Zg1 st) (Zc7 st) (Zn st) .none kV doc pm an cdv ct/\K.lookup f=YB ⟨oc,od,.func fd,osl⟩/\PySem.W.codeIn K cdv qual=YD
 kp:Ve K (.ref f)=YD
section
variable {base:YH}
theorem Fun.ok{x qual:Str}{st:YK}{f:YG}{fd:XJ}{N ps:List Str}{k:Nat}{sp:Sp}(F:Fun K x qual st f fd)(S:Zv N ps (Zn st))(len:∀vs H Q E,sp vs H Q E->vs.length=ps.length)
  (hbody:∀(cdv:Xe) (A:QB) (outer:List Env) (s:Xh) (H:Hp) (vs:List V) (Q:VK) (E:XK),Room k (A.deeper (envOfC qual (Zn st) s.heap.objs.size f cdv))->sp vs H Q E ->
   ∃t,PSs (Z21 CX0 P w K mg base N qual (Zn st) f cdv A outer s H E).nox (Zc7 st) t/\t { nx:=λ_ H'=>Q .non H',rt:=Q } (start N vs) H):FnOk P w K mg base CX0 (k+1) f fd ps sp:=by
 obtain⟨oc,od,kV,doc,pm,an,cdv,ct,osl,rfl,lk,hcd⟩:=F.ex;refine Yfg lk hcd S len λA outer s H vs Q E hr hsp=>?_;obtain⟨t,h,q⟩:=hbody cdv A outer s H vs Q E hr hsp;exact⟨t,h.nox,q⟩
theorem Fun.binds{f:YG}{fd:XJ}(F:Fun K x qual st f fd)
  (h:∀(kV doc pm:Xe) (an:Option YG) (cdv ct:Xe) (us:List Xe),us.length=ps.length->bindArgs (V6 x qual (Zg1 st) (Zc7 st) (Zn st) .none kV doc pm an cdv ct) ⟨us,[]⟩=pure (ps.zip us)):Binds K fd ps []:=by
 obtain⟨oc,od,kV,doc,pm,an,cdv,ct,osl,rfl,lk,hcd⟩:=F.ex;exact .all (h kV doc pm an cdv ct)
theorem Ya1{f:YG}{oc:Xe}{od an:Option YG}{osl:Array (Option Xe)}{kV doc pm cdv ct:Xe}(l:K.lookup f=YB ⟨oc,od,.func (V6 x qual (Zg1 st) (Zc7 st) (Zn st) .none kV doc pm an cdv ct),osl⟩)
  (c:PySem.W.codeIn K cdv qual=YD) (k:Ve K (.ref f)=YD):Fun K x qual st f (V6 x qual (Zg1 st) (Zc7 st) (Zn st) .none kV doc pm an cdv ct):=⟨⟨oc,od,kV,doc,pm,an,cdv,ct,osl,rfl,l,c⟩,k⟩
end
theorem pv(i:Nat)(hN:X.N[i]? =YB x:=by rfl)(hv:Vis X.env.scope x:=by first|exact QT rfl|exact QF (QT rfl)|exact QF (QF rfl))(hd:(x==("__debug__" : Str))=YF:=by decide)
  (hcd:(x==("__classdict__" : Str))=YF:=by decide):PE X (.Name x pos) (Yhp i):=Z3e hN hv hd hcd
def Same(H H':Hp):Prop:=∀b o,H b=YB o->H' b=YB o
theorem Same.refl(H:Hp):Same H H:=λ_ _ h=>h
theorem Same.trans(a:Same H H1)(b:Same H1 H2):Same H H2:=λc o h=>b c o (a c o h)
theorem Same.free(e:Same H H')(h:H' l=Option.none):H l=Option.none:=by
 cases q:H l with
 | none=>rfl
 | some o=>
  rw[e l o q]at h;cases h
end L2
set_option maxHeartbeats 4000000
namespace L2
open PySem PySem.Spec PyProof.Rows
def Bt(n:Nat)(x:Int):Prop:=x.natAbs<2^n
theorem Bt.mono{m n:Nat}{x:Int}(h:Bt m x)(hn:m<=n):Bt n x:=Qq h (Va (by decide) hn)
theorem Bt.mul{m n:Nat}{x y:Int}(h:Bt m x)(k:Bt n y):Bt (m+n) (x*y):=by
 unfold Bt at*
 rw[Int.natAbs_mul,Nat.pow_add];exact Nat.mul_lt_mul'' h k
theorem Bt.neg{m:Nat}{x:Int}(h:Bt m x):Bt m (-x):=by
 unfold Bt at*
 rw[Int.natAbs_neg];exact h
theorem Bt.add{m n:Nat}{x y:Int}(h:Bt m x)(k:Bt n y):Bt (m+n+1) (x+y):=by
 unfold Bt at*
 have h1:2^m<=2^(m+n):=Va (by decide) (by omega);have h2:2^n<=2^(m+n):=Va (by decide) (by omega);have h3:2^(m+n+1)=2*2^(m+n):=by rw[Nat.pow_succ];omega
 have h4:=Int.natAbs_add_le x y;omega
theorem Bt.of_le{m:Nat}{x y:Int}(h:Bt m x)(k:y.natAbs<=x.natAbs):Bt m y:=Nat.lt_of_le_of_lt k h
theorem Bt.of_lt{m:Nat}{x:Int}(h1:-(2^m)<x)(h2:x<2^m):Bt m x:=by
 unfold Bt;have e:((2^m:Nat):Int)=2^m:=by simp
 omega
theorem Bt.bits{m:Nat}{x:Int}(h:Bt m x):Bl x<=m:=by
 unfold Bl;split
 .exact QH _
 .rename_i hx
  have hp:x.natAbs≠0:=by
   intro e;apply hx;have:x=0:=by omega
   subst this;rfl
  have:=(Nat.log2_lt hp).mpr h;omega
theorem Bt.mulOk{m n:Nat}{x y:Int}(h:Bt m x)(k:Bt n y)(hmn:m+n<=100000000:=by decide):IntMulOk x y:=by
 have h1:=h.bits;have h2:=k.bits;have h3:Builtin.Int.intTooBig (Bl x+Bl y)=YF:=by
  unfold Builtin.Int.intTooBig bitsLine;exact YS (by omega)
 unfold IntMulOk;rw[h3];simp
def DivOk(_ j:Int):Prop:=j≠0/\j.natAbs.log2<9000
theorem DivOk.of{i j:Int}{n:Nat}(h0:j≠0)(h:Bt n j)(hn:n<=9000:=by decide):DivOk i j:=by
 refine⟨h0,?_⟩;have hp:j.natAbs≠0:=by omega
 have:=(Nat.log2_lt hp).mpr h;omega
theorem Z8i:OpR X (VL .Mult) (rI IntMulOk λi j=>.int (i*j)):=opI λ_ _ _ _ _ _ _ hc q=>mul_int q hc
theorem Z0a:OpR X (VL .FloorDiv) (rI DivOk λi j=>.int (i.fdiv j)):=opI λ_ _ _ _ _ _ _ hc q=>floordiv_int hc.1 q (.inl (PyProof.noPylong_of_log2 hc.2))
theorem Z7d:OpR X (VL .Pow) (rI Yen λi j=>.int (i^j.toNat)):=Yb6
theorem Zkd(elt target iter:YJ)(ifs:List YJ)(scope:U6)(pos:Pos)(it acc:Xe)(env:Env) :
  compTurn (.ListComp elt [⟨target,iter,ifs,0⟩] scope pos) 0 it acc env=(standAt iter.pos>>= λ_=>pyNext it>>= λr=>match r with
   | none=>pure (.done .next)
   | some v=>letOwnedTupleGo target it v>>= λ_=>assign target env v>>= λ_=>
    (forIn ifs YD λc r=>if r=YD then do let ok<-isTrue c env (eval c env);pure (Bp ok)else pure (Bp r))>>= λok=>
     if ok=YD then((eval elt env>>= λx=>call (.builtin "list.append") [acc,x]>>= λ_=>pure ())>>= λ_=>
      again (.compLoop (.ListComp elt [⟨target,iter,ifs,0⟩] scope pos) 0 it acc env))
     else again (.compLoop (.ListComp elt [⟨target,iter,ifs,0⟩] scope pos) 0 it acc env)):=by rfl
theorem Znw{R:Result->Xh->Prop}{elt target:YJ}{ifs:List YJ}{it acc:Xe}{env:Env}(I:Nat->Xh->Prop)
  (turn:∀n s,I n s->X8 (Qm prog w) A (pyNext it) (λr s₁=>match r with
   | none=>R (.ok .next) s₁
   | some v=>X8 (Qm prog w) A (letOwnedTupleGo target it v) (λ_ s₁=>X8 (Qm prog w) A (assign target env v) (λ_ s₂=>
     X8 (Qm prog w) A (forIn ifs YD λc r=>if r=YD then do let ok<-isTrue c env (eval c env);pure (Bp ok)else pure (Bp r)) (λok s₃=>
      if ok=YD then X8 (Qm prog w) A (eval elt env) (λx s₄=>
       X8 (Qm prog w) A (call (.builtin "list.append") [acc,x]) (λ_ s₅=>∃m,m<n/\I m s₅) (notedBy (Qm prog w) A env λe s'=>R (.error e) s') s₄) (notedBy (Qm prog w) A env λe s'=>R (.error e) s') s₃
      else∃m,m<n/\I m s₃) (notedBy (Qm prog w) A env λe s'=>R (.error e) s') s₂) (notedBy (Qm prog w) A env λe s'=>R (.error e) s') s₁) (notedBy (Qm prog w) A env λe s'=>R (.error e) s') s₁) (notedBy (Qm prog w) A env λe s'=>R (.error e) s') s)
  (n:Nat) (h:I n s) :
  codeAny (Qm prog w) A (.compLoop (.ListComp elt [⟨target,iter,ifs,0⟩] scope pos) 0 it acc env) R s:=by
 refine codeAny_loop rfl I (λn s hI=>?_) n h;show X8 _ A ((compTurn (.ListComp elt [⟨target,iter,ifs,0⟩] scope pos) 0 it acc env).onRaise (λx=>do noteFrame x env;theTreesLotGoes x)) _ _ s;refine wpAny_noted ?_;rw[Zkd];refine Xi (wpAny_standAt (Xi (Vc (turn n s hI) (λr s₁ h₁=>?_) λ_ _ h'=>h')));cases r with
 | none=>exact Qd h₁
 | some v=>
  refine Xi (Vc h₁ (λ_ s₂ h₂=>?_) λ_ _ h'=>h');refine Xi (Vc h₂ (λ_ s₂ h₂=>Xi (Vc h₂ (λok s₃ h₃=>?_) λ_ _ h'=>h')) λ_ _ h'=>h');cases ok with
  | false=>exact Qd ⟨rfl,h₃⟩
  | true=>
   exact Xi (Xi (Vc h₃ (λx s₄ h₄=>Xi (Vc h₄ (λ_ s₅ h₅=>Qd (Qd ⟨rfl,h₅⟩)) λ_ _ h'=>h')) λ_ _ h'=>h'))
def Zj6(env:Env):List (Str×Vb)->List (Str×YG)->List (Str×YG)
 | [],acc=>acc
 | (n,k)::r,acc=>if k== .free then Zj6 env r ((n,(env.cells.lookup n).getD 0)::acc)else Zj6 env r acc
theorem Zmf{env:Env}:∀(names:List (Str×Vb)) (acc:List (Str×YG)),(∀y∈names,y.2= .free->∃c,env.cells.lookup y.1=YB c) ->
  (forIn names acc (λ(y:Str×Vb) cs=>(if y.2== .free then(cellOf env y.1>>= λc=>pure (Bp ((y.1,c)::cs)))else pure (Bp cs):Sem (ForInStep (List (Str×YG))))))=pure (Zj6 env names acc)
 | [],acc,_=>by rw[UL];rfl
 | (n,k)::r,acc,h=>by
  by_cases hk:k= .free
  .subst hk
   obtain⟨c,hc⟩:=h (n,.free) (.head _) rfl;have hc':env.cells.lookup n=YB c:=hc;have e:=Zmf (env:=env) r ((n,c)::acc) λy hy=>h y (.tail _ hy);have ec:cellOf env n=pure c:=by
    unfold cellOf;rw[hc']
   rw[List.forIn_cons];simp only[beq_self_eq_true,if_true];rw[ec];simp only[Zj6,beq_self_eq_true,if_true,hc',Ua];exact e
  .have e:=Zmf (env:=env) r acc λy hy=>h y (.tail _ hy)
   have hb:(k==JG)=YF:=by simpa using hk
   rw[List.forIn_cons];simp only[Zj6,hb,Vn,if_false];exact e
theorem Ze5{env:Env}(h:∀y∈scope.names,y.2= .free->∃c,env.cells.lookup y.1=YB c):closureFor scope env=pure (Zj6 env scope.names []):=by
 have e:=Zmf scope.names [] h;have e':(forIn scope.names ([]:List (Str×YG)) (λ(y:Str×Vb) cs=>(match y with|(name,kind)=>do
   if kind== .free then do let a<-cellOf env name;pure (Bp ((name,a)::cs))else pure (Bp cs):Sem (ForInStep (List (Str×YG))))))=pure (Zj6 env scope.names []):=e
 exact YT (λ(m:Sem (List (Str×YG)))=>m>>= λx=>pure x) e'
theorem Znb{env:Env}:∀(names:List (Str×Vb)) (acc:List (Str×YG)),(∀y∈names,y.2= .free->∃c,env.cells.lookup y.1=YB c) ->
  ∀n c,(n,c)∈Zj6 env names acc->(n,c)∈acc\/((n,JG)∈names/\env.cells.lookup n=YB c)
 | [],acc,_,n,c,h=>.inl h
 | (m,k)::r,acc,h,n,c,hm=>by
  by_cases hk:k= .free
  .subst hk
   obtain⟨d,hd⟩:=h (m,.free) (.head _) rfl;have hd':env.cells.lookup m=YB d:=hd;simp only[Zj6,beq_self_eq_true,if_true,hd',Ua]at hm;rcases Znb r _ (λy hy=>h y (.tail _ hy)) n c hm with z|⟨z1,z2⟩
   .rcases Xm.mp z with z|z
    .cases z;exact .inr ⟨.head _,hd'⟩
    .exact .inl z
   .exact .inr ⟨.tail _ z1,z2⟩
  .have hb:(k==JG)=YF:=by simpa using hk
   simp only[Zj6,hb,Vn,if_false]at hm;refine(Znb r _ (λy hy=>h y (.tail _ hy)) n c hm).imp id λqz9=>?_;obtain⟨z1,z2⟩:=qz9;exact⟨.tail _ z1,z2⟩
theorem Zma{env:Env}:∀(names:List (Str×Vb)) (acc:List (Str×YG)),∀p∈acc,p∈Zj6 env names acc
 | [],_,_,h=>h
 | (m,k)::r,acc,p,h=>by
  unfold Zj6;split
  .exact Zma r _ p (.tail _ h)
  .exact Zma r _ p h
theorem Zlm{env:Env}:∀(names:List (Str×Vb)) (acc:List (Str×YG)) (n:Str),(n,JG)∈names->∃c,(n,c)∈Zj6 env names acc
 | [],_,_,h=>nomatch h
 | (m,k)::r,acc,n,h=>by
  rcases Xm.mp h with z|z
  .cases z
   exact⟨_,by
    simp only[Zj6,beq_self_eq_true,if_true];exact Zma _ _ _ (.head _)⟩
  .unfold Zj6
   split
   .exact Zlm r _ n z
   .exact Zlm r _ n z
theorem Zg9{env:Env}(inj:∀x y c,env.cells.lookup x=YB c->env.cells.lookup y=YB c->x=y):∀(names:List (Str×Vb)) (acc:List (Str×YG)),
  (∀ y∈names,y.2= .free->∃c,env.cells.lookup y.1=YB c)->(names.map (·.1)).Nodup->(∀p∈acc,env.cells.lookup p.1=YB p.2)->(∀p∈acc,p.1∉names.map (·.1))->(acc.Pairwise λx y=>x.2≠y.2) ->
  (Zj6 env names acc).Pairwise λx y=>x.2≠y.2
 | [],_,_,_,_,_,h=>h
 | (m,k)::r,acc,hf,hn,ha,hd,hp=>by
  rw[XM,Qo]at hn;have hf':∀y∈r,y.2= .free->∃c,env.cells.lookup y.1=YB c:=λy hy=>hf y (.tail _ hy);have hd':∀p∈acc,p.1∉r.map (·.1):=λp hp z=>hd p hp (by rw[XM];exact .tail _ z)
  by_cases hk:k= .free
  .subst hk
   obtain⟨d,hd0⟩:=hf (m,.free) (.head _) rfl;have hd1:env.cells.lookup m=YB d:=hd0;simp only[Zj6,beq_self_eq_true,if_true,hd1,Ua];refine Zg9 inj r _ hf' hn.2 (λp hp'=>?_) (λp hp'=>?_) (List.pairwise_cons.mpr ⟨λp hp' z=>?_,hp⟩)
   .rcases Xm.mp hp' with rfl|hp'
    .exact hd1
    .exact ha p hp'
   .rcases Xm.mp hp' with rfl|hp'
    .exact hn.1
    .exact hd' p hp'
   .have e:m=p.1:=inj m p.1 d hd1 (by rw[ha p hp',<-z])
    exact hd p hp' (by rw[XM,<-e];exact .head _)
  .have hb:(k==JG)=YF:=by simpa using hk
   simp only[Zj6,hb,Vn,if_false];exact Zg9 inj r _ hf' hn.2 ha hd' hp
structure Zs0(h:YH)(lo:Nat)(names:List (Str×Vb))(acc cs:List (Str×YG)):Prop where
 mem:∀n c,(n,c)∈cs->(n,c)∈acc\/(h.IsCell c YC/\lo<=c/\(n,BK)∈names)
 has:∀n,(n,BK)∈names->∃c,(n,c)∈cs
 old:∀p∈acc,p∈cs
theorem Zg8:∀(names:List (Str×Vb)) (h:YH) (lo:Nat) (acc:List (Str×YG)),lo<=h.objs.size->Zs0 (Vq h names) lo names acc (BJ h.objs.size names acc)
 | [],_,_,_,_=>⟨λ_ _ m=>.inl m,(λ_ m=>nomatch m),λ_ m=>m⟩
 | (name,kind)::r,h,lo,acc,hlo=>by
  by_cases hk:(kind==BK)=YD
  .have ek:kind= .cell:=by simpa using hk
   subst ek;have ih:=Zg8 r (h.push { cls:=.type "cell",data:=.cell YC }) lo ((name,h.objs.size)::acc) (by rw[Bg];omega);rw[Bg]at ih;have e1:BJ h.objs.size ((name,.cell)::r) acc=BJ (h.objs.size+1) r ((name,h.objs.size)::acc):=by
    rw[BJ,YL hk]
   have e2:Vq h ((name,.cell)::r)=Vq (h.push { cls:=.type "cell",data:=.cell YC }) r:=by
    rw[Vq,YL hk]
   rw[e1,e2];refine⟨λn c m=>?_,λn m=>?_,λp m=>ih.old p (.tail _ m)⟩
   .rcases ih.mem n c m with z|⟨z1,z2,z3⟩
    .rcases Xm.mp z with z|z
     .cases z
      exact .inr ⟨⟨_,pushCells_keeps _ _ _ _ (Qe _ rfl),rfl⟩,hlo,.head _⟩
     .exact .inl z
    .exact .inr ⟨z1,z2,.tail _ z3⟩
   .rcases Xm.mp m with z|z
    .cases z
     exact⟨_,ih.old _ (.head _)⟩
    .exact ih.has n z
  .have ih:=Zg8 r h lo acc hlo
   have e1:BJ h.objs.size ((name,kind)::r) acc=BJ h.objs.size r acc:=by
    rw[BJ,YM hk]
   have e2:Vq h ((name,kind)::r)=Vq h r:=by
    rw[Vq,YM hk]
   rw[e1,e2];refine⟨λn c m=>(ih.mem n c m).imp id λ⟨z1,z2,z3⟩=>⟨z1,z2,.tail _ z3⟩,λn m=>?_,ih.old⟩;rcases Xm.mp m with z|z
   .cases z
    exact YX rfl hk
   .exact ih.has n z
theorem Zj5(names:List (Str×Vb)):∀(h:YH) (acc:List (Str×YG)),(acc.Pairwise λx y=>x.2≠y.2)->(∀p∈acc,p.2<h.objs.size)->(BJ h.objs.size names acc).Pairwise λx y=>x.2≠y.2:=by
 induction names with
 | nil=>intro h acc ha _;exact ha
 | cons y r ih=>
  intro h acc ha hb;obtain⟨name,kind⟩:=y;unfold BJ;split
  .have:=ih (h.push { cls:=.type "cell",data:=.cell YC }) ((name,h.objs.size)::acc) (List.pairwise_cons.mpr ⟨λp hp=>X6 (hb p hp),ha⟩) (λp hp=>by
    rw[Bg];rcases Xm.mp hp with rfl|hp
    .exact Vj _
    .exact Nat.lt_succ_of_lt (hb p hp))
   rwa[Bg]at this
  .exact ih h acc ha hb
theorem Zj9{globals:YG}{cl:List (Str×YG)}{env:Env}{Q:Env->Xh->Prop}
  (hQ:Q (newEnv scope s.heap.objs.size globals (BJ (s.heap.objs.size+1) scope.names cl) qual YC .none (YB env) builtinsNs)
   { s with heap:=Vq (s.heap.push { cls:=.type "dict",data:=.dict #[] }) scope.names }) :
  X8 M A (newFunctionEnv scope globals cl [] qual YC .none (YB env)) Q E s:=by
 simp only[newFunctionEnv,Option.isSome_some,if_true];refine Xi (wpAny_alloc ?_);refine Xi (wpAny_layCells _ (λname kind cells=>by cases hkc:kind==BK<;>simp[hkc]) _ _ _ _ ?_);rw[show({ s with heap:=s.heap.push { cls:=.type "dict",data:=.dict #[] } }:Xh).heap.objs.size=s.heap.objs.size+1 from Bg ..];rw[UL];exact Xi (Qd (Qd hQ))
def Wa(X:Cx)(N':List Str)(sc:U6)(C:YG)(cells:List (Str×YG))(s₂:Xh)(H₂:Hp)(fp:List YG):Cx :=
 { X with N:=N',s₀:=s₂,H₀:=H₂,env:=compEnvC sc cells C X.env,outer:=X.stack,stack:=X.stack,ex:=fp,fn:=λx=>sc.names.lookup x==YB .cell,pn:=[],xe:=λ_ _=>False }
theorem Zfg{env:Env}:∀{names:List (Str×Vb)} {x:Str} {k:Vb},names.lookup x=YB k ->
  (names.map λ(n,k)=>if(k==JG&&env.scope.kind== .function&&env.kindOf n==YB .cell)then(n,BK)else(n,k)).lookup x=
   YB (if(k==JG&&env.scope.kind== .function&&env.kindOf x==YB .cell)then BK else k)
 | [],_,_,h=>by simp at h
 | (n,k')::r,x,k,h=>by
  have ih:=@Zfg env r x k;show List.lookup x ((if(k'==JG&&env.scope.kind== .function&&env.kindOf n==YB .cell)=YD then(n,BK)else(n,k'))::_)=_;cases hx:x==n with
  | true=>
   simp only[JH,hx]at h;cases h;have e:=YZ.mp hx;subst e;split<;>simp[JH]
  | false=>
   simp only[JH,hx]at h;split
   .simp only[JH,hx];exact ih h
   .simp only[JH,hx];exact ih h
theorem Zh4{env:Env}:∀{names:List (Str×Vb)} {x:Str},names.lookup x=YC ->
  (names.map λ(n,k)=>if(k==JG&&env.scope.kind== .function&&env.kindOf n==YB .cell)then(n,BK)else(n,k)).lookup x=YC
 | [],_,_=>rfl
 | (n,k')::r,x,h=>by
  have ih:=@Zh4 env r x;show List.lookup x ((if(k'==JG&&env.scope.kind== .function&&env.kindOf n==YB .cell)=YD then(n,BK)else(n,k'))::_)=_;cases hx:x==n with
  | true=>
   simp only[JH,hx]at h;cases h
  | false=>
   simp only[JH,hx]at h;split
   .simp only[JH,hx];exact ih h
   .simp only[JH,hx];exact ih h
theorem Zgw:∀{l:List (Str×α)} {n:Str} {c:α},(l.map (·.1)).Nodup->(n,c)∈l->l.lookup n=YB c
 | (k,v)::r,n,c,hd,h=>by
  rw[XM,Qo]at hd;rcases Xm.mp h with e|hr
  .cases e
   simp[JH]
  .have hne:(n==k)=YF:=by
    refine JW.mpr λz=>hd.1 ?_;have e:n=k:=YZ.mp z;rw[<-e];exact Xv.mpr ⟨(n,c),hr,rfl⟩
   rw[JH,hne];exact Zgw hd.2 hr
theorem Y7:∀{l:List (Str×α)} {n:Str} {c:α},(n,c)∈l->∃d,l.lookup n=YB d/\(n,d)∈l
 | (k,v)::r,n,c,h=>by
  by_cases e:n=k
  .subst e
   exact⟨v,by simp[JH],List.mem_cons_self⟩
  .have hne:(n==k)=YF:=by simpa using e
   rcases Xm.mp h with z|z
   .cases z;exact YX rfl e
   .obtain⟨d,h1,h2⟩:=Y7 z
    exact⟨d,by rw[JH,hne];exact h1,.tail _ h2⟩
structure CompScope(X:Cx)(own:List Str)(caps:List Nat)(N':List Str)(sc:U6):Prop where
 kind:sc.kind= .function
 nd:N'.Nodup
 names:N'=own++caps.map λi=>X.N.getD i Str.empty
 nn:(sc.names.map (·.1)).Nodup
 free:(sc.names.all λy=>y.2 != .free||(X.env.kindOf y.1==YB .cell||X.env.kindOf y.1==YB .free))=YD
 caps:(caps.all λi=>sc.names.lookup (X.N.getD i Str.empty)==YB .free)=YD
def Za5(own:List Str)(caps:List Nat)(Y:St):St:=own.map (λ_=>YC)++caps.map λi=>(Y[i]?).getD YC
section
variable {own:List Str}{caps:List Nat}{N':List Str}{sc:U6}
theorem CompScope.lk(S:CompScope X own caps N' sc){n:Str}{k:Vb}(h:(n,k)∈sc.names):sc.names.lookup n=YB k:=Zgw S.nn h
theorem CompScope.fr(S:CompScope X own caps N' sc){n:Str}(h:(n,JG)∈sc.names):X.env.kindOf n=YB .cell\/X.env.kindOf n=YB .free:=by
 have:=Vg.mp S.free _ h;simpa using this
theorem Ztb{Y:St}{fp:List YG}{cl:List (Str×YG)}(S:CompScope X own caps N' sc)(I:Inv X pins Y H s)
  (f:∀b∈fp,Zmn X pins H b) (fo:∀b∈fp,∃o,s.heap.get? b=YB o)
  (hcl:∀n c,(n,c)∈cl->(n,JG)∈sc.names/\X.env.cells.lookup n=YB c) (hcl2:∀n,(n,JG)∈sc.names->∃c,(n,c)∈cl) (hapart:cl.Pairwise λx y=>x.2≠y.2) :
  Inv (Wa X N' sc (s.heap.objs.size+1) (BJ (s.heap.objs.size+2) sc.names cl) s H fp) [] (Za5 own caps Y) (upd H s.heap.objs.size (.lst []))
   { s with heap:=Vq ((s.heap.push { cls:=.type "list",data:=.seq #[] }).push { cls:=.type "dict",data:=.dict #[] }) sc.names }:=by
 generalize hh1:s.heap.push { cls:=.type "list",data:=.seq #[] }=h1;have z1:h1.objs.size=s.heap.objs.size+1:=by rw[<-hh1,Bg]
 generalize hh2:h1.push { cls:=.type "dict",data:=.dict #[] }=h2;have z2:h2.objs.size=s.heap.objs.size+2:=by rw[<-hh2,Bg,z1]
 have BC:=Zg8 sc.names h2 (s.heap.objs.size+2) cl (by omega);have AP:=Zj5 sc.names h2 cl hapart (λp hp=>by
  obtain⟨v,hv⟩:=I.cell p.1 p.2 (hcl p.1 p.2 hp).2;exact Qq hv.lt (by omega))
 rw[z2]at BC AP;have keep:∀b o,s.heap.get? b=YB o->(Vq h2 sc.names).get? b=YB o:=λb o e=>pushCells_keeps _ _ _ _ (by
  rw[<-hh2];refine Xl _ ?_;rw[<-hh1];exact Xl _ e)
 have hD:(Vq h2 sc.names).get? s.heap.objs.size=YB { cls:=.type "list",data:=.seq #[] }:=pushCells_keeps _ _ _ _ (by
  rw[<-hh2];refine Xl _ ?_;rw[<-hh1];exact Qe _ rfl)
 have hC:(Vq h2 sc.names).Ns (s.heap.objs.size+1) (λ_=>YC):=by
  refine Heap.Ns.keeps ?_ (pushCells_keeps _ _);have:=Heap.Ns.new h1 (.type "dict");rw[hh2,z1]at this;exact this
 have cellOld:∀n c,X.env.cells.lookup n=YB c->c<s.heap.objs.size:=λn c e=>by
  obtain⟨v,hv⟩:=I.cell n c e;exact hv.lt
 have lk':∀n c,(BJ (s.heap.objs.size+2) sc.names cl).lookup n=YB c->(n,c)∈BJ (s.heap.objs.size+2) sc.names cl:=λn c e=>Bu e;have hnD:H s.heap.objs.size=YC:=I.fresh;have fresh:∀c,s.heap.objs.size<c->upd H s.heap.objs.size (.lst []) c=YC:=λc hc=>by
  rw[Yc (X6 hc)];exact I.hok.fresh (VM hc)
 have isc:∀n c,(n,c)∈BJ (s.heap.objs.size+2) sc.names cl->∃v,(Vq h2 sc.names).IsCell c v:=λn c m=>by
  rcases BC.mem n c m with z|⟨z,_⟩
  .obtain⟨v,hv⟩:=I.cell n c (hcl n c z).2
   exact⟨v,hv.keeps keep⟩
  .exact⟨YC,z⟩
 have okH:HOk X.prog X.w (upd H s.heap.objs.size (.lst [])) (Vq h2 sc.names):=by
  refine I.hok.laid keep (X3 _) ?_;exact⟨QH _,[],0,.nil,hD⟩
 have kinds:∀x k,sc.names.lookup x=YB k->(relabel sc X.env).names.lookup x=YB (if(k==JG&&X.env.scope.kind== .function&&X.env.kindOf x==YB .cell)then BK else k):=λx k e=>Zfg e;have kindsR:∀x k,(relabel sc X.env).names.lookup x=YB k->∃k',(x,k')∈sc.names/\k=(if(k'==JG&&X.env.scope.kind== .function&&X.env.kindOf x==YB .cell)then BK else k'):=λx k e=>by
  cases q:sc.names.lookup x with
  | none=>
   have:=Zh4 (env:=X.env) q;rw[show(relabel sc X.env).names.lookup x=_ from this]at e;cases e
  | some k'=>
   refine⟨k',Bu q,?_⟩;rw[kinds x k' q]at e;exact(Q9 e).symm
 refine⟨⟨I.ok.mod,S.kind,I.ok.glob,I.ok.blt,?_,?_,?_,?_,I.ok.hd,I.ok.frames,.inl rfl,?_,?_,?_,?_,?_,?_,?_⟩,rfl,I.bare,?_,?_,?_,?_,?_,(λp hp=>nomatch hp),okH,?_⟩
 .show s.heap.objs.size<=s.heap.objs.size+1;omega
 .intro x y c e1 e2
  exact name_of_addr AP (lk' x c e1) (lk' y c e2)
 .intro x hx
  rcases hx with hx|hx
  .obtain⟨k',hm,hk'⟩:=kindsR x _ hx
   cases k' with
   | cell=>
    obtain⟨c,hc⟩:=BC.has x hm;obtain⟨d,h1,_⟩:=Y7 hc;exact⟨d,h1⟩
   | free=>
    obtain⟨c,hc⟩:=hcl2 _ hm;obtain⟨d,h1,_⟩:=Y7 (BC.old _ hc);exact⟨d,h1⟩
   | _=>simp at hk'
  .obtain⟨k',hm,hk'⟩:=kindsR x _ hx
   cases k' with
   | free=>
    obtain⟨c,hc⟩:=hcl2 _ hm;obtain⟨d,h1,_⟩:=Y7 (BC.old _ hc);exact⟨d,h1⟩
   | _=>simp at hk'
 .intro x c hf e
  have hf':sc.names.lookup x=YB .cell:=by simpa [Wa]using hf
  rcases BC.mem x c (lk' x c e)with z|⟨_,z,_⟩
  .-- a free one and a cell at once: the name stands once
   exfalso;have q:=S.lk (hcl x c z).1;rw[hf']at q;cases q
  .show s.heap.objs.size<=c;omega
 .intro b hb
  obtain⟨o,ho⟩:=fo b hb;have hlt:=XN ho;refine⟨XF (Nat.lt_trans hlt (Vj _)),λx c e z=>?_⟩;rcases BC.mem x c (lk' x c e)with q|⟨_,q,_⟩
  .exact(f b hb).2.2.2.2.1 x c (hcl x c q).2 z
  .subst z
   exact YX hlt (Nat.not_lt.mpr (QD (Vk _ 2) q))
 .exact I.bs
 .exact QD I.ok.bsz I.sz
 .intro b o e hb
  rcases(f b hb).2.2.2.1 with z|z
  .exact I.ok.noex b o e z
  .exact YX (Qq (XN e) I.ok.bsz) (Nat.not_lt.mpr z)
 .intro b hb z
  rcases Xm.mp (I.stkSub b z)with q|q
  .exact(f b hb).2.1 q
  .exact(f b hb).2.2.1 q
 .exact I.stack
 .exact I.stkFree
 .exact Un.laid keep (X3 _) hnD
 .refine⟨_,hC,λi x v e1 e2 e3=>?_⟩
  have e1':(own++caps.map λi=>X.N.getD i Str.empty)[i]? =YB x:=by rw[<-S.names];exact e1
  have e2':(own.map (λ_=>(YC:Option V))++caps.map λi=>(Y[i]?).getD YC)[i]? =YB (YB v):=e2
  by_cases hi:i<own.length
  .rw[QK (by simpa using hi),Xp]at e2'
   cases q:own[i]? with
   | none=>rw[q]at e2';cases e2'
   | some y=>rw[q]at e2';cases e2'
  .rw[Qw (by simpa using hi),Xp]at e2'
   rw[Qw (by omega),Xp]at e1';rw[Xd]at e2';cases q:caps[i-own.length]? with
   | none=>rw[q]at e2';cases e2'
   | some j=>
    rw[q]at e1' e2';have e1:X.N.getD j Str.empty=x:=Q9 e1';have e2:(Y[j]?).getD YC=YB v:=Q9 e2';have e4:Y[j]? =YB (YB v):=by
     cases r:Y[j]? with
     | none=>rw[r]at e2;cases e2
     | some o=>rw[r]at e2;exact YT YB e2
    have hj:j<X.N.length:=by rw[<-I.len];exact(Xw.mp e4).1
    have e5:X.N[j]? =YB x:=by rw[<-e1];simp[Xb,hj]
    have hc:=Vg.mp S.caps j (Qz q);have e6:sc.names.lookup x=YB .free:=by rw[<-e1];simpa using hc
    have hm:=Bu e6;have kx:=S.fr hm;obtain⟨m,hn,hl⟩:=I.loc;obtain⟨u,ru,lo⟩:=hl j x v e5 e4 (by rcases kx with z|z;exact .inr (.inl z);exact .inr (.inr z));refine⟨u,ru,.inr ⟨?_,?_⟩⟩
    .have:=kinds x _ e6
     show(relabel sc X.env).names.lookup x=_\/(relabel sc X.env).names.lookup x=_;rw[this];split
     .exact .inl rfl
     .exact .inr rfl
    .rcases lo with⟨z,_⟩|⟨_,c,hc1,hc2⟩
     .rcases kx with w|w<;>(rw[w]at z;cases z)
     .obtain⟨d,hd⟩:=hcl2 x hm
      obtain⟨d',h1,h2⟩:=Y7 (BC.old _ hd);refine⟨d',h1,?_⟩;rcases BC.mem x d' h2 with w|⟨_,_,w⟩
      .have w':=(hcl x d' w).2
       rw[hc1]at w';cases w';exact hc2.keeps keep
      .have:=S.lk w
       rw[e6]at this;cases this
 .intro x c e
  exact isc x c (lk' x c e)
 .exact fresh _ (Vj _)
 .intro x c e
  rcases BC.mem x c (lk' x c e)with z|⟨_,z,_⟩
  .have e':=(hcl x c z).2
   have hlt:=cellOld x c e';rw[Yc (XF hlt)];exact I.freeC x c e'
  .exact fresh c (by omega)
 .show(Za5 own caps Y).length=N'.length
  rw[S.names];unfold Za5;simp
end
def Z4v(J:It)(g:TG)(tt:TT)(te:TE)(Y0:St)(D:YG)(Q:Hp->Prop)(H1:Hp):Prop :=
 ∃W:Nat->Nat->St->Hp->Prop,(∃m,W 0 m Y0 (upd H1 D (.lst [])))/\∀i m Y' H',W i m Y' H' ->
  (J.stop i H'/\Q H')\/(J.go i H'/\∀x H2,J.yld i H' x H2->g x Y' H2 λY2 H3=>tt Y2 H3 λb H4=>
   if b=YD then te Y2 H4 λy H5=>∃ys,H5 D=YB (.lst ys)/\ys.length<Xz/\∃m',m'<m/\W (i+1) m' Y2 (upd H5 D (.lst (ys++[y])))
   else∃m',m'<m/\W (i+1) m' Y2 H4)
def Z7c(own:List Str)(caps:List Nat)(wi:TI)(g:TG)(tt:TT)(te:TE):TE:=λY H Q=>wi Y H λJ H1=>∀D,H1 D=YC->Z4v J g tt te (Za5 own caps Y) D (Q (.ref D)) H1
def Ye5:TT:=λ_ H Q=>Q YD H
def Z6v(X:Cx)(ifs:List YJ)(t:TT):Prop :=
 ∀(pins:List (YG×Obj)) (s:Xh) (Y:St) (H:Hp) (Q:Bool->Hp->Prop),Inv X pins Y H s->t Y H Q ->
  X8 (Qm X.prog X.w) X.A (forIn ifs YD λc r=>if r=YD then do let ok<-isTrue c X.env (eval c X.env);pure (Bp ok)else pure (Bp r)) (TP X pins Y Q) X.xe s
theorem Z4g:Z6v X [] Ye5:=λpins s Y H Q I h=>by
 rw[UL];exact Qd ⟨H,I,h⟩
theorem Z7k{c:YJ}{t:TT}(h:PT X c t):Z6v X [c] t:=λpins s Y H Q I q=>wpAny_tests_one (h pins s Y H Q I q)
theorem Z8m{t:Sem α}{Q Q':α->Xh->Prop}(h:X8 M A t Q (λ_ _=>False) s)(hQ:∀a s,Q a s->Q' a s):X8 M A t Q' E s :=
 Vc h hQ λ_ _ z=>z.elim
section
variable {own:List Str}{caps:List Nat}{N':List Str}{sc:U6}{elt:YJ}{ifs:List YJ}{wi:TI}{g:TG}{tt:TT}
theorem Zsc{p':List (YG×Obj)}{Y Y':St}{fp:List YG}{cells:List (Str×YG)}(I:Inv X pins Y H s)(f:∀b∈fp,Zmn X pins H b)
  (I':Inv (Wa X N' sc C cells s H fp) p' Y' H' s') (hs:Uh C s'.heap h'):Inv X pins Y H' { s' with heap:=h' }:=by
 have hC:s.heap.objs.size<=C:=I'.ok.above;have B:=I'.base;have ne:∀b o,s.heap.get? b=YB o->b≠C:=λb o e=>XF (Qq (XN e) hC);obtain⟨m,⟨oC,_,_,hoC,_⟩,_⟩:=I'.loc;refine I.call' (ch:=fp) (s':={ s' with heap:=h' }) I'.os ⟨λb o e n hb hx=>?_,λb o e n hb hx=>?_,B.free,λb o e hx=>?_,B.tups,B.frzs,B.tbls⟩ (λb ob e=>?_) I'.bare λb hb=>?_
 .exact(hs.2 b (ne b o e)).trans (B.keep b o e n hb hx)
 .obtain⟨sl,q⟩:=B.slot b o e n hb hx
  exact⟨sl,(hs.2 b (ne b o e)).trans q⟩
 .obtain⟨o',q⟩:=B.there b o e hx
  exact⟨o',(hs.2 b (ne b o e)).trans q⟩
 .have hfree:H' C=YC:=I'.free
  refine(I'.hok b ob e).stay (λc w' hc q=>(hs.2 c ?_).trans q) (λ_ q=>q) λ_ _ q=>q;rintro rfl;rcases hc with rfl|hc
  .rw[hfree]at e;cases e
  .rw[hfree]at hc;cases hc
 .obtain⟨_,f1,_,f3,f4,f5⟩:=f b hb
  exact⟨f3,f1,f4,f5⟩
theorem Zku{Qf:Result->Xh->Prop}(S:CompScope X own caps N' sc)(hc:X.calm=YD)
  (hg:∀C cells s₂ H₂ fp,PG (Wa X N' sc C cells s₂ H₂ fp) tg g) (ht:∀C cells s₂ H₂ fp,Z6v (Wa X N' sc C cells s₂ H₂ fp) ifs tt) (he:∀C cells s₂ H₂ fp,PE (Wa X N' sc C cells s₂ H₂ fp) elt te)
   {Y:St}   {fp:List YG} {it:YG} {tn:Nat->YH->Prop} {J:It} {Q:Hp->Prop} (I:Inv X pins Y H s) (T:Turn X.prog X.w X.K tg J fp it tn) (st:tn 0 s.heap) (f:∀b∈fp,Zmn X pins H b)
  (h:Z4v J g tt te (Za5 own caps Y) s.heap.objs.size Q H)
  (fin:∀s' Y' H' p' C cells,Inv (Wa X N' sc C cells s H fp) p' Y' H' s'->C=s.heap.objs.size+1->Q H'->Qf (.ok .next) s') :
  X8 (Qm X.prog X.w) X.A (newFunctionEnv sc X.env.globals (Zj6 X.env sc.names []) [] X.env.qual YC .none (YB X.env)) (λcenv s₄=>
   cenv.locals=s.heap.objs.size+1/\codeAny (Qm X.prog X.w) X.A (.compStart (.ListComp elt [⟨tg,iter,ifs,0⟩] sc pos) 0 (.ref it) (.ref s.heap.objs.size) { cenv with scope:=relabel sc X.env }) Qf s₄) X.xe
    { s with heap:=s.heap.push { cls:=.type "list",data:=.seq #[] } }:=by
 have hf:∀y∈sc.names,y.2= .free->∃c,X.env.cells.lookup y.1=YB c:=λy hy e=>by
  obtain⟨n,k⟩:=y;have e':k= .free:=e;subst e';exact I.ok.has n (S.fr hy)
 have hcl:∀n c,(n,c)∈Zj6 X.env sc.names []->(n,JG)∈sc.names/\X.env.cells.lookup n=YB c:=λn c m=>(Znb sc.names [] hf n c m).elim (λz=>nomatch z) id;have hap:=Zg9 I.ok.inj sc.names [] hf S.nn (λ_ z=>nomatch z) (λ_ z=>nomatch z) .nil;have I0:=Ztb (cl:=Zj6 X.env sc.names []) S I f (λb hb=>let⟨o,e,_⟩:=T.obj _ _ st b hb;⟨o,e⟩) hcl (λn m=>Zlm sc.names [] n m) hap;refine Zj9 ?_;rw[show({ s with heap:=s.heap.push { cls:=.type "list",data:=.seq #[] } }:Xh).heap.objs.size=s.heap.objs.size+1 from Bg ..];refine⟨rfl,?_⟩;dsimp only;generalize hs0:({ s with heap:=Vq ((s.heap.push { cls:=.type "list",data:=.seq #[] }).push { cls:=.type "dict",data:=.dict #[] }) sc.names }:Xh)=s0 at I0|-
 have st0:tn 0 s0.heap:=T.keep _ _ _ st λb hb o e=>by
  rw[<-hs0];exact pushCells_keeps _ _ _ _ (Xl _ (Xl _ e))
 generalize hcells:BJ (s.heap.objs.size+1+1) sc.names (Zj6 X.env sc.names [])=cells at I0|-
 -- the loop
 obtain⟨W,⟨m0,w0⟩,turn⟩:=h;have loop:codeAny (Qm X.prog X.w) X.A (.compLoop (.ListComp elt [⟨tg,iter,ifs,0⟩] sc pos) 0 (.ref it) (.ref s.heap.objs.size) (Wa X N' sc (s.heap.objs.size+1) cells s H fp).env) Qf s0:=by
  generalize hX':Wa X N' sc (s.heap.objs.size+1) cells s H fp=X' at I0|-
  have hg':=hg (s.heap.objs.size+1) cells s H fp;have ht':=ht (s.heap.objs.size+1) cells s H fp;have he':=he (s.heap.objs.size+1) cells s H fp;have fin':=λs' Y' H' p' (z:Inv (Wa X N' sc (s.heap.objs.size+1) cells s H fp) p' Y' H' s')=>fin s' Y' H' p' _ _ z rfl;rw[hX']at hg' ht' he' fin';have hxe:X'.xe= λ_ _=>False:=by rw[<-hX'];rfl
  have hpr:X'.prog=X.prog:=by rw[<-hX'];rfl
  have hw:X'.w=X.w:=by rw[<-hX'];rfl
  have hK:X'.K=X.K:=by rw[<-hX'];rfl
  have hA:X'.A=X.A:=by rw[<-hX'];rfl
  have hcm:X'.calm=YD:=by rw[<-hX'];exact hc
  have hex:X'.ex=fp:=by rw[<-hX'];rfl
  have hpn:X'.pn=[]:=by rw[<-hX'];rfl
  have stat:∀{H':Hp},(∀b∈fp,H' b=YC)->∀b∈fp,Zmn X' [] H' b:=λhn b hb=>by
   have e1:=I0.ok.exf b (by rw[hex];exact hb);have e2:=I0.ok.exfs b (by rw[hex];exact hb);exact⟨hn b hb,e1.1,e2,.inl (by rw[hex];exact hb),e1.2,λp hp=>by rw[hpn]at hp;exact nomatch hp⟩
  have frD:∀b∈fp,(upd H s.heap.objs.size (.lst [])) b=YC:=λb hb=>by
   obtain⟨o,e,_⟩:=T.obj _ _ st b hb;rw[Yc (XF (XN e))];exact(f b hb).1
  have T':Turn X'.prog X'.w X'.K tg J fp it tn:=by rw[hpr,hw,hK];exact T
  rw[<-hpr,<-hw,<-hA];refine Znw (λn s'=>∃i Y' H',Inv X' [] Y' H' s'/\tn i s'.heap/\(∀b∈fp,H' b=YC)/\W i n Y' H') ?_ m0 ⟨0,_,_,I0,st0,frD,w0⟩;rintro n s3 ⟨i,Y3,H3,I3,st3,fr3,w3⟩;rcases turn i n Y3 H3 w3 with⟨stop,qn⟩|⟨go,step⟩
  .refine Z8m (T'.done X' rfl rfl rfl hcm i [] s3 Y3 H3 _ I3 (stat fr3) st3 stop) λr s4 qz9=>?_
   obtain⟨hr,I4⟩:=qz9;subst hr;exact fin' s4 Y3 H3 [] I4 qn
  .refine Z8m (T'.item X' rfl rfl rfl hcm i [] s3 Y3 H3 _ I3 (stat fr3) st3 go) λr s4 qz9=>?_
   obtain⟨u,hr,h4⟩:=qz9;subst hr;refine Z8m h4 λ_ s5 qz9=>?_;obtain⟨x,H5,I5,r5,y5,st5,fr5⟩:=qz9;have I5':=I5.pinned (stat fr5) (T.obj _ _ st5);have hgg:=hg' _ s5 Y3 H5 x u _ I5' r5 (step x H5 y5);rw[hxe]at hgg;refine Z8m hgg λ_ s6 qz9=>?_;obtain⟨Y6,H6,I6,q6⟩:=qz9;have htt:=ht' _ s6 Y6 H6 _ I6 q6;rw[hxe]at htt;refine Z8m htt λok s7 qz9=>?_;obtain⟨H7,I7,q7⟩:=qz9;have again:∀{Y7:St} {H7:Hp} {s7:Xh} {m:Nat},Inv X' ([]++Zns fp s5.heap) Y7 H7 s7->W (i+1) m Y7 H7->m<n->∃m,m<n/\∃i Y' H',Inv X' [] Y' H' s7/\tn i s7.heap/\(∀b∈fp,H' b=YC)/\W i m Y' H':=fun{Y7 H7 s7 m} I7 w7 hm=>by
    refine⟨m,hm,i+1,Y7,H7,I7.unpinned,T.keep _ _ _ st5 λb hb o e=>(I7.pin (b,o) (Qn _ (Qn _ (Zew hb e)))).1,λb hb=>?_,w7⟩;obtain⟨o,e,d⟩:=T.obj _ _ st5 b hb;exact(I7.pin (b,o) (Qn _ (Qn _ (Zew hb e)))).2.1
   cases ok with
   | false=>
    obtain⟨m',hm,w7⟩:=q7;rw[YM Xn];exact again I7 w7 hm
   | true=>
    rw[YL rfl];have hee:=he' _ s7 Y6 H7 _ I7 q7;rw[hxe]at hee;refine Z8m hee λy s8 qz9=>?_;obtain⟨vy,H8,I8,r8,ys,hD,hlen,m',hm,w8⟩:=qz9;have hap:=Znr (X:=X') _ s8 Y6 H8 (.ref s.heap.objs.size) [vy] (.ref s.heap.objs.size) [y] (λ_ H'=>W (i+1) m' Y6 H') I8 rfl (.cons r8 .nil) ⟨_,ys,vy,rfl,rfl,hD,hlen,w8⟩;rw[hxe]at hap;refine Z8m hap λz s9 qz9=>?_;obtain⟨_,H9,I9,_,w9⟩:=qz9;exact again I9 w9 hm
 exact codeAny_compStart_list loop (T.self _ 0 _ _ _ st0 loop)
theorem Z53(S:CompScope X own caps N' sc)(hc:X.calm=YD)(hi:PI X tg iter wi)
  (hg:∀C cells s₂ H₂ fp,PG (Wa X N' sc C cells s₂ H₂ fp) tg g) (ht:∀C cells s₂ H₂ fp,Z6v (Wa X N' sc C cells s₂ H₂ fp) ifs tt) (he:∀C cells s₂ H₂ fp,PE (Wa X N' sc C cells s₂ H₂ fp) elt te)
  (hs:∀x,By iter X.env x=pure x:=by intro _;rfl):PE X (.ListComp elt [⟨tg,iter,ifs,0⟩] sc pos) (Z7c own caps wi g tt te):=by
 intro pins s Y H Q I h;rw[eval_ListComp];have hf:∀y∈sc.names,y.2= .free->∃c,X.env.cells.lookup y.1=YB c:=λy hy e=>by
  obtain⟨n,k⟩:=y;have e':k= .free:=e;subst e';exact I.ok.has n (S.fr hy)
 refine wpAny_comprehension_free (use:=YC) rfl hs (Ze5 hf) S.kind (λy hy e=>by obtain⟨n,k⟩:=y;have e':k= .local:=e;subst e';exact S.lk hy) ?_;refine thn (hi pins s Y H _ I h) λv s1 h1=>thn h1 λitv s2 h2=>?_;obtain⟨it,fp,tn,J,H2,e,I2,T,st2,f2,q⟩:=h2;subst e;refine wpAny_newObj_type ?_;refine thn (Zku (iter:=iter) (pos:=pos) (Qf:=compPost (Qm X.prog X.w) X.A X.xe YC (EP X pins Y Q) (.ref s2.heap.objs.size) (s2.heap.objs.size+1)) S hc hg ht he I2 T st2 f2 (q s2.heap.objs.size I2.fresh) ?_) λcenv s4 ⟨hl,hr⟩=>?_
 .intro s' Y' H' p' C cells I' eC q'
  subst eC;obtain⟨m,hn,_⟩:=id I'.loc;exact⟨m,hn,λh' hs'=>⟨.ref s2.heap.objs.size,H',Zsc I2 f2 I' hs',rfl,q'⟩⟩
 .rw[<-hl]at hr
  exact hr
end
section
variable {own:List Str}{caps:List Nat}{N':List Str}{sc:U6}{elt:YJ}{ifs:List YJ}{wi:TI}{g:TG}{tt:TT}
theorem Zla{y:Str}{py spos:Pos}(hN:X.N.Nodup)(hy:X.N[i]? =YB y)(hx:Loc X.env.scope y)(S:CompScope X own caps N' sc)(hc:X.calm=YD)(hi:PI X tg iter wi)
  (hg:∀C cells s₂ H₂ fp,PG (Wa X N' sc C cells s₂ H₂ fp) tg g) (ht:∀C cells s₂ H₂ fp,Z6v (Wa X N' sc C cells s₂ H₂ fp) ifs tt) (he:∀C cells s₂ H₂ fp,PE (Wa X N' sc C cells s₂ H₂ fp) elt te)
  (hsw:V9 (.ListComp elt [⟨tg,iter,ifs,0⟩] sc pos) (YB (.Name y py)) spos.line X.env=pure YD:=by rfl)
  (hs:∀x,By iter X.env x=pure x:=by intro _;rfl) (hf:X.fn y=YD\/X.env.scope.names.lookup y=YB .local:=by first|exact .inl rfl|exact .inr rfl|assumption) :
  PS X (.Assign [.Name y py] (.ListComp elt [⟨tg,iter,ifs,0⟩] sc pos) spos) (Ya8 (Z7c own caps wi g tt te) (Zxl i)):=by
 intro pins s Y H D I h;have hfr:∀y∈sc.names,y.2= .free->∃c,X.env.cells.lookup y.1=YB c:=λy hy e=>by
  obtain⟨n,k⟩:=y;have e':k= .free:=e;subst e';exact I.ok.has n (S.fr hy)
 rw[exec_Assign_Name_used _ _ _ _ hsw];refine Xi (wpAny_standAt (Xi ?_));show X8 _ X.A (do let _<-comprehension (.ListComp elt [⟨tg,iter,ifs,0⟩] sc pos) sc X.env _ (newList []) YF (eval iter X.env) (YB (assign (.Name y py) X.env))) _ _ s;refine Xi (Vc (wpAny_comprehension_free (use:=YB (assign (.Name y py) X.env)) (Q:=λ_ s'=>SP X pins D .next s') rfl hs (Ze5 hfr) S.kind (λy hy e=>by obtain⟨n,k⟩:=y;have e':k= .local:=e;subst e';exact S.lk hy) ?_) (λ_ s' hq=>Qd (Qd hq)) λ_ _ e=>e);refine thn (hi pins s Y H _ I h) λv s1 h1=>thn h1 λitv s2 h2=>?_;obtain⟨it,fp,tn,J,H2,e,I2,T,st2,f2,q⟩:=h2;subst e;refine wpAny_newObj_type ?_;refine thn (Zku (iter:=iter) (pos:=pos) (Qf:=compPost (Qm X.prog X.w) X.A X.xe (YB (assign (.Name y py) X.env)) (λ_ s'=>SP X pins D .next s') (.ref s2.heap.objs.size) (s2.heap.objs.size+1)) S hc hg ht he I2 T st2 f2 (q s2.heap.objs.size I2.fresh) ?_) λcenv s4 ⟨hl,hr⟩=>?_
 .intro s' Y' H' p' C cells I' eC q'
  subst eC;obtain⟨m,hn,_⟩:=id I'.loc;have I3:Inv X pins Y H' s':=Zsc I2 f2 I' (.refl ..);show X8 _ X.A (assign (.Name y py) X.env (.ref s2.heap.objs.size)) _ _ s';refine wpAny_assign_Name (Zoe (v:=.ref s2.heap.objs.size) I3 hN hy hx rfl (λs5 I5 hsb=>?_) hf);have hC:s2.heap.objs.size<s2.heap.objs.size+1:=Vj _;have ltL:X.env.locals<s2.heap.objs.size:=I2.lt;have ltC:∀x c,X.env.cells.lookup x=YB c->c<s2.heap.objs.size:=λx c e=>by
   obtain⟨w',z⟩:=I2.cell x c e;exact z.lt
  refine⟨m,?_,λh' hs'=>⟨Y.set i (YB (.ref s2.heap.objs.size)),H',?_,q'⟩⟩
  .obtain⟨a,hsa,ha⟩:=hsb
   refine hn.sameBut hsa ?_;rcases ha with ha|ha
   .rw[ha];exact X6 (Nat.lt_trans ltL hC)
   .exact X6 (Nat.lt_trans (ltC _ _ ha) hC)
  .refine I5.turned (t':=s5.toks) (it:=s2.heap.objs.size+1) (λb o hb e=>(hs'.2 b hb).trans e) I'.free (X6 (Nat.lt_trans ltL hC)) (.inr (QD I2.sz (VM hC))) (λx c e=>XF (Nat.lt_trans (ltC x c e) hC)) λp hp=>?_
   obtain⟨e,_⟩:=I2.pin p hp;exact XF (Nat.lt_trans (XN e) hC)
 .rw[<-hl]at hr
  exact hr
end
section
variable (n:Nat)(D:YG)(Pv:Nat->List V->St->Hp->Prop)
variable {n D Pv}
end
mutual
inductive Is(H:Hp)(L:YG->Prop):V->Xa->Prop where
 | non:Is H L .non .none
 | bl (b:Bool):Is H L (.bl b) (.bool b)
 | int (i:Int):Is H L (.int i) (.int i)
 | str (x:Str):Is H L (.str x) (.str x)
 | lst {a:YG} {xs:List V} {ds:List Xa}:L a->H a=YB (.lst xs)->IsAll H L xs ds->Is H L (.ref a) (.list ds)
 | tup {a:YG} {xs:List V} {ds:List Xa}:H a=YB (.tup xs)->IsAll H L xs ds->Is H L (.ref a) (.tuple ds)
inductive IsAll(H:Hp)(L:YG->Prop):List V->List Xa->Prop where
 | nil:IsAll H L [] []
 | cons {x:V} {xs:List V} {d:Xa} {ds:List Xa}:Is H L x d->IsAll H L xs ds->IsAll H L (x::xs) (d::ds)
end
section
variable {L L':YG->Prop}
theorem IsAll.ind{Q:List V->List Xa->Prop}(n:Q [] [])(c:∀{x:V} {xs:List V} {d:Xa} {ds:List Xa},Is H L x d->IsAll H L xs ds->Q xs ds->Q (x::xs) (d::ds)):∀{xs ds},IsAll H L xs ds->Q xs ds:=λh=>
 IsAll.rec (motive_1:=λ_ _ _=>True) (motive_2:=λxs ds _=>Q xs ds) trivial (λ_=>trivial) (λ_=>trivial) (λ_=>trivial) (λ_ _ _ _=>trivial) (λ_ _ _=>trivial) n (λp q _ r=>c p q r) h
theorem IsAll.length{xs:List V}{ds:List Xa}(h:IsAll H L xs ds):xs.length=ds.length:=IsAll.ind (Q:=λxs ds=>xs.length=ds.length) rfl (λ_ _ r=>YT (·+1) r) h
theorem IsAll.set{xs:List V}{ds:List Xa}{x:V}{d:Xa}(i:Nat)(h:IsAll H L xs ds)(k:Is H L x d):IsAll H L (xs.set i x) (ds.set i d) :=
 IsAll.ind (Q:=λxs ds=>∀i,IsAll H L (xs.set i x) (ds.set i d)) (λ_=>.nil) (λh q r i=>Nat.casesOn i (.cons k q) λi=>.cons h (r i)) h i
end
section
variable {Y:St}{L L':YG->Prop}
end
abbrev Shp(d:Xa):Prop:=Uz d=YD
mutual
def Wf:Xa->Bool
 | .none=>YD
 | .int _=>YD
 | .str _=>YD
 | .list ds=>Zfu ds
 | .tuple ds=>Zfu ds
 | _=>YF
def Zfu:List Xa->Bool
 | []=>YD
 | d::ds=>Wf d&&Zfu ds
end
mutual
theorem Zlt:∀(d e:Xa),Wf d=YD->Wf e=YD->(Q6 d e=YD↔d=e)
 | .none,e,_,he=>by cases e<;>simp_all [Q6,Wf]
 | .int i,e,_,he=>by cases e<;>simp_all [Q6,Wf]
 | .str i,e,_,he=>by cases e<;>simp_all [Q6,Wf]
 | .list ds,e,hd,he=>by
  cases e with
  | list es=>
   rw[Wf]at hd he;rw[Q6,Qu.injEq];exact Zg6 ds es hd he
  | _=>simp_all [Q6,Wf]
 | .tuple ds,e,hd,he=>by
  cases e with
  | tuple es=>
   rw[Wf]at hd he;rw[Q6,Xa.tuple.injEq];exact Zg6 ds es hd he
  | _=>simp_all [Q6,Wf]
 | .bool b,e,hd,_=>by simp[Wf]at hd
 | .dict b,e,hd,_=>by simp[Wf]at hd
theorem Zg6:∀(ds es:List Xa),Zfu ds=YD->Zfu es=YD->(PyData.eqvAll ds es=YD↔ds=es)
 | [],[],_,_=>by simp[PyData.eqvAll]
 | [],_::_,_,_=>by simp[PyData.eqvAll]
 | _::_,[],_,_=>by simp[PyData.eqvAll]
 | d::ds,e::es,hd,he=>by
  rw[Zfu,XC]at hd he;rw[PyData.eqvAll,XC,Zlt d e hd.1 he.1,Zg6 ds es hd.2 he.2,List.cons.injEq]
end
theorem Z2p{d e:Xa}(h:Wf d=YD)(k:Wf e=YD)(q:d=e):Q6 d e=YD:=(Zlt d e h k).mpr q
theorem Ybb{d e:Xa}(h:Wf d=YD)(k:Wf e=YD)(q:d≠e):Q6 d e=YF:=JW.mpr λz=>q ((Zlt d e h k).mp z)
def fr(a b:Int):Xa:=.tuple [.int a,.int b]
theorem Zgj{t b:Int}(hb:b≠0):0<(Bx t b:Int):=by
 have:=Int.gcd_pos_of_ne_zero_right t hb;omega
theorem Zal{t g:Int}(hg:0<g):t.fdiv g=t/g:=Int.fdiv_eq_ediv_of_nonneg t (by omega)
theorem Zd1{t g:Int}(hg:0<g)(h:g∣t):t.fdiv (-g)= -(t/g):=by
 obtain⟨k,rfl⟩:=h;rw[Int.mul_ediv_cancel_left _ (by omega)];have e:g*k=(-k)*(-g):=by rw[Int.neg_mul_neg,Int.mul_comm]
 rw[e,Int.mul_fdiv_cancel _ (by omega)]
def shr(t b:Int):Int:=if b<0 then -(Bx t b:Int)else(Bx t b:Int)
theorem Z40{t b:Int}(hb:b≠0):t.fdiv (shr t b)=(XH t b).num:=by
 have hg:=Zgj (t:=t) hb;have hd:(Bx t b:Int)∣t:=Int.gcd_dvd_left ..;rw[Rat.num_divInt,Int.gcd_comm b t];unfold shr
 by_cases h:b<0
 .rw[YL h,Zd1 hg hd,Int.sign_eq_neg_one_of_neg h,Int.neg_one_mul,Int.neg_ediv_of_dvd hd]
 .rw[YM h,Zal hg,Int.sign_eq_one_of_pos (by omega),Int.one_mul]
theorem Z64{t b:Int}(hb:b≠0):b.fdiv (shr t b)=((XH t b).den:Int):=by
 have hg:=Zgj (t:=t) hb;have hd:(Bx t b:Int)∣b:=Int.gcd_dvd_right ..;rw[Rat.den_divInt,YM hb,Int.gcd_comm b t];unfold shr
 by_cases h:b<0
 .have e:(b.natAbs:Int)= -b:=by omega
  rw[YL h,Zd1 hg hd,Int.natCast_ediv,e,Int.neg_ediv_of_dvd hd]
 .have e:(b.natAbs:Int)=b:=by omega
  rw[YM h,Zal hg,Int.natCast_ediv,e]
theorem Z2t{t b:Int}(hb:b≠0):shr t b≠0:=by
 have hg:=Zgj (t:=t) hb;unfold shr;split<;>omega
theorem Z4e{n:Nat}{t b:Int}(hb:b≠0)(h:Bt n b):Bt n (shr t b):=by
 have h1:Bt n (Bx t b:Int):=by
  refine Bt.of_le h ?_;have:=Int.gcd_le_natAbs_right t hb;omega
 unfold shr;split
 .exact h1.neg
 .exact h1
theorem Zq2{n:Nat}{t b:Int}(hb:b≠0)(h:Bt n t):Bt n (XH t b).num:=by
 rw[Rat.num_divInt];refine Bt.of_le h ?_;refine QD (Int.natAbs_ediv_le_natAbs _ _) ?_;rw[Int.natAbs_mul];have:b.sign.natAbs<=1:=by
  rw[Int.natAbs_sign];split<;>omega
 calc b.sign.natAbs*t.natAbs<=1*t.natAbs:=Nat.mul_le_mul_right _ this
  _=t.natAbs:=Nat.one_mul _
theorem Z28{n:Nat}{t b:Int}(hb:b≠0)(h:Bt n b):Bt n ((XH t b).den:Int):=by
 rw[Rat.den_divInt,YM hb];refine Bt.of_le h ?_;show((b.natAbs/b.gcd t:Nat):Int).natAbs<=_;rw[Int.natAbs_natCast];exact Nat.div_le_self _ _
theorem Zwn(q:Rat):(q.den:Int)≠0:=by
 have:=q.den_pos;omega
theorem Zcx(q:Rat):(0:Int)<(q.den:Int):=by
 have:=q.den_pos;omega
theorem Zrh(q r:Rat):XH (q.num*(r.den:Int)+r.num*(q.den:Int)) ((q.den:Int)*(r.den:Int))=q+r:=by
 rw[Rat.add_def',<-Int.natCast_mul,Rat.divInt_ofNat]
theorem Zxr(q r:Rat):q.num*(r.den:Int)<r.num*(q.den:Int)↔q<r:=(Rat.lt_iff q r).symm
def frD(q:Rat):Xa:=fr q.num (q.den:Int)
def BQ(n:Nat)(q:Rat):Prop:=Bt n q.num/\Bt n (q.den:Int)
section
variable {a b o:YJ}{tl:TE}
theorem Zzj(hK:X.K=K):IxR X (Yhg K):=hK▸Zvx
theorem Zm1(hK:X.K=K):IxR X (rIx K):=hK▸Ydp
theorem Z0v(hK:X.K=K):SlR X (Yi1 K):=hK▸Z4q
def Yix(K:Xc):List V->Hp->VK->Prop:=λxs H Q=>∃p ys,xs=[.ref p]/\(SqL K H p ys\/SqT K H p ys)/\Q (.int ys.length) H
theorem Zcp(hK:X.K=K):Zbn X (.builtin "len") (Yix K):=by subst hK;exact Zox
def Zut(K:Xc):List V->Hp->VK->Prop:=λxs H Q=>∃p ys,xs=[.ref p]/\(SqL K H p ys\/SqT K H p ys)/\∀l,H l=YC->Q (.ref l) (upd H l (.lst ys))
theorem Zkr(hK:X.K=K):Zbn X (.type "list") (Zut K):=by subst hK;exact Zo3
def Yk3(K:Xc)(ta:TE):TT:=λY H Q=>ta Y H λx H'=>∃k,Yg3 K x H' k/\Q k H'
theorem Z5c(hK:X.K=K)(ha:PE X a ta)(he:∀whole,isTrue a X.env whole=(do let v<-whole;standAt a.pos;holding [v] (truthy v))):PT X a (Yk3 K ta):=by subst hK;exact Z0i ha he
theorem Z13{l:YJ}(hK:X.K=K)(hl:PE X l tl):PI X tg l (Yb7 K tl):=by subst hK;exact Z7m hl
theorem Z2r(hK:X.K=K):OpR X (Br .In) (rIn K YF):=by subst hK;exact Zv5
theorem Zpa(hK:X.K=K):OpR X (Br .NotIn) (rIn K YD):=by subst hK;exact Znt
end
theorem Z9{p:YG}(h:H p=YC)(o:HO):Same H (upd H p o):=λb u q=>by rw[Yc (Wd q h)];exact q
def But(p:YG)(H H':Hp):Prop:=∀b o,b≠p->H b=YB o->H' b=YB o
theorem But.upd(p:YG)(H:Hp)(o:HO):But p H (upd H p o):=λb u n e=>by rw[Yc n];exact e
namespace B
theorem boot_abs:Qh "abs"=YB (.builtin "abs"):=by decide +kernel
theorem boot_len:Qh "len"=YB (.builtin "len"):=by decide +kernel
theorem boot_min:Qh "min"=YB (.builtin "min"):=by decide +kernel
theorem boot_isinstance:Qh "isinstance"=YB (.builtin "isinstance"):=by decide +kernel
theorem boot_sorted:Qh "sorted"=YB (.builtin "sorted"):=by decide +kernel
theorem boot_int:Qh "int"=YB (.type "int"):=by decide +kernel
theorem boot_bool:Qh "bool"=YB (.type "bool"):=by decide +kernel
theorem boot_str:Qh "str"=YB (.type "str"):=by decide +kernel
theorem boot_list:Qh "list"=YB (.type "list"):=by decide +kernel
theorem boot_tuple:Qh "tuple"=YB (.type "tuple"):=by decide +kernel
theorem boot_range:Qh "range"=YB (.type "range"):=by decide +kernel
theorem boot_zip:Qh "zip"=YB (.type "zip"):=by decide +kernel
theorem boot_enumerate:Qh "enumerate"=YB (.type "enumerate"):=by decide +kernel
theorem boot_set:Qh "set"=YB (.type "set"):=by decide +kernel
end B
theorem Zgb{a b:Int}(hb:0<b):a.fmod b=a%b:=Int.fmod_eq_emod_of_nonneg a (by omega)
theorem Z0k{x y:Int}(hx:0<=x)(hy:0<y):Bx y (x.fmod y)=Bx x y:=by
 rw[Zgb hy,Int.gcd_comm x y];have e:=Int.emod_add_mul_ediv x y
 conv=>rhs;rw[<-e]
 rw[Int.gcd_add_mul_left_right]
theorem Z3b:(2:Nat)<=Xz:=by decide
theorem Z1m(q:Rat):XH q.num (q.den:Int)=q:=Rat.num_divInt_den q
theorem BQ.n{n:Nat}{q:Rat}(h:BQ n q):Bt n q.num:=h.1
theorem BQ.d{n:Nat}{q:Rat}(h:BQ n q):Bt n (q.den:Int):=h.2
theorem Yk8(q:Rat):(((q.den:Int)):Rat)≠0:=by
 intro z;exact Zwn q (Rat.intCast_eq_zero_iff.mp z)
theorem Yjr(q:Rat):((q.num:Int):Rat)=q*(((q.den:Int)):Rat):=by
 have h:=Z1m q;rw[Q5]at h;have d:=Yk8 q
 conv=>rhs;lhs;rw[<-h]
 grind
variable {XP:(Str->Option Xe)->YH->Prop}{L L':YG->Prop}{env:Env}{elt:YJ}{y b:Int}{J:It}{ifs:List YJ}{ns:List Int}{caps:List Nat}{loose own N':List Str}{ds:List Xa}{py spos:Pos}{YP:QJ->YH->Prop}{G:Xc}
def KS(G:Xc)(a:YG)(ns:List Int):Prop:=∃(o:Obj) (its:Array Xe) (n:Nat),G.lookup a=YB o/\o.cls= .type "list"/\o.dict=YC/\o.data= .seq its n/\its.size<=Xz/\Vals (ns.map V.int) its.toList
theorem KS.sq(h:KS G a ns):SqL G H a (ns.map V.int):=.inr h
def exD(x:Str):Xa:=.dict [(.str x,.none)]
def fnD(x:Str):Xa:=.dict [(.str x,.bool YD)]
def Ziu:Xa->Bool| .dict ((_,.bool _)::_)=>YD|_=>YF
def ClsAt(G:Xc)(x:Str)(C:YG):Prop:=Q8 G Ql x=YB (YB (.ref C))
structure Zf1(G:Xc)(C:YG):Prop where
 ga:Vv G (.ref C) "__getattribute__"=YB (YB (.builtin "BaseException.__getattribute__"))
 gt:Vv G (.ref C) "__getattr__"=YB YC
 cl:Vv G (.ref C) "__class__"=YB (YB (.builtin "object.__class__"))
 isB:PySem.W.subIn G (.ref C) (.type "BaseException")=YB YD
 isO:PySem.W.subIn G (.ref C) (.type "object")=YB YD
 isC:(PySem.W.clsIn G C).isSome=YD
 k1:Vu G (.ref C) (.type "int")=YB YF
 k2:Vu G (.ref C) (.type "bool")=YB YF
 k3:Vu G (.ref C) (.type "str")=YB YF
 k4:Vu G (.ref C) (.type "list")=YB YF
 k5:Vu G (.ref C) (.type "tuple")=YB YF
def ExO(C a:YG)(h:YH):Prop:=∃o vs,h.get? a=YB o/\o.cls= .ref C/\o.data= .fields vs
inductive ImO where
 | tup (xs:List V)
 | ext (φ:YH->Prop)
def ImO.ho:ImO->HO
 | .tup xs=>.tup xs
 | .ext φ=>.ext φ
inductive MuO where
 | lst (xs:List V)
 | dK (kvs:List (Key×V))
 | dT (kvs:List (List Key×V))
def MuO.ho:MuO->HO
 | .lst xs=>.lst xs
 | .dK kvs=>.dK kvs
 | .dT kvs=>.dT kvs
def Yij:Key->Xa
 | .inl i=>.int i
 | .inr x=>.str x
def Ykq(ks:List Key):Xa:=.tuple (ks.map Yij)
abbrev KY:=Sum Key (List Key)
def kyD:KY->Xa
 | .inl k=>Yij k
 | .inr ks=>Ykq ks
def MuO.dic(t:Bool)(ks:List KY)(xs:List V):MuO->Prop
 | .lst _=>False
 | .dK kvs=>t=YF/\ks=kvs.map (λp=>.inl p.1)/\xs=kvs.map (·.2)
 | .dT kvs=>t=YD/\ks=kvs.map (λp=>.inr p.1)/\xs=kvs.map (·.2)
def dcD(t:Bool)(ks:List KY)(ds:List Xa):Xa:=.dict ((.none,.bool t)::(ks.map kyD).zip ds)
theorem ImO.nm{x:ImO}{y:MuO}(h:H a=YB x.ho)(h':H a=YB y.ho):False:=by
 rw[h]at h';cases x<;>cases y<;>cases h'
theorem ImO.nl{x:ImO}{ys:List V}(h:H a=YB x.ho)(h':H a=YB (.lst ys)):False:=by
 rw[h]at h';cases x<;>cases h'
mutual
inductive Da(G:Xc)(H:Hp)(L:YG->Prop):V->Xa->Prop where
 | non:Da G H L .non .none
 | bl (b:Bool):Da G H L (.bl b) (.bool b)
 | int (i:Int):Da G H L (.int i) (.int i)
 | str (x:Str):Da G H L (.str x) (.str x)
 | lst {a:YG} {xs:List V} {ds:List Xa}:L a->Rd H a (.lst xs)->Das G H L xs ds->Da G H L (.ref a) (.list ds)
 | tup {a:YG} {xs:List V} {ds:List Xa}:H a=YB (.tup xs)->Das G H L xs ds->Da G H L (.ref a) (.tuple ds)
 | scr {a:YG} {ns:List Int}:KS G a ns->Da G H L (.ref a) (.list (ns.map Xk))
 | exc {a C:YG} {x:Str}:Zf1 G C->ClsAt G x C->H a=YB (.ext (ExO C a))->Da G H L (.ref a) (exD x)
 | fn {a:YG} {x:Str}:ClsAt G x a->Da G H L (.ref a) (fnD x)
 | dic {a:YG} {o:MuO} {t:Bool} {ks:List KY} {xs:List V} {ds:List Xa}:L a->Rd H a o.ho->o.dic t ks xs->Das G H L xs ds->Da G H L (.ref a) (dcD t ks ds)
inductive Das(G:Xc)(H:Hp)(L:YG->Prop):List V->List Xa->Prop where
 | nil:Das G H L [] []
 | cons {x:V} {xs:List V} {d:Xa} {ds:List Xa}:Da G H L x d->Das G H L xs ds->Das G H L (x::xs) (d::ds)
end
theorem Da.both{P:V->Xa->Prop}{Q:List V->List Xa->Prop}(c1:P .non .none)(c2:∀b,P (.bl b) (.bool b))(c3:∀i,P (.int i) (.int i))(c4:∀x,P (.str x) (.str x))
  (c5:∀{a:YG} {xs:List V} {ds:List Xa},L a->Rd H a (.lst xs)->Q xs ds->P (.ref a) (.list ds)) (c6:∀{a:YG} {xs:List V} {ds:List Xa},H a=YB (.tup xs)->Q xs ds->P (.ref a) (.tuple ds))
  (c7:∀{a:YG} {ns:List Int},KS G a ns->P (.ref a) (.list (ns.map Xk))) (c8:∀{a C:YG} {x:Str},Zf1 G C->ClsAt G x C->H a=YB (.ext (ExO C a))->P (.ref a) (exD x)) (c9:∀{a:YG} {x:Str},ClsAt G x a->P (.ref a) (fnD x))
  (c10:∀{a:YG} {o:MuO} {t:Bool} {ks:List KY} {xs:List V} {ds:List Xa},L a->Rd H a o.ho->o.dic t ks xs->Q xs ds->P (.ref a) (dcD t ks ds)) (n:Q [] []) (c:∀{x:V} {xs:List V} {d:Xa} {ds:List Xa},P x d->Q xs ds->Q (x::xs) (d::ds)):(∀{v d},Da G H L v d->P v d)/\∀{xs ds},Das G H L xs ds->Q xs ds :=
 ⟨λh=>Da.rec (motive_1:=λv d _=>P v d) (motive_2:=λxs ds _=>Q xs ds) c1 c2 c3 c4 (λp e _ r=>c5 p e r) (λe _ r=>c6 e r) (λk=>c7 k) (λk l m=>c8 k l m) (λk=>c9 k) (λp e k _ r=>c10 p e k r) n (λ_ _ p q=>c p q) h,
   λh=>Das.rec (motive_1:=λv d _=>P v d) (motive_2:=λxs ds _=>Q xs ds) c1 c2 c3 c4 (λp e _ r=>c5 p e r) (λe _ r=>c6 e r) (λk=>c7 k) (λk l m=>c8 k l m) (λk=>c9 k) (λp e k _ r=>c10 p e k r) n (λ_ _ p q=>c p q) h⟩
theorem Das.ind{Q:List V->List Xa->Prop}(n:Q [] [])(c:∀{x:V} {xs:List V} {d:Xa} {ds:List Xa},Da G H L x d->Das G H L xs ds->Q xs ds->Q (x::xs) (d::ds)):∀{xs ds},Das G H L xs ds->Q xs ds:=λh=>
 Das.rec (motive_1:=λ_ _ _=>True) (motive_2:=λxs ds _=>Q xs ds) trivial (λ_=>trivial) (λ_=>trivial) (λ_=>trivial) (λ_ _ _ _=>trivial) (λ_ _ _=>trivial) (λ_=>trivial) (λ_ _ _=>trivial) (λ_=>trivial) (λ_ _ _ _ _=>trivial) n (λp q _ r=>c p q r) h
theorem Da.frame2(hl:∀a (xs:MuO),L a->Rd H a xs.ho->L' a/\Rd H' a xs.ho)(ht:∀a (xs:ImO),H a=YB xs.ho->H' a=YB xs.ho):(∀{v:V} {d:Xa},Da G H L v d->Da G H' L' v d)/\∀{xs:List V} {ds:List Xa},Das G H L xs ds->Das G H' L' xs ds :=
 Da.both .non .bl .int .str (fun{_ xs _} p e r=>.lst (hl _ (.lst xs) p e).1 (hl _ (.lst xs) p e).2 r) (fun{_ xs _} e r=>.tup (ht _ (.tup xs) e) r) .scr (λc n e=>.exc c n (ht _ (.ext _) e)) .fn (λp e k r=>.dic (hl _ _ p e).1 (hl _ _ p e).2 k r) .nil .cons
theorem Da.frame(hl:∀a (xs:MuO),L a->Rd H a xs.ho->L' a/\Rd H' a xs.ho)(ht:∀a (xs:ImO),H a=YB xs.ho->H' a=YB xs.ho){v:V}{d:Xa}(h:Da G H L v d):Da G H' L' v d:=(Da.frame2 hl ht).1 h
theorem Das.frame(hl:∀a (xs:MuO),L a->Rd H a xs.ho->L' a/\Rd H' a xs.ho)(ht:∀a (xs:ImO),H a=YB xs.ho->H' a=YB xs.ho){xs:List V}{ds:List Xa}(h:Das G H L xs ds):Das G H' L' xs ds:=(Da.frame2 hl ht).2 h
theorem Rd.same{u:HO}(s:Same H H')(h:Rd H a u):Rd H' a u:=h.imp (s _ _) λ⟨o,h⟩=>⟨o,s _ _ h⟩
theorem Rd.some{a:YG}{u:HO}(h:Rd H a u):H a≠Option.none:=by
 rcases h with h|⟨o,h⟩<;>rw[h]<;>intro z<;>cases z
theorem Da.same(h:Same H H'){v:V}{d:Xa}(x:Da G H L v d):Da G H' L v d:=x.frame (λa xs p e=>⟨p,e.same h⟩) λa xs e=>h _ _ e
theorem Das.same(h:Same H H'){v:List V}{d:List Xa}(x:Das G H L v d):Das G H' L v d:=x.frame (λa xs p e=>⟨p,e.same h⟩) λa xs e=>h _ _ e
theorem Da.wide(h:∀a,L a->H a≠YC->L' a){v:V}{d:Xa}(x:Da G H L v d):Da G H L' v d:=x.frame (λa xs p e=>⟨h a p e.some,e⟩) λa xs e=>e
theorem Das.wide(h:∀a,L a->H a≠YC->L' a){v:List V}{d:List Xa}(x:Das G H L v d):Das G H L' v d:=x.frame (λa xs p e=>⟨h a p e.some,e⟩) λa xs e=>e
theorem Das.length{xs:List V}{ds:List Xa}(h:Das G H L xs ds):xs.length=ds.length:=Das.ind (Q:=λxs ds=>xs.length=ds.length) rfl (λ_ _ r=>YT (·+1) r) h
theorem Das.append{xs ys:List V}{es:List Xa}(h:Das G H L xs ds)(k:Das G H L ys es):Das G H L (xs++ys) (ds++es):=Das.ind (Q:=λxs ds=>Das G H L (xs++ys) (ds++es)) k (λh _ r=>.cons h r) h
theorem Das.get{xs:List V}{d:Xa}(h:Das G H L xs ds):ds[i]? =YB d->∃x,xs[i]? =YB x/\Da G H L x d :=
 Das.ind (Q:=λxs ds=>∀i,ds[i]? =YB d->∃x,xs[i]? =YB x/\Da G H L x d) (λ_ e=>(Option.some_ne_none _ (e.symm.trans List.getElem?_nil)).elim) (fun{x _ _ _} h _ r i=>Nat.casesOn i (λe=>⟨x,rfl,Q9 e▸h⟩) λi e=>r i e) h i
theorem Das.get'{xs:List V}{x:V}(h:Das G H L xs ds):xs[i]? =YB x->∃d,ds[i]? =YB d/\Da G H L x d :=
 Das.ind (Q:=λxs ds=>∀i,xs[i]? =YB x->∃d,ds[i]? =YB d/\Da G H L x d) (λ_ e=>(Option.some_ne_none _ (e.symm.trans List.getElem?_nil)).elim) (fun{_ _ d _} h _ r i=>Nat.casesOn i (λe=>⟨d,rfl,Q9 e▸h⟩) λi e=>r i e) h i
theorem Das.take{xs:List V}(n:Nat)(h:Das G H L xs ds):Das G H L (xs.take n) (ds.take n) :=
 Das.ind (Q:=λxs ds=>∀n,Das G H L (xs.take n) (ds.take n)) (λn=>by rw[List.take_nil,List.take_nil];exact .nil) (λh _ r n=>Nat.casesOn n .nil λn=>.cons h (r n)) h n
theorem Das.drop{xs:List V}(n:Nat)(h:Das G H L xs ds):Das G H L (xs.drop n) (ds.drop n) :=
 Das.ind (Q:=λxs ds=>∀n,Das G H L (xs.drop n) (ds.drop n)) (λn=>by rw[List.drop_nil,List.drop_nil];exact .nil) (λh q r n=>Nat.casesOn n (.cons h q) λn=>r n) h n
theorem Das.ints(ns:List Int):Das G H L (ns.map V.int) (ns.map Xk):=by
 induction ns with
 | nil=>exact .nil
 | cons n ns ih=>exact .cons (.int n) ih
theorem Das.int_inv{xs:List V}(h:Das G H L xs (ns.map Xk)):xs=ns.map V.int:=by
 induction ns generalizing xs with
 | nil=>cases h;rfl
 | cons n ns ih=>
  rw[XM]at h;cases h with
  | cons h r=>cases h;rw[ih r];rfl
theorem Zt6(ns:List Int)(v:Vals (ns.map V.int) us):∃as,ReadsAll h us (ns.map Xk) as:=by
 induction ns generalizing us with
 | nil=>cases v;exact⟨_,.nil⟩
 | cons n ns ih=>
  rw[XM]at v;cases v with
  | cons r rs=>
   obtain⟨t,e⟩:=(show∃t,_=Value.int n t from r);subst e;obtain⟨bs,k'⟩:=ih rs;exact⟨_,.cons (.int n t) k'⟩
section
variable {Y:St}
theorem Da.reads2(hG:X.K=G)(I:Inv X pins Y H s):(∀{v:V} {d:Xa},Da G H L v d->∀u,RelV v u->d.canLay0=YD->∃as,Reads s.heap u d as)/\∀{xs:List V} {ds:List Xa},Das G H L xs ds->∀us,Vals xs us->Bo ds=YD->∃as,ReadsAll s.heap us ds as:=by
 refine Da.both ?_ ?_ ?_ ?_ ?_ ?_ ?_ ?_ ?_ ?_ ?_ ?_
 .intro u r _
  cases(show _=JB from r);exact⟨_,.none⟩
 .intro b u r _
  cases(show _=Value.bool b from r);exact⟨_,.bool b⟩
 .intro i u r _
  obtain⟨t,e⟩:=(show∃t,_=Value.int i t from r);subst e;exact⟨_,.int i t⟩
 .intro x u r _
  obtain⟨t,e⟩:=(show∃t,_=Value.str x t from r);subst e;exact⟨_,.str x t⟩
 .intro a xs ds _ e q u r hcl
  cases(show _=QZ a from r);obtain⟨_,its,n,vs,h1⟩:=(show ObjOk X.prog X.w H s.heap a (.lst xs)from e.ok I.hok);rw[BP]at hcl;obtain⟨as,k⟩:=q _ vs hcl;exact⟨_,Reads.list h1 rfl rfl k⟩
 .intro a xs ds e q u r hcl
  cases(show _=QZ a from r);obtain⟨_,its,vs,o,ho,hc,n,hd⟩:=(show ObjOk X.prog X.w H s.heap a (.tup xs)from I.hok a _ e);rw[BP]at hcl;obtain⟨as,k⟩:=q _ vs hcl;exact⟨_,Reads.tuple ho hc hd k⟩
 .intro a ns k u r _
  cases(show _=QZ a from r);subst hG;obtain⟨its,vs,⟨o,n,ho,hc,hd,hs⟩,_⟩:=I.list (k.sq (H:=H));obtain⟨as,q⟩:=Zt6 ns vs;exact⟨_,Reads.list ho hc hs q⟩
 .intro a C x _ _ e u r hc
  rw[exD,BP]at hc;cases hc
 .intro a x _ u r hc
  rw[fnD,BP]at hc;cases hc
 .intro a o t ks xs ds _ _ _ _ u r hc
  rw[dcD,BP]at hc;cases hc
 .intro us v _
  cases v;exact⟨_,.nil⟩
 .intro x xs d ds h q us v hc
  cases v with
  | cons r rs=>
   rw[Bo,XC]at hc;obtain⟨as,k⟩:=h _ r hc.1;obtain⟨bs,k'⟩:=q _ rs hc.2;exact⟨_,.cons k k'⟩
theorem Da.reads(hG:X.K=G)(I:Inv X pins Y H s){v:V}{d:Xa}(h:Da G H L v d)(r:RelV v u)(c:d.canLay0=YD):∃as,Reads s.heap u d as:=(Da.reads2 hG I).1 h u r c
theorem Das.reads(hG:X.K=G)(I:Inv X pins Y H s){xs:List V}(h:Das G H L xs ds)(r:Vals xs us)(c:Bo ds=YD):∃as,ReadsAll s.heap us ds as:=(Da.reads2 hG I).2 h us r c
end
inductive OT where
 | fz (d:Xa)
 | nd (ts:List OT)
 | tp (ts:List OT)
 | dc (t:Bool) (ks:List KY) (ds:List Xa)
mutual
def OT.data:OT->Xa
 | .fz d=>d
 | .nd ts=>.list (OT.datas ts)
 | .tp ts=>.tuple (OT.datas ts)
 | .dc t ks ds=>dcD t ks ds
def OT.datas:List OT->List Xa
 | []=>[]
 | t::ts=>t.data::OT.datas ts
end
theorem OT.datas_map:∀(ts:List OT),OT.datas ts=ts.map OT.data
 | []=>rfl
 | t::ts=>by rw[OT.datas,OT.datas_map ts];rfl
@[simp] theorem OT.data_fz(d:Xa):(OT.fz d).data=d:=by rw[OT.data]
@[simp] theorem OT.data_nd(ts:List OT):(OT.nd ts).data= .list (ts.map OT.data):=by rw[OT.data,OT.datas_map]
@[simp] theorem OT.data_tp(ts:List OT):(OT.tp ts).data= .tuple (ts.map OT.data):=by rw[OT.data,OT.datas_map]
theorem OT.data_dc(t:Bool)(ks:List KY)(ds:List Xa):(OT.dc t ks ds).data=dcD t ks ds:=by rw[OT.data]
@[simp] theorem OT.map_fz(ds:List Xa):(ds.map OT.fz).map OT.data=ds:=by
 rw[XR];exact(Xu λd _=>OT.data_fz d).trans (List.map_id _)
mutual
inductive Own(G:Xc)(H:Hp)(L:YG->Prop):V->OT->List YG->Prop where
 | fz {v:V} {d:Xa}:Da G H L v d->Own G H L v (.fz d) []
 | nd {a:YG} {xs:List V} {ts:List OT} {bs:List YG}:H a=YB (.lst xs)->Owns G H L xs ts bs->Own G H L (.ref a) (.nd ts) (a::bs)
 | tp {a:YG} {xs:List V} {ts:List OT} {bs:List YG}:H a=YB (.tup xs)->Owns G H L xs ts bs->Own G H L (.ref a) (.tp ts) bs
 | dc {a:YG} {o:MuO} {t:Bool} {ks:List KY} {xs:List V} {ds:List Xa}:H a=YB o.ho->o.dic t ks xs->Das G H L xs ds->Own G H L (.ref a) (.dc t ks ds) [a]
inductive Owns(G:Xc)(H:Hp)(L:YG->Prop):List V->List OT->List YG->Prop where
 | nil:Owns G H L [] [] []
 | cons {x:V} {xs:List V} {t:OT} {ts:List OT} {as bs:List YG}:Own G H L x t as->Owns G H L xs ts bs->Owns G H L (x::xs) (t::ts) (as++bs)
end
theorem Own.both{P:V->OT->List YG->Prop}{Q:List V->List OT->List YG->Prop}(c1:∀{v:V} {d:Xa},Da G H L v d->P v (.fz d) [])(c2:∀{a:YG} {xs:List V} {ts:List OT} {bs:List YG},H a=YB (.lst xs)->Q xs ts bs->P (.ref a) (.nd ts) (a::bs))
  (c3:∀{a:YG} {xs:List V} {ts:List OT} {bs:List YG},H a=YB (.tup xs)->Q xs ts bs->P (.ref a) (.tp ts) bs) (c4:∀{a:YG} {o:MuO} {t:Bool} {ks:List KY} {xs:List V} {ds:List Xa},H a=YB o.ho->o.dic t ks xs->Das G H L xs ds->P (.ref a) (.dc t ks ds) [a]) (n:Q [] [] []) (c:∀{x:V} {xs:List V} {t:OT} {ts:List OT} {as bs:List YG},P x t as->Q xs ts bs->Q (x::xs) (t::ts) (as++bs)) :
  (∀ {v t as},Own G H L v t as->P v t as)/\∀{xs ts as},Owns G H L xs ts as->Q xs ts as :=
 ⟨λh=>Own.rec (motive_1:=λv t as _=>P v t as) (motive_2:=λxs ts as _=>Q xs ts as) c1 (λe _ r=>c2 e r) (λe _ r=>c3 e r) (λe k r=>c4 e k r) n (λ_ _ p q=>c p q) h,
   λh=>Owns.rec (motive_1:=λv t as _=>P v t as) (motive_2:=λxs ts as _=>Q xs ts as) c1 (λe _ r=>c2 e r) (λe _ r=>c3 e r) (λe k r=>c4 e k r) n (λ_ _ p q=>c p q) h⟩
theorem Own.frame2(hl:∀a (xs:MuO),L a->Rd H a xs.ho->L' a/\Rd H' a xs.ho)(ht:∀a (xs:ImO),H a=YB xs.ho->H' a=YB xs.ho) :
  (∀ {v:V} {t:OT} {as:List YG},Own G H L v t as->(∀a∈as,∀xs:MuO,H a=YB xs.ho->H' a=YB xs.ho)->Own G H' L' v t as)/\∀{xs:List V} {ts:List OT} {as:List YG},Owns G H L xs ts as->(∀a∈as,∀xs:MuO,H a=YB xs.ho->H' a=YB xs.ho)->Owns G H' L' xs ts as :=
 Own.both (λh _=>.fz (h.frame hl ht)) (fun{_ xs _ _} e r ha=>.nd (ha _ (.head _) (.lst xs) e) (r λa m=>ha a (.tail _ m))) (fun{_ xs _ _} e r ha=>.tp (ht _ (.tup xs) e) (r ha)) (λe k r ha=>.dc (ha _ (.head _) _ e) k (r.frame hl ht)) (λ_=>.nil) (λh r ha=>.cons (h λa m=>ha a (Ub _ m)) (r λa m=>ha a (Qn _ m)))
theorem Own.frame(hl:∀a (xs:MuO),L a->Rd H a xs.ho->L' a/\Rd H' a xs.ho)(ht:∀a (xs:ImO),H a=YB xs.ho->H' a=YB xs.ho){v:V}{t:OT}{as:List YG}(ha:∀a∈as,∀xs:MuO,H a=YB xs.ho->H' a=YB xs.ho)(h:Own G H L v t as):Own G H' L' v t as:=(Own.frame2 hl ht).1 h ha
theorem Owns.frame(hl:∀a (xs:MuO),L a->Rd H a xs.ho->L' a/\Rd H' a xs.ho)(ht:∀a (xs:ImO),H a=YB xs.ho->H' a=YB xs.ho){xs:List V}{ts:List OT}{as:List YG}(ha:∀a∈as,∀xs:MuO,H a=YB xs.ho->H' a=YB xs.ho)(h:Owns G H L xs ts as):Owns G H' L' xs ts as:=(Own.frame2 hl ht).2 h ha
theorem Own.same(h:Same H H'){v:V}{t:OT}{as:List YG}(x:Own G H L v t as):Own G H' L v t as:=x.frame (λa xs p e=>⟨p,e.same h⟩) (λa xs e=>h _ _ e) λa _ xs e=>h _ _ e
theorem Own.wide(h:∀a,L a->H a≠YC->L' a){v:V}{t:OT}{as:List YG}(x:Own G H L v t as):Own G H L' v t as:=x.frame (λa xs p e=>⟨h a p e.some,e⟩) (λa xs e=>e) λa _ xs e=>e
theorem Owns.wide(h:∀a,L a->H a≠YC->L' a){v:List V}{t:List OT}{as:List YG}(x:Owns G H L v t as):Owns G H L' v t as:=x.frame (λa xs p e=>⟨h a p e.some,e⟩) (λa xs e=>e) λa _ xs e=>e
theorem Owns.same(h:Same H H'){v:List V}{t:List OT}{as:List YG}(x:Owns G H L v t as):Owns G H' L v t as:=x.frame (λa xs p e=>⟨p,e.same h⟩) (λa xs e=>h _ _ e) λa _ xs e=>h _ _ e
theorem Own.da2(h:∀a,L a->H a≠YC->L' a):(∀{v:V} {t:OT} {as:List YG},Own G H L v t as->(∀a∈as,L' a)->Da G H L' v t.data)/\∀{v:List V} {t:List OT} {as:List YG},Owns G H L v t as->(∀a∈as,L' a)->Das G H L' v (OT.datas t) :=
 Own.both (λk _=>by rw[OT.data_fz];exact k.wide h) (λe r ha=>by rw[OT.data];exact .lst (ha _ (.head _)) (.inl e) (r λa m=>ha a (.tail _ m))) (λe r ha=>by rw[OT.data];exact .tup e (r ha)) (λe k r ha=>by rw[OT.data];exact .dic (ha _ (.head _)) (.inl e) k (r.wide h)) (λ_=>.nil) (λk r ha=>.cons (k λa m=>ha a (Ub _ m)) (r λa m=>ha a (Qn _ m)))
theorem Own.da(h:∀a,L a->H a≠YC->L' a){v:V}{t:OT}{as:List YG}(ha:∀a∈as,L' a)(k:Own G H L v t as):Da G H L' v t.data:=(Own.da2 h).1 k ha
theorem Owns.das(h:∀a,L a->H a≠YC->L' a){v:List V}{t:List OT}{as:List YG}(ha:∀a∈as,L' a)(k:Owns G H L v t as):Das G H L' v (OT.datas t):=(Own.da2 h).2 k ha
theorem Own.some2:(∀{v:V} {t:OT} {as:List YG},Own G H L v t as->∀a∈as,∃xs:MuO,H a=YB xs.ho)/\∀{v:List V} {t:List OT} {as:List YG},Owns G H L v t as->∀a∈as,∃xs:MuO,H a=YB xs.ho :=
 Own.both (λ_ _ m=>nomatch m) (fun{_ xs _ _} e r a m=>(Xm.mp m).elim (λq=>⟨.lst xs,q▸e⟩) (r a)) (λ_ r=>r) (fun{_ o _ _ _ _} e _ _ a m=>⟨o,Xj.mp m▸e⟩) (λ_ m=>nomatch m) (λk r a m=>(XQ.mp m).elim (k a) (r a))
theorem Own.some{v:V}{t:OT}{as:List YG}(h:Own G H L v t as):∀a∈as,∃xs:MuO,H a=YB xs.ho:=Own.some2.1 h
theorem Owns.some{v:List V}{t:List OT}{as:List YG}(h:Owns G H L v t as):∀a∈as,∃xs:MuO,H a=YB xs.ho:=Own.some2.2 h
theorem Owns.length{xs:List V}{ts:List OT}{as:List YG}(h:Owns G H L xs ts as):xs.length=ts.length:=(Own.both (P:=λ_ _ _=>True) (Q:=λxs ts _=>xs.length=ts.length) (λ_=>trivial) (λ_ _=>trivial) (λ_ _=>trivial) (λ_ _ _=>trivial) rfl (λ_ r=>YT (·+1) r)).2 h
theorem Das.owns{xs:List V}(h:Das G H L xs ds):Owns G H L xs (ds.map OT.fz) []:=Das.ind (Q:=λxs ds=>Owns G H L xs (ds.map OT.fz) []) .nil (λh _ r=>.cons (.fz h) r) h
abbrev Zm:=List (Option OT)
abbrev Fp:=Nat->List YG
set_option genInjectivity false in
structure MC(G:Xc) where
 H₀:Hp
 as₀:YG->Prop
 L:YG->Prop
 Y₀:St
def Foot(fp:Fp)(a:YG):Prop:=∃i,a∈fp i
def Lf(C:MC G)(fp:Fp)(ex:YG->Prop)(a:YG):Prop:=¬Foot fp a/\¬ex a/\(C.L a\/C.H₀ a=YC)
structure Rel(C:MC G)(io:List Nat)(H:Hp)(Y:St)(δ:Zm)(fp:Fp)(ex:YG->Prop):Prop where
 len:Y.length=δ.length
 own:∀(i:Nat) (t:OT),δ[i]? =YB (YB t)->∃v,Y[i]? =YB (YB v)/\Own G H (Lf C fp ex) v t (fp i)
 emp:∀i:Nat,(∀t,δ[i]? ≠YB (YB t))->fp i=[]
 nd:∀i,(fp i).Nodup
 dj:∀i j a,a∈fp i->a∈fp j->i=j
 dx:∀i a,a∈fp i->¬ex a
 xa:∀a,ex a->H a≠YC
 fr:∀b o,C.H₀ b=YB o->¬C.as₀ b->H b=YB o
 al:∀b,H b=YC->C.H₀ b=YC
 new:∀i a,a∈fp i->(i∈io/\C.as₀ a)\/C.H₀ a=YC
 io:∀i∈io,Y[i]? =C.Y₀[i]?
structure Stp(p:Bool)(H:Hp)(δ:Zm)(fp:Fp)(H':Hp)(δ':Zm)(fp':Fp):Prop where
 keep:∀b o,H b=YB o->(p=YD\/¬Foot fp b)->H' b=YB o
 env:p=YD->δ'=δ/\fp'=fp
 grow:∀a,Foot fp' a->Foot fp a\/H a=YC
 al:∀b,H' b=YC->H b=YC
section
variable {C:MC G}{io:List Nat}{H'':Hp}{Y:St}{δ δ' δ'':Zm}{fp fp' fp'':Fp}{ex ex':YG->Prop}{p p' c:Bool}{v:V}{d:Xa}{r:OT}{new:List YG}
theorem Rel.foot(R:Rel C io H Y δ fp ex)(h:Foot fp a):∃xs:MuO,H a=YB xs.ho:=by
 obtain⟨i,h⟩:=h
 by_cases q:∃t,δ[i]? =YB (YB t)
 .obtain⟨t,q⟩:=q
  obtain⟨v,_,o⟩:=R.own i t q;exact o.some a h
 .rw[R.emp i (λt z=>q ⟨t,z⟩)]at h
  exact nomatch h
theorem Rel.footSome(R:Rel C io H Y δ fp ex)(h:H a=YC):¬Foot fp a:=λz=>by
 obtain⟨xs,e⟩:=R.foot z;rw[h]at e;cases e
theorem Stp.refl(p:Bool)(H:Hp)(δ:Zm)(fp:Fp):Stp p H δ fp H δ fp:=⟨λ_ _ h _=>h,λ_=>⟨rfl,rfl⟩,λ_ h=>.inl h,λ_ h=>h⟩
theorem Stp.same(h:Same H H')(hn:∀b,H' b=YC->H b=YC):Stp p H δ fp H' δ fp:=⟨λ_ _ q _=>h _ _ q,λ_=>⟨rfl,rfl⟩,λ_ h=>.inl h,hn⟩
theorem Same.al(h:Same H H'):∀b,H' b=YC->H b=YC:=λ_ q=>h.free q
theorem Stp.trans(a:Stp p H δ fp H' δ' fp')(b:Stp p' H' δ' fp' H'' δ'' fp''):Stp (p&&p') H δ fp H'' δ'' fp'' where
 keep:=λx o e h=>by
  rcases h with h|h
  .rw[XC]at h
   exact b.keep x o (a.keep x o e (.inl h.1)) (.inl h.2)
  .refine b.keep x o (a.keep x o e (.inr h)) (.inr λz=>?_)
   rcases a.grow x z with z|z
   .exact h z
   .rw[e]at z;cases z
 env:=λh=>by
  rw[XC]at h;obtain⟨e1,e2⟩:=a.env h.1;obtain⟨e3,e4⟩:=b.env h.2;exact⟨e3.trans e1,e4.trans e2⟩
 grow:=λx h=>by
  rcases b.grow x h with h|h
  .exact a.grow x h
  .exact .inr (a.al x h)
 al:=λx h=>a.al x (b.al x h)
theorem Rel.frameL(R:Rel C io H Y δ fp ex)(S:Stp p H δ fp H' δ' fp')(hc:p=YD\/c=YD)(hx:∀a,ex' a->ex a\/H a=YC) :
  (∀ a (xs:MuO),(c=YD->Lf C fp ex a)->Rd H a xs.ho->(c=YD->Lf C fp' ex' a)/\Rd H' a xs.ho)/\(∀a (xs:ImO),H a=YB xs.ho->H' a=YB xs.ho):=by
 have nf:∀a,Foot fp a->∃xs:MuO,H a=YB xs.ho:=λa h=>R.foot h;refine⟨λa xs l q=>⟨λhc'=>?_,?_⟩,λa xs q=>S.keep a _ q (.inr λz=>?_)⟩
 .obtain⟨l1,l2,l3⟩:=l hc'
  refine⟨λz=>?_,λz=>?_,l3⟩
  .rcases S.grow a z with z|z
   .exact l1 z
   .exact q.some z
  .rcases hx a z with z|z
   .exact l2 z
   .exact q.some z
 .have hk:p=YD\/¬Foot fp a:=by
   rcases hc with h|h
   .exact .inl h
   .exact .inr (l h).1
  rcases q with q|⟨o,q⟩
  .exact .inl (S.keep a _ q hk)
  .exact .inr ⟨o,S.keep a _ q hk⟩
 .obtain⟨ys,e⟩:=nf a z
  exact ImO.nm q e
theorem Rel.own_step(R:Rel C io H Y δ fp ex)(S:Stp p H δ fp H' δ' fp')(hc:p=YD\/c=YD)(hx:∀a,ex' a->ex a\/H a=YC)(hn:∀a∈new,ex a)
  (x:Own G H (λa=>c=YD->Lf C fp ex a) v r new):Own G H' (λa=>c=YD->Lf C fp' ex' a) v r new :=
 x.frame (R.frameL S hc hx).1 (R.frameL S hc hx).2 λa m xs e=>S.keep a _ e (.inr λ⟨i,z⟩=>R.dx i a z (hn a m))
theorem Rel.owns_step(R:Rel C io H Y δ fp ex)(S:Stp p H δ fp H' δ' fp')(hc:p=YD\/c=YD)(hx:∀a,ex' a->ex a\/H a=YC)(hn:∀a∈new,ex a){vs:List V}{rs:List OT}
  (x:Owns G H (λa=>c=YD->Lf C fp ex a) vs rs new):Owns G H' (λa=>c=YD->Lf C fp' ex' a) vs rs new :=
 x.frame (R.frameL S hc hx).1 (R.frameL S hc hx).2 λa m xs e=>S.keep a _ e (.inr λ⟨i,z⟩=>R.dx i a z (hn a m))
theorem Rel.drop(R:Rel C io H Y δ fp ex)(h:∀a,ex' a->ex a):Rel C io H Y δ fp ex' :=
 ⟨R.len,λi t e=>by
  obtain⟨v,e1,o⟩:=R.own i t e;exact⟨v,e1,o.wide λa l _=>⟨l.1,λz=>l.2.1 (h a z),l.2.2⟩⟩,R.emp,R.nd,R.dj,λi a m z=>R.dx i a m (h a z),λa z=>R.xa a (h a z),R.fr,R.al,R.new,R.io⟩
theorem Rel.made(R:Rel C io H Y δ fp ex)(s:Same H H')(hn:∀a∈new,H a=YC/\H' a≠YC):Rel C io H' Y δ fp (λa=>ex a\/a∈new) :=
 ⟨R.len,λi t e=>by
  obtain⟨v,e1,o⟩:=R.own i t e;refine⟨v,e1,(o.wide λa l q=>⟨l.1,λz=>?_,l.2.2⟩).same s⟩;rcases z with z|z
  .exact l.2.1 z
  .exact q (hn a z).1,R.emp,R.nd,R.dj,λi a m z=>by
   rcases z with z|z
   .exact R.dx i a m z
   .exact R.footSome (hn a z).1 ⟨i,m⟩,λa z=>by
   rcases z with z|z
   .intro q;exact R.xa a z (s.free q)
   .exact(hn a z).2,λb o e n=>s _ _ (R.fr b o e n),λb q=>R.al b (s.free q),R.new,R.io⟩
end
abbrev MEt:=Zm->(OT->Zm->Prop)->Prop
abbrev MAt:=Zm->(List OT->Zm->Prop)->Prop
abbrev MTt:=Zm->(Bool->Zm->Prop)->Prop
abbrev exu(ex:YG->Prop)(new:List YG):YG->Prop:=λa=>ex a\/a∈new
structure RE(C:MC G)(io:List Nat)(p c:Bool)(H:Hp)(Y:St)(δ:Zm)(fp:Fp)(ex:YG->Prop)(H':Hp)(v:V)(r:OT)(δ':Zm)(fp':Fp)(new:List YG):Prop where
 rel:Rel C io H' Y δ' fp' (exu ex new)
 stp:Stp p H δ fp H' δ' fp'
 own:Own G H' (λa=>c=YD->Lf C fp' (exu ex new) a) v r new
 nd:new.Nodup
 fresh:∀a∈new,H a=YC
structure RA(C:MC G)(io:List Nat)(p c:Bool)(H:Hp)(Y:St)(δ:Zm)(fp:Fp)(ex:YG->Prop)(H':Hp)(v:List V)(r:List OT)(δ':Zm)(fp':Fp)(new:List YG):Prop where
 rel:Rel C io H' Y δ' fp' (exu ex new)
 stp:Stp p H δ fp H' δ' fp'
 own:Owns G H' (λa=>c=YD->Lf C fp' (exu ex new) a) v r new
 nd:new.Nodup
 fresh:∀a∈new,H a=YC
def SE(G:Xc)(io:List Nat)(p c:Bool)(t:TE)(m:MEt):Prop:=∀(C:MC G) (H:Hp) (Y:St) (δ:Zm) (fp:Fp) (ex:YG->Prop) (K:OT->Zm->Prop) (Q:VK),Rel C io H Y δ fp ex->m δ K ->
 (∀ H' v r δ' fp' new,RE C io p c H Y δ fp ex H' v r δ' fp' new->K r δ'->Q v H')->t Y H Q
def SA(G:Xc)(io:List Nat)(p c:Bool)(t:TA)(m:MAt):Prop:=∀(C:MC G) (H:Hp) (Y:St) (δ:Zm) (fp:Fp) (ex:YG->Prop) (K:List OT->Zm->Prop) (Q:List V->Hp->Prop),Rel C io H Y δ fp ex->m δ K ->
 (∀ H' v r δ' fp' new,RA C io p c H Y δ fp ex H' v r δ' fp' new->K r δ'->Q v H')->t Y H Q
def STt(G:Xc)(io:List Nat)(p:Bool)(t:TT)(m:MTt):Prop:=∀(C:MC G) (H:Hp) (Y:St) (δ:Zm) (fp:Fp) (ex:YG->Prop) (K:Bool->Zm->Prop) (Q:Bool->Hp->Prop),Rel C io H Y δ fp ex->m δ K ->
 (∀ H' b δ' fp',Rel C io H' Y δ' fp' ex->Stp p H δ fp H' δ' fp'->K b δ'->Q b H')->t Y H Q
def ME(X:Cx)(io:List Nat)(p c:Bool)(e:YJ)(m:MEt):Prop:=∃t,PE X e t/\SE X.K io p c t m
def MA(X:Cx)(io:List Nat)(p c:Bool)(e:List YJ)(m:MAt):Prop:=∃t,PA X e t/\SA X.K io p c t m
def MT(X:Cx)(io:List Nat)(p:Bool)(e:YJ)(m:MTt):Prop:=∃t,PT X e t/\STt X.K io p t m
def MW(X:Cx)(io:List Nat)(p:Bool)(e:YJ)(m:MTt):Prop:=∃t,PW X e t/\STt X.K io p t m
section
variable {C:MC G}{io:List Nat}{H'':Hp}{Y:St}{δ δ' δ'':Zm}{fp fp' fp'':Fp}{ex ex':YG->Prop}{p p' c:Bool}{v:V}{d:Xa}{r:OT}{vs:List V}{rs:List OT}{new:List YG}
theorem Rel.newOk(R:Rel C io H Y δ fp ex)(h:H a=YC):¬Foot fp a/\¬ex a/\C.H₀ a=YC:=⟨R.footSome h,λz=>R.xa a z h,R.al a h⟩
theorem RE.da(R:RE C io p c H Y δ fp ex H' v r δ' fp' new)(R0:Rel C io H Y δ fp ex):Da G H' (λa=>c=YD->Lf C fp' ex a) v r.data:=by
 refine R.own.da (λa l _ h=>?_) (λa m _=>?_)
 .exact⟨(l h).1,λz=>(l h).2.1 (.inl z),(l h).2.2⟩
 .refine⟨λqz9=>?_,(R0.newOk (R.fresh a m)).2.1,.inr (R0.newOk (R.fresh a m)).2.2⟩
  obtain⟨i,z⟩:=qz9;exact R.rel.dx i a z (.inr m)
theorem RA.das(R:RA C io p c H Y δ fp ex H' vs rs δ' fp' new)(R0:Rel C io H Y δ fp ex):Das G H' (λa=>c=YD->Lf C fp' ex a) vs (OT.datas rs):=by
 refine R.own.das (λa l _ h=>?_) (λa m _=>?_)
 .exact⟨(l h).1,λz=>(l h).2.1 (.inl z),(l h).2.2⟩
 .refine⟨λqz9=>?_,(R0.newOk (R.fresh a m)).2.1,.inr (R0.newOk (R.fresh a m)).2.2⟩
  obtain⟨i,z⟩:=qz9;exact R.rel.dx i a z (.inr m)
theorem RE.base(R:RE C io p c H Y δ fp ex H' v r δ' fp' new):Rel C io H' Y δ' fp' ex:=R.rel.drop λa z=>.inl z
theorem RA.base(R:RA C io p c H Y δ fp ex H' vs rs δ' fp' new):Rel C io H' Y δ' fp' ex:=R.rel.drop λa z=>.inl z
theorem Zeg:exu ex [] a↔ex a:=by simp[exu]
theorem RE.fz(R:Rel C io H' Y δ' fp' ex)(S:Stp p H δ fp H' δ' fp')(h:Da G H' (λa=>c=YD->Lf C fp' ex a) v d):RE C io p c H Y δ fp ex H' v (.fz d) δ' fp' [] :=
 ⟨R.drop λa z=>Zeg.mp z,S,.fz (h.wide λa l _ hc=>⟨(l hc).1,λz=>(l hc).2.1 (Zeg.mp z),(l hc).2.2⟩),.nil,λa m=>nomatch m⟩
theorem RE.tree(R0:Rel C io H Y δ fp ex)(R:Rel C io H1 Y δ' fp' ex)(S:Stp p H δ fp H1 δ' fp')(s:Same H1 H')(hn:∀a∈new,H1 a=YC)(nd:new.Nodup)
  (o:Own G H' (λa=>((c=YD->Lf C fp' ex a)\/H1 a=YC)/\a∉new) v r new):RE C io p c H Y δ fp ex H' v r δ' fp' new:=by
 refine⟨R.made s λa m=>⟨hn a m,λz=>?_⟩,?_,o.wide λa l q hc=>?_,nd,λa m=>S.al a (hn a m)⟩
 .obtain⟨xs,e⟩:=o.some a m
  rw[z]at e;cases e
 .have:=S.trans (p':=YD) (Stp.same (p:=YD) (δ:=δ') (fp:=fp') s s.al)
  rwa[Bool.and_true]at this
 .rcases l.1 with l1|l1
  .exact⟨(l1 hc).1,λz=>z.elim (l1 hc).2.1 l.2,(l1 hc).2.2⟩
  .exact⟨R.footSome l1,λz=>z.elim (λz=>R.xa a z l1) l.2,.inr (R.al a l1)⟩
end
inductive ScD:V->Xa->Prop where
 | non:ScD .non .none
 | bl (b:Bool):ScD (.bl b) (.bool b)
 | int (i:Int):ScD (.int i) (.int i)
 | str (x:Str):ScD (.str x) (.str x)
theorem ScD.da{v:V}{d:Xa}(h:ScD v d):Da G H L v d:=by
 cases h
 .exact .non
 .exact .bl _
 .exact .int _
 .exact .str _
section
variable {io:List Nat}{p p' c c':Bool}{a b:YJ}{m ma mb:MEt}
def Yei(i:Nat):MEt:=λδ K=>match δ[i]? with|some (YB (.fz d))=>K (.fz d) δ|_=>False
def Yd6(i:Nat):MEt:=λδ K=>match δ[i]? with|some (YB t)=>K (.fz t.data) δ|_=>False
def mC(d:Xa):MEt:=λδ K=>K (.fz d) δ
theorem mv(i:Nat)(hN:X.N[i]? =YB x:=by rfl)(hv:Vis X.env.scope x:=by first|exact QT rfl|exact QF (QT rfl)|exact QF (QF rfl))(hd:(x==("__debug__" : Str))=YF:=by decide)
  (hcd:(x==("__classdict__" : Str))=YF:=by decide):ME X io YD YD (.Name x pos) (Yei i):=by
 refine⟨_,pv i hN hv hd hcd,λC H Y δ fp ex K Q R h k=>?_⟩;unfold Yei at h;split at h
 .rename_i d hd
  obtain⟨v,e,o⟩:=R.own i _ hd;refine⟨v,e,k H v _ δ fp [] (.fz R (.refl _ _ _ _) ?_) h⟩;generalize fp i=as at o;cases o with
  | fz q=>exact q.wide λa l _ _=>l
 .exact h.elim
theorem mo(i:Nat)(hN:X.N[i]? =YB x:=by rfl)(hv:Vis X.env.scope x:=by first|exact QT rfl|exact QF (QT rfl)|exact QF (QF rfl))(hd:(x==("__debug__" : Str))=YF:=by decide)
  (hcd:(x==("__classdict__" : Str))=YF:=by decide):ME X io YD YF (.Name x pos) (Yd6 i):=by
 refine⟨_,pv i hN hv hd hcd,λC H Y δ fp ex K Q R h k=>?_⟩;unfold Yd6 at h;split at h
 .rename_i d hd
  obtain⟨v,e,o⟩:=R.own i _ hd;exact⟨v,e,k H v _ δ fp [] (.fz R (.refl _ _ _ _) (o.da (λa _ _ z=>(nomatch z)) λa _ z=>(nomatch z))) h⟩
 .exact h.elim
theorem Zm6{t:V}{d:Xa}(h:PE X e (tC t))(s:ScD t d):ME X io YD YD e (mC d) :=
 ⟨_,h,λC H Y δ fp ex K Q R h k=>k H t _ δ fp [] (.fz R (.refl _ _ _ _) s.da) h⟩
theorem Zk3{i j pos}:ME X io YD YD (.Constant (.int i) j pos) (mC (.int i)):=Zm6 Z96 (.int i)
theorem Zg5{b j pos}:ME X io YD YD (.Constant (.bool b) j pos) (mC (.bool b)):=Zm6 Ygq (.bl b)
theorem Zhz{j pos}:ME X io YD YD (.Constant .none j pos) (mC .none):=Zm6 Ybm .non
theorem Zj0{x j pos}:ME X io YD YD (.Constant (.str x) j pos) (mC (.str x)):=Zm6 Ycx (.str x)
theorem SE.two(ha:SE G io p c ta ma)(hb:SE G io p' c' tb mb)(hc:p'=YD\/c=YD){C:MC G}{Y:St}{δ:Zm}{fp:Fp}{ex:YG->Prop}{K:OT->OT->Zm->Prop}{Q:V->V->Hp->Prop}
  (R:Rel C io H Y δ fp ex) (h:ma δ λx δ1=>mb δ1 λy δ2=>K x y δ2)
  (k:∀H' x y u v δ' fp',Rel C io H' Y δ' fp' ex->Stp (p&&p') H δ fp H' δ' fp'->Da G H' (λa=>(c&&c')=YD->Lf C fp' ex a) x u.data->Da G H' (λa=>(c&&c')=YD->Lf C fp' ex a) y v.data->K u v δ'->Q x y H') :
  ta Y H λx H1=>tb Y H1 λy H2=>Q x y H2:=by
 refine ha C H Y δ fp ex _ _ R h λH1 x u δ1 fp1 new1 r1 h1=>?_;refine hb C H1 Y δ1 fp1 (exu ex new1) _ _ r1.rel h1 λH2 y v δ2 fp2 new2 r2 h2=>?_;have o1:=r1.rel.own_step (ex':=exu (exu ex new1) new2) r2.stp (c:=c) hc (λa z=>z.imp id λz=>r2.fresh a z) (λa m=>.inr m) r1.own;have R2:Rel C io H2 Y δ2 fp2 ex:=r2.rel.drop λa z=>.inl (.inl z);have q1:Da G H2 (λa=>c=YD->Lf C fp2 ex a) x u.data:=by
  refine o1.da (λa l _ z=>?_) (λa m z=>?_)
  .exact⟨(l z).1,λw=>(l z).2.1 (.inl (.inl w)),(l z).2.2⟩
  .have:=R.newOk (r1.fresh a m)
   refine⟨λqz9=>?_,this.2.1,.inr this.2.2⟩;obtain⟨i,w⟩:=qz9;exact r2.rel.dx i a w (.inl (.inr m))
 have q2:=r2.da r1.rel;refine k H2 x y u v δ2 fp2 R2 (r1.stp.trans r2.stp) (q1.wide λa l _ z=>l (by rw[XC]at z;exact z.1)) (q2.wide λa l _ z=>?_) h2;have l:=l (by rw[XC]at z;exact z.2);exact⟨l.1,λw=>l.2.1 (.inl w),l.2.2⟩
def P2s(G:Xc)(r:R2)(rp:Xa->Xa->(Xa->Prop)->Prop):Prop:=∀(H:Hp) (L:YG->Prop) (x y:V) (d e:Xa) (k:Xa->Prop) (Q:VK),Da G H L x d->Da G H L y e->rp d e k->(∀v d',ScD v d'->k d'->Q v H)->r x y H Q
def P2(G:Xc)(r:R2)(rp:Xa->Xa->(OT->Prop)->Prop):Prop:=∀(H:Hp) (L:YG->Prop) (x y:V) (d e:Xa) (k:OT->Prop) (Q:VK),Da G H L x d->Da G H L y e->rp d e k ->
 (∀ H' v o new,Same H H'->Own G H' (λa=>(L a\/H a=YC)/\a∉new) v o new->new.Nodup->(∀a∈new,H a=YC)->k o->Q v H')->r x y H Q
def Zpk(rp:Xa->Xa->(Xa->Prop)->Prop)(ma mb:MEt):MEt:=λδ K=>ma δ λx δ1=>mb δ1 λy δ2=>rp x.data y.data λd=>K (.fz d) δ2
def Yeg(rp:Xa->Xa->(OT->Prop)->Prop)(ma mb:MEt):MEt:=λδ K=>ma δ λx δ1=>mb δ1 λy δ2=>rp x.data y.data λd=>K d δ2
theorem Z70{r:R2}{rp}(P:P2s G r rp)(ha:SE G io p c ta ma)(hb:SE G io p' c' tb mb)(hc:p'=YD\/c=YD):SE G io (p&&p') YD (tOp r ta tb) (Zpk rp ma mb):=by
 intro C H Y δ fp ex K Q R h k;refine SE.two (K:=λx y δ2=>rp x.data y.data λd=>K (.fz d) δ2) (Q:=λx y H2=>r x y H2 Q) ha hb hc R h λH' x y u v δ' fp' R' S q1 q2 h'=>?_;exact P H' _ x y _ _ _ _ q1 q2 h' λw d' sc h''=>k H' w _ δ' fp' [] (.fz R' S sc.da) h''
theorem Yjg{r:R2}{rp}(P:P2 G r rp)(ha:SE G io p c ta ma)(hb:SE G io p' c' tb mb)(hc:p'=YD\/c=YD):SE G io (p&&p') (c&&c') (tOp r ta tb) (Yeg rp ma mb):=by
 intro C H Y δ fp ex K Q R h k;refine SE.two (K:=λx y δ2=>rp x.data y.data λd=>K d δ2) (Q:=λx y H2=>r x y H2 Q) ha hb hc R h λH' x y u v δ' fp' R' S q1 q2 h'=>?_;exact P H' _ x y _ _ _ _ q1 q2 h' λH2 w o new s ow nd hn h''=>k H2 w o δ' fp' new (RE.tree R R' S s hn nd ow) h''
theorem Zpb{op:Operator}{r:R2}{rp}(ho:OpR X (VL op) r)(P:P2s X.K r rp)(ha:ME X io p c a ma)(hb:ME X io p' c' b mb)(hc:p'=YD\/c=YD:=by first|exact QT rfl|exact QF rfl):ME X io (p&&p') YD (.BinOp a op b pos) (Zpk rp ma mb):=by
 obtain⟨_,A,sa⟩:=ha;obtain⟨_,B,sb⟩:=hb;exact⟨_,Z6n ho A B,Z70 P sa sb hc⟩
theorem Zz0{op:Operator}{r:R2}{rp}(ho:OpR X (VL op) r)(P:P2 X.K r rp)(ha:ME X io p c a ma)(hb:ME X io p' c' b mb)(hc:p'=YD\/c=YD:=by first|exact QT rfl|exact QF rfl):ME X io (p&&p') (c&&c') (.BinOp a op b pos) (Yeg rp ma mb):=by
 obtain⟨_,A,sa⟩:=ha;obtain⟨_,B,sb⟩:=hb;exact⟨_,Z6n ho A B,Yjg P sa sb hc⟩
theorem Zjz{r:R2}{rp}(ho:OpR X (Br op) r)(P:P2s X.K r rp)(ha:ME X io p c a ma)(hb:ME X io p' c' b mb)(hc:p'=YD\/c=YD:=by first|exact QT rfl|exact QF rfl)(hm:behindInMarks op b=YF):ME X io (p&&p') YD (.Compare a [op] [b] pos) (Zpk rp ma mb):=by
 obtain⟨_,A,sa⟩:=ha;obtain⟨_,B,sb⟩:=hb;exact⟨_,Z6t ho A B hm,Z70 P sa sb hc⟩
theorem Ygy{r:R2}{rp}(ho:IxR X r)(P:P2 X.K r rp)(ha:ME X io p c a ma)(hb:ME X io p' c' b mb)(hc:p'=YD\/c=YD:=by first|exact QT rfl|exact QF rfl)(hs:Ziv b):ME X io (p&&p') (c&&c') (.Subscript a b pos) (Yeg rp ma mb):=by
 obtain⟨_,A,sa⟩:=ha;obtain⟨_,B,sb⟩:=hb;exact⟨_,Z67 ho A B hs,Yjg P sa sb hc⟩
def kB(K:Bool->Zm->Prop):OT->Zm->Prop:=λo δ=>match o with| .fz (.bool b)=>K b δ|_=>False
theorem Ygh{t:TE}(h:SE G io p c t m):STt G io p (Ya2 t) (λδ K=>m δ (kB K)):=by
 intro C H Y δ fp ex K Q R h' k;refine h C H Y δ fp ex _ _ R h' λH' v r δ' fp' new r1 h1=>?_;cases r with
 | nd ts=>exact h1.elim
 | tp ts=>exact h1.elim
 | dc _ _ _=>exact h1.elim
 | fz d=>
  cases d with
  | bool b=>
   cases r1.own with
   | fz q=>
    cases q;exact⟨b,rfl,k H' b δ' fp' r1.base r1.stp h1⟩
  | _=>exact h1.elim
theorem Za9{r:R2}{rp}(ho:OpR X (Br op) r)(P:P2s X.K r rp)(ha:ME X io p c a ma)(hb:ME X io p' c' b mb)(hc:p'=YD\/c=YD:=by first|exact QT rfl|exact QF rfl)(hm:behindInMarks op b=YF) :
  MT X io (p&&p') (.Compare a [op] [b] pos) (λδ K=>Zpk rp ma mb δ (kB K)):=by
 obtain⟨_,A,sa⟩:=ha;obtain⟨_,B,sb⟩:=hb;exact⟨_,Z5d ho A B hm,Ygh (Z70 P sa sb hc)⟩
end
section
variable {io:List Nat}{p p' p'' c c':Bool}{a b:YJ}{m ma mb:MEt}{rest:List YJ}{ta tb:MTt}
def Yiq(t:MTt):MTt:=λδ K=>t δ λb δ'=>K (!b) δ'
def Yiy(t u:MTt):MTt:=λδ K=>t δ λb δ'=>if b=YD then u δ' K else K YF δ'
def mOr(t u:MTt):MTt:=λδ K=>t δ λb δ'=>if b=YD then K YD δ' else u δ' K
theorem Z24(h:MT X io p a ta):MT X io p (.UnaryOp .Not a pos) (Yiq ta):=by
 obtain⟨_,A,sa⟩:=h;exact⟨_,Z9u A,λC H Y δ fp ex K Q R h k=>sa C H Y δ fp ex _ _ R h λH' b δ' fp' R' S h'=>k H' (!b) δ' fp' R' S h'⟩
theorem Zqt(h:MT X io p a ta):MW X io p (.BoolOp .And [a] pos) ta:=by
 obtain⟨_,A,sa⟩:=h;exact⟨_,Z4r A,sa⟩
theorem Zny(h:MT X io p a ta):MW X io p (.BoolOp .Or [a] pos) ta:=by
 obtain⟨_,A,sa⟩:=h;exact⟨_,Ycr A,sa⟩
theorem Stp.andL{δ δ':Zm}{fp fp':Fp}(S:Stp p H δ fp H' δ' fp'):Stp (p&&p') H δ fp H' δ' fp':=by
 have:=S.trans (Stp.refl p' H' δ' fp');exact this
theorem Zx5(h:MT X io p a ta)(g:MW X io p' (.BoolOp .And (b::rest) pos) tb):MW X io (p&&p') (.BoolOp .And (a::b::rest) pos) (Yiy ta tb):=by
 obtain⟨_,A,sa⟩:=h;obtain⟨_,B,sb⟩:=g;exact⟨_,Yc6 A B,λC H Y δ fp ex K Q R h k=>sa C H Y δ fp ex _ _ R h λH' b δ' fp' R' S h'=>by
  cases b with
  | true=>
   rw[YL rfl]at h'|-
   exact sb C H' Y δ' fp' ex _ _ R' h' λH2 b2 δ2 fp2 R2 S2 h2=>k H2 b2 δ2 fp2 R2 (S.trans S2) h2
  | false=>
   rw[YM Xn]at h'|-
   exact k H' YF δ' fp' R' S.andL h'⟩
theorem Zov(h:MT X io p a ta)(g:MW X io p' (.BoolOp .Or (b::rest) pos) tb):MW X io (p&&p') (.BoolOp .Or (a::b::rest) pos) (mOr ta tb):=by
 obtain⟨_,A,sa⟩:=h;obtain⟨_,B,sb⟩:=g;exact⟨_,Yg5 A B,λC H Y δ fp ex K Q R h k=>sa C H Y δ fp ex _ _ R h λH' b δ' fp' R' S h'=>by
  cases b with
  | true=>
   rw[YL rfl]at h'|-
   exact k H' YD δ' fp' R' S.andL h'
  | false=>
   rw[YM Xn]at h'|-
   exact sb C H' Y δ' fp' ex _ _ R' h' λH2 b2 δ2 fp2 R2 S2 h2=>k H2 b2 δ2 fp2 R2 (S.trans S2) h2⟩
theorem MW.mt(h:MW X io p e ta):MT X io p e ta:=by
 obtain⟨_,A,sa⟩:=h;exact⟨_,A.pt,sa⟩
def Z1x:Xa->Option Bool
 | .none=>YB YF
 | .bool b=>YB b
 | .int i=>YB (i !=0)
 | .list ds=>YB (!ds.isEmpty)
 | .tuple ds=>YB (!ds.isEmpty)
 | _=>YC
def Yi4(m:MEt):MTt:=λδ K=>m δ λr δ'=>match Z1x r.data with|some b=>K b δ'|none=>False
theorem Das.isEmpty{xs:List V}(h:Das G H L xs ds):xs.isEmpty=ds.isEmpty:=by cases h<;>rfl
theorem Za6(ha:ME X io p c a ma)(he:∀whole,isTrue a X.env whole=(do let v<-whole;standAt a.pos;holding [v] (truthy v))):MT X io p a (Yi4 ma):=by
 obtain⟨_,A,sa⟩:=ha;exact⟨_,Z5c rfl A he,λC H Y δ fp ex K' Q R h k=>sa C H Y δ fp ex _ _ R h λH' v r δ' fp' new r1 h1=>by
  have q:=r1.da R;generalize r.data=d at q h1;cases q with
  | non=>exact⟨_,rfl,k H' _ δ' fp' r1.base r1.stp h1⟩
  | bl b=>exact⟨_,rfl,k H' _ δ' fp' r1.base r1.stp h1⟩
  | int b=>exact⟨_,rfl,k H' _ δ' fp' r1.base r1.stp h1⟩
  | str x=>exact h1.elim
  | lst _ e q=>exact⟨_,.inl ⟨_,.inl e,rfl⟩,k H' _ δ' fp' r1.base r1.stp (by rw[q.isEmpty];exact h1)⟩
  | tup e q=>exact⟨_,.inr (.inl ⟨_,.inl (.inl e),rfl⟩),k H' _ δ' fp' r1.base r1.stp (by rw[q.isEmpty];exact h1)⟩
  | scr q=>exact⟨_,.inl ⟨_,q.sq,rfl⟩,k H' _ δ' fp' r1.base r1.stp (by simpa [Z1x]using h1)⟩
  | exc _ _ _=>exact h1.elim
  | fn _=>exact h1.elim
  | dic _ _ _ _=>exact h1.elim⟩
def asB(d:Xa)(k:Bool->Prop):Prop:=match d with| .bool b=>k b|_=>False
def Yam(a b:MEt):MEt:=λδ K=>a δ λx δ1=>asB x.data λc=>if c=YD then b δ1 K else K (.fz (.bool YF)) δ1
def Ya0(a:MEt):MEt:=λδ K=>a δ λx δ1=>asB x.data λc=>K (.fz (.bool (!c))) δ1
def mIf(t:MTt)(a b:MEt):MEt:=λδ K=>t δ λc δ1=>if c=YD then a δ1 K else b δ1 K
theorem Da.boolInv{v:V}{d:Xa}{k:Bool->Prop}(q:Da G H L v d)(h:asB d k):∃b,v= .bl b/\k b:=by
 cases q with
 | bl b=>exact⟨b,rfl,h⟩
 | _=>exact h.elim
theorem RE.step{C:MC G}{Y:St}{δ δ1 δ2:Zm}{fp fp1 fp2:Fp}{ex:YG->Prop}{v:V}{r:OT}{new:List YG}(S:Stp p H δ fp H1 δ1 fp1)(R:RE C io p' c H1 Y δ1 fp1 ex H2 v r δ2 fp2 new) :
  RE C io (p&&p') c H Y δ fp ex H2 v r δ2 fp2 new:=⟨R.rel,S.trans R.stp,R.own,R.nd,λa m=>S.al a (R.fresh a m)⟩
theorem Zvy{op}(h:ME X io p c a ma):ME X io p c (.BoolOp op [a] pos) ma:=by
 obtain⟨_,A,sa⟩:=h;exact⟨_,Ycf A,sa⟩
theorem Zts(ha:ME X io p c a ma)(hb:ME X io p' c' (.BoolOp .And (b::rest) pos) mb):ME X io (p&&p') c' (.BoolOp .And (a::b::rest) pos) (Yam ma mb):=by
 obtain⟨_,A,sa⟩:=ha;obtain⟨_,B,sb⟩:=hb;exact⟨_,Yct A B,λC H Y δ fp ex K Q R h k=>sa C H Y δ fp ex _ _ R h λH' v r δ' fp' new r1 h1=>by
  obtain⟨b,rfl,h1⟩:=(r1.da R).boolInv h1;refine⟨b,rfl,?_⟩;cases b with
  | true=>
   rw[YL rfl]at h1|-
   exact sb C H' Y δ' fp' ex _ _ r1.base h1 λH2 w r2 δ2 fp2 new2 R2 h2=>k H2 w r2 δ2 fp2 new2 (R2.step r1.stp) h2
  | false=>
   rw[YM Xn]at h1|-
   exact k H' _ _ δ' fp' [] (RE.fz r1.base r1.stp.andL (.bl YF)) h1⟩
theorem Ybz(ha:ME X io p c a ma):ME X io p YD (.UnaryOp .Not a pos) (Ya0 ma):=by
 obtain⟨_,A,sa⟩:=ha;exact⟨_,Yay A,λC H Y δ fp ex K Q R h k=>sa C H Y δ fp ex _ _ R h λH' v r δ' fp' new r1 h1=>by
  obtain⟨b,rfl,h1⟩:=(r1.da R).boolInv h1;exact⟨b,rfl,k H' _ _ δ' fp' [] (RE.fz r1.base r1.stp (.bl _)) h1⟩⟩
theorem Stp.cast{p p':Bool}{δ δ':Zm}{fp fp':Fp}(h:p'=YD->p=YD)(S:Stp p H δ fp H' δ' fp'):Stp p' H δ fp H' δ' fp' :=
 ⟨λb o e q=>S.keep b o e (q.imp h id),λq=>S.env (h q),S.grow,S.al⟩
theorem RE.cast{C:MC G}{Y:St}{δ δ1:Zm}{fp fp1:Fp}{ex:YG->Prop}{v:V}{r:OT}{new:List YG}(hp:p'=YD->p=YD)(hc:c'=YD->c=YD)(R:RE C io p c H Y δ fp ex H1 v r δ1 fp1 new) :
  RE C io p' c' H Y δ fp ex H1 v r δ1 fp1 new:=⟨R.rel,R.stp.cast hp,R.own.wide λa l _ z=>l (hc z),R.nd,R.fresh⟩
theorem Yir{t:YJ}(ht:MT X io p t ta)(ha:ME X io p' c a ma)(hb:ME X io p'' c' b mb):ME X io (p&&(p'&&p'')) (c&&c') (.IfExp t a b pos) (mIf ta ma mb):=by
 obtain⟨_,T,st⟩:=ht;obtain⟨_,A,sa⟩:=ha;obtain⟨_,B,sb⟩:=hb;exact⟨_,Z0l T A B,λC H Y δ fp ex K Q R h k=>st C H Y δ fp ex _ _ R h λH' b δ' fp' R' S h'=>by
  cases b with
  | true=>
   rw[YL rfl]at h'|-
   exact sa C H' Y δ' fp' ex _ _ R' h' λH2 w r2 δ2 fp2 new2 R2 h2=>k H2 w r2 δ2 fp2 new2 ((R2.step S).cast (λz=>by simp at z;simp[z]) (λz=>by simp at z;exact z.1)) h2
  | false=>
   rw[YM Xn]at h'|-
   exact sb C H' Y δ' fp' ex _ _ R' h' λH2 w r2 δ2 fp2 new2 R2 h2=>k H2 w r2 δ2 fp2 new2 ((R2.step S).cast (λz=>by simp at z;simp[z]) (λz=>by simp at z;exact z.2)) h2⟩
end
section
variable {io:List Nat}{p p' p'' c c':Bool}{a b:YJ}{m ma mb:MEt}{rest:List YJ}{mr:MAt}
def Yh5:MAt:=λδ K=>K [] δ
def Ydc(m:MEt)(mr:MAt):MAt:=λδ K=>m δ λr δ1=>mr δ1 λrs δ2=>K (r::rs) δ2
theorem Zby:MA X io YD YD [] Yh5:=⟨_,Ze4,λC H Y δ fp ex K Q R h k=>k H [] [] δ fp [] ⟨R.drop λa z=>Zeg.mp z,.refl _ _ _ _,.nil,.nil,λa m=>nomatch m⟩ h⟩
theorem Z5o(ha:ME X io p c e m)(hr:MA X io p' c' es mr)(hc:p'=YD\/c=YD)(hs:Xr (e::es) X.env=(YF,eval e X.env)::Xr es X.env:=by rfl):MA X io (p&&p') (c&&c') (e::es) (Ydc m mr):=by
 obtain⟨tA,A,sa⟩:=ha;obtain⟨tB,B,sb⟩:=hr;refine⟨_,Zbj A B hs,λC H Y δ fp ex K Q R h k=>?_⟩;refine sa C H Y δ fp ex _ _ R h λH1 x u δ1 fp1 new1 r1 h1=>?_;refine sb C H1 Y δ1 fp1 (exu ex new1) _ _ r1.rel h1 λH2 ys us δ2 fp2 new2 r2 h2=>?_;have o1:=r1.rel.own_step (ex':=exu (exu ex new1) new2) r2.stp (c:=c) hc (λa z=>z.imp id λz=>r2.fresh a z) (λa m=>.inr m) r1.own;have eqx:∀a,exu ex (new1++new2) a->exu (exu ex new1) new2 a:=λa z=>by
  rcases z with z|z
  .exact .inl (.inl z)
  .rcases XQ.mp z with z|z
   .exact .inl (.inr z)
   .exact .inr z
 refine k H2 (x::ys) (u::us) δ2 fp2 (new1++new2) ⟨r2.rel.drop eqx,r1.stp.trans r2.stp,.cons (o1.wide λa l _ z=>?_) (r2.own.wide λa l _ z=>?_),?_,?_⟩ h2
 .have l:=l (by rw[XC]at z;exact z.1)
  exact⟨l.1,λw=>l.2.1 (eqx a w),l.2.2⟩
 .have l:=l (by rw[XC]at z;exact z.2)
  exact⟨l.1,λw=>l.2.1 (eqx a w),l.2.2⟩
 .refine JL.mpr ⟨r1.nd,r2.nd,λa m b m' z=>?_⟩
  subst z;obtain⟨xs,e⟩:=r1.own.some a m;rw[r2.fresh a m']at e;cases e
 .intro a m
  rcases XQ.mp m with m|m
  .exact r1.fresh a m
  .exact r1.stp.al a (r2.fresh a m)
def Yi8(m:MAt):MEt:=λδ K=>m δ λrs δ'=>rs.length<=Xz/\K (.fz (.tuple (OT.datas rs))) δ'
def Yic(m:MAt):MEt:=λδ K=>m δ λrs δ'=>rs.length<=Xz/\K (.nd rs) δ'
theorem Ygs{x1}(h:MA X io p c es mr):ME X io p c (.Tuple es x1 pos) (Yi8 mr):=by
 obtain⟨tA,A,sa⟩:=h;refine⟨_,Ycd A,λC H Y δ fp ex K Q R h k=>?_⟩;refine sa C H Y δ fp ex _ _ R h λH1 vs rs δ1 fp1 new1 r1 h1=>⟨by rw[r1.own.length];exact h1.1,λq hq=>?_⟩;have s:=Z9 hq (.tup vs);have R1:=r1.base;have S:=r1.stp.trans (p':=YD) (Stp.same (p:=YD) (δ:=δ1) (fp:=fp1) s s.al);rw[Bool.and_true]at S;refine k _ _ _ δ1 fp1 [] (.fz ?_ S (.tup Yj ((r1.das R).same s))) h1.2;exact(R1.made (new:=[]) s λa m=>nomatch m).drop λa z=>.inl z
theorem Z4n(h:MA X io p c es mr):ME X io p c (.List es pos) (Yic mr):=by
 obtain⟨tA,A,sa⟩:=h;refine⟨_,Z2n A,λC H Y δ fp ex K Q R h k=>?_⟩;refine sa C H Y δ fp ex _ _ R h λH1 vs rs δ1 fp1 new1 r1 h1=>⟨by rw[r1.own.length];exact h1.1,λq hq=>?_⟩;have s:=Z9 hq (.lst vs);have S:=r1.stp.trans (p':=YD) (Stp.same (p:=YD) (δ:=δ1) (fp:=fp1) s s.al);rw[Bool.and_true]at S;have hqn:q∉new1:=λm=>by
  obtain⟨xs,e⟩:=r1.own.some q m;rw[hq]at e;cases e
 have R2:=(r1.rel.made (new:=[q]) s λa m=>by
  rcases Xj.mp m with rfl;exact⟨hq,by rw[Yj];intro z;cases z⟩)
 have eqx:∀a,exu ex (q::new1) a->exu (exu ex new1) [q] a:=λa z=>by
  rcases z with z|z
  .exact .inl (.inl z)
  .rcases Xm.mp z with z|z
   .exact .inr (Xj.mpr z)
   .exact .inl (.inr z)
 refine k _ _ _ δ1 fp1 (q::new1) ⟨R2.drop eqx,S,.nd Yj ((r1.own.wide λa l w z=>?_).same s),Qo.mpr ⟨hqn,r1.nd⟩,λa m=>?_⟩ h1.2
 .have l:=l z
  refine⟨l.1,λy=>?_,l.2.2⟩;rcases eqx a y with y|y
  .exact l.2.1 y
  .rcases Xj.mp y with rfl
   exact w hq
 .rcases Xm.mp m with rfl|m
  .exact r1.stp.al _ hq
  .exact r1.fresh a m
end
def spD(G:Xc)(S:List Xa->(OT->Prop)->Prop):Sp:=λvs H Q _=>∃L ds k,Das G H L vs ds/\S ds k/\
 ∀r v H' new,k r->Same H H'->Own G H' (λa=>(L a\/H a=YC)/\a∉new) v r new->new.Nodup->(∀a∈new,H a=YC)->Q v H'
section
variable {io:List Nat}{p p' p'' c c':Bool}{a b:YJ}{m ma mb:MEt}{rest:List YJ}{mr:MAt}
variable {k:Nat}{f:YG}{fd:XJ}{E:XK}{pp:Pos}
def Z1b(S:List Xa->(OT->Prop)->Prop)(mr:MAt):MEt:=λδ K=>mr δ λrs δ1=>S (OT.datas rs) λr=>K r δ1
theorem Ycv{S}{t:TA}(sa:SA G io p c t mr):SE G io p c (Z6l (spD G S) [] E t) (Z1b S mr):=by
 intro C H Y δ fp ex K Q R h kk;refine sa C H Y δ fp ex _ _ R h λH1 vs rs δ1 fp1 new1 r1 h1=>?_;rw[QS];refine⟨_,_,_,r1.das R,h1,λr v H' new kr s o nd hn=>?_⟩;exact kk H' v r δ1 fp1 new (RE.tree R r1.base r1.stp s hn nd o) kr
theorem Zof{S}(F:FnOk X.prog X.w X.K X.mg X.base CX k f fd ps (spD X.K S))(hr:Room k X.A)(hg:Gl X x)(hm:X.mg x=YB (.ref f))(hk:Ve X.K (.ref f)=YD)(hb:Binds X.K fd ps [])(hx:Zk9 CX X E)
  (ha:MA X io p c (e::es) mr) (hdb:(x==("__debug__" : Str))=YF:=by decide) (he:Xr (e::es) X.env=(YF,eval e X.env)::Xr es X.env:=by rfl) (hpl:(JX pos (Xr es X.env)).any (·.1)=YF:=by rfl) :
  ME X io p c (.Call (.Name x pp) (e::es) [] pos) (Z1b S mr):=by
 obtain⟨_,A,sa⟩:=ha;exact⟨_,Z8a F hr hg hm hk hb .nil hx A hdb he hpl,Ycv sa⟩
theorem Yko(hg:Gl X x)(hm:X.mg x=YB (.ref f))(hc:ClsAt X.K x f)(hdb:(x==("__debug__" : Str))=YF:=by decide):ME X io YD YD (.Name x pos) (mC (fnD x)) :=
 ⟨_,Z8e (v:=.ref f) hg hm rfl hdb,λC H Y δ fp ex K Q R h k=>k H (.ref f) _ δ fp [] (.fz R (.refl _ _ _ _) (.fn hc)) h⟩
def Ybr(i:Nat)(f:YG)(sp:Sp)(E:XK)(t:TA):TE:=λY H Q=>Y[i]? =YB (YB (.ref f))/\Z6l sp [] E t Y H Q
theorem Zzv{t:TA}(F:FnOk X.prog X.w X.K X.mg X.base CX k f fd ps sp)(hr:Room k X.A)(hN:X.N[i]? =YB x)(hv:Vis X.env.scope x)(hk:Ve X.K (.ref f)=YD)(hb:Binds X.K fd ps [])(hx:Zk9 CX X E)
  (ha:PA X (e::es) t) (hdb:(x==("__debug__" : Str))=YF:=by decide) (hcd:(x==("__classdict__" : Str))=YF:=by decide) (he:Xr (e::es) X.env=(YF,eval e X.env)::Xr es X.env:=by rfl) (hpl:(JX pos (Xr es X.env)).any (·.1)=YF:=by rfl) :
  PE X (.Call (.Name x pp) (e::es) [] pos) (Ybr i f sp E t):=by
 intro pins s Y H Q I h;obtain⟨e0,h⟩:=h;refine V2 (thn (Z3e hN hv hdb hcd pins s Y H (λv H'=>v= .ref f/\H'=H) I ⟨_,e0,rfl,rfl⟩) λu s0 q=>?_);obtain⟨v,H0,I0,r0,e1,e2⟩:=q;subst e1 e2;cases(show u=QZ f from r0);refine PySem.W.callWith_K (h₀:=X.base) I0.ok.mod.kin hk (thn (ha pos pins s0 Y H0 _ I0 h) λus s1 q=>?_) he hpl;obtain⟨vs,H1,I1,r,q⟩:=q;exact⟨I1.kIn,Z3g F hr hb .nil hx I1 r q⟩
def Z4f(i:Nat)(y:Str)(S:List Xa->(OT->Prop)->Prop)(mr:MAt):MEt:=λδ K=>δ[i]? =YB (YB (.fz (fnD y)))/\Z1b S mr δ K
theorem Da.fnInv{v:V}{y:Str}{f:YG}(q:Da G H L v (fnD y))(hf:ClsAt G y f):v= .ref f:=by
 generalize ed:fnD y=d at q;cases q with
 | fn h=>
  unfold fnD at ed;injection ed with ed;injection ed with ed _;injection ed with ed _;injection ed with ed;subst ed;have:=h.symm.trans hf;injection this with this;injection this with this;injection this with this;rw[this]
 | exc _ _ _=>unfold fnD exD at ed;cases ed
 | _=>unfold fnD at ed;cases ed
theorem Zzb{S}{y:Str}(F:FnOk X.prog X.w X.K X.mg X.base CX k f fd ps (spD X.K S))(hr:Room k X.A)(hc:ClsAt X.K y f)(hk:Ve X.K (.ref f)=YD)(hb:Binds X.K fd ps [])(hx:Zk9 CX X E)
  (ha:MA X io p c (e::es) mr) (hN:X.N[i]? =YB x:=by rfl) (hv:Vis X.env.scope x:=by first|exact QT rfl|exact QF (QT rfl)|exact QF (QF rfl)) (hdb:(x==("__debug__" : Str))=YF:=by decide) (hcd:(x==("__classdict__" : Str))=YF:=by decide)
  (he:Xr (e::es) X.env=(YF,eval e X.env)::Xr es X.env:=by rfl) (hpl:(JX pos (Xr es X.env)).any (·.1)=YF:=by rfl):ME X io p c (.Call (.Name x pp) (e::es) [] pos) (Z4f i y S mr):=by
 obtain⟨_,A,sa⟩:=ha;refine⟨_,Zzv F hr hN hv hk hb hx A hdb hcd he hpl,λC H Y δ fp ex K Q R h kk=>?_⟩;obtain⟨h0,h⟩:=h;obtain⟨v,e1,o⟩:=R.own i _ h0;generalize fp i=as at o;cases o with
 | fz q=>
  rw[q.fnInv hc]at e1;exact⟨e1,Ycv sa C H Y δ fp ex K Q R h kk⟩
def fpu(fp:Fp)(i:Nat)(as:List YG):Fp:=λj=>if j=i then as else fp j
theorem Ys{fp:Fp}{as:List YG}:fpu fp i as i=as:=YL rfl
theorem Wn{fp:Fp}{as:List YG}(h:j≠i):fpu fp i as j=fp j:=YM h
theorem Foot.of_u{fp:Fp}{as:List YG}{a:YG}(h:Foot (fpu fp i as) a):a∈as\/∃j,j≠i/\a∈fp j:=by
 obtain⟨j,h⟩:=h
 by_cases e:j=i
 .subst e;rw[Ys]at h;exact .inl h
 .rw[Wn e]at h;exact .inr ⟨j,e,h⟩
theorem Rel.change{C:MC G}{Y:St}{δ:Zm}{fp:Fp}{ex:YG->Prop}{t t':OT}{v:V}{as' new:List YG}(R:Rel C io H Y δ fp ex)(hi:δ[i]? =YB (YB t))(hv:Y[i]? =YB (YB v))
  (keep:∀b o,H b=YB o->b∉fp i->H' b=YB o) (al:∀b,H' b=YC->H b=YC) (o:Own G H' (Lf C (fpu fp i as') (exu ex new)) v t' as') (nd:as'.Nodup) (new':∀a∈as',a∈fp i\/H a=YC)
  (hn:∀a∈new,H a=YC/\H' a≠YC/\a∉as') :
  Rel C io H' Y (δ.set i (YB t')) (fpu fp i as') (exu ex new)/\Stp YF H δ fp H' (δ.set i (YB t')) (fpu fp i as'):=by
 have hil:i<δ.length:=(Xw.mp hi).1;have apart:∀j a,j≠i->a∈fp j->a∉as':=λj a e m z=>by
  rcases new' a z with z|z
  .exact e (R.dj j i a m z)
  .exact R.footSome z ⟨j,m⟩
 constructor
 .refine⟨by rw[Vr];exact R.len,λj t'' e=>?_,λj h=>?_,λj=>?_,λj k a h1 h2=>?_,λj a h z=>?_,λa z w=>z.elim (λz=>R.xa a z (al a w)) (λz=>(hn a z).2.1 w),λb ob e n=>?_,λb z=>R.al b (al b z),λj a h=>?_,R.io⟩
  .by_cases ej:j=i
   .subst ej
    rw[JP hil]at e;cases e;exact⟨v,hv,by rw[Ys];exact o⟩
   .rw[Q3 (VF ej)]at e
    obtain⟨w,e1,o1⟩:=R.own j t'' e;refine⟨w,e1,?_⟩;rw[Wn ej];refine o1.frame (λa xs l q=>?_) (λa xs q=>keep a _ q λz=>?_) λa m xs q=>keep a _ q λz=>ej (R.dj j i a m z)
    .have na:a∉fp i:=λz=>l.1 ⟨i,z⟩
     refine⟨⟨λz=>?_,λz=>z.elim l.2.1 λz=>q.some (hn a z).1,l.2.2⟩,?_⟩
     .rcases z.of_u with z|⟨k,_,z⟩
      .rcases new' a z with z|z
       .exact na z
       .exact q.some z
      .exact l.1 ⟨k,z⟩
     .rcases q with q|⟨u,q⟩
      .exact .inl (keep a _ q na)
      .exact .inr ⟨u,keep a _ q na⟩
    .obtain⟨ys,e⟩:=R.foot ⟨i,z⟩
     exact ImO.nm q e
  .by_cases ej:j=i
   .subst ej
    exact YX (JP hil) (h t')
   .rw[Wn ej]
    refine R.emp j λt'' z=>h t'' ?_;rw[Q3 (VF ej)];exact z
  .by_cases ej:j=i
   .subst ej;rw[Ys];exact nd
   .rw[Wn ej];exact R.nd j
  .by_cases ej:j=i
   .subst ej
    rw[Ys]at h1
    by_cases ek:k=j
    .exact ek.symm
    .rw[Wn ek]at h2
     exact YX h1 (apart k a ek h2)
   .rw[Wn ej]at h1
    by_cases ek:k=i
    .subst ek
     rw[Ys]at h2;exact YX h2 (apart j a ej h1)
    .rw[Wn ek]at h2
     exact R.dj j k a h1 h2
  .by_cases ej:j=i
   .subst ej
    rw[Ys]at h;rcases z with z|z
    .rcases new' a h with w|w
     .exact R.dx _ a w z
     .exact R.xa a z w
    .exact(hn a z).2.2 h
   .rw[Wn ej]at h
    rcases z with z|z
    .exact R.dx j a h z
    .exact R.footSome (hn a z).1 ⟨j,h⟩
  .refine keep b ob (R.fr b ob e n) λz=>?_
   rcases R.new i b z with w|w
   .exact n w.2
   .rw[e]at w;cases w
  .by_cases ej:j=i
   .subst ej
    rw[Ys]at h;rcases new' a h with w|w
    .exact R.new _ a w
    .exact .inr (R.al a w)
   .rw[Wn ej]at h
    exact R.new j a h
 .refine⟨λb ob e q=>keep b ob e λz=>(q.resolve_left (by decide)) ⟨i,z⟩,λz=>(nomatch z),λa z=>?_,al⟩
  rcases z.of_u with z|⟨j,_,z⟩
  .exact(new' a z).imp (λw=>⟨i,w⟩) id
  .exact .inl ⟨j,z⟩
def PNs(G:Xc)(r:List V->Hp->VK->Prop)(rp:List Xa->(Xa->Prop)->Prop):Prop:=∀(H:Hp) (L:YG->Prop) (xs:List V) (ds:List Xa) (k:Xa->Prop) (Q:VK),Das G H L xs ds->rp ds k->(∀v d',ScD v d'->k d'->Q v H)->r xs H Q
def PN(G:Xc)(r:List V->Hp->VK->Prop)(rp:List Xa->(OT->Prop)->Prop):Prop:=∀(H:Hp) (L:YG->Prop) (xs:List V) (ds:List Xa) (k:OT->Prop) (Q:VK),Das G H L xs ds->rp ds k ->
 (∀ H' v o new,Same H H'->Own G H' (λa=>(L a\/H a=YC)/\a∉new) v o new->new.Nodup->(∀a∈new,H a=YC)->k o->Q v H')->r xs H Q
def Yef(rp:List Xa->(Xa->Prop)->Prop)(mr:MAt):MEt:=λδ K=>mr δ λrs δ1=>rp (OT.datas rs) λd=>K (.fz d) δ1
def mBl(rp:List Xa->(OT->Prop)->Prop)(mr:MAt):MEt:=λδ K=>mr δ λrs δ1=>rp (OT.datas rs) λo=>K o δ1
theorem Yi9{r rp}{t:TA}(P:PNs G r rp)(sa:SA G io p c t mr):SE G io p YD (tCB r t) (Yef rp mr):=λC H Y δ fp ex K Q R h kk=>
 sa C H Y δ fp ex _ _ R h λH1 vs rs δ1 fp1 new1 r1 h1=>P H1 _ vs _ _ _ (r1.das R) h1 λv d' sc h2=>kk H1 v _ δ1 fp1 [] (.fz r1.base r1.stp sc.da) h2
theorem sBl{r rp}{t:TA}(P:PN G r rp)(sa:SA G io p c t mr):SE G io p c (tCB r t) (mBl rp mr):=λC H Y δ fp ex K Q R h kk=>
 sa C H Y δ fp ex _ _ R h λH1 vs rs δ1 fp1 new1 r1 h1=>P H1 _ vs _ _ _ (r1.das R) h1 λH' v o new s ow nd hn h2=>kk H' v o δ1 fp1 new (RE.tree R r1.base r1.stp s hn nd ow) h2
variable {T:String}{r:List V->Hp->VK->Prop}
theorem Zjk{rp}(P:PNs X.K r rp)(hc:Zbn X (.builtin id) r)(hg:Gl X x)(hm:X.mg x=YC)(hv:Qh x=YB (.builtin id))(ha:MA X io p c (e::es) mr)(hn:x≠"__name__" :=by decide)(hdb:(x==("__debug__" : Str))=YF:=by decide)
  (he:Xr (e::es) X.env=(YF,eval e X.env)::Xr es X.env:=by rfl) (hpl:(JX pos (Xr es X.env)).any (·.1)=YF:=by rfl):ME X io p YD (.Call (.Name x pp) (e::es) [] pos) (Yef rp mr):=by
 obtain⟨_,A,sa⟩:=ha;exact⟨_,Zij hc hg hm hv A hn hdb he hpl,Yi9 P sa⟩
theorem Z34{rp}(P:PN X.K r rp)(hc:Zbn X (.builtin id) r)(hg:Gl X x)(hm:X.mg x=YC)(hv:Qh x=YB (.builtin id))(ha:MA X io p c (e::es) mr)(hn:x≠"__name__" :=by decide)(hdb:(x==("__debug__" : Str))=YF:=by decide)
  (he:Xr (e::es) X.env=(YF,eval e X.env)::Xr es X.env:=by rfl) (hpl:(JX pos (Xr es X.env)).any (·.1)=YF:=by rfl):ME X io p c (.Call (.Name x pp) (e::es) [] pos) (mBl rp mr):=by
 obtain⟨_,A,sa⟩:=ha;exact⟨_,Zij hc hg hm hv A hn hdb he hpl,sBl P sa⟩
theorem Ygz{rp}(P:PNs X.K r rp)(hc:Zbn X (.type T) r)(hg:Gl X x)(hm:X.mg x=YC)(hv:Qh x=YB (.type T))(ha:MA X io p c (e::es) mr)(hn:x≠"__name__" :=by decide)(hdb:(x==("__debug__" : Str))=YF:=by decide)
  (he:Xr (e::es) X.env=(YF,eval e X.env)::Xr es X.env:=by rfl) (hpl:(JX pos (Xr es X.env)).any (·.1)=YF:=by rfl):ME X io p YD (.Call (.Name x pp) (e::es) [] pos) (Yef rp mr):=by
 obtain⟨_,A,sa⟩:=ha;exact⟨_,Zcl hc hg hm hv A hn hdb he hpl,Yi9 P sa⟩
theorem Ykp{rp}(P:PN X.K r rp)(hc:Zbn X (.type T) r)(hg:Gl X x)(hm:X.mg x=YC)(hv:Qh x=YB (.type T))(ha:MA X io p c (e::es) mr)(hn:x≠"__name__" :=by decide)(hdb:(x==("__debug__" : Str))=YF:=by decide)
  (he:Xr (e::es) X.env=(YF,eval e X.env)::Xr es X.env:=by rfl) (hpl:(JX pos (Xr es X.env)).any (·.1)=YF:=by rfl):ME X io p c (.Call (.Name x pp) (e::es) [] pos) (mBl rp mr):=by
 obtain⟨_,A,sa⟩:=ha;exact⟨_,Zcl hc hg hm hv A hn hdb he hpl,sBl P sa⟩
end
mutual
def Zif:Xa->Bool
 | .none=>YD
 | .bool _=>YD
 | .int _=>YD
 | .str _=>YD
 | .tuple ds=>Zuv ds
 | .list _=>YF
 | .dict _=>YF
def Zuv:List Xa->Bool
 | []=>YD
 | d::ds=>Zif d&&Zuv ds
end
set_option genInjectivity false in
structure Zkh where
 nx:Zm->Prop
 rt:OT->Zm->Prop
 bk:Zm->Prop:=λ_=>False
 ct:Zm->Prop:=λ_=>False
abbrev MSt:=Zkh->Zm->Prop
abbrev Kp(H:Hp)(fp:Fp)(H':Hp)(fp':Fp):Prop:=Stp YF H [] fp H' [] fp'
theorem Stp.kp{p:Bool}{H H':Hp}{δ δ':Zm}{fp fp':Fp}(S:Stp p H δ fp H' δ' fp'):Kp H fp H' fp':=⟨λb o e q=>S.keep b o e (.inr (q.resolve_left (by decide))),λz=>(nomatch z),S.grow,S.al⟩
theorem Kp.trans{fp fp1 fp2:Fp}(a:Kp H fp H1 fp1)(b:Kp H1 fp1 H2 fp2):Kp H fp H2 fp2:=Stp.trans a b
theorem Kp.refl(H:Hp)(fp:Fp):Kp H fp H fp:=Stp.refl _ _ _ _
structure RelEnds(C:MC G)(io:List Nat)(ex:YG->Prop)(H:Hp)(fp:Fp)(D:Zkh)(D':Ends):Prop where
 nx:∀H' Y' δ' fp',Rel C io H' Y' δ' fp' ex->Kp H fp H' fp'->D.nx δ'->D'.nx Y' H'
 bk:∀H' Y' δ' fp',Rel C io H' Y' δ' fp' ex->Kp H fp H' fp'->D.bk δ'->D'.bk Y' H'
 ct:∀H' Y' δ' fp',Rel C io H' Y' δ' fp' ex->Kp H fp H' fp'->D.ct δ'->D'.ct Y' H'
 rt:∀H' Y' v r δ' fp' new,Rel C io H' Y' δ' fp' (exu ex new)->Own G H' (Lf C fp' (exu ex new)) v r new->new.Nodup->(∀a∈new,C.H₀ a=YC)->D.rt r δ'->D'.rt v H'
theorem RelEnds.shift{C:MC G}{io:List Nat}{ex:YG->Prop}{fp fp1:Fp}{D:Zkh}{D':Ends}(E:RelEnds C io ex H fp D D')(k:Kp H fp H1 fp1):RelEnds C io ex H1 fp1 D D' :=
 ⟨λH' Y' δ' fp' R q=>E.nx H' Y' δ' fp' R (k.trans q),λH' Y' δ' fp' R q=>E.bk H' Y' δ' fp' R (k.trans q),λH' Y' δ' fp' R q=>E.ct H' Y' δ' fp' R (k.trans q),E.rt⟩
def SS(G:Xc)(io:List Nat)(t:TS)(m:MSt):Prop:=∀(C:MC G) (H:Hp) (Y:St) (δ:Zm) (fp:Fp) (ex:YG->Prop) (D:Zkh) (D':Ends),Rel C io H Y δ fp ex->m D δ->RelEnds C io ex H fp D D'->t D' Y H
def MS(X:Cx)(io:List Nat)(st:YK)(m:MSt):Prop:=∃t,PS X st t/\SS X.K io t m
def MSs(X:Cx)(io:List Nat)(st:List YK)(m:MSt):Prop:=∃t,PSs X st t/\SS X.K io t m
section
variable {io:List Nat}{p p' p'' c c':Bool}{a b:YJ}{m ma mb:MEt}{rest:List YJ}{mr:MAt}{sts:List YK}{u w:MSt}{mt:MTt}
def Yc8:MSt:=λD δ=>D.nx δ
def Ykb(w:MSt)(D:Zkh)(δ:Zm):Prop:=w D δ
def Ye0(u w:MSt):MSt:=λD δ=>u { D with nx:=Ykb w D } δ
theorem Zdc:MSs X io [] Yc8:=⟨_,Z6j,λC H Y δ fp ex D D' R h E=>E.nx H Y δ fp R (.refl _ _) h⟩
theorem Zi(h:MS X io st u):MSs X io [st] u:=by
 obtain⟨_,A,s⟩:=h;exact⟨_,Z7b A,s⟩
theorem Zar(h:MS X io st u)(g:MSs X io sts w):MSs X io (st::sts) (Ye0 u w):=by
 obtain⟨_,A,s⟩:=h;obtain⟨tb,B,s'⟩:=g;exact⟨_,Z1u A B,λC H Y δ fp ex D D' R h E=>s C H Y δ fp ex _ _ R h ⟨λH1 Y1 δ1 fp1 R1 k1 h1=>s' C H1 Y1 δ1 fp1 ex D D' R1 h1 (E.shift k1),E.bk,E.ct,E.rt⟩⟩
def Z9n:MSt:=λ_ _=>False
theorem Z1d:MS X io st Z9n:=⟨_,Z02,λC H Y δ fp ex D D' R h E=>h.elim⟩
def Z9h(m:MEt):MSt:=λD δ=>m δ λ_ δ'=>D.nx δ'
theorem Z8o(he:ME X io p c e m)(hs:V9 e YC pos.line X.env=pure YF:=by rfl):MS X io (.Expr e pos) (Z9h m):=by
 obtain⟨_,A,s⟩:=he;exact⟨_,Zpt A hs,λC H Y δ fp ex D D' R h E=>s C H Y δ fp ex _ _ R h λH' v r δ' fp' new r1 h1=>E.nx H' Y δ' fp' r1.base r1.stp.kp h1⟩
def Yhx(m:MEt):MSt:=λD δ=>m δ λr δ'=>D.rt r δ'
theorem Ze8(he:ME X io p YD e m):MS X io (.Return (YB e) pos) (Yhx m):=by
 obtain⟨_,A,s⟩:=he;exact⟨_,Z2q A,λC H Y δ fp ex D D' R h E=>s C H Y δ fp ex _ _ R h λH' v r δ' fp' new r1 h1=>E.rt H' Y v r δ' fp' new r1.rel (r1.own.wide λa l _=>l rfl) r1.nd (λa m=>(R.newOk (r1.fresh a m)).2.2) h1⟩
def Z01(i:Nat):MSt:=λD δ=>match δ[i]? with|some (YB t)=>D.rt t (δ.set i YC)|_=>False
theorem Rel.take{C:MC G}{Y:St}{δ:Zm}{fp:Fp}{ex:YG->Prop}{t:OT}(R:Rel C io H Y δ fp ex)(hi:δ[i]? =YB (YB t)):Rel C io H Y (δ.set i YC) (fpu fp i []) (exu ex (fp i)):=by
 have hil:i<δ.length:=(Xw.mp hi).1;have get:∀j (t':OT),(δ.set i YC)[j]? =YB (YB t')->j≠i/\δ[j]? =YB (YB t'):=λj t' e=>by
  by_cases ej:j=i
  .subst ej;rw[JP hil]at e;cases e
  .rw[Q3 (VF ej)]at e;exact⟨ej,e⟩
 have sub:∀j a,a∈fpu fp i [] j->j≠i/\a∈fp j:=λj a m=>by
  by_cases ej:j=i
  .subst ej;rw[Ys]at m;exact nomatch m
  .rw[Wn ej]at m;exact⟨ej,m⟩
 have lw:∀a,Lf C fp ex a->Lf C (fpu fp i []) (exu ex (fp i)) a:=λa l=>⟨λ⟨j,z⟩=>l.1 ⟨j,(sub j a z).2⟩,λz=>z.elim l.2.1 λz=>l.1 ⟨i,z⟩,l.2.2⟩;refine⟨by rw[Vr];exact R.len,λj t' e=>?_,λj h=>?_,λj=>?_,λj k a h1 h2=>R.dj j k a (sub j a h1).2 (sub k a h2).2,λj a h z=>?_,λa z w=>?_,R.fr,R.al,λj a h=>R.new j a (sub j a h).2,R.io⟩
 .obtain⟨ej,e⟩:=get j t' e
  obtain⟨w,e1,o⟩:=R.own j t' e;exact⟨w,e1,by rw[Wn ej];exact o.wide λa l _=>lw a l⟩
 .by_cases ej:j=i
  .subst ej;rw[Ys]
  .rw[Wn ej]
   exact R.emp j λt' z=>h t' (by rw[Q3 (VF ej)];exact z)
 .by_cases ej:j=i
  .subst ej;rw[Ys];exact .nil
  .rw[Wn ej];exact R.nd j
 .obtain⟨ej,h⟩:=sub j a h
  rcases z with z|z
  .exact R.dx j a h z
  .exact ej (R.dj j i a h z)
 .rcases z with z|z
  .exact R.xa a z w
  .exact R.footSome w ⟨i,z⟩
theorem Zdy(i:Nat){px:Pos}(hio:i∉io:=by decide)(hN:X.N[i]? =YB x:=by rfl)(hv:Vis X.env.scope x:=by first|exact QT rfl|exact QF (QT rfl)|exact QF (QF rfl))(hd:(x==("__debug__" : Str))=YF:=by decide)
  (hcd:(x==("__classdict__" : Str))=YF:=by decide):MS X io (.Return (YB (.Name x px)) pos) (Z01 i):=by
 refine⟨_,Z2q (pv i hN hv hd hcd),λC H Y δ fp ex D D' R h E=>?_⟩;unfold Z01 at h;split at h
 case h_2=>exact h.elim
 rename_i t hi;obtain⟨v,e,o⟩:=R.own i t hi;have lw:∀a,Lf C fp ex a->H a≠YC->Lf C (fpu fp i []) (exu ex (fp i)) a:=λa l _=>⟨λz=>by
  rcases z.of_u with z|⟨j,_,z⟩
  .exact nomatch z
  .exact l.1 ⟨j,z⟩,λz=>z.elim l.2.1 λz=>l.1 ⟨i,z⟩,l.2.2⟩
 have hn:∀a∈fp i,C.H₀ a=YC:=λa m=>by
  rcases R.new i a m with z|z
  .exact YX z.1 hio
  .exact z
 exact⟨v,e,E.rt H Y v t _ _ (fp i) (R.take hi) (o.wide lw) (R.nd i) hn h⟩
def Yiv(t:MTt)(u w:MSt):MSt:=λD δ=>t δ λb δ'=>if b=YD then u D δ' else w D δ'
theorem Zm8{cnd:YJ}{ss ss':List YK}(hc:MT X io p cnd mt)(ha:MSs X io ss u)(hb:MSs X io ss' w):MS X io (.If cnd ss ss' pos) (Yiv mt u w):=by
 obtain⟨_,T,s⟩:=hc;obtain⟨_,A,sa⟩:=ha;obtain⟨_,B,sb⟩:=hb;exact⟨_,Yf9 T A B,λC H Y δ fp ex D D' R h E=>s C H Y δ fp ex _ _ R h λH' b δ' fp' R' S h'=>by
  cases b with
  | true=>
   rw[YL rfl]at h'|-
   exact sa C H' Y δ' fp' ex D D' R' h' (E.shift S.kp)
  | false=>
   rw[YM Xn]at h'|-
   exact sb C H' Y δ' fp' ex D D' R' h' (E.shift S.kp)⟩
theorem Rel.put{C:MC G}{Y:St}{δ:Zm}{fp:Fp}{ex:YG->Prop}{v:V}{r:OT}{new:List YG}(R:Rel C io H Y δ fp (exu ex new))(hio:i∉io)(o:Own G H (Lf C fp (exu ex new)) v r new)(nd:new.Nodup)
  (hn:∀a∈new,C.H₀ a=YC/\¬ex a):∃fp',Rel C io H (Y.set i (YB v)) (δ.set i (YB r)) fp' ex/\∀a,Foot fp' a->Foot fp a\/a∈new:=by
 by_cases hil:i<δ.length
 case neg=>
  refine⟨fp,?_,λa h=>.inl h⟩;have hl:=R.len;rw[List.set_eq_of_length_le (show δ.length<=i by omega),List.set_eq_of_length_le (show Y.length<=i by omega)];exact R.drop λa z=>.inl z
 have hsl:i<Y.length:=by rw[R.len];exact hil
 have sub:∀a,Foot (fpu fp i new) a->Foot fp a\/a∈new:=λa z=>by
  rcases z.of_u with z|⟨j,_,z⟩
  .exact .inr z
  .exact .inl ⟨j,z⟩
 have lw:∀a,Lf C fp (exu ex new) a->Lf C (fpu fp i new) ex a:=λa l=>⟨λz=>(sub a z).elim l.1 λz=>l.2.1 (.inr z),λz=>l.2.1 (.inl z),l.2.2⟩;refine⟨fpu fp i new,⟨by rw[Vr,Vr];exact R.len,λj t' e=>?_,λj h=>?_,λj=>?_,λj k a h1 h2=>?_,λj a h z=>?_,λa z=>R.xa a (.inl z),R.fr,R.al,λj a h=>?_,λj hj=>?_⟩,sub⟩
 .by_cases ej:j=i
  .subst ej
   rw[JP hil]at e;cases e;exact⟨v,JP hsl,by rw[Ys];exact o.wide λa l _=>lw a l⟩
  .rw[Q3 (VF ej)]at e
   obtain⟨w,e1,o1⟩:=R.own j t' e;exact⟨w,by rw[Q3 (VF ej)];exact e1,by rw[Wn ej];exact o1.wide λa l _=>lw a l⟩
 .by_cases ej:j=i
  .subst ej;exact YX (JP hil) (h r)
  .rw[Wn ej]
   exact R.emp j λt' z=>h t' (by rw[Q3 (VF ej)];exact z)
 .by_cases ej:j=i
  .subst ej;rw[Ys];exact nd
  .rw[Wn ej];exact R.nd j
 .by_cases ej:j=i
  .subst ej
   rw[Ys]at h1
   by_cases ek:k=j
   .exact ek.symm
   .rw[Wn ek]at h2
    exact YX (.inr h1) (R.dx k a h2)
  .rw[Wn ej]at h1
   by_cases ek:k=i
   .subst ek
    rw[Ys]at h2;exact YX (.inr h2) (R.dx j a h1)
   .rw[Wn ek]at h2
    exact R.dj j k a h1 h2
 .by_cases ej:j=i
  .subst ej
   rw[Ys]at h;exact(hn a h).2 z
  .rw[Wn ej]at h
   exact R.dx j a h (.inl z)
 .by_cases ej:j=i
  .subst ej
   rw[Ys]at h;exact .inr (hn a h).1
  .rw[Wn ej]at h
   exact R.new j a h
 .have ej:j≠i:=λz=>hio (z▸hj)
  rw[Q3 (VF ej)];exact R.io j hj
theorem RE.put{C:MC G}{Y:St}{δ δ':Zm}{fp fp':Fp}{ex:YG->Prop}{v:V}{r:OT}{new:List YG}(R:RE C io p YD H Y δ fp ex H' v r δ' fp' new)(R0:Rel C io H Y δ fp ex)(hio:i∉io) :
  ∃fp2,Rel C io H' (Y.set i (YB v)) (δ'.set i (YB r)) fp2 ex/\Kp H fp H' fp2:=by
 obtain⟨fp2,R2,g⟩:=R.rel.put hio (R.own.wide λa l _=>l rfl) R.nd λa m=>⟨(R0.newOk (R.fresh a m)).2.2,(R0.newOk (R.fresh a m)).2.1⟩;refine⟨fp2,R2,λb o e q=>R.stp.keep b o e (.inr (q.resolve_left (by decide))),λz=>(nomatch z),λa z=>?_,R.stp.al⟩;rcases g a z with z|z
 .exact R.stp.grow a z
 .exact .inr (R.fresh a z)
theorem RE.fzc{C:MC G}{Y:St}{δ δ':Zm}{fp fp':Fp}{ex:YG->Prop}{v:V}{r:OT}{new:List YG}(R:RE C io p c H Y δ fp ex H' v r δ' fp' new)(R0:Rel C io H Y δ fp ex) :
  RE C io p c H Y δ fp ex H' v (.fz r.data) δ' fp' []:=.fz R.base R.stp (R.da R0)
def Z88(i:Nat)(m:MEt):MSt:=λD δ=>m δ λr δ'=>D.nx (δ'.set i (YB (.fz r.data)))
def Zo5(i:Nat)(m:MEt):MSt:=λD δ=>m δ λr δ'=>D.nx (δ'.set i (YB r))
section
variable {px:Pos}
theorem Yi0{t:TE}(s:SE G io p YD t m)(hio:i∉io):SS G io (Ya8 t (Zxl i)) (Z88 i m):=λC H Y δ fp ex D D' R h E=>s C H Y δ fp ex _ _ R h λH' v r δ' fp' new r1 h1=>by
 obtain⟨fp2,R2,k2⟩:=(r1.fzc R).put R hio;exact E.nx H' _ _ fp2 R2 k2 h1
theorem Z71{t:TE}(s:SE G io p YD t m)(hio:i∉io):SS G io (Ya8 t (Zxl i)) (Zo5 i m):=λC H Y δ fp ex D D' R h E=>s C H Y δ fp ex _ _ R h λH' v r δ' fp' new r1 h1=>by
 obtain⟨fp2,R2,k2⟩:=r1.put R hio;exact E.nx H' _ _ fp2 R2 k2 h1
theorem Zwg(hN:X.N.Nodup)(hi:X.N[i]? =YB x)(hx:Loc X.env.scope x)(he:ME X io p YD e m)(hio:i∉io:=by decide)(hs:V9 e (YB (.Name x px)) pos.line X.env=pure YF:=by rfl)(hf:X.fn x=YD\/X.env.scope.names.lookup x=YB .local:=by first|exact .inl rfl|exact .inr rfl|assumption) :
  MS X io (.Assign [.Name x px] e pos) (Z88 i m):=by
 obtain⟨_,A,s⟩:=he;exact⟨_,Z3z hN hi hx A hs hf,Yi0 s hio⟩
theorem Z82(hN:X.N.Nodup)(hi:X.N[i]? =YB x)(hx:Loc X.env.scope x)(he:ME X io p YD e m)(hio:i∉io:=by decide)(hs:V9 e (YB (.Name x px)) pos.line X.env=pure YF:=by rfl)(hf:X.fn x=YD\/X.env.scope.names.lookup x=YB .local:=by first|exact .inl rfl|exact .inr rfl|assumption) :
  MS X io (.Assign [.Name x px] e pos) (Zo5 i m):=by
 obtain⟨_,A,s⟩:=he;exact⟨_,Z3z hN hi hx A hs hf,Z71 s hio⟩
end
def Z3r(t:MTt)(u:MSt):MSt:=λD δ=>∃W:Nat->Zm->Prop,(∃n,W n δ)/\∀n δ,W n δ->t δ λb δ'=>if b=YD then∃N:Zm->Prop,(∀δ',N δ'->∃n',n'<n/\W n' δ')/\u { D with nx:=N,ct:=N,bk:=D.nx } δ' else D.nx δ'
theorem Zq6{cnd:YJ}{ss:List YK}(hp:PassesOwn (Qm X.prog X.w) X.A X.env X.xe)(hc:MT X io p cnd mt)(ha:MSs X io ss u):MS X io (.While cnd ss [] pos) (Z3r mt u):=by
 obtain⟨_,T,s⟩:=hc;obtain⟨_,A,sa⟩:=ha;refine⟨_,Z0s hp T A,λC H Y δ fp ex D D' R h E=>?_⟩;obtain⟨W,⟨n0,w0⟩,turn⟩:=h;refine⟨λn Y' H'=>∃δ' fp',Rel C io H' Y' δ' fp' ex/\Kp H fp H' fp'/\W n δ',⟨n0,δ,fp,R,.refl _ _,w0⟩,?_⟩;rintro n Y1 H1 ⟨δ1,fp1,R1,k1,w1⟩;refine s C H1 Y1 δ1 fp1 ex _ _ R1 (turn n δ1 w1) λH2 b δ2 fp2 R2 S2 h2=>?_;have k2:=k1.trans S2.kp;cases b with
 | true=>
  rw[YL rfl]at h2|-
  obtain⟨N,hN,h2⟩:=h2;refine⟨λY' H'=>∃δ' fp',Rel C io H' Y' δ' fp' ex/\Kp H fp H' fp'/\N δ',λY' H' ⟨δ',fp',R',k',n'⟩=>?_,?_⟩
  .obtain⟨n1,hn1,w1⟩:=hN δ' n'
   exact⟨n1,hn1,δ',fp',R',k',w1⟩
  .refine sa C H2 Y1 δ2 fp2 ex _ _ R2 h2 ⟨λH' Y' δ' fp' R' k' n'=>⟨δ',fp',R',k2.trans k',n'⟩,λH' Y' δ' fp' R' k' n'=>E.nx H' Y' δ' fp' R' (k2.trans k') n',λH' Y' δ' fp' R' k' n'=>⟨δ',fp',R',k2.trans k',n'⟩,E.rt⟩
 | false=>
  rw[YM Xn]at h2|-
  exact E.nx H2 Y1 δ2 fp2 R2 k2 h2
end
def Zxy(N:List Str)(ds:List Xa):Zm:=ds.map (λd=>YB (.fz d))++X5 (N.length-ds.length) YC
section
variable {vs:List V}
theorem Zwl{t:OT}{n:Nat}(h:(ds.map (λd=>YB (.fz d))++X5 n YC:Zm)[i]? =YB (YB t)):∃d,ds[i]? =YB d/\t= .fz d:=by
 rw[Uc]at h;split at h
 .rw[Xp]at h
  cases e:ds[i]? with
  | none=>rw[e]at h;cases h
  | some d=>rw[e]at h;cases h;exact⟨d,rfl,rfl⟩
 .rw[Ux]at h
  split at h
  .cases h
  .cases h
theorem Rel.entry(h:Das G H L vs ds):Rel (G:=G) ⟨H,λ_=>False,L,start N vs⟩ [] H (start N vs) (Zxy N ds) (λ_=>[]) (λ_=>False):=by
 refine⟨?_,λi t e=>?_,λ_ _=>rfl,λ_=>.nil,λi j a m=>(nomatch m),λi a m=>(nomatch m),λa z=>z.elim,λb o e _=>e,λb e=>e,λi a m=>(nomatch m),λi m=>nomatch m⟩
 .unfold start Zxy
  simp[h.length]
 .obtain⟨d,e',rfl⟩:=Zwl e
  obtain⟨x,e1,q⟩:=h.get e';refine⟨x,?_,.fz (q.wide λa l _=>⟨λ⟨j,z⟩=>(nomatch z),λz=>z,.inl l⟩)⟩;unfold L2.start;rw[QK (by rw[Xd];exact(Xw.mp e1).1),Xp,e1];rfl
variable {base:YH}
def Z6i(k:OT->Prop):Zkh:={ nx:=λ_=>k (.fz .none),rt:=λr _=>k r }
theorem Fun.okD{f:YG}{fd:XJ}{n:Nat}{S:List Xa->(OT->Prop)->Prop}(F:Fun K x qual st f fd)(Sc:Zv N ps (Zn st))(len:∀ds k,S ds k->ds.length=ps.length)
  (hbody:∀(cdv:Xe) (A:QB) (outer:List Env) (s:Xh) (H:Hp) (E:XK),Room n (A.deeper (envOfC qual (Zn st) s.heap.objs.size f cdv)) ->
   ∃m,MSs (Z21 CX0 P w K mg base N qual (Zn st) f cdv A outer s H E).nox [] (Zc7 st) m/\∀ds k,S ds k->m (Z6i k) (Zxy N ds)):FnOk P w K mg base CX0 (n+1) f fd ps (spD K S):=by
 refine F.ok Sc (λvs H Q E h=>?_) (λcdv A outer s H vs Q E hr h=>?_)
 .obtain⟨L,ds,k,h1,h2,_⟩:=h
  rw[h1.length];exact len ds k h2
 .obtain⟨L,ds,k,h1,h2,h3⟩:=h
  obtain⟨m,⟨t,A1,s1⟩,q⟩:=hbody cdv A outer s H E hr;refine⟨t,A1,s1 ⟨H,λ_=>False,L,start N vs⟩ H _ _ _ _ (Z6i k) _ (Rel.entry h1) (q ds k h2) ⟨λH' Y' δ' fp' R _ hk=>?_,λ_ _ _ _ _ _ z=>z.elim,λ_ _ _ _ _ _ z=>z.elim,λH' Y' v r δ' fp' new R o nd hn hk=>?_⟩⟩
  .exact h3 _ .non H' [] hk (λb o e=>R.fr b o e id) (.fz .non) .nil λa m=>nomatch m
  .refine h3 r v H' new hk (λb o e=>R.fr b o e id) (o.wide λa l _=>⟨?_,λz=>l.2.1 (.inr z)⟩) nd hn
   exact l.2.2
end
abbrev MGt:=Xa->Zm->(Zm->Prop)->Prop
abbrev Zzg:=List Xa->Zm->(Zm->Prop)->Prop
def SG(G:Xc)(io:List Nat)(c:Bool)(t:TG)(g:MGt):Prop:=∀(C:MC G) (H:Hp) (Y:St) (δ:Zm) (fp:Fp) (ex:YG->Prop) (v:V) (d:Xa) (k:Zm->Prop) (Q:St->Hp->Prop),Rel C io H Y δ fp ex->Da G H (λa=>c=YD->Lf C fp ex a) v d->g d δ k ->
 (∀ Y' δ' fp',Rel C io H Y' δ' fp' ex->Kp H fp H fp'->k δ'->Q Y' H)->t v Y H Q
def SGs(G:Xc)(io:List Nat)(c:Bool)(t:TGs)(g:Zzg):Prop:=∀(C:MC G) (H:Hp) (Y:St) (δ:Zm) (fp:Fp) (ex:YG->Prop) (v:List V) (d:List Xa) (k:Zm->Prop) (Q:St->Hp->Prop),Rel C io H Y δ fp ex->Das G H (λa=>c=YD->Lf C fp ex a) v d->g d δ k ->
 (∀ Y' δ' fp',Rel C io H Y' δ' fp' ex->Kp H fp H fp'->k δ'->Q Y' H)->t v Y H Q
def MG(X:Cx)(io:List Nat)(c:Bool)(tg:YJ)(g:MGt):Prop:=∃t,PG X tg t/\SG X.K io c t g
def MGs(X:Cx)(io:List Nat)(c:Bool)(tg:List YJ)(g:Zzg):Prop:=∃t,PGs X tg t/\SGs X.K io c t g
variable {ex ex':YG->Prop}{c p' c' p'':Bool}{fp fp' fp1:Fp}{H'':Hp}{as:List YG}{io:List Nat}{ts:List OT}{sts ss ss':List YK}{mr:MAt}{m ma mb:MEt}{pp px:Pos}{D:Zkh}{δ δ' δ1:Zm}{gs:Zzg}
def dName(i:Nat):MGt:=λd δ k=>k (δ.set i (YB (.fz d)))
theorem Rel.putD{C:MC G}{Y:St}{v:V}{d:Xa}(R:Rel C io H Y δ fp ex)(hio:i∉io)(q:Da G H (Lf C fp ex) v d) :
  ∃fp',Rel C io H (Y.set i (YB v)) (δ.set i (YB (.fz d))) fp' ex/\Kp H fp H fp':=by
 obtain⟨fp',R',g⟩:=(R.drop λa z=>Zeg.mp z).put (new:=[]) hio (.fz (q.wide λa l _=>⟨l.1,λz=>l.2.1 (Zeg.mp z),l.2.2⟩)) .nil (λa m=>nomatch m);exact⟨fp',R',λb o e _=>e,λz=>(nomatch z),λa z=>(g a z).imp id λz=>(nomatch z),λb e=>e⟩
theorem Zmc(hN:X.N.Nodup)(hi:X.N[i]? =YB x:=by rfl)(hx:Loc X.env.scope x:=by first|exact QT rfl|exact QF rfl)(hio:i∉io:=by decide)(hf:X.fn x=YD\/X.env.scope.names.lookup x=YB .local:=by first|exact .inl rfl|exact .inr rfl|assumption):MG X io YD (.Name x pos) (dName i) :=
 ⟨_,Z8b hN hi hx hf,λC H Y δ fp ex v d k Q R q h kk=>by
  obtain⟨fp',R',k'⟩:=R.putD hio (q.wide λa l _=>l rfl);exact kk _ _ fp' R' k' h⟩
def Yiw:Zzg:=λds δ k=>ds=[]/\k δ
def Z99(g:MGt)(gs:Zzg):Zzg:=λds δ k=>match ds with|d::r=>g d δ λδ'=>gs r δ' k|[]=>False
theorem Zpr:MGs X io c [] Yiw:=⟨_,Z8j,λC H Y δ fp ex v d k Q R q h kk=>by
 obtain⟨rfl,h⟩:=h;cases q;exact⟨rfl,kk Y δ fp R (.refl _ _) h⟩⟩
theorem Rel.kp_das{C:MC G}{Y:St}{vs:List V}(R:Rel C io H Y δ fp ex)(S:Kp H fp H' fp')(h:Das G H (Lf C fp ex) vs ds):Das G H' (Lf C fp' ex) vs ds:=by
 have S':Stp YF H δ fp H' δ fp':=⟨S.keep,λz=>(nomatch z),S.grow,S.al⟩;obtain⟨f1,f2⟩:=R.frameL (c:=YD) (ex':=ex) S' (.inr rfl) λa z=>.inl z;exact h.frame (λa xs l q=>⟨(f1 a xs (λ_=>l) q).1 rfl,(f1 a xs (λ_=>l) q).2⟩) f2
theorem Zbz{g:MGt}(h1:MG X io YD e g)(h2:MGs X io YD es gs)
  (hs:(Bm (e::es) X.env).map (·.2)=assign e X.env::(Bm es X.env).map (·.2):=by rfl):MGs X io YD (e::es) (Z99 g gs):=by
 obtain⟨_,A,s⟩:=h1;obtain⟨_,B,s'⟩:=h2;exact⟨_,Zz7 A B hs,λC H Y δ fp ex v d k Q R q h kk=>by
  cases q with
  | nil=>exact h.elim
  | cons q qs=>
   refine⟨_,_,rfl,s C H Y δ fp ex _ _ _ _ R q h λY1 δ1 fp1 R1 k1 h1=>?_⟩;exact s' C H Y1 δ1 fp1 ex _ _ _ _ R1 ((R.kp_das k1 (qs.wide λa l _=>l rfl)).wide λa l _ _=>l) h1 λY2 δ2 fp2 R2 k2 h2=>kk Y2 δ2 fp2 R2 (k1.trans k2) h2⟩
def dTup(n:Nat)(gs:Zzg):MGt:=λd δ k=>match d with| .tuple ds=>ds.length=n/\gs ds δ k|_=>False
theorem Zv4{k:Nat}{n:Nat}(hc:X.calm=YD)(h:MGs X io c es gs)
  (hn:(Bm es X.env).length=n:=by rfl) (hst:(Bm es X.env).findIdx? (·.1)=YC:=by rfl):MG X io c (.Tuple es k pos) (dTup n gs):=by
 obtain⟨_,A,s⟩:=h;exact⟨_,Yc3 hc A hn hst,λC H Y δ fp ex v d k Q R q h kk=>by
  cases q with
  | tup e qs=>exact⟨_,_,rfl,.inl (.inl e),by rw[qs.length];exact h.1,s C H Y δ fp ex _ _ _ _ R qs h.2 kk⟩
  | _=>exact h.elim⟩
def IterOk(C:MC G)(fp:Fp)(ex:YG->Prop)(H1:Hp)(c:Bool)(J:It)(ds:List Xa):Prop:=∀H':Hp,(∀b o,H1 b=YB o->(c=YF\/¬Foot fp b)->H' b=YB o)->∀i:Nat,
 (∀ d,ds[i]? =YB d->J.go i H'/\∀x H'',J.yld i H' x H''->Same H' H''/\Da G H'' (λa=>c=YD->(Lf C fp ex a/\H1 a≠YC)) x d)/\(ds[i]? =YC->J.stop i H')
abbrev MIt:=Zm->(List Xa->Zm->Prop)->Prop
def SI(G:Xc)(io:List Nat)(p c:Bool)(t:TI)(m:MIt):Prop:=∀(C:MC G) (H:Hp) (Y:St) (δ:Zm) (fp:Fp) (ex:YG->Prop) (K:List Xa->Zm->Prop) (Q:It->Hp->Prop),Rel C io H Y δ fp ex->m δ K ->
 (∀ J H1 ds δ1 fp1,Rel C io H1 Y δ1 fp1 ex->Stp p H δ fp H1 δ1 fp1->IterOk C fp1 ex H1 c J ds->K ds δ1->Q J H1)->t Y H Q
def MI(X:Cx)(io:List Nat)(p c:Bool)(tg iter:YJ)(m:MIt):Prop:=∃t,PI X tg iter t/\SI X.K io p c t m
section
variable {p:Bool}{a b:YJ}
def iL(m:MEt):MIt:=λδ K=>m δ λr δ'=>match r.data with| .list ds=>K ds δ'|_=>False
theorem Rel.kept{C:MC G}{H H':Hp}{Y:St}{δ:Zm}{fp:Fp}{ex:YG->Prop}(R:Rel C io H Y δ fp ex)(kp:∀b o,H b=YB o->(c=YF\/¬Foot fp b)->H' b=YB o) :
  (∀ a (xs:MuO),(c=YD->Lf C fp ex a)->Rd H a xs.ho->(c=YD->(Lf C fp ex a/\H a≠YC))/\Rd H' a xs.ho)/\(∀a (xs:ImO),H a=YB xs.ho->H' a=YB xs.ho):=by
 refine⟨λa xs l q=>⟨λhc=>⟨l hc,q.some⟩,?_⟩,λa xs q=>kp a _ q (.inr λz=>?_)⟩
 .have hk:c=YF\/¬Foot fp a:=by
   cases c with
   | false=>exact .inl rfl
   | true=>exact .inr (l rfl).1
  rcases q with q|⟨o,q⟩
  .exact .inl (kp a _ q hk)
  .exact .inr ⟨o,kp a _ q hk⟩
 .obtain⟨ys,e⟩:=R.foot z
  exact ImO.nm q e
theorem Z73(h:ME X io p c e m):MI X io p c tg e (iL m):=by
 obtain⟨_,A,s⟩:=h;exact⟨_,Z13 rfl A,λC H Y δ fp ex K' Q R h kk=>s C H Y δ fp ex _ _ R h λH1 v r δ1 fp1 new r1 h1=>by
  have q:=r1.da R;generalize r.data=d at q h1;cases q with
  | lst l e qs=>
   refine⟨_,rfl,⟨_,.inl e⟩,kk _ H1 _ δ1 fp1 r1.base r1.stp (λH' kp i=>?_) h1⟩;obtain⟨f1,f2⟩:=r1.base.kept kp;have e':=(f1 _ (.lst _) l e).2;have qs':=qs.frame f1 f2;refine⟨λd hd=>?_,λhd=>?_⟩
   .obtain⟨x,hx,qx⟩:=qs'.get hd
    refine⟨⟨_,x,.inl e',hx⟩,λy H'' hy=>?_⟩;obtain⟨rfl,hy⟩:=hy;have:=hy _ (.inl e');rw[hx]at this;cases this;exact⟨Same.refl _,qx⟩
   .exact⟨_,.inl e',by rw[qs'.length];exact Qy.mp hd⟩
  | scr ks=>
   refine⟨_,rfl,⟨_,ks.sq⟩,kk _ H1 _ δ1 fp1 r1.base r1.stp (λH' kp i=>?_) h1⟩;refine⟨λd hd=>?_,λhd=>?_⟩
   .obtain⟨x,hx,qx⟩:=(Das.ints (G:=X.K) (H:=H') (L:=λa=>c=YD->(Lf C fp1 ex a/\H1 a≠YC)) _).get hd
    refine⟨⟨_,x,ks.sq,hx⟩,λy H'' hy=>?_⟩;obtain⟨rfl,hy⟩:=hy;have:=hy _ ks.sq;rw[hx]at this;cases this;exact⟨Same.refl _,qx⟩
   .refine⟨_,ks.sq,?_⟩
    have:=Qy.mp hd;simpa using this
  | _=>exact h1.elim⟩
def Zdn(lo:Int)(n:Nat):List Xa:=(Xo n).map λ(i:Nat)=>Xk (lo+(i:Int))
@[simp] theorem Wk(lo:Int)(n:Nat):(Zdn lo n).length=n:=by simp[Zdn]
theorem Zaq{lo:Int}{n:Nat}{d:Xa}(h:(Zdn lo n)[i]? =YB d):i<n/\d= .int (lo+i):=by
 have hi:i<n:=by
  have:=(Xw.mp h).1;simpa using this
 unfold Zdn at h;rw[Xp,QG hi]at h;cases h;exact⟨hi,rfl⟩
theorem Zrl{C:MC G}{lo:Int}{n:Nat}:IterOk C fp ex H1 YD (Itr lo n) (Zdn lo n):=λH' _ i=>by
 refine⟨λd hd=>?_,λhd=>?_⟩
 .obtain⟨hi,rfl⟩:=Zaq hd
  refine⟨hi,λx H'' hy=>?_⟩;obtain⟨rfl,rfl⟩:=hy;exact⟨Same.refl _,.int _⟩
 .have:=Qy.mp hd
  show n<=i;simpa using this
def iR1(mr:MAt):MIt:=λδ K=>mr δ λrs δ'=>match OT.datas rs with|[.int j]=>(-(2^62)<=j/\j<2^62)/\K (Zdn 0 j.toNat) δ'|_=>False
def iR2(mr:MAt):MIt:=λδ K=>mr δ λrs δ'=>match OT.datas rs with|[.int i,.int j]=>(-(2^62)<=i/\i<2^62/\-(2^62)<=j/\j<2^62)/\K (Zdn i (j-i).toNat) δ'|_=>False
theorem Yz{p':Pos}(hg:Gl X "range")(hm:X.mg "range"=YC)(ha:MA X io p c [a] mr)(hs:Xr [a] X.env=[(YF,eval a X.env)]:=by rfl):MI X io p YD tg (.Call (.Name "range" p') [a] [] pos) (iR1 mr):=by
 obtain⟨_,A,s⟩:=ha;exact⟨_,Zwz hg hm A hs,λC H Y δ fp ex K' Q R h kk=>s C H Y δ fp ex _ _ R h λH1 vs rs δ1 fp1 new r1 h1=>by
  have q:=r1.das R;generalize OT.datas rs=d at q h1;split at h1
  case h_2=>exact h1.elim
  cases q with
  | cons q1 q2=>
   cases q1;cases q2;exact⟨_,rfl,h1.1.1,h1.1.2,kk _ H1 _ δ1 fp1 r1.base r1.stp Zrl h1.2⟩⟩
theorem Zek{p':Pos}(hg:Gl X "range")(hm:X.mg "range"=YC)(ha:MA X io p c [a,b] mr)(hs:Xr [a,b] X.env=[(YF,eval a X.env),(YF,eval b X.env)]:=by rfl)(hs2:Xr [b] X.env=[(YF,eval b X.env)]:=by rfl):MI X io p YD tg (.Call (.Name "range" p') [a,b] [] pos) (iR2 mr):=by
 obtain⟨_,A,s⟩:=ha;exact⟨_,Zw0 hg hm A hs hs2,λC H Y δ fp ex K' Q R h kk=>s C H Y δ fp ex _ _ R h λH1 vs rs δ1 fp1 new r1 h1=>by
  have q:=r1.das R;generalize OT.datas rs=d at q h1;split at h1
  case h_2=>exact h1.elim
  cases q with
  | cons q1 q2=>
   cases q1;cases q2 with
   | cons q2 q3=>
    cases q2;cases q3;exact⟨_,_,rfl,h1.1,kk _ H1 _ δ1 fp1 r1.base r1.stp Zrl h1.2⟩⟩
theorem IterOk.at{C:MC G}{fp fp':Fp}{ex:YG->Prop}{H1 H' H'':Hp}{J:It}{ds:List Xa}{x:V}{d:Xa}(g:∀a,Foot fp' a->Foot fp a\/H1 a=YC)(h:Da G H'' (λa=>YD=YD->(Lf C fp ex a/\H1 a≠YC)) x d):Da G H'' (λa=>YD=YD->Lf C fp' ex a) x d :=
 h.wide λa l _ z=>⟨λw=>(g a w).elim (l z).1.1 (l z).2,(l z).1.2.1,(l z).1.2.2⟩
def Ygw(ds:List Xa)(g:MGt)(u:MSt)(D:Zkh)(δ1:Zm):Prop:=∃I:Nat->Zm->Prop,I 0 δ1/\(∀(i:Nat) (d:Xa) (δ':Zm),ds[i]? =YB d->I i δ'->g d δ' λδ2=>u { D with nx:=I (i+1),ct:=I (i+1),bk:=D.nx } δ2)/\∀δ',I ds.length δ'->D.nx δ'
def Yib(mi:MIt)(g:MGt)(u:MSt):MSt:=λD δ=>mi δ λds δ1=>Ygw ds g u D δ1
theorem Rel.mk0{C:MC G}{Y:St}(R:Rel C io H Y δ fp ex)(s:Same H H'):Rel C io H' Y δ fp ex:=(R.made (new:=[]) s λa m=>nomatch m).drop λa z=>.inl z
theorem Zwv{mi:MIt}{g:MGt}{u:MSt}(hp:PassesOwn (Qm X.prog X.w) X.A X.env X.xe)(hc:X.calm=YD)(hi:MI X io p YD tg iter mi)(hg:MG X io YD tg g)(hb:MSs X io body u)
  (hs:∀x,By iter X.env x=pure x:=by intro _;rfl):MS X io (.For tg iter body [] pos) (Yib mi g u):=by
 obtain⟨_,A,s⟩:=hi;obtain⟨_,G,sg⟩:=hg;obtain⟨_,B,sb⟩:=hb;refine⟨_,Ybg hp hc A G B hs,λC H Y δ fp ex D D' R h E=>s C H Y δ fp ex _ _ R h λJ H1 ds δ1 fp1 R1 S1 it h1=>?_⟩;obtain⟨I,h0,turn,fin⟩:=h1;refine⟨λi n Y' H'=>n=ds.length-i/\i<=ds.length/\∃δ' fp',Rel C io H' Y' δ' fp' ex/\Kp H1 fp1 H' fp'/\I i δ',⟨ds.length,rfl,QH _,δ1,fp1,R1,.refl _ _,h0⟩,?_⟩;rintro i n Y2 H2 ⟨rfl,hle,δ2,fp2,R2,k2,i2⟩;have itk:=it H2 (λb o e q=>k2.keep b o e (.inr (q.resolve_left (by decide)))) i
 by_cases hlt:i<ds.length
 .have hd:ds[i]? =YB ds[i]:=Xf hlt
  obtain⟨go,yl⟩:=itk.1 _ hd;refine .inr ⟨go,λY' H'=>∃δ' fp',Rel C io H' Y' δ' fp' ex/\Kp H1 fp1 H' fp'/\I (i+1) δ',λY' H' ⟨δ',fp',R',k',i'⟩=>⟨ds.length-(i+1),by omega,rfl,hlt,δ',fp',R',k',i'⟩,λx H3 hy=>?_⟩;obtain⟨s3,q3⟩:=yl x H3 hy;have R3:=R2.mk0 s3;have k3:Kp H1 fp1 H3 fp2:=k2.trans ⟨λb o e _=>s3 _ _ e,λz=>(nomatch z),λa z=>.inl z,s3.al⟩;refine sg C H3 Y2 δ2 fp2 ex x _ _ _ R3 (IterOk.at (H':=H2) (J:=J) (ds:=ds) k2.grow q3) (turn i _ δ2 hd i2) λY4 δ4 fp4 R4 k4 h4=>?_;have k5:=k3.trans k4;refine sb C H3 Y4 δ4 fp4 ex _ _ R4 h4 ⟨λH' Y' δ' fp' R' k' n'=>⟨δ',fp',R',k5.trans k',n'⟩,λH' Y' δ' fp' R' k' n'=>E.nx H' Y' δ' fp' R' (S1.kp.trans (k5.trans k')) n',λH' Y' δ' fp' R' k' n'=>⟨δ',fp',R',k5.trans k',n'⟩,E.rt⟩
 .have e:i=ds.length:=by omega
  subst e;exact .inl ⟨itk.2 (by simp),E.nx H2 Y2 δ2 fp2 R2 (S1.kp.trans k2) (fin δ2 i2)⟩
end
def gM(G:Xc)(io:List Nat)(c:Bool)(g:MGt):TG:=λv Y H Q=>∃(C:MC G) (δ:Zm) (fp:Fp) (ex:YG->Prop) (d:Xa) (k:Zm->Prop),Rel C io H Y δ fp ex/\Da G H (λa=>c=YD->Lf C fp ex a) v d/\g d δ k/\
 ∀Y' δ' fp',Rel C io H Y' δ' fp' ex->Kp H fp H fp'->k δ'->Q Y' H
def tM(G:Xc)(io:List Nat)(p c:Bool)(m:MEt):TE:=λY H Q=>∃(C:MC G) (δ:Zm) (fp:Fp) (ex:YG->Prop) (K:OT->Zm->Prop),Rel C io H Y δ fp ex/\m δ K/\∀H' v r δ' fp' new,RE C io p c H Y δ fp ex H' v r δ' fp' new->K r δ'->Q v H'
def ttM(G:Xc)(io:List Nat)(p:Bool)(m:MTt):TT:=λY H Q=>∃(C:MC G) (δ:Zm) (fp:Fp) (ex:YG->Prop) (K:Bool->Zm->Prop),Rel C io H Y δ fp ex/\m δ K/\∀H' b δ' fp',Rel C io H' Y δ' fp' ex->Stp p H δ fp H' δ' fp'->K b δ'->Q b H'
def MIfs(X:Cx)(io:List Nat)(p:Bool)(ifs:List YJ)(m:MTt):Prop:=∃t,Z6v X ifs t/\STt X.K io p t m
section
variable {p:Bool}{mt:MTt}{g:MGt}
theorem MG.canon(h:MG X io c tg g):PG X tg (gM X.K io c g):=by
 obtain⟨t,A,s⟩:=h;rintro pins sh Y H v u Q I r ⟨C,δ,fp,ex,d,k,R,q,h,kk⟩;exact A pins sh Y H v u Q I r (s C H Y δ fp ex v d k Q R q h kk)
theorem ME.canon(h:ME X io p c e m):PE X e (tM X.K io p c m):=by
 obtain⟨t,A,s⟩:=h;rintro pins sh Y H Q I ⟨C,δ,fp,ex,K,R,h,kk⟩;exact A pins sh Y H Q I (s C H Y δ fp ex K Q R h kk)
theorem MIfs.canon(h:MIfs X io p ifs mt):Z6v X ifs (ttM X.K io p mt):=by
 obtain⟨t,A,s⟩:=h;rintro pins sh Y H Q I ⟨C,δ,fp,ex,K,R,h,kk⟩;exact A pins sh Y H Q I (s C H Y δ fp ex K Q R h kk)
def Yc2:MTt:=λδ K=>K YD δ
theorem Zc4:MIfs X io YD [] Yc2:=⟨_,Z4g,λC H Y δ fp ex K Q R h kk=>kk H YD δ fp R (.refl _ _ _ _) h⟩
theorem Zjg{cnd:YJ}(h:MT X io p cnd mt):MIfs X io p [cnd] mt:=by
 obtain⟨_,A,s⟩:=h;exact⟨_,Z7k A,s⟩
end
def blk(n:Nat)(caps:List Nat)(δ:Zm):Zm:=X5 n YC++caps.map λi=>(δ[i]?).getD YC
def Zah(n:Nat)(caps:List Nat)(fp:Fp):Fp:=λk=>if k<n then[]else match caps[k-n]? with|some i=>fp i|none=>[]
def Zaw(n:Nat)(caps:List Nat):List Nat:=(Xo caps.length).map (·+n)
def Z2o(C:MC G)(H1:Hp)(fp:Fp)(Y0:St):MC G:=⟨H1,Foot fp,λa=>(C.L a\/C.H₀ a=YC)/\¬Foot fp a,Y0⟩
def Zic(ex:YG->Prop)(D:YG)(fp fpb:Fp)(a:YG):Prop:=ex a\/a=D\/(Foot fp a/\¬Foot fpb a)
section
variable {C:MC G}{Y:St}{D:YG}{n:Nat}
theorem Zeu{k:Nat}(h:a∈Zah n caps fp k):∃i,n<=k/\caps[k-n]? =YB i/\a∈fp i:=by
 unfold Zah at h;split at h
 .exact nomatch h
 .split at h
  .rename_i i e
   exact⟨i,by omega,e,h⟩
  .exact nomatch h
theorem Zzq(h:caps[j]? =YB i):Zah n caps fp (n+j)=fp i:=by
 unfold Zah;rw[YM (by omega),show n+j-n=j by omega,h]
theorem Ybs{k:Nat}{t:OT}(h:(blk n caps δ)[k]? =YB (YB t)):∃i,n<=k/\caps[k-n]? =YB i/\δ[i]? =YB (YB t):=by
 unfold blk at h;rw[Uc]at h;split at h
 .rw[Ux]at h
  split at h<;>cases h
 .rename_i hk
  rw[VP]at hk h;rw[Xp]at h;cases e:caps[k-n]? with
  | none=>rw[e]at h;cases h
  | some i=>
   rw[e]at h;refine⟨i,by omega,rfl,?_⟩;simp only[Qa]at h;cases e2:δ[i]? with
   | none=>rw[e2]at h;cases h
   | some o=>
    rw[e2]at h;simpa using h
theorem Rel.block(R:Rel C io H1 Y δ fp ex)(nd:caps.Nodup)(hD:H1 D=YC) :
  Rel (Z2o C H1 fp (Za5 own caps Y)) (Zaw own.length caps) (upd H1 D (.lst [])) (Za5 own caps Y) (blk own.length caps δ) (Zah own.length caps fp) (Zic ex D fp (Zah own.length caps fp)):=by
 have s:=Z9 hD (.lst []);have sub:∀a,Foot (Zah own.length caps fp) a->Foot fp a:=λa q91=>by
  obtain⟨k,z⟩:=q91;obtain⟨i,_,_,z⟩:=Zeu z;exact⟨i,z⟩
 have neD:∀a,H1 a≠YC->a≠D:=λa h z=>h (z▸hD);refine⟨by unfold Za5 blk;simp,λk t e=>?_,λk h=>?_,λk=>?_,λk l a h1 h2=>?_,λk a h z=>?_,λa z=>?_,λb o e _=>s _ _ e,λb e=>s.free e,λk a h=>?_,λk _=>rfl⟩
 .obtain⟨i,hk,e1,e2⟩:=Ybs e
  obtain⟨v,e3,o⟩:=R.own i t e2;refine⟨v,?_,?_⟩
  .unfold Za5
   rw[Qw (by simpa using hk),Xd,Xp,e1];simp[e3]
  .have ef:Zah own.length caps fp k=fp i:=by
    have:=Zzq (n:=own.length) (fp:=fp) e1
    rwa[show own.length+(k-own.length)=k by omega]at this
   rw[ef];refine(o.wide λa l q=>⟨λz=>l.1 (sub a z),λz=>?_,.inl ⟨l.2.2,l.1⟩⟩).same s;rcases z with z|z|z
   .exact l.2.1 z
   .exact neD a q z
   .exact l.1 z.1
 .unfold Zah
  split
  .rfl
  .split
   .rename_i i e1
    refine R.emp i λt z=>h t ?_;unfold blk;rw[Qw (by rw[VP];omega),VP,Xp,e1];simp[z]
   .rfl
 .unfold Zah
  split
  .exact .nil
  .split
   .exact R.nd _
   .exact .nil
 .obtain⟨i,hk,e1,m1⟩:=Zeu h1
  obtain⟨j,hl,e2,m2⟩:=Zeu h2;have:=R.dj i j a m1 m2;subst this;have hlt:=(Xw.mp e1).1;have:=(List.getElem?_inj hlt nd).mp (e1.trans e2.symm);omega
 .obtain⟨i,hk,e1,m⟩:=Zeu h
  rcases z with z|z|z
  .exact R.dx i a m z
  .exact R.footSome (z▸hD) ⟨i,m⟩
  .exact z.2 ⟨k,h⟩
 .rcases z with z|z|z
  .intro q;exact R.xa a z (s.free q)
  .subst z;rw[Yj];intro q;cases q
  .obtain⟨xs,e⟩:=R.foot z.1
   rw[s _ _ e];intro q;cases q
 .obtain⟨i,hk,e1,m⟩:=Zeu h
  refine .inl ⟨?_,⟨i,m⟩⟩;have:=(Xw.mp e1).1;exact Xv.mpr ⟨k-own.length,by simpa using this,by omega⟩
theorem Ya7{Y0:St}(hx:∀a,ex a->ex' a)(l:Lf (Z2o C H1 fp Y0) fp' ex' a):Lf C fp ex a\/H1 a=YC:=by
 obtain⟨l1,l2,l3⟩:=l;rcases l3 with l3|l3
 .exact .inl ⟨l3.2,λz=>l2 (hx a z),l3.1⟩
 .exact .inr l3
theorem Rel.poke(R:Rel C io H' Y δ fp ex){xs ys:List V}(hx:ex D)(hD:H' D=YB (.lst xs))(h0:C.H₀ D=YC):Rel C io (upd H' D (.lst ys)) Y δ fp ex:=by
 have nf:¬Foot fp D:=λ⟨i,z⟩=>R.dx i D z hx;have kp:∀b o,b≠D->H' b=YB o->upd H' D (.lst ys) b=YB o:=λb o n e=>by rw[Yc n];exact e
 refine⟨R.len,λi t e=>?_,R.emp,R.nd,R.dj,R.dx,λa z=>?_,λb o e n=>?_,λb e=>?_,R.new,R.io⟩
 .obtain⟨v,e1,o⟩:=R.own i t e
  refine⟨v,e1,o.frame (λa zs l q=>⟨l,?_⟩) (λa zs q=>kp a _ (λz=>?_) q) λa m zs q=>kp a _ (λz=>nf ⟨i,z▸m⟩) q⟩
  .have na:a≠D:=λz=>l.2.1 (z▸hx)
   rcases q with q|⟨u,q⟩
   .exact .inl (kp a _ na q)
   .exact .inr ⟨u,kp a _ na q⟩
  .exact ImO.nl q (z▸hD)
 .by_cases e:a=D
  .subst e;rw[Yj];intro q;cases q
  .rw[Yc e];exact R.xa a z
 .refine kp b o (λz=>?_) (R.fr b o e n)
  rw[z,h0]at e;cases e
 .refine R.al b ?_
  by_cases q:b=D
  .subst q;rw[Yj]at e;cases e
  .rwa[Yc q]at e
theorem Owns.poke{xs ys zs:List V}{rs:List OT}(o:Owns G H' L zs rs as)(hD:H' D=BR (HO.lst xs))(hL:¬L D)(hn:D∉as):Owns G (upd H' D (.lst ys)) L zs rs as:=by
 refine o.frame (λa zs l q=>⟨l,?_⟩) (λa zs q=>?_) λa m zs q=>?_
 .have na:a≠D:=λz=>hL (z▸l)
  rcases q with q|⟨u,q⟩
  .exact .inl (by rw[Yc na];exact q)
  .exact .inr ⟨u,by rw[Yc na];exact q⟩
 .rw[Yc (λz=>ImO.nl q (z▸hD))];exact q
 .have na:a≠D:=λz=>hn (by rw[<-z];exact m)
  rw[Yc na];exact q
theorem Owns.snoc{xs:List V}{rs:List OT}{bs:List YG}{x:V}{r:OT}(h:Owns G H' L xs rs as)(k:Own G H' L x r bs):Owns G H' L (xs++[x]) (rs++[r]) (as++bs) :=
 Owns.rec (motive_1:=λ_ _ _ _=>True) (motive_2:=λxs rs as _=>Owns G H' L (xs++[x]) (rs++[r]) (as++bs)) (λ_=>trivial) (λ_ _ _=>trivial) (λ_ _ _=>trivial) (λ_ _ _=>trivial) (by have:=Owns.cons k .nil;rwa[QS]at this) (λk _ _ ih=>by rw[QQ];exact .cons k ih) h
end
structure Z3t(C:MC G)(H1:Hp)(fp1:Fp)(ex:YG->Prop)(n:Nat)(caps:List Nat)(Y0:St)(D:YG)(pb:Bool)(H':Hp)(Y':St)(δ':Zm)(fp':Fp)(ys:List V)(rs:List OT)(new:List YG):Prop where
 keep:∀b o,H1 b=YB o->(pb=YD\/¬Foot (Zah n caps fp1) b)->H' b=YB o
 al:∀b,H' b=YC->H1 b=YC
 dat:H' D=YB (.lst ys)
 rel:Rel (Z2o C H1 fp1 Y0) (Zaw n caps) H' Y' δ' fp' (exu (Zic ex D fp1 (Zah n caps fp1)) new)
 grow:∀a,Foot fp' a->Foot (Zah n caps fp1) a\/H1 a=YC
 own:Owns G H' (λa=>YD=YD->Lf (Z2o C H1 fp1 Y0) fp' (exu (Zic ex D fp1 (Zah n caps fp1)) new) a) ys rs new
 nd:new.Nodup
 fresh:∀a∈new,H1 a=YC/\a≠D
section
variable {p pt pe ci:Bool}{g:MGt}{mt:MTt}{me:MEt}
theorem Zvs{C:MC G}{Y:St}{D:YG}{Qf:Hp->Prop}(I:Nat->List OT->Zm->Prop)(R1:Rel C io H1 Y δ1 fp1 ex)
  (it:∀H':Hp,(∀b o,H1 b=YB o->((pt&&pe)=YD\/¬Foot (Zah own.length caps fp1) b)->H' b=YB o)->∀i:Nat,(∀d,ds[i]? =YB d->J.go i H'/\∀x H'',J.yld i H' x H''->Same H' H''/\Da G H'' (λa=>ci=YD->(Lf C fp1 ex a/\H1 a≠YC)) x d)/\(ds[i]? =YC->J.stop i H'))
  (nd:caps.Nodup) (hD:H1 D=YC) (hz:ds.length<=Xz) (h0:I 0 [] (blk own.length caps δ1))
  (turn:∀(i:Nat) (d:Xa) (rs:List OT) (δ':Zm),ds[i]? =YB d->I i rs δ'->g d δ' λδ2=>mt δ2 λb δ3=>if b=YD then me δ3 λr δ4=>I (i+1) (rs++[r]) δ4 else I (i+1) rs δ3)
  (fin:∀H' Y' δ' fp' ys rs new,Z3t C H1 fp1 ex own.length caps (Za5 own caps Y) D (pt&&pe) H' Y' δ' fp' ys rs new->I ds.length rs δ'->Qf H') :
  Z4v J (gM G (Zaw own.length caps) ci g) (ttM G (Zaw own.length caps) pt mt) (tM G (Zaw own.length caps) pe YD me) (Za5 own caps Y) D Qf H1:=by
 have hx:Zic ex D fp1 (Zah own.length caps fp1) D:=.inr (.inl rfl);refine⟨λi n Y' H'=>n=ds.length-i/\i<=ds.length/\∃rs ys new δ' fp',Z3t C H1 fp1 ex own.length caps (Za5 own caps Y) D (pt&&pe) H' Y' δ' fp' ys rs new/\ys.length<=i/\I i rs δ',⟨ds.length,rfl,QH _,[],[],[],_,_,⟨λb o e _=>Z9 hD _ _ _ e,(Z9 hD _).al,Yj,?_,λa z=>.inl z,.nil,.nil,λa m=>(nomatch m)⟩,X3 _,h0⟩,?_⟩
 .exact(R1.block nd hD).drop λa z=>Zeg.mp z
 rintro i n Y2 H2 ⟨rfl,hle,rs,ys,new,δ2,fp2,B,hl,i2⟩;have subB:∀b,Foot (Zah own.length caps fp1) b->Foot fp1 b:=λb q92=>by
  obtain⟨k,z⟩:=q92;obtain⟨i,_,_,z⟩:=Zeu z;exact⟨i,z⟩
 have itk:=it H2 B.keep i
 by_cases hlt:i<ds.length
 case neg=>
  have e:i=ds.length:=by omega
  subst e;exact .inl ⟨itk.2 (by simp),fin H2 Y2 δ2 fp2 ys rs new B i2⟩
 have hd:ds[i]? =YB ds[i]:=Xf hlt;obtain⟨go,yl⟩:=itk.1 _ hd;refine .inr ⟨go,λx H3 hy=>?_⟩;obtain⟨s3,q3⟩:=yl x H3 hy;have R3:=B.rel.mk0 s3;have D3:H3 D=YB (.lst ys):=s3 _ _ B.dat
 -- the item,clean in the block
 have q3':Da G H3 (λa=>ci=YD->Lf (Z2o C H1 fp1 (Za5 own caps Y)) fp2 (exu (Zic ex D fp1 (Zah own.length caps fp1)) new) a) x ds[i]:=by
  refine q3.wide λa l _ z=>?_;obtain⟨⟨l1,l2,l3⟩,l4⟩:=l z;refine⟨λw=>?_,λw=>?_,.inl ⟨l3,l1⟩⟩
  .rcases B.grow a w with w|w
   .exact l1 (subB a w)
   .exact l4 w
  .rcases w with(w|w|w)|w
   .exact l2 w
   .subst w;exact l4 hD
   .exact l1 w.1
   .exact l4 (B.fresh a w).1
 refine⟨_,δ2,fp2,_,_,_,R3,q3',turn i _ rs δ2 hd i2,λY4 δ4 fp4 R4 k4 h4=>?_⟩;refine⟨_,δ4,fp4,_,_,R4,h4,λH5 b δ5 fp5 R5 S5 h5=>?_⟩
 -- the state behind the test
 have keep5:∀b o,H1 b=YB o->((pt&&pe)=YD\/¬Foot (Zah own.length caps fp1) b)->H5 b=YB o:=λb o e q=>by
  refine S5.keep b o (s3 _ _ (B.keep b o e q)) ?_;rcases q with q|q
  .rw[XC]at q;exact .inl q.1
  .refine .inr λz=>?_
   rcases k4.grow b z with z|z
   .rcases B.grow b z with z|z
    .exact q z
    .rw[e]at z;cases z
   .rw[s3 _ _ (B.keep b o e (.inr q))]at z;cases z
 have al5:∀b,H5 b=YC->H1 b=YC:=λb e=>B.al b (s3.al b (S5.al b e));have grow4:∀a,Foot fp4 a->Foot (Zah own.length caps fp1) a\/H1 a=YC:=λa z=>by
  rcases k4.grow a z with z|z
  .exact B.grow a z
  .exact .inr (B.al a (s3.al a z))
 have grow5:∀a,Foot fp5 a->Foot (Zah own.length caps fp1) a\/H1 a=YC:=λa z=>by
  rcases S5.grow a z with z|z
  .exact grow4 a z
  .exact .inr (B.al a (s3.al a z))
 have D5:H5 D=YB (.lst ys):=S5.keep D _ D3 (.inr λ⟨k,z⟩=>R4.dx k D z (.inl hx));have own3:=B.own.same s3
 -- the items so far behind the target and the test
 have own4:Owns G H3 (λa=>YD=YD->Lf (Z2o C H1 fp1 (Za5 own caps Y)) fp4 (exu (Zic ex D fp1 (Zah own.length caps fp1)) new) a) ys rs new:=by
  refine own3.wide λa l q z=>?_;obtain⟨l1,l2,l3⟩:=l z;exact⟨λw=>(k4.grow a w).elim l1 q,l2,l3⟩
 have own5:=R4.owns_step (ex':=exu (Zic ex D fp1 (Zah own.length caps fp1)) new) S5 (c:=YD) (.inr rfl) (λa z=>.inl z) (λa m=>.inr m) own4;dsimp only at h5|-
 cases b with
 | false=>
  rw[YM Xn]at h5|-
  exact⟨ds.length-(i+1),by omega,rfl,hlt,rs,ys,new,δ5,fp5,⟨keep5,al5,D5,R5,grow5,own5,B.nd,B.fresh⟩,by omega,h5⟩
 | true=>
  rw[YL rfl]at h5|-
  refine⟨_,δ5,fp5,_,_,R5,h5,λH6 v r δ6 fp6 nr r6 h6=>?_⟩;have D6:H6 D=YB (.lst ys):=r6.stp.keep D _ D5 (.inr λ⟨k,z⟩=>R5.dx k D z (.inl hx));have hDnr:D∉nr:=λz=>by
   have:=r6.fresh D z;rw[D5]at this;cases this
  have own6:=R5.owns_step (ex':=exu (exu (Zic ex D fp1 (Zah own.length caps fp1)) new) nr) r6.stp (c:=YD) (.inr rfl) (λa z=>z.imp id λz=>r6.fresh a z) (λa m=>.inr m) own5;have eqx:∀a,exu (Zic ex D fp1 (Zah own.length caps fp1)) (new++nr) a->exu (exu (Zic ex D fp1 (Zah own.length caps fp1)) new) nr a:=λa z=>by
   rcases z with z|z
   .exact .inl (.inl z)
   .rcases XQ.mp z with z|z
    .exact .inl (.inr z)
    .exact .inr z
  have lw:∀a,(YD=YD->Lf (Z2o C H1 fp1 (Za5 own caps Y)) fp6 (exu (exu (Zic ex D fp1 (Zah own.length caps fp1)) new) nr) a)->H6 a≠YC->(YD=YD->Lf (Z2o C H1 fp1 (Za5 own caps Y)) fp6 (exu (Zic ex D fp1 (Zah own.length caps fp1)) (new++nr)) a) :=
   λa l _ z=>⟨(l z).1,λw=>(l z).2.1 (eqx a w),(l z).2.2⟩
  have ownA:=(own6.snoc r6.own).wide lw;refine⟨ys,D6,by omega,ds.length-(i+1),by omega,rfl,hlt,rs++[r],ys++[v],new++nr,δ6,fp6,⟨λb o e q=>?_,λb e=>?_,Yj,?_,λa z=>?_,?_,?_,λa m=>?_⟩,by rw[Xq];show ys.length+1<=i+1;omega,h6⟩
  .have nD:b≠D:=λz=>by rw[z,hD]at e;cases e
   rw[Yc nD];refine r6.stp.keep b o (keep5 b o e q) ?_;rcases q with q|q
   .rw[XC]at q;exact .inl q.2
   .refine .inr λz=>?_
    rcases grow5 b z with z|z
    .exact q z
    .rw[e]at z;cases z
  .by_cases q:b=D
   .subst q;rw[Yj]at e;cases e
   .rw[Yc q]at e
    exact al5 b (r6.stp.al b e)
  .exact(r6.rel.drop eqx).poke (.inl hx) D6 hD
  .rcases r6.stp.grow a z with z|z
   .exact grow5 a z
   .exact .inr (al5 a z)
  .exact ownA.poke D6 (λz=>(z rfl).2.1 (.inl hx)) (λm=>by
    rcases XQ.mp m with m|m
    .exact(B.fresh D m).2 rfl
    .exact hDnr m)
  .refine JL.mpr ⟨B.nd,r6.nd,λa m b m' z=>?_⟩
   subst z;obtain⟨xs,e⟩:=own5.some a m;rw[r6.fresh a m']at e;cases e
  .rcases XQ.mp m with m|m
   .exact B.fresh a m
   .exact⟨al5 a (r6.fresh a m),λz=>hDnr (z▸m)⟩
end
section
variable {p pt pe ci:Bool}{g:MGt}{mt:MTt}{me:MEt}{mi:MIt}
def Yb1(n:Nat)(caps:List Nat)(ds:List Xa)(g:MGt)(mt:MTt)(me:MEt)(δ1:Zm)(K:OT->Zm->Prop):Prop:=ds.length<=Xz/\∃I:Nat->List OT->Zm->Prop,I 0 [] (blk n caps δ1)/\
 (∀ (i:Nat) (d:Xa) (rs:List OT) (δ':Zm),ds[i]? =YB d->I i rs δ'->g d δ' λδ2=>mt δ2 λb δ3=>if b=YD then me δ3 λr δ4=>I (i+1) (rs++[r]) δ4 else I (i+1) rs δ3)/\
 ∀rs δ',I ds.length rs δ'->K (.nd rs) δ1
def Zhm(n:Nat)(caps:List Nat)(mi:MIt)(g:MGt)(mt:MTt)(me:MEt):MEt:=λδ K=>mi δ λds δ1=>Yb1 n caps ds g mt me δ1 K
theorem Z2f{wi:TI}(si:SI G io p ci wi mi)(nd:caps.Nodup)(hp:(pt&&pe)=YD) :
  SE G io p YD (Z7c own caps wi (gM G (Zaw own.length caps) ci g) (ttM G (Zaw own.length caps) pt mt) (tM G (Zaw own.length caps) pe YD me)) (Zhm own.length caps mi g mt me):=by
 intro C H Y δ fp ex K Q R h k;refine si C H Y δ fp ex _ _ R h λJ H1 ds δ1 fp1 R1 S1 it h1 D hD=>?_;obtain⟨hz,I,h0,turn,fin⟩:=h1;refine Zvs I R1 (λH' kp=>it H' λb o e _=>kp b o e (.inl hp)) nd hD hz h0 turn λH' Y' δ' fp' ys rs new B i'=>?_;have s:Same H1 H':=λb o e=>B.keep b o e (.inl hp);refine k H' (.ref D) (.nd rs) δ1 fp1 (D::new) (RE.tree R R1 S1 s (λa m=>?_) (Qo.mpr ⟨λm=>(B.fresh D m).2 rfl,B.nd⟩) (.nd B.dat (B.own.wide λa l _=>?_))) (fin rs δ' i')
 .rcases Xm.mp m with rfl|m
  .exact hD
  .exact(B.fresh a m).1
 .refine⟨?_,λm=>?_⟩
  .rcases Ya7 (λa z=>.inl (.inl z)) (l rfl)with z|z
   .exact .inl λ_=>z
   .exact .inr z
  .rcases Xm.mp m with z|z
   .exact(l rfl).2.1 (.inl (.inr (.inl z)))
   .exact(l rfl).2.1 (.inr z)
variable {sc:U6}
theorem Z9w(S:CompScope X own caps N' sc)(hc:X.calm=YD)(nd:caps.Nodup)(hi:MI X io p ci tg iter mi)
  (hg:∀C cells s₂ H₂ fp,MG (Wa X N' sc C cells s₂ H₂ fp) (Zaw own.length caps) ci tg g) (ht:∀C cells s₂ H₂ fp,MIfs (Wa X N' sc C cells s₂ H₂ fp) (Zaw own.length caps) pt ifs mt) (he:∀C cells s₂ H₂ fp,ME (Wa X N' sc C cells s₂ H₂ fp) (Zaw own.length caps) pe YD elt me)
  (hp:(pt&&pe)=YD:=by rfl) (hs:∀x,By iter X.env x=pure x:=by intro _;rfl):ME X io p YD (.ListComp elt [⟨tg,iter,ifs,0⟩] sc pos) (Zhm own.length caps mi g mt me):=by
 obtain⟨_,A,si⟩:=hi;exact⟨_,Z53 S hc A (λC cells s₂ H₂ fp=>(hg C cells s₂ H₂ fp).canon) (λC cells s₂ H₂ fp=>(ht C cells s₂ H₂ fp).canon) (λC cells s₂ H₂ fp=>(he C cells s₂ H₂ fp).canon) hs,Z2f si nd hp⟩
section
variable {y:Str}
theorem Zhq(own':Bool)(hN:X.N.Nodup)(hy:X.N[i]? =YB y)(hx:Loc X.env.scope y)(S:CompScope X own caps N' sc)(hc:X.calm=YD)(nd:caps.Nodup)(hi:MI X io p ci tg iter mi)
  (hg:∀C cells s₂ H₂ fp,MG (Wa X N' sc C cells s₂ H₂ fp) (Zaw own.length caps) ci tg g) (ht:∀C cells s₂ H₂ fp,MIfs (Wa X N' sc C cells s₂ H₂ fp) (Zaw own.length caps) pt ifs mt) (he:∀C cells s₂ H₂ fp,ME (Wa X N' sc C cells s₂ H₂ fp) (Zaw own.length caps) pe YD elt me)
  (hp:(pt&&pe)=YD:=by rfl) (hio:i∉io:=by decide)
  (hsw:V9 (.ListComp elt [⟨tg,iter,ifs,0⟩] sc pos) (YB (.Name y py)) spos.line X.env=pure YD:=by rfl)
  (hs:∀x,By iter X.env x=pure x:=by intro _;rfl) (hf:X.fn y=YD\/X.env.scope.names.lookup y=YB .local:=by first|exact .inl rfl|exact .inr rfl|assumption) :
  MS X io (.Assign [.Name y py] (.ListComp elt [⟨tg,iter,ifs,0⟩] sc pos) spos) (if own'=YD then Zo5 i (Zhm own.length caps mi g mt me)else Z88 i (Zhm own.length caps mi g mt me)):=by
 obtain⟨_,A,si⟩:=hi;refine⟨_,Zla (g:=gM X.K (Zaw own.length caps) ci g) (tt:=ttM X.K (Zaw own.length caps) pt mt) (te:=tM X.K (Zaw own.length caps) pe YD me) hN hy hx S hc A (λC cells s₂ H₂ fp=>(hg C cells s₂ H₂ fp).canon) (λC cells s₂ H₂ fp=>(ht C cells s₂ H₂ fp).canon) (λC cells s₂ H₂ fp=>(he C cells s₂ H₂ fp).canon) hsw hs hf,?_⟩;cases own'
 .exact Yi0 (Z2f si nd hp) hio
 .exact Z71 (Z2f si nd hp) hio
end
end
section
variable {Y:St}{xs:List V}
def Ybd(K:Xc):R2:=λx y H Q=>∃l b xs zs,x= .ref l/\y= .ref b/\SqL K H l xs/\SqL K H b zs/\xs.length+zs.length<=Xz/\∀p,H p=YC->Q (.ref p) (upd H p (.lst (xs++zs)))
theorem Inv.lstQ(hK:X.K=K)(I:Inv X pins Y H s)(hH:SqL K H l xs):∃(its:List Xe) (n:Nat),Vals xs its/\xs.length=its.length/\∃o,s.heap.get? l=YB o/\o.cls= .type "list"/\o.dict=YC/\o.data= .seq its.toArray n:=by
 subst hK;obtain⟨its,r,⟨o,n,e,h1,h2,h3⟩,_⟩:=I.list hH;exact⟨its,n,r,r.length,o,e,h1,h2,h3⟩
theorem Zd9(hK:X.K=K):OpR X (VL .Add) (Ybd K):=by
 intro pins s Y H x y v u Q I rx ry h;obtain⟨l,b,xs,zs,rfl,rfl,hH,hB,hz,q⟩:=h;cases rx;cases ry;obtain⟨its,n,r,hl,⟨cls,dd,data,sl⟩,ho,hc,_,hd⟩:=I.lstQ hK hH;obtain⟨its2,n2,r2,hl2,⟨cls2,dd2,data2,sl2⟩,ho2,hc2,_,hd2⟩:=I.lstQ hK hB;simp only at hc hd hc2 hd2;subst hc hd hc2 hd2;have ea:its.toArray++its2.toArray=(its++its2).toArray:=by simp
 refine concat_meets ⟨_,ho,rfl⟩ ⟨_,ho2,rfl⟩ noFill_list_add seq_list_add PySem.F.slot_list_add PySem.F.entry_list_add (PySem.F.args_list_add_2 _ _) (list_addW l b its.toArray its2.toArray n n2 dd dd2 sl sl2 (by simp only[Xy];omega)) ⟨ho,ho2,?_⟩;rw[ea];exact⟨.ref _,_,I.lnew (t':=s.toks) (r.append r2) (by rw[Xq];omega),rfl,q _ I.fresh⟩
end
def asI(d:Xa)(k:Int->Prop):Prop:=match d with| .int i=>k i|_=>False
def asL(d:Xa)(k:List Xa->Prop):Prop:=match d with| .list ds=>k ds|_=>False
section
variable {v:V}{d:Xa}
theorem Da.intInv{k:Int->Prop}(q:Da G H L v d)(h:asI d k):∃i,v= .int i/\k i:=by
 cases q with
 | int b=>exact⟨b,rfl,h⟩
 | _=>exact h.elim
theorem Da.lstInv{k:List Xa->Prop}(q:Da G H L v d)(h:asL d k):∃a xs ds,v= .ref a/\SqL G H a xs/\Das G H L xs ds/\k ds:=by
 cases q with
 | lst l e r=>exact⟨_,_,_,rfl,.inl e,r,h⟩
 | scr s=>exact⟨_,_,_,rfl,s.sq,.ints _,h⟩
 | _=>exact h.elim
end
def d2I(C:Int->Int->Prop)(g:Int->Int->Xa):Xa->Xa->(Xa->Prop)->Prop:=λd e k=>asI d λi=>asI e λj=>C i j/\k (g i j)
def Z1t(g:Int->Int->Xa):Xa->Xa->(Xa->Prop)->Prop:=λd e k=>asI d λi=>asI e λj=>k (g i j)
theorem Yaw{C:Int->Int->Prop}{f:Int->Int->Int}:P2s G (rI C λi j=>.int (f i j)) (d2I C λi j=>.int (f i j)):=λH L x y d e k Q hx hy h kk=>by
 obtain⟨i,rfl,h⟩:=hx.intInv h;obtain⟨j,rfl,h⟩:=hy.intInv h;exact⟨i,j,rfl,rfl,h.1,kk _ _ (.int _) h.2⟩
structure MulOk(i j:Int):Prop where
 ok:IntMulOk i j
structure Yip(i j:Int):Prop where
 ok:DivOk i j
structure Yjd(i j:Int):Prop where
 ok:Yen i j
theorem Ydm{f:Int->Int->Int}:P2s G (rI IntMulOk λi j=>.int (f i j)) (d2I MulOk λi j=>.int (f i j)):=λH L x y d e k Q hx hy h kk=>by
 obtain⟨i,rfl,h⟩:=hx.intInv h;obtain⟨j,rfl,h⟩:=hy.intInv h;exact⟨i,j,rfl,rfl,h.1.ok,kk _ _ (.int _) h.2⟩
theorem Z92{f:Int->Int->Int}:P2s G (rI DivOk λi j=>.int (f i j)) (d2I Yip λi j=>.int (f i j)):=λH L x y d e k Q hx hy h kk=>by
 obtain⟨i,rfl,h⟩:=hx.intInv h;obtain⟨j,rfl,h⟩:=hy.intInv h;exact⟨i,j,rfl,rfl,h.1.ok,kk _ _ (.int _) h.2⟩
theorem Ydd{f:Int->Int->Int}:P2s G (rI Yen λi j=>.int (f i j)) (d2I Yjd λi j=>.int (f i j)):=λH L x y d e k Q hx hy h kk=>by
 obtain⟨i,rfl,h⟩:=hx.intInv h;obtain⟨j,rfl,h⟩:=hy.intInv h;exact⟨i,j,rfl,rfl,h.1.ok,kk _ _ (.int _) h.2⟩
theorem Zlu{f:Int->Int->Int}:P2s G (rI0 λi j=>.int (f i j)) (Z1t λi j=>.int (f i j)):=λH L x y d e k Q hx hy h kk=>by
 obtain⟨i,rfl,h⟩:=hx.intInv h;obtain⟨j,rfl,h⟩:=hy.intInv h;exact⟨i,j,rfl,rfl,kk _ _ (.int _) h⟩
theorem Zfd{f:Int->Int->Bool}:P2s G (rI0 λi j=>.bl (f i j)) (Z1t λi j=>.bool (f i j)):=λH L x y d e k Q hx hy h kk=>by
 obtain⟨i,rfl,h⟩:=hx.intInv h;obtain⟨j,rfl,h⟩:=hy.intInv h;exact⟨i,j,rfl,rfl,kk _ _ (.bl _) h⟩
def Yig(K:Xc):R2:=λx y H Q=>∃(L L':YG->Prop) (d e:Xa),Da K H L x d/\Da K H L' y e/\Shp d/\Shp e/\Q (.bl (Q6 d e)) H
def Yi7(K:Xc):R2:=λx y H Q=>∃(L L':YG->Prop) (d e:Xa),Da K H L x d/\Da K H L' y e/\Shp d/\Shp e/\Q (.bl (!Q6 d e)) H
theorem Zky(hu:X.A.units+64<cLine):OpR X (Br .Eq) (Yig X.K):=by
 intro pins s Y H x y v u Q I rx ry h;obtain⟨L,L',d,e,h1,h2,s1,s2,q⟩:=h;obtain⟨as,k1⟩:=h1.reads rfl I rx (UG s1);obtain⟨bs,k2⟩:=h2.reads rfl I ry (UG s2);exact eq_dataH k1 k2 s1 s2 hu ⟨.bl _,H,I,rfl,q⟩
theorem Zq8(hu:X.A.units+64<cLine):OpR X (Br .NotEq) (Yi7 X.K):=by
 intro pins s Y H x y v u Q I rx ry h;obtain⟨L,L',d,e,h1,h2,s1,s2,q⟩:=h;obtain⟨as,k1⟩:=h1.reads rfl I rx (UG s1);obtain⟨bs,k2⟩:=h2.reads rfl I ry (UG s2);exact ne_dataH k1 k2 s1 s2 hu ⟨.bl _,H,I,rfl,q⟩
structure Ybe(d:Xa):Prop where
 ok:Shp d
def dEq:Xa->Xa->(Xa->Prop)->Prop:=λd e k=>Ybe d/\Ybe e/\k (.bool (Q6 d e))
def dNe:Xa->Xa->(Xa->Prop)->Prop:=λd e k=>Ybe d/\Ybe e/\k (.bool (!Q6 d e))
theorem Ztk:P2s G (Yig G) dEq:=λH L x y d e k Q hx hy h kk=>⟨L,L,d,e,hx,hy,h.1.ok,h.2.1.ok,kk _ _ (.bl _) h.2.2⟩
theorem Z08:P2s G (Yi7 G) dNe:=λH L x y d e k Q hx hy h kk=>⟨L,L,d,e,hx,hy,h.1.ok,h.2.1.ok,kk _ _ (.bl _) h.2.2⟩
def Zht:Xa->Bool
 | .none=>YD
 | _=>YF
theorem Da.isNone{v:V}{d:Xa}(h:Da G H L v d):decide (v= .non)=Zht d:=by
 cases h<;>rfl
def Ydh:Xa->Xa->(Xa->Prop)->Prop:=λd e k=>e= .none/\k (.bool (!Zht d))
theorem Zp3:P2s G (λx y H Q=>y= .non/\Q (.bl (!decide (x= .non))) H) Ydh:=λH L x y d e k Q hx hy h kk=>by
 obtain⟨rfl,h⟩:=h;cases hy;exact⟨rfl,by rw[hx.isNone];exact kk _ _ (.bl _) h⟩
def scD:Xa->Bool
 | .none=>YD
 | .bool _=>YD
 | .int _=>YD
 | .str _=>YD
 | _=>YF
def eqS:Xa->Xa->Bool
 | .none,.none=>YD
 | .bool a,.bool b=>a==b
 | .bool a,.int b=>(if a then 1 else 0)==b
 | .int a,.bool b=>a==(if b then 1 else 0)
 | .int a,.int b=>a==b
 | .str a,.str b=>a==b
 | _,_=>YF
def memS(d:Xa)(ds:List Xa):Bool:=ds.any λe=>eqS e d
theorem Da.toSc{v:V}{d:Xa}(h:Da G H L v d)(s:scD d=YD):ScD v d:=by
 cases h with
 | non=>exact .non
 | bl b=>exact .bl b
 | int i=>exact .int i
 | str x=>exact .str x
 | _=>cases s
theorem Da.sc{v:V}{d:Xa}(h:Da G H L v d)(s:scD d=YD):Zi1 v=YD:=by
 cases h.toSc s<;>rfl
theorem Das.sc{vs:List V}(h:Das G H L vs ds):ds.all scD=YD->vs.all Zi1=YD :=
 Das.ind (Q:=λvs ds=>ds.all scD=YD->vs.all Zi1=YD) (λ_=>rfl) (λh _ r s=>by
  rw[List.all_cons,XC]at s;rw[List.all_cons,h.sc s.1,r s.2];rfl) h
theorem Da.eqS{v u:V}{d e:Xa}(h:Da G H L v d)(g:Da G H L u e)(s:scD d=YD)(t:scD e=YD):eqV v u=L2.eqS d e:=by
 cases h.toSc s<;>cases g.toSc t<;>rfl
theorem Das.memS{v:V}{d:Xa}(h:Da G H L v d)(s:scD d=YD){vs:List V}(g:Das G H L vs ds):ds.all scD=YD->inV v vs=L2.memS d ds :=
 Das.ind (Q:=λvs ds=>ds.all scD=YD->inV v vs=L2.memS d ds) (λ_=>rfl) (λg _ r t=>by
  rw[List.all_cons,XC]at t;have:=r t.2;unfold inV L2.memS at*
  rw[List.any_cons,List.any_cons,this,g.eqS h t.1 s]) g
def dIn(neg:Bool):Xa->Xa->(Xa->Prop)->Prop:=λd e k=>scD d=YD/\match e with
 | .list ds=>ds.all scD=YD/\k (.bool (if neg then !memS d ds else memS d ds))
 | .tuple ds=>ds.all scD=YD/\k (.bool (if neg then !memS d ds else memS d ds))
 | _=>False
theorem Z2g{neg:Bool}:P2s G (rIn G neg) (dIn neg):=λH L x y d e k Q hx hy h kk=>by
 obtain⟨s,h⟩:=h;cases hy with
 | lst l e r=>exact⟨_,_,rfl,.inl (.inl e),hx.sc s,r.sc h.1,by rw[Das.memS hx s r h.1];exact kk _ _ (.bl _) h.2⟩
 | tup e r=>exact⟨_,_,rfl,.inr (.inl (.inl e)),hx.sc s,r.sc h.1,by rw[Das.memS hx s r h.1];exact kk _ _ (.bl _) h.2⟩
 | scr ks=>exact⟨_,_,rfl,.inl ks.sq,hx.sc s,(Das.ints (G:=G) (H:=H) (L:=L) _).sc h.1,by rw[Das.memS hx s (Das.ints (G:=G) (H:=H) (L:=L) _) h.1];exact kk _ _ (.bl _) h.2⟩
 | _=>exact h.elim
def ixD(d e:Xa):Option Xa:=match d,e with
 | .list ds,.int i=>atI ds i
 | .tuple ds,.int i=>atI ds i
 | _,_=>YC
def dIx:Xa->Xa->(OT->Prop)->Prop:=λd e k=>match ixD d e with|some x=>k (.fz x)|none=>False
theorem Das.atI{H:Hp}{L:YG->Prop}{xs:List V}{ds:List Xa}{i:Int}{d:Xa}(h:Das G H L xs ds)(e:L2.atI ds i=YB d):∃x,L2.atI xs i=YB x/\Da G H L x d:=by
 unfold L2.atI at*
 rw[h.length];cases q:ixN ds.length i with
 | none=>rw[q]at e;cases e
 | some j=>
  rw[q]at e;exact h.get e
theorem Z5w:P2 G (rIx G) dIx:=λH L x y d e k Q hx hy h kk=>by
 unfold dIx at h;split at h
 case h_2=>exact h.elim
 rename_i z ez;have fin:∀v,Da G H L v z->Q v H:=λv q=>kk H v (.fz z) [] (Same.refl _) (.fz (q.wide λa l _=>⟨.inl l,λm=>nomatch m⟩)) .nil (λa m=>nomatch m) h;cases hx with
 | lst l e1 r=>
  cases hy with
  | int i=>
   obtain⟨v,e2,q⟩:=r.atI (show L2.atI _ i=YB z from ez);exact .inl ⟨_,_,i,v,rfl,rfl,.inl e1,e2,fin v q⟩
  | _=>cases ez
 | tup e1 r=>
  cases hy with
  | int i=>
   obtain⟨v,e2,q⟩:=r.atI (show L2.atI _ i=YB z from ez);exact .inr (.inl ⟨_,_,i,v,rfl,rfl,.inl (.inl e1),e2,fin v q⟩)
  | _=>cases ez
 | scr ks=>
  cases hy with
  | int i=>
   obtain⟨v,e2,q⟩:=(Das.ints (G:=G) (H:=H) (L:=L) _).atI (show L2.atI _ i=YB z from ez);exact .inl ⟨_,_,i,v,rfl,rfl,ks.sq,e2,fin v q⟩
  | _=>cases ez
 | _=>cases ez
theorem Own.list{H:Hp}{L:YG->Prop}{p:YG}{xs:List V}{ds:List Xa}(hp:H p=YC)(h:Das G H L xs ds):Own G (upd H p (.lst xs)) (λa=>(L a\/H a=YC)/\a∉[p]) (.ref p) (.nd (ds.map OT.fz)) [p] :=
 .nd Yj (((h.wide λa l q=>⟨.inl l,λm=>q (by rw[Xj.mp m];exact hp)⟩).same (Z9 hp _)).owns)
theorem Zay{p:YG}(hp:H p=YC):∀a∈[p],H a=YC:=λa m=>by rw[Xj.mp m];exact hp
theorem Zdf(p:YG):[p].Nodup:=Qo.mpr ⟨λm=>(nomatch m),.nil⟩
def dCat:Xa->Xa->(OT->Prop)->Prop:=λd e k=>asL d λds=>asL e λes=>ds.length+es.length<=Xz/\k (.nd ((ds++es).map OT.fz))
theorem Zh0:P2 G (Ybd G) dCat:=λH L x y d e k Q hx hy h kk=>by
 obtain⟨a,xs,ds,rfl,e1,r1,h⟩:=hx.lstInv h;obtain⟨b,ys,es,rfl,e2,r2,h⟩:=hy.lstInv h;exact⟨a,b,xs,ys,rfl,rfl,e1,e2,by rw[r1.length,r2.length];exact h.1,λp hp=>kk _ _ _ [p] (Z9 hp _) (Own.list hp (r1.append r2)) (Zdf p) (Zay hp) h.2⟩
def n1(k:Xa->Prop)(ds:List Xa):Prop:=match ds with|[d]=>k d|_=>False
def n2(k:Xa->Xa->Prop)(ds:List Xa):Prop:=match ds with|[d,e]=>k d e|_=>False
theorem Das.one{vs:List V}{k:Xa->Prop}(q:Das G H L vs ds)(h:n1 k ds):∃v d,vs=[v]/\ds=[d]/\Da G H L v d/\k d:=by
 cases q with
 | nil=>exact h.elim
 | cons q r=>
  cases r with
  | nil=>exact⟨_,_,rfl,rfl,q,h⟩
  | cons _ _=>exact h.elim
theorem Das.two{vs:List V}{k:Xa->Xa->Prop}(q:Das G H L vs ds)(h:n2 k ds):∃v u d e,vs=[v,u]/\ds=[d,e]/\Da G H L v d/\Da G H L u e/\k d e:=by
 cases q with
 | nil=>exact h.elim
 | cons q r=>
  cases r with
  | nil=>exact h.elim
  | cons q' r'=>
   cases r' with
   | nil=>exact⟨_,_,_,_,rfl,rfl,q,q',h⟩
   | cons _ _=>exact h.elim
def Z2l:Xa->Option Nat
 | .list ds=>YB ds.length
 | .tuple ds=>YB ds.length
 | _=>YC
def Yje:List Xa->(Xa->Prop)->Prop:=λds k=>n1 (λd=>match Z2l d with|some n=>k (.int n)|none=>False) ds
theorem Zkw:PNs G (Yix G) Yje:=λH L xs ds k Q hx h kk=>by
 obtain⟨v,d,rfl,rfl,q,h⟩:=hx.one h;cases q with
 | lst l e r=>exact⟨_,_,rfl,.inl (.inl e),by rw[r.length];exact kk _ _ (.int _) h⟩
 | tup e r=>exact⟨_,_,rfl,.inr (.inl (.inl e)),by rw[r.length];exact kk _ _ (.int _) h⟩
 | scr ks=>exact⟨_,_,rfl,.inl ks.sq,by rw[(Das.ints (G:=G) (H:=H) (L:=L) _).length];exact kk _ _ (.int _) h⟩
 | _=>exact h.elim
def Yiu:List Xa->(Xa->Prop)->Prop:=λds k=>n1 (λd=>asI d λi=>k (.int (if i<0 then -i else i))) ds
theorem Zux:PNs G (λxs H Q=>∃i,xs=[.int i]/\Q (.int (if i<0 then -i else i)) H) Yiu:=λH L xs ds k Q hx h kk=>by
 obtain⟨v,d,rfl,rfl,q,h⟩:=hx.one h;obtain⟨i,rfl,h⟩:=q.intInv h;exact⟨i,rfl,kk _ _ (.int _) h⟩
def Yh9:List Xa->(Xa->Prop)->Prop:=λds k=>n2 (λd e=>asI d λi=>asI e λj=>k (.int (if j<i then j else i))) ds
theorem Zuy:PNs G (λxs H Q=>∃i j,xs=[.int i,.int j]/\Q (.int (if j<i then j else i)) H) Yh9:=λH L xs ds k Q hx h kk=>by
 obtain⟨v,u,d,e,rfl,rfl,q,q',h⟩:=hx.two h;obtain⟨i,rfl,h⟩:=q.intInv h;obtain⟨j,rfl,h⟩:=q'.intInv h;exact⟨i,j,rfl,kk _ _ (.int _) h⟩
def Yji:List Xa->(Xa->Prop)->Prop:=λds k=>n1 (λd=>match d with| .int i=>k (.int i)| .bool b=>k (.int (if b then 1 else 0))|_=>False) ds
theorem Ydj:PNs G (λxs H Q=>(∃i,xs=[.int i]/\Q (.int i) H)\/∃k,xs=[.bl k]/\Q (.int (if k then 1 else 0)) H) Yji:=λH L xs ds k Q hx h kk=>by
 obtain⟨v,d,rfl,rfl,q,h⟩:=hx.one h;cases q with
 | int i=>exact .inl ⟨i,rfl,kk _ _ (.int _) h⟩
 | bl b=>exact .inr ⟨b,rfl,kk _ _ (.int _) h⟩
 | _=>exact h.elim
def Zq1:Xa->Option (List Xa)
 | .list ds=>YB ds
 | .tuple ds=>YB ds
 | _=>YC
def Yc9:List Xa->(OT->Prop)->Prop:=λds k=>n1 (λd=>match Zq1 d with|some es=>k (.nd (es.map OT.fz))|none=>False) ds
theorem Z4u:PN G (Zut G) Yc9:=λH L xs ds k Q hx h kk=>by
 obtain⟨v,d,rfl,rfl,q,h⟩:=hx.one h;cases q with
 | lst l e r=>exact⟨_,_,rfl,.inl (.inl e),λp hp=>kk _ _ _ [p] (Z9 hp _) (Own.list hp r) (Zdf p) (Zay hp) h⟩
 | tup e r=>exact⟨_,_,rfl,.inr (.inl (.inl e)),λp hp=>kk _ _ _ [p] (Z9 hp _) (Own.list hp r) (Zdf p) (Zay hp) h⟩
 | scr ks=>exact⟨_,_,rfl,.inl ks.sq,λp hp=>kk _ _ _ [p] (Z9 hp _) (Own.list hp (Das.ints _)) (Zdf p) (Zay hp) h⟩
 | _=>exact h.elim
section
variable {p:Bool}{a:YJ}
def Yih(m:MEt):MEt:=λδ K=>m δ λr δ'=>asI r.data λi=>K (.fz (.int (-i))) δ'
theorem Znq(ha:ME X io p c a ma):ME X io p YD (.UnaryOp .USub a pos) (Yih ma):=by
 obtain⟨_,A,s⟩:=ha;exact⟨_,Yf7 Z97 A,λC H Y δ fp ex K Q R h k=>s C H Y δ fp ex _ _ R h λH' v r δ' fp' new r1 h1=>by
  obtain⟨i,rfl,h1⟩:=(r1.da R).intInv h1;exact⟨i,rfl,k H' _ _ δ' fp' [] (.fz r1.base r1.stp (.int _)) h1⟩⟩
def Zsf(T:String):Xa->Bool
 | .none=>YF
 | .bool _=>T=="bool"||T=="int"
 | .int _=>T=="int"
 | .str _=>T=="str"
 | .list _=>T=="list"
 | .tuple _=>T=="tuple"
 | .dict _=>YF
def Yhv(T:String)(m:MEt):MEt:=λδ K=>m δ λr δ'=>Ziu r.data=YF/\K (.fz (.bool (Zsf T r.data))) δ'
end
variable {pe ci:Bool}{mi:MIt}{tk:Tok}
section
variable {g:Array GenState}{d:Drawn}{t:Nat}{os:OsState}{o:Obj}
theorem Z44(M:Model)(hx:h.get? a=YB o)(hc:o.cls= .ref C):Bc M h (typeOf (.ref a)) (.ref C):=hc▸(Bc.ld hx).andThen .now
theorem Z04{R:Result->Xh->Prop}(X:K.In h)(Z:Zf1 K C)(hx:h.get? a=YB o)(hc:o.cls= .ref C)(hq:R (.ok (.ret (.ref C))) ⟨h,g,d,t,os⟩) :
  codeAny (Qm prog w) A (.call (.builtin "getset_descriptor.__get__") ⟨[.builtin "object.__class__",.ref a,.ref C],[]⟩) R ⟨h,g,d,t,os⟩:=by
 have L1:Bc (Qm prog w) h (isSubtype (.ref C) (.type (".".intercalate ("object.__class__".cutAt '.').dropLast))) YD:=by
  rw[F.owner_object_class];exact PySem.W.looks_subIn X Z.isO
 have T5:(⟨h,g,d,t,os⟩:Xh).TypeIs (.builtin "object.__class__") "getset_descriptor" :=F.typeOf_object_class;refine codeAny_call_builtin F.slot_gs_get.plain F.entry_gs_get (F.slot_gs_get.check _ _ _ _ _ _ _ _ T5 (F.args_gs_get _ _ _) ?_)
 repeat (any_goals (first|assumption|(with_reducible refine wpAny_loadPart_at hx ?_;rw[hc])|(with_reducible refine Xi (Bc.at L1 ?_))|(with_reducible refine Bc.at L1 ?_)|wp_step))
 refine⟨Code.quiet_builtin _ (by decide +kernel),codeAny_builtin F.entry_object_class ?_⟩
 repeat (any_goals (first|assumption|(with_reducible refine wpAny_loadPart_at hx ?_;rw[hc])|wp_step))
theorem Zth{Q:Fin->Xh->Prop}(X:K.In h)(Z:Zf1 K C)(hx:h.get? a=YB o)(hc:o.cls= .ref C)(hq:Q (.done (.ret (.ref C))) ⟨h,g,d,t,os⟩) :
  X8 (Qm prog w) A (Builtin.«object.__getattribute__» ⟨[.ref a,.str "__class__" tk],[]⟩) Q E ⟨h,g,d,t,os⟩:=by
 have T5:(⟨h,g,d,t,os⟩:Xh).TypeIs (.builtin "object.__class__") "getset_descriptor" :=F.typeOf_object_class;have g5:=F.typeOf_object_class;have g6:=F.slot_gs_get.lookup;have g7:=F.slot_gs_set.lookup;have L4:=PySem.W.looks_findIn (M:=Qm prog w) X Z.cl
 repeat (any_goals (first|assumption|(with_reducible refine wpAny_loadPart_at hx ?_;rw[hc])|(with_reducible refine Xi (Bc.at L4 ?_))|(with_reducible refine Bc.at L4 ?_)|wp_step))
 refine Z04 X Z hx hc ?_
 repeat (any_goals (first|assumption|wp_step))
theorem Ztm{nameV:Xe}{Q:Unit->Xh->Prop}(X:K.In h)(Z:Zf1 K C)(hx:h.get? a=YB o)(hc:o.cls= .ref C)(hq:Q () ⟨h,g,d,t,os⟩) :
  X8 M A (checkBuiltinCall "BaseException.__getattribute__" ⟨[.ref a,nameV],[]⟩) Q E ⟨h,g,d,t,os⟩:=by
 have e1:builtinKind "BaseException.__getattribute__"=YB .slot:=by decide +kernel
 have e2:splitId "BaseException.__getattribute__"=YB ("BaseException","__getattribute__"):=by decide +kernel
 have L1:=PySem.W.looks_subIn (M:=M) X Z.isB;have e3:=F.args_bexc_ga (.ref a) nameV;simp only[checkBuiltinCall,e1,e2];refine Xi ?_;unfold isInstance
 repeat (first|(with_reducible refine wpAny_loadPart_at hx ?_;rw[hc])|(with_reducible refine Xi (Bc.at L1 ?_))|(with_reducible refine Bc.at L1 ?_)|wp_step)
 exact hq
theorem Zyx{R:Result->Xh->Prop}(X:K.In h)(Z:Zf1 K C)(hx:h.get? a=YB o)(hc:o.cls= .ref C)(hq:R (.ok (.ret (.ref C))) ⟨h,g,d,t,os⟩) :
  codeAny (Qm prog w) A (.call (.builtin "BaseException.__getattribute__") ⟨[.ref a,.str "__class__" tk],[]⟩) R ⟨h,g,d,t,os⟩ :=
 codeAny_call_builtin F.excAttr_ValueError.ga.plain F.entry_bexc_ga (Ztm X Z hx hc (Zth X Z hx hc hq))
theorem Z8s{fill expr:Bool}(X:K.In h)(Z:Zf1 K C)(hx:h.get? a=YB o)(hc:o.cls= .ref C)(hq:Q (.ref C) ⟨h,g,d,t,os⟩) :
  X8 (Qm prog w) A (getAttrBy (.ref a) (.str "__class__" tk) fill expr) Q E ⟨h,g,d,t,os⟩:=by
 have f3:=F.excAttr_ValueError.ga.bind (.ref a);have y0:(expr&&onTheHeap (Value.builtin "BaseException.__getattribute__"))=YF:=by cases expr<;>rfl
 have y2:(Value.builtin "BaseException.__getattribute__"==Value.builtin "object.__getattribute__")=YF:=by decide +kernel
 have y1:(onTheHeap (QZ C)&&Value.builtin "BaseException.__getattribute__"==Value.builtin "object.__getattribute__")=YF:=by rw[y2];rfl
 have L2:=PySem.W.looks_findIn (M:=Qm prog w) X Z.ga;have L3:=PySem.W.looks_findIn (M:=Qm prog w) X Z.gt
 repeat (any_goals (first|assumption|(with_reducible refine wpAny_loadPart_at hx ?_;rw[hc])|(with_reducible refine Bc.at L2 ?_)|(with_reducible refine Bc.at L3 ?_)|(with_reducible refine Xi (Bc.at L2 ?_))|(with_reducible refine Xi (Bc.at L3 ?_))|wp_step))
 refine Zyx X Z hx hc ?_
 repeat (any_goals (first|assumption|wp_step))
theorem Zx2{Q:Option Xe->Xh->Prop}(X:K.In h)(Z:Zf1 K C)(hx:h.get? a=YB o)(hc:o.cls= .ref C)(hq:Q (YB (.ref C)) ⟨h,g,d,t+1,os⟩) :
  X8 (Qm prog w) A (getAttr? (.ref a) "__class__") Q E ⟨h,g,d,t,os⟩:=by
 unfold getAttr? getAttrBy?
 repeat (any_goals (first|assumption|with_reducible apply Z8s X Z hx hc|wp_step))
end
theorem Z0o(Z:Zf1 K C):PySem.W.KitX K (.ref a) (.ref C) (λh=>∃o,h.get? a=YB o/\o.cls= .ref C) where
 ty:=λM h _ p=>let⟨_,hx,hc⟩:=p;Z44 M hx hc
 it:=λM h X _=>by
  have z:=Z.isC;unfold PySem.W.clsIn at z;split at z
  .rename_i ho
   intro A' Q' E' s' k q;unfold isType loadHead;exact Xi (wpAny_loadPart (k _ _ (X _ _ ho)) (Qd q))
  .cases z
 ne:=λh tp dd its n sl X htp=>by
  have z:=Z.isC;refine JW.mpr λq=>?_;have e:C=tp:=QZ.inj (YZ.mp q);subst e;unfold PySem.W.clsIn at z;split at z
  .rename_i ho
   have z:=(X _ _ ho).symm.trans htp;cases z
  .cases z
 ca:=fun{_ _ _ _ _ s} X p k=>by
  obtain⟨h,g,d,t,os⟩:=s;obtain⟨_,hx,hc⟩:=p;exact Zx2 X Z hx hc k
def tyD:Xa->String
 | .none=>"NoneType"
 | .bool _=>"bool"
 | .int _=>"int"
 | .str _=>"str"
 | .list _=>"list"
 | .tuple _=>"tuple"
 | .dict _=>"dict"
theorem Z39{T:String}{d:Xa}(h:T="int"\/T="bool"\/T="str"\/T="list"\/T="tuple")(hd:∀kvs,d≠ .dict kvs):Vu K (.type (tyD d)) (.type T)=YB (Zsf T d):=by
 rcases h with rfl|rfl|rfl|rfl|rfl<;>cases d<;>first|rfl|(exact YX rfl (hd _))|(unfold Vu PySem.W.kitCls;rfl)|(simp only[tyD,Zsf];decide +kernel)
def Yft(G:Xc):List V->Hp->VK->Prop:=λxs H Q=>∃(x:V) (T:String) (L:YG->Prop) (d:Xa),xs=[x,.ty T]/\Da G H L x d/\Ziu d=YF/\(T="int"\/T="bool"\/T="str"\/T="list"\/T="tuple")/\Q (.bl (Zsf T d)) H
theorem Zw6(hK:X.K=G):Zbn X (.builtin "isinstance") (Yft G):=by
 subst hK;intro pins s Y H xs us Q I r h;obtain⟨x,T,L,d,rfl,q,hf,hT,h⟩:=h;obtain⟨u,w',rfl,r1,r2⟩:=vals2 r;cases(show w'=Value.type T from r2);have fin:∀tk:Nat,EP X pins Y Q (.bool (Zsf T d)) { s with toks:=tk }:=λtk=>⟨.bl _,H,I.tok tk,rfl,h⟩;cases q with
 | non=>exact Zbu I r1 .non (Z39 (d:=.none) hT λ_ z=>by cases z) fin
 | bl b=>exact Zbu I r1 (.bl b) (Z39 (d:=.bool b) hT λ_ z=>by cases z) fin
 | int b=>exact Zbu I r1 (.int b) (Z39 (d:=.int b) hT λ_ z=>by cases z) fin
 | str b=>exact Zbu I r1 (.str b) (Z39 (d:=.str b) hT λ_ z=>by cases z) fin
 | lst l e qs=>
  rename_i ds;rcases e with e|⟨o,e⟩
  .exact Zbu I r1 (.lst e) (Z39 (d:=.list ds) hT λ_ z=>by cases z) fin
  .exact Zbu I r1 (.frz e) (Z39 (d:=.list ds) hT λ_ z=>by cases z) fin
 | tup e qs=>
  rename_i ds;exact Zbu I r1 (.tup e) (Z39 (d:=.tuple ds) hT λ_ z=>by cases z) fin
 | scr ks=>
  rename_i a ns;cases(show u=QZ a from r1);obtain⟨its,vs,⟨o,n,ho,hc,hd,hs⟩,_⟩:=I.list (ks.sq (H:=H));exact JQ PySem.W.kitx_list I.kIn ⟨o,ho,hc⟩ (Z39 (d:=.list (ns.map Xk)) hT λ_ z=>by cases z) (λz=>nomatch z) fin
 | exc Z hn e=>
  rename_i a C x;cases(show u=QZ a from r1);obtain⟨⟨o,vs,ho,hc,_⟩,_,_⟩:=(show ObjOk X.prog X.w H s.heap a (.ext (ExO C a))from I.hok a _ e);refine JQ (Z0o Z) I.kIn ⟨o,ho,hc⟩ (b:=Zsf T (exD x)) ?_ (λz=>nomatch z) fin;rcases hT with rfl|rfl|rfl|rfl|rfl
  .exact Z.k1
  .exact Z.k2
  .exact Z.k3
  .exact Z.k4
  .exact Z.k5
 | fn _=>cases hf
 | dic _ _ _ _=>unfold dcD Ziu at hf;cases hf
section
variable {p:Bool}{a b:YJ}
theorem Zie{T:Str}{T':String}(hT:T'="int"\/T'="bool"\/T'="str"\/T'="list"\/T'="tuple")(hg:Gl X "isinstance")(hm:X.mg "isinstance"=YC)(hv:Qh "isinstance"=YB (.builtin "isinstance"))
  (hg2:Gl X T) (hm2:X.mg T=YC) (hv2:Qh T=YB (.type T')) (ha:ME X io p c a ma) (hn:T≠"__name__" :=by decide) (hd:(T==("__debug__" : Str))=YF:=by decide)
  (he:Xr [a,.Name T p2] X.env=(YF,eval a X.env)::Xr [.Name T p2] X.env:=by rfl) (he2:Xr [.Name T p2] X.env=(YF,eval (.Name T p2) X.env)::Xr [] X.env:=by rfl) (hpl:(JX pos (Xr [.Name T p2] X.env)).any (·.1)=YF:=by rfl) :
  ME X io p YD (.Call (.Name "isinstance" pp) [a,.Name T p2] [] pos) (Yhv T' ma):=by
 obtain⟨_,A,s⟩:=ha;refine⟨_,Zij (Zw6 rfl) hg hm hv (Zbj A (Zbj (Z7e (v:=.ty T') hg2 hm2 hv2 rfl hn hd) Ze4 he2) he) (by decide) (by decide) he hpl,?_⟩;intro C H Y δ fp ex K' Q R h k;refine s C H Y δ fp ex _ _ R h λH' v r δ' fp' new r1 h1=>?_;exact⟨v,T',_,_,rfl,r1.da R,h1.1,hT,k H' _ _ δ' fp' [] (.fz r1.base r1.stp (.bl _)) h1.2⟩
abbrev MOt:=Zm->(Option Int->Zm->Prop)->Prop
def MO(X:Cx)(io:List Nat)(p:Bool)(e:Option YJ)(m:MOt):Prop:=∃t,PO X e t/\∀(C:MC X.K) (H:Hp) (Y:St) (δ:Zm) (fp:Fp) (ex:YG->Prop) (K:Option Int->Zm->Prop) (Q:Option Int->Hp->Prop),Rel C io H Y δ fp ex->m δ K ->
 (∀ H' b δ' fp',Rel C io H' Y δ' fp' ex->Stp p H δ fp H' δ' fp'->K b δ'->Q b H')->t Y H Q
def Zyh:MOt:=λδ K=>K YC δ
def Ybt(m:MEt):MOt:=λδ K=>m δ λr δ'=>asI r.data λi=>K (YB i) δ'
theorem Ziz:MO X io YD YC Zyh:=⟨_,Z5h,λC H Y δ fp ex K Q R h k=>k H YC δ fp R (.refl _ _ _ _) h⟩
theorem Zel(h:ME X io p c e m):MO X io p (YB e) (Ybt m):=by
 obtain⟨_,A,s⟩:=h;exact⟨_,Z5a A,λC H Y δ fp ex K Q R h k=>s C H Y δ fp ex _ _ R h λH' v r δ' fp' new r1 h1=>by
  obtain⟨i,rfl,h1⟩:=(r1.da R).intInv h1;exact⟨i,rfl,k H' _ δ' fp' r1.base r1.stp h1⟩⟩
def cutD(ds:List Xa)(lo hi:Option Int):List Xa:=(ds.drop (HT.sIx ds.length 0 lo)).take (HT.sIx ds.length ds.length hi-HT.sIx ds.length 0 lo)
theorem Das.cut{xs:List V}(h:Das G H L xs ds)(lo hi:Option Int):Das G H L (Z89 xs lo hi) (cutD ds lo hi):=by
 unfold Z89 cutD;rw[h.length];exact(h.drop _).take _
def mSl(m:MEt)(ml mh:MOt):MEt:=λδ K=>m δ λr δ1=>ml δ1 λlo δ2=>mh δ2 λhi δ3=>asL r.data λds=>K (.nd ((cutD ds lo hi).map OT.fz)) δ3
theorem Zu8{ml mh:MOt}(ha:ME X io YD c a ma)(hl:MO X io YD lo ml)(hh:MO X io YD hi mh):ME X io YD c (.Subscript a (.Slice lo hi YC p2) pos) (mSl ma ml mh):=by
 obtain⟨_,A,s⟩:=ha;obtain⟨_,B,sl⟩:=hl;obtain⟨_,D,sh⟩:=hh;refine⟨_,Z0x (Z0v rfl) A B D,?_⟩;intro C H Y δ fp ex K' Q R h k;refine s C H Y δ fp ex _ _ R h λH1 v r δ1 fp1 new r1 h1=>?_;refine sl C H1 Y δ1 fp1 ex _ _ r1.base h1 λH2 l δ2 fp2 R2 S2 h2=>?_;refine sh C H2 Y δ2 fp2 ex _ _ R2 h2 λH3 u δ3 fp3 R3 S3 h3=>?_;have s2:Same H1 H2:=λb o e=>S2.keep b o e (.inl rfl);have s3:Same H2 H3:=λb o e=>S3.keep b o e (.inl rfl);obtain⟨e1,e2⟩:=r1.stp.env rfl;obtain⟨e3,e4⟩:=S2.env rfl;obtain⟨e5,e6⟩:=S3.env rfl;have q:=((r1.da R).same s2).same s3;obtain⟨a',xs,ds,rfl,e,qs,h3⟩:=q.lstInv h3;refine⟨a',xs,rfl,e,λp hp=>?_⟩;have S:=(r1.stp.trans S2).trans S3;refine k _ _ _ δ3 fp3 [p] (RE.tree R R3 S (Z9 hp _) (Zay hp) (Zdf p) (Own.list hp ((qs.cut l u).wide λa l _=>?_))) h3;rw[e6,e4];exact l
theorem Owns.set{H:Hp}{L:YG->Prop}{x:V}{r:OT}(hr:Own G H L x r []):∀{xs:List V} {ts:List OT} {as:List YG} (j:Nat),Owns G H L xs ts as->∃bs,Owns G H L (xs.set j x) (ts.set j r) bs/\bs.Sublist as
 | _,_,_,_,.nil=>⟨[],.nil,.refl _⟩
 | _,_,_,0,.cons k t=>⟨_,.cons hr t,by simp⟩
 | _,_,_,j+1,.cons (as:=as) k t=>by
  obtain⟨bs,o,s⟩:=Owns.set hr j t;exact⟨as++bs,.cons k o,List.Sublist.append_left s as⟩
theorem Owns.get:∀{xs:List V} {ts:List OT} {as:List YG} {j:Nat} {t:OT},Owns G H L xs ts as->ts[j]? =BR t->∃x bs,xs[j]? =BR x/\Own G H L x t bs/\bs.Sublist as
 | _,_,_,_,_,.nil,e=>by simp at e
 | _,_,_,0,_,.cons k _,e=>by simp at e;subst e;exact⟨_,_,rfl,k,List.sublist_append_left _ _⟩
 | _,_,_,j+1,t,.cons _ r,e=>by
  obtain⟨x,bs,h1,h2,h3⟩:=Owns.get (j:=j) (t:=t) r (by simpa using e);exact⟨x,bs,by simpa using h1,h2,h3.trans (List.sublist_append_right _ _)⟩
theorem Rel.top{C:MC G}{Y:St}{ts':List OT}{a':YG}{xs ys:List V}{bs bs':List YG}(R:Rel C io H Y δ fp ex)(hi:δ[i]? =YB (YB (.nd ts)))(hv:Y[i]? =YB (YB (.ref a')))
  (hf:fp i=a'::bs) (hx:H a'=YB (.lst xs)) (o:Owns G H (Lf C fp ex) ys ts' bs') (hs:bs'.Sublist bs) :
  Rel C io (upd H a' (.lst ys)) Y (δ.set i (YB (.nd ts'))) (fpu fp i (a'::bs')) ex/\Stp YF H δ fp (upd H a' (.lst ys)) (δ.set i (YB (.nd ts'))) (fpu fp i (a'::bs')):=by
 have nd:=R.nd i;rw[hf]at nd;have hn:=Qo.mp nd;have hm:a'∈fp i:=by rw[hf];exact .head _
 have ne':∀a,¬Foot fp a->a≠a':=λa h z=>h ⟨i,by rw[z];exact hm⟩;have kp:∀b o,H b=YB o->b≠a'->upd H a' (.lst ys) b=YB o:=λb o e n=>by rw[Yc n];exact e
 have sub:∀a,a∈a'::bs'->a∈fp i:=λa m=>by
  rw[hf];rcases Xm.mp m with rfl|m
  .exact .head _
  .exact .tail _ (hs.subset m)
 have o':Owns G (upd H a' (.lst ys)) (Lf C (fpu fp i (a'::bs')) (exu ex [])) ys ts' bs':=by
  have f0:∀a,¬Foot fp a->¬Foot (fpu fp i (a'::bs')) a:=λa h z=>by
   rcases z.of_u with z|⟨j,_,z⟩
   .exact h ⟨i,sub a z⟩
   .exact h ⟨j,z⟩
  have f1:∀a (zs:MuO),Lf C fp ex a->Rd H a zs.ho->Lf C (fpu fp i (a'::bs')) (exu ex []) a/\Rd (upd H a' (.lst ys)) a zs.ho:=λa zs l q=>by
   refine⟨⟨f0 a l.1,λz=>l.2.1 (Zeg.mp z),l.2.2⟩,?_⟩;rcases q with q|⟨u,q⟩
   .exact .inl (kp a _ q (ne' a l.1))
   .exact .inr ⟨u,kp a _ q (ne' a l.1)⟩
  have f2:∀a (zs:ImO),H a=YB zs.ho->upd H a' (.lst ys) a=YB zs.ho:=λa zs q=>kp a _ q λz=>ImO.nl q (z▸hx);exact o.frame f1 f2 λa m zs q=>kp a _ q λz=>hn.1 (hs.subset (z▸m))
 have key:=R.change (new:=[]) (as':=a'::bs') (t':=.nd ts') (H':=upd H a' (.lst ys)) hi hv (λb o e nb=>kp b o e λz=>nb (by rw[z];exact hm)) (λb e=>by
   by_cases q:b=a'
   .subst q;rw[Yj]at e;cases e
   .rwa[Yc q]at e) (.nd Yj o') (Qo.mpr ⟨λm=>hn.1 (hs.subset m),hn.2.sublist hs⟩) (λa m=>.inl (sub a m)) (λa m=>nomatch m)
 exact⟨key.1.drop λa z=>.inl z,key.2⟩
end
section
variable {p:Bool}{a b:YJ}{mi mj:MEt}
theorem Rel.ownNd{C:MC G}{Y:St}(R:Rel C io H Y δ fp ex)(hi:δ[i]? =YB (YB (.nd ts))) :
  ∃a' xs bs,Y[i]? =YB (YB (.ref a'))/\H a'=YB (.lst xs)/\Owns G H (Lf C fp ex) xs ts bs/\fp i=a'::bs:=by
 obtain⟨v,e,o⟩:=R.own i _ hi;generalize hf:fp i=as at o;cases o with
 | nd h r=>exact⟨_,_,_,e,h,r,rfl⟩
def Zme(i:Nat)(m:MEt):MSt:=λD δ=>match δ[i]? with
 | some (YB (.nd _))=>m δ λr δ1=>match δ1[i]? with
  | some (YB (.nd ts))=>ts.length<Xz/\D.nx (δ1.set i (YB (.nd (ts++[.fz r.data]))))
  | _=>False
 | _=>False
theorem Jw(i:Nat)(he:ME X io p YD e m)(hN:X.N[i]? =YB x:=by rfl)(hv:Vis X.env.scope x:=by first|exact QT rfl|exact QF (QT rfl)|exact QF (QF rfl))(hd:(x==("__debug__" : Str))=YF:=by decide)
  (hcd:(x==("__classdict__" : Str))=YF:=by decide)
  (hbase:Uy (.Name x px) "append" X.env (eval (.Name x px) X.env)=eval (.Name x px) X.env:=by rfl)
  (hfew:((JX cpos (Xr [e] X.env)).all (λx=>!x.1)&&(backToKw cpos (keywordEach [] X.env)).all (λx=>x.1.isSome)
   &&decide ([e].length+([]:List Ur).length+(if([]:List Ur).isEmpty then 0 else 1)<30))=YD:=by rfl)
  (hline:(apos.endLine==cpos.line)=YD:=by rfl) (hs:Xr [e] X.env=(YF,eval e X.env)::Xr [] X.env:=by rfl) (hplain:(JX cpos (Xr [] X.env)).any (·.1)=YF:=by rfl)
  (hsw:V9 (.Call (.Attribute (.Name x px) "append" apos) [e] [] cpos) YC pos.line X.env=pure YF:=by rfl) :
  MS X io (.Expr (.Call (.Attribute (.Name x px) "append" apos) [e] [] cpos) pos) (Zme i m):=by
 obtain⟨_,A,s⟩:=he;refine⟨_,Zpt (Z17 Uo PySem.F.slot_list_append PySem.F.type_list_append Znr (pv i hN hv hd hcd) (Zbj A Ze4 hs) hbase hfew hline hs hplain) hsw,λC H Y δ fp ex D D' R h E=>?_⟩;unfold Zme at h;split at h
 case h_2=>exact h.elim
 rename_i ts0 hi0;obtain⟨a',xs0,bs0,hv0,hx0,_,_⟩:=R.ownNd hi0;refine⟨_,hv0,.inl ⟨rfl,xs0,.inl (.inl hx0)⟩,?_⟩;refine s C H Y δ fp ex _ _ R h λH1 v r δ1 fp1 new r1 h1=>?_;split at h1
 case h_2=>exact h1.elim
 rename_i ts1 hi1;have R1:=r1.base;obtain⟨a1,xs1,bs1,hv1,hx1,o1,hf1⟩:=R1.ownNd hi1;rw[hv0]at hv1;cases hv1;have q:=(r1.da R).wide (L':=Lf C fp1 ex) λa l _=>l rfl;refine⟨a',xs1,v,rfl,rfl,hx1,by rw[o1.length];exact h1.1,?_⟩;have o2:=o1.snoc (.fz q);obtain⟨R2,S2⟩:=R1.top hi1 hv0 hf1 hx1 o2 (by simp);exact E.nx _ Y _ _ R2 (r1.stp.kp.trans S2.kp) h1.2
def Yao(i:Nat)(m mi mj:MEt):MSt:=λD δ=>m δ λr δ1=>match δ1[i]? with
 | some (YB (.nd ts))=>mi δ1 λn _=>asI n.data λk=>match ixN ts.length k with
  | some j=>match ts[j]? with
   | some (.nd us)=>mj δ1 λn' _=>asI n'.data λk'=>match ixN us.length k' with
    | some j'=>D.nx (δ1.set i (YB (.nd (ts.set j (.nd (us.set j' (.fz r.data)))))))
    | none=>False
   | _=>False
  | none=>False
 | _=>False
theorem SE.pureAfter{t:TE}{C:MC G}{Y:St}{K':OT->Zm->Prop}{Q:VK}(s:SE G io YD c t m)(R:Rel C io H Y δ fp ex)(h:m δ K')(k:∀H' v r,Rel C io H' Y δ fp ex->Same H H'->Da G H' (λa=>c=YD->Lf C fp ex a) v r.data->K' r δ->Q v H'):t Y H Q :=
 s C H Y δ fp ex _ _ R h λH1 v r δ1 fp1 new r1 h1=>by
  obtain⟨e1,e2⟩:=r1.stp.env rfl;have q:=r1.da R;have R1:=r1.base;rw[e1]at R1 h1;rw[e2]at R1 q;exact k H1 v r R1 (λb o e=>r1.stp.keep b o e (.inl rfl)) q h1
theorem Owns.deep{b':YG}{ws ws':List V}{us us':List OT}(hb:H b'=BR (HO.lst ws))(hL:¬L b')(hc:∀cs,Owns G H L ws us cs->∃cs',Owns G H L ws' us' cs'/\cs'.Sublist cs) :
  ∀{xs:List V} {ts:List OT} {as:List YG} {j:Nat},Owns G H L xs ts as->as.Nodup->xs[j]? =BR (.ref b')->ts[j]? =BR (.nd us)->∃as',Owns G (upd H b' (.lst ws')) L xs (ts.set j (.nd us')) as'/\as'.Sublist as/\b'∈as
 | _,_,_,_,.nil,_,e,_=>by simp at e
 | _,_,_,0,.cons (as:=as) (bs:=bs) k t,nd,e,e'=>by
  simp at e e';subst e e';have nd':=JL.mp nd;have kp:∀a o,a≠b'->H a=BR o->upd H b' (.lst ws') a=BR o:=λa o n q=>by rw[Yc n];exact q
  have f1:∀a (zs:MuO),L a->Rd H a zs.ho->L a/\Rd (upd H b' (.lst ws')) a zs.ho:=λa zs l q=>⟨l,by
   have na:a≠b':=λz=>hL (z▸l);rcases q with q|⟨u,q⟩
   .exact .inl (kp a _ na q)
   .exact .inr ⟨u,kp a _ na q⟩⟩
  have f2:∀a (zs:ImO),H a=BR zs.ho->upd H b' (.lst ws') a=BR zs.ho:=λa zs q=>kp a _ (λz=>ImO.nl q (z▸hb)) q;cases k with
  | nd h r=>
   rename_i xs0 as0;rw[hb]at h;cases h;have nd2:=Qo.mp nd'.1;obtain⟨cs',o',s'⟩:=hc _ r;refine⟨b'::cs'++bs,.cons (.nd Yj (o'.frame f1 f2 λa m zs q=>kp a _ (λz=>nd2.1 (s'.subset (z▸m))) q)) (t.frame f1 f2 λa m zs q=>kp a _ (λz=>nd'.2.2 b' (.head _) a m z.symm) q),List.Sublist.append_right (List.Sublist.cons₂ _ s') bs,Ub _ (.head _)⟩
 | _,_,_,j+1,.cons (as:=as) (bs:=bs) k t,nd,e,e'=>by
  have nd':=JL.mp nd;obtain⟨as',o,s,m⟩:=Owns.deep hb hL hc (j:=j) t nd'.2.1 (by simpa using e) (by simpa using e');have nb:b'∉as:=λz=>nd'.2.2 b' z b' m rfl;refine⟨as++as',.cons ?_ o,List.Sublist.append_left s as,Qn _ m⟩;have kp:∀a o,a≠b'->H a=BR o->upd H b' (.lst ws') a=BR o:=λa o n q=>by rw[Yc n];exact q
  refine k.frame (λa zs l q=>⟨l,?_⟩) (λa zs q=>kp a _ (λz=>ImO.nl q (z▸hb)) q) λa m' zs q=>kp a _ (λz=>nb (z▸m')) q;have na:a≠b':=λz=>hL (z▸l);rcases q with q|⟨u,q⟩
  .exact .inl (kp a _ na q)
  .exact .inr ⟨u,kp a _ na q⟩
theorem Z5s(i:Nat)(he:ME X io p YD e m)(hj:ME X io YD c a mi)(hk:ME X io YD c' b mj)(hPa:Ziv a)(hN:X.N[i]? =YB x:=by rfl)(hv:Vis X.env.scope x:=by first|exact QT rfl|exact QF (QT rfl)|exact QF (QF rfl))(hd:(x==("__debug__" : Str))=YF:=by decide)
  (hcd:(x==("__classdict__" : Str))=YF:=by decide)
  (hpg:∀{to ti:TE},PE X (.Subscript (.Name x px) a pp) to->PE X b ti->PG X (.Subscript (.Subscript (.Name x px) a pp) b p2) (Yie to ti Ycw):=by intro _ _ A B;exact Yar A B set_list)
  (hs:swapsWithSole [.Subscript (.Subscript (.Name x px) a pp) b p2] e pos.line X.env=pure YF:=by rfl) (hw:swappedStores [.Subscript (.Subscript (.Name x px) a pp) b p2] e X.env=pure YC:=by rfl)
  (h1:(Bm [.Subscript (.Subscript (.Name x px) a pp) b p2] X.env).map (·.2)=[assign (.Subscript (.Subscript (.Name x px) a pp) b p2) X.env]:=by rfl) :
  MS X io (.Assign [.Subscript (.Subscript (.Name x px) a pp) b p2] e pos) (Yao i m mi mj):=by
 obtain⟨_,A,s⟩:=he;obtain⟨_,B,sj⟩:=hj;obtain⟨_,B2,sk⟩:=hk;refine⟨_,Z94 A (hpg (Z67 (Zzj rfl) (pv i hN hv hd hcd) B hPa) B2) hs hw h1,λC H Y δ fp ex D D' R h E=>?_⟩;refine s C H Y δ fp ex _ _ R h λH1 v r δ1 fp1 new r1 h1=>?_;have R1:=r1.base;have q:=(r1.da R).wide (L':=Lf C fp1 ex) λa l _=>l rfl;split at h1
 case h_2=>exact h1.elim
 rename_i ts hi;obtain⟨a',_,_,hv0,_⟩:=R1.ownNd hi;refine⟨_,hv0,?_⟩;refine sj.pureAfter R1 h1 λH2 w n R2 s2 q2 h2=>?_;obtain⟨k,rfl,h2⟩:=q2.intInv h2;split at h2
 case h_2=>exact h2.elim
 rename_i j hj;split at h2
 case h_2=>exact h2.elim
 rename_i us hus
 -- the row
 obtain⟨a2,xs2,bs2,hv2,hx2,o2,hf2⟩:=R2.ownNd hi;rw[hv0]at hv2;cases hv2;obtain⟨xr,cr,hxr,orow,_⟩:=o2.get hus;obtain⟨b',rfl⟩:∃b',xr=V.ref b':=by
  cases orow with
  | nd h r=>exact⟨_,rfl⟩
 refine⟨a',xs2,k,V.ref b',rfl,rfl,.inl (.inl hx2),?_,?_⟩
 .unfold atI
  rw[o2.length,hj];exact hxr
 refine sk.pureAfter R2 h2 λH3 w' n' R3 s3 q3 h3=>?_;obtain⟨k',rfl,h3⟩:=q3.intInv h3;split at h3
 case h_2=>exact h3.elim
 rename_i j' hj';obtain⟨a3,xs3,bs3,hv3,hx3,o3,hf3⟩:=R3.ownNd hi;rw[hv0]at hv3;cases hv3;have exs:xs3=xs2:=by
  have:=s3 _ _ hx2;rw[hx3]at this;cases this;rfl
 subst exs;obtain⟨xr3,cr3,hxr3,orow3,hsub3⟩:=o3.get hus;rw[hxr]at hxr3;cases hxr3;have nd3:=R3.nd i;rw[hf3]at nd3;have hn3:=Qo.mp nd3;cases orow3 with
 | nd hb r3=>
  rename_i ws3 bs4;have hbm:b'∈bs3:=hsub3.subset (.head _);have hbf:b'∈fp1 i:=by rw[hf3];exact .tail _ hbm
  have hLb:¬Lf C fp1 ex b':=λl=>l.1 ⟨i,hbf⟩;obtain⟨as',oo,ss,_⟩:=Owns.deep (ws':=ws3.set j' v) (us':=us.set j' (.fz r.data)) hb hLb (λcs hcs=>Owns.set (.fz ((q.same s2).same s3)) j' hcs) o3 hn3.2 hxr hus;refine⟨b',ws3,k',j',rfl,rfl,hb,by rw[r3.length];exact hj',?_⟩;have hba:a'≠b':=λz=>hn3.1 (z▸hbm)
  -- the change
  have sub:∀a,a∈a'::as'->a∈fp1 i:=λa m=>by
   rw[hf3];rcases Xm.mp m with rfl|m
   .exact .head _
   .exact .tail _ (ss.subset m)
  have kp:∀b o,H3 b=YB o->b≠b'->upd H3 b' (.lst (ws3.set j' v)) b=YB o:=λb o e n=>by rw[Yc n];exact e
  have lw:∀a,Lf C fp1 ex a->upd H3 b' (.lst (ws3.set j' v)) a≠YC->Lf C (fpu fp1 i (a'::as')) (exu ex []) a:=λa l _=>⟨λz=>by
   rcases z.of_u with z|⟨j,_,z⟩
   .exact l.1 ⟨i,sub a z⟩
   .exact l.1 ⟨j,z⟩,λz=>l.2.1 (Zeg.mp z),l.2.2⟩
  obtain⟨R4,S4⟩:=R3.change (new:=[]) (as':=a'::as') (t':=.nd (ts.set j (.nd (us.set j' (.fz r.data))))) (H':=upd H3 b' (.lst (ws3.set j' v))) hi hv0 (λb o e nb=>kp b o e λz=>nb (by rw[z];exact hbf)) (λb e=>by
    by_cases q:b=b'
    .subst q;rw[Yj]at e;cases e
    .rwa[Yc q]at e) (.nd (by rw[Yc hba];exact hx3) (oo.wide lw)) (Qo.mpr ⟨λm=>hn3.1 (ss.subset m),hn3.2.sublist ss⟩) (λa m=>.inl (sub a m)) (λa m=>nomatch m)
  have k23:Kp H1 fp1 H3 fp1:=⟨λb o e _=>s3 _ _ (s2 _ _ e),λz=>(nomatch z),λa z=>.inl z,λb e=>s2.al b (s3.al b e)⟩;exact E.nx _ Y _ _ (R4.drop λa z=>.inl z) (r1.stp.kp.trans (k23.trans S4.kp)) h3
end
mutual
def Z6p:OT->Bool
 | .fz d=>Zif d
 | .nd ts=>Zvu ts
 | .tp ts=>Zvu ts
 | .dc _ _ _=>YF
def Zvu:List OT->Bool
 | []=>YD
 | t::ts=>Z6p t&&Zvu ts
end
section
variable {p:Bool}
theorem Rel.freeze{C:MC G}{Y:St}{t:OT}(R:Rel C io H Y δ fp ex)(hio:i∉io)(hi:δ[i]? =YB (YB t)):Rel C io H Y (δ.set i (YB (.fz t.data))) (fpu fp i []) ex:=by
 have hil:i<δ.length:=(Xw.mp hi).1;have sub:∀j a,a∈fpu fp i [] j->j≠i/\a∈fp j:=λj a m=>by
  by_cases ej:j=i
  .subst ej;rw[Ys]at m;exact nomatch m
  .rw[Wn ej]at m;exact⟨ej,m⟩
 have lw:∀a,Lf C fp ex a->Lf C (fpu fp i []) ex a:=λa l=>⟨λ⟨j,z⟩=>l.1 ⟨j,(sub j a z).2⟩,l.2.1,l.2.2⟩;have ln:∀a∈fp i,Lf C (fpu fp i []) ex a:=λa m=>⟨λ⟨j,z⟩=>(sub j a z).1 (R.dj j i a (sub j a z).2 m),R.dx i a m,.inr (by
  rcases R.new i a m with z|z
  .exact YX z.1 hio
  .exact z)⟩
 refine⟨by rw[Vr];exact R.len,λj t' e=>?_,λj h=>?_,λj=>?_,λj k a h1 h2=>R.dj j k a (sub j a h1).2 (sub k a h2).2,λj a h z=>R.dx j a (sub j a h).2 z,R.xa,R.fr,R.al,λj a h=>R.new j a (sub j a h).2,R.io⟩
 .by_cases ej:j=i
  .subst ej
   rw[JP hil]at e;cases e;obtain⟨v,e1,o⟩:=R.own j t hi;exact⟨v,e1,by rw[Ys];exact .fz (o.da (λa l _=>lw a l) ln)⟩
  .rw[Q3 (VF ej)]at e
   obtain⟨w,e1,o⟩:=R.own j t' e;exact⟨w,e1,by rw[Wn ej];exact o.wide λa l _=>lw a l⟩
 .by_cases ej:j=i
  .subst ej;rw[Ys]
  .rw[Wn ej]
   exact R.emp j λt' z=>h t' (by rw[Q3 (VF ej)];exact z)
 .by_cases ej:j=i
  .subst ej;rw[Ys];exact .nil
  .rw[Wn ej];exact R.nd j
def Zmd(i:Nat)(u:MSt):MSt:=λD δ=>match δ[i]? with|some (YB t)=>u D (δ.set i (YB (.fz t.data)))|_=>False
theorem Znh{u:MSt}(i:Nat)(h:MS X io st u)(hio:i∉io:=by decide):MS X io st (Zmd i u):=by
 obtain⟨_,A,s⟩:=h;exact⟨_,A,λC H Y δ fp ex D D' R h E=>by
  unfold Zmd at h;split at h
  case h_2=>exact h.elim
  rename_i t hi;refine s C H Y _ _ ex D D' (R.freeze hio hi) h (E.shift ⟨λb o e _=>e,λz=>(nomatch z),λa z=>?_,λb e=>e⟩);rcases z.of_u with z|⟨j,_,z⟩
  .exact nomatch z
  .exact .inl ⟨j,z⟩⟩
end
def Z9m(ds:List Xa)(k:OT->Prop):Prop:=∃ns:List Int,ds=[.list (ns.map Xk)]/\ns.length<=63/\k (.fz (.bool YD))
theorem Yd0{E:XK}(hl:ns.length<=63)(h:SqL G H a (ns.map V.int)):spD G Z9m [.ref a] H (λv _=>v= .bl YD) E:=by
 refine⟨λ_=>True,[.list (ns.map Xk)],λr=>r= .fz (.bool YD),.cons ?_ .nil,⟨ns,rfl,hl,rfl⟩,λr v H' new kr s o _ _=>?_⟩
 .rcases h with h|h
  .exact .lst trivial h (.ints ns)
  .exact .scr h
 .subst kr
  cases o with
  | fz q=>cases q;rfl
section
variable {base:YH}{n:Nat}{f:YG}{fd:XJ}
theorem Da.ints_sq{v:V}(h:Da G H L v (.list (ns.map Xk))):∃a,v= .ref a/\SqL G H a (ns.map V.int):=by
 generalize e:Qu (ns.map Xk)=d at h;cases h with
 | lst l e1 r=>
  cases e;rw[r.int_inv]at e1;exact⟨_,rfl,.inl e1⟩
 | scr k=>
  rename_i a ms;have e':=PyData.list.inj e;have:ns=ms:=(List.map_inj_right (λ_ _ h=>by cases h;rfl)).mp e';subst this;exact⟨_,rfl,k.sq⟩
 | _=>cases e
end
@[simp] theorem Zgt:OT.datas []=[]:=rfl
@[simp] theorem Zev(t:OT)(ts:List OT):OT.datas (t::ts)=t.data::OT.datas ts:=rfl
theorem Zo1{xs:List α}{i:Int}(h0:0<=i):atI xs i=xs[i.toNat]?:=by
 unfold atI ixN;rw[YL h0];split
 .rfl
 .rename_i h
  symm;exact Qy.mpr (by omega)
theorem Zx4{xs:List α}:atI xs (i:Int)=xs[i]?:=by
 rw[Zo1 (by omega),Q7]
@[simp] theorem Yj6{α:Type}(x:α)(xs:List α):atI (x::xs) 0=YB x:=by
 rw[Zo1 (by decide)];rfl
@[simp] theorem Ykd{α:Type}(x y:α)(xs:List α):atI (x::y::xs) 1=YB y:=by
 rw[Zo1 (by decide)];rfl
@[simp] theorem Yk5{α:Type}(x y z:α)(xs:List α):atI (x::y::z::xs) 2=YB z:=by
 rw[Zo1 (by decide)];rfl
@[simp] theorem Yet(ds:List Xa)(i:Int):ixD (.list ds) (.int i)=atI ds i:=rfl
@[simp] theorem Yhb(ds:List Xa)(i:Int):ixD (.tuple ds) (.int i)=atI ds i:=rfl
@[simp] theorem Z9z(ds:List Xa):Z2l (.list ds)=YB ds.length:=rfl
@[simp] theorem Yew(ds:List Xa):Z2l (.tuple ds)=YB ds.length:=rfl
def Zsn(r:List Rat):Xa:=.list (r.map frD)
def tbD(T:List (List Rat)):Xa:=.list (T.map Zsn)
def Yee(r:List Rat):OT:=.nd (r.map λq=>.fz (frD q))
def tbT(T:List (List Rat)):OT:=.nd (T.map Yee)
@[simp] theorem Zyg(r:List Rat):(Yee r).data=Zsn r:=by
 unfold Yee Zsn;rw[OT.data_nd,XR];rfl
@[simp] theorem Yel(T:List (List Rat)):(tbT T).data=tbD T:=by
 unfold tbT tbD;rw[OT.data_nd,XR];exact YT Qu (Xu λr _=>Zyg r)
def Sq(n:Nat)(T:List (List Rat)):Prop:=T.length=n/\∀r∈T,r.length=n
def dd(T:List (List Rat))(i j:Nat):Rat:=(T.getD i []).getD j 0
@[simp] theorem Ygg(T:List (List Rat)):Z2l (tbD T)=YB T.length:=by unfold tbD Z2l;simp
@[simp] theorem Yd5(r:List Rat):Z2l (Zsn r)=YB r.length:=by unfold Zsn Z2l;simp
@[simp] theorem Yf1(q:Rat):Zif (frD q)=YD:=by unfold frD fr;simp[Zif,Zuv]
theorem Zx7{t:Int}(ht:0<=t)(hb:0<b):0<=XH t b:=Rat.divInt_nonneg ht (by omega)
theorem Zrn{n a:Nat}(h:a<n):ixN n (a:Int)=YB a:=by
 unfold ixN;rw[YL (by omega),YL (by omega)];simp
theorem Sq.ixN{n a:Nat}{T:List (List Rat)}(h:Sq n T)(ha:a<n):ixN (T.map Yee).length (a:Int)=YB a:=Zrn (by rw[Xd,h.1];exact ha)
theorem ix3{d1 d2 d3:Xa}{r:Int}(r0:0<=r)(r1:r<3):∃d,(d=d1\/d=d2\/d=d3)/\ixD (.list [d1,d2,d3]) (.int r)=YB d:=by
 have:r=0\/r=1\/r=2:=by omega
 rcases this with rfl|rfl|rfl
 .exact⟨d1,.inl rfl,rfl⟩
 .exact⟨d2,.inr (.inl rfl),rfl⟩
 .exact⟨d3,.inr (.inr rfl),rfl⟩
theorem Zr6{d:Xa}(h:Wf d=YD):Q6 d d=YD:=Z2p h h rfl
structure Sh(n:Nat)(d:Xa):Prop where
 lay:BP d=YD
 dep:PyData.depth d<=n
theorem Sh.shp{n:Nat}{d:Xa}(h:Sh n d)(hn:n<=64:=by decide):Ybe d:=⟨by
 show(BP d&&decide (PyData.depth d<=64))=YD;rw[h.lay,YQ (QD h.dep hn)];rfl⟩
theorem Zoc{n:Nat}:∀{ds:List Xa},(∀d∈ds,Sh n d)->Bo ds=YD/\PyData.depthAll ds<=n
 | [],_=>⟨by rw[Bo],by rw[PyData.depthAll];exact QH _⟩
 | d::ds,h=>by
  obtain⟨h1,h2⟩:=Zoc λe m=>h e (.tail _ m);have h3:=h d (.head _);refine⟨by rw[Bo,h3.lay,h1];rfl,?_⟩;rw[PyData.depthAll];exact Nat.max_le.mpr ⟨h3.dep,h2⟩
theorem Zx0{n:Nat}(h:∀d∈ds,Sh n d):Sh (n+1) (.list ds) :=
 ⟨by rw[BP];exact(Zoc h).1,by rw[PyData.depth];exact Nat.succ_le_succ (Zoc h).2⟩
theorem Z2x{n:Nat}(h:∀d∈ds,Sh n d):Sh (n+1) (.tuple ds) :=
 ⟨by rw[BP];exact(Zoc h).1,by rw[PyData.depth];exact Nat.succ_le_succ (Zoc h).2⟩
theorem Zyl(i:Int):Sh 0 (.int i):=⟨rfl,Nat.le_of_eq rfl⟩
section
variable {Y:St}
theorem Inv.turnTup{T:YG}{xs:List V}{its:List Xe}(I:Inv X pins Y H s)(f:∀b∈ch,Zmn X pins H b)(k:∀b o,b∉ch->s.heap.get? b=YB o->h'.get? b=YB o)
  (th:∀b∈ch,∃o,h'.get? b=YB o) (hT:s.heap.objs.size<=T) (hz:xs.length<=Xz) (r:Vals xs its) (ht:IsTup h' T its.toArray):Inv X pins Y (upd H T (.tup xs)) { s with heap:=h' }:=by
 have hn:H T=YC:=I.hok.fresh hT;have nch:∀b u,H b=YB u->b∉ch:=λb u e z=>by rw[(f b z).1]at e;cases e
 have new:ObjOk X.prog X.w (upd H T (.tup xs)) h' T (.tup xs):=⟨hz,its,r,ht⟩;refine I.call (ch:=ch) (g':=s.gens) (d':=s.drawn) (t':=s.toks) ⟨λb o e _ _ hc=>k b o hc e,λb o e _ _ hc=>⟨o.slots,k b o hc e⟩,λb o e n _=>?_,λb o e hc=>?_,λb ys e=>?_,λb o u e=>?_,λb ps e=>?_⟩ (λb u e=>?_) I.bare (λb hb=>?_)
 .rw[Yc (λz=>by rw[z]at e;exact YX (XN e) (Nat.not_lt.mpr hT))];exact n
 .exact⟨o,k b o hc e⟩
 .rw[Yc (Wd e hn)];exact e
 .rw[Yc (Wd e hn)];exact e
 .exact⟨#[],by rw[Yc (Wd e hn),e];simp⟩
 .by_cases hb:b=T
  .subst hb;rw[Yj]at e;cases e;exact new
  .rw[Yc hb]at e
   refine(I.hok b u e).stay (λc v hc q=>k c v ?_ q) (λc q=>by rw[Yc (Wd q hn)];exact q) λc ys q=>by rw[Yc (Wd q hn)];exact q
   rcases hc with rfl|hc
   .exact nch _ _ e
   .exact nch _ _ hc
 .obtain⟨f0,f1,f2,f3,f4,f5⟩:=f b hb
  exact⟨f3,f1,f4,f5⟩
theorem Inv.turnAll(I:Inv X pins Y H s)(f:∀b∈ch,Zmn X pins H b)(k:∀b o,b∉ch->s.heap.get? b=YB o->h'.get? b=YB o):Inv X pins Y H { s with heap:=h' }:=by
 have nch:∀b u,H b=YB u->b∉ch:=λb u e z=>by rw[(f b z).1]at e;cases e
 refine I.call (ch:=ch) (g':=s.gens) (d':=s.drawn) (t':=s.toks) ⟨λb o e _ _ hc=>k b o hc e,λb o e _ _ hc=>⟨o.slots,k b o hc e⟩,λb o e n _=>n,λb o e hc=>⟨o,k b o hc e⟩,λb ys e=>e,λb o u e=>e,λb ps e=>⟨#[],by rw[e];simp⟩⟩ (λb u e=>?_) I.bare (λb hb=>?_)
 .refine(I.hok b u e).stay (λc v hc q=>k c v ?_ q) (λc q=>q) λc ys q=>q
  rcases hc with rfl|hc
  .exact nch _ _ e
  .exact nch _ _ hc
 .obtain⟨f0,f1,f2,f3,f4,f5⟩:=f b hb
  exact⟨f3,f1,f4,f5⟩
end
section
variable {p:Bool}{a b:YJ}
theorem Rel.keptList{C:MC G}{H:Hp}{Y:St}{δ:Zm}{fp:Fp}{ex:YG->Prop}{v:V}{ds:List Xa}(R:Rel C io H Y δ fp ex)(q:Da G H (λa=>c=YD->Lf C fp ex a) v (.list ds)) :
  ∃a xs,v= .ref a/\∀H':Hp,(∀b o,H b=YB o->(c=YF\/¬Foot fp b)->H' b=YB o)->SqL G H' a xs/\Das G H' (λa=>c=YD->(Lf C fp ex a/\H a≠YC)) xs ds:=by
 generalize hd:Qu ds=d at q;cases q with
 | lst l e r=>
  cases hd;rename_i a0 xs0;refine⟨a0,xs0,rfl,λH' kp=>?_⟩;obtain⟨f1,f2⟩:=R.kept kp;exact⟨.inl (f1 _ (.lst _) l e).2,r.frame f1 f2⟩
 | scr k=>
  rename_i a ns;have:=PyData.list.inj hd;subst this;exact⟨a,_,rfl,λH' _=>⟨k.sq,.ints ns⟩⟩
 | _=>cases hd
def Znc(as bs:List Xa):List Xa:=(as.zip bs).map λx=>.tuple [x.1,x.2]
theorem Zrw{as bs:List Xa}{d:Xa}(h:(Znc as bs)[i]? =YB d):∃x y,as[i]? =YB x/\bs[i]? =YB y/\d= .tuple [x,y]:=by
 unfold Znc at h;rw[Xp]at h;cases e:(as.zip bs)[i]? with
 | none=>rw[e]at h;cases h
 | some z=>
  rw[e]at h;cases h;obtain⟨h1,h2⟩:=List.getElem?_zip_eq_some.mp e;exact⟨z.1,z.2,h1,h2,rfl⟩
theorem Zuh{as bs:List Xa}(h:(Znc as bs)[i]? =YC):as.length<=i\/bs.length<=i:=by
 unfold Znc at h;have:=Qy.mp h;simp at this;omega
@[simp] theorem Z5n(as bs:List Xa):(Znc as bs).length=min as.length bs.length:=by simp[Znc]
end
section
variable {c1 c2 c3:Bool}{a b:YJ}{mc:MEt}{f g:Int->Int->Bool}
def Zrc(f g:Int->Int->Bool)(ma mb mc:MEt):MEt:=λδ K=>ma δ λx δ1=>mb δ1 λy δ2=>asI x.data λi=>asI y.data λj=>if f i j=YD then mc δ2 λz δ3=>asI z.data λk=>K (.fz (.bool (g j k))) δ3 else K (.fz (.bool YF)) δ2
theorem Ydy(ha:SE G io YD c1 ta ma)(hb:SE G io YD c2 tb mb)(hc:SE G io YD c3 tc mc):SE G io YD YD (Z32 (rI0 λi j=>.bl (f i j)) (rI0 λi j=>.bl (g i j)) ta tb tc) (Zrc f g ma mb mc):=by
 intro C H Y δ fp ex K Q R h k;refine ha.pureAfter R h λH1 x u R1 s1 q1 h1=>?_;refine hb.pureAfter R1 h1 λH2 y v R2 s2 q2 h2=>?_;obtain⟨i,rfl,h2⟩:=q1.intInv h2;obtain⟨j,rfl,h2⟩:=q2.intInv h2;refine⟨i,j,rfl,rfl,f i j,rfl,?_⟩
 by_cases hf:f i j=YD
 .rw[YL hf]at h2|-
  refine hc.pureAfter R2 h2 λH3 z w R3 s3 q3 h3=>?_;obtain⟨l,rfl,h3⟩:=q3.intInv h3;have s13:Same H H3:=(s1.trans s2).trans s3;exact⟨j,l,rfl,rfl,k H3 _ _ δ fp [] (.fz R3 (.same s13 s13.al) (.bl _)) h3⟩
 .rw[YM hf]at h2|-
  have s12:Same H H2:=s1.trans s2;exact k H2 _ _ δ fp [] (.fz R2 (.same s12 s12.al) (.bl _)) h2
theorem Z52{op':CmpOp}(ho:OpR X (Br op) (rI0 λi j=>.bl (f i j)))(ho':OpR X (Br op') (rI0 λi j=>.bl (g i j)))(ha:ME X io YD c1 a ma)(hb:ME X io YD c2 b mb)(hc:ME X io YD c3 e mc)
  (hm:lastMarks [op,op'] [b,e]=YF:=by with_unfolding_all rfl):ME X io YD YD (.Compare a [op,op'] [b,e] pos) (Zrc f g ma mb mc):=by
 obtain⟨_,A,sa⟩:=ha;obtain⟨_,B,sb⟩:=hb;obtain⟨_,D,sc⟩:=hc;exact⟨_,Z0p ho ho' A B D hm,Ydy sa sb sc⟩
end
section
variable {p:Bool}{a b:YJ}{pl:Pos}
def Yio(m mb:MEt):MEt:=λδ K=>m δ λr δ1=>mb δ1 λn _=>asI n.data λk=>(-(2^63)<=k/\k<2^63/\k.toNat<=Xz)/\K (.nd (X5 k.toNat (.fz r.data))) δ1
theorem Zry(x:α):∀n:Nat,(X5 n [x]).flatten=X5 n x
 | 0=>rfl
 | n+1=>by rw[Vy,UT,Zry x n];rfl
theorem Das.rep{v:V}{d:Xa}(h:Da G H L v d):∀n:Nat,Das G H L (X5 n v) (X5 n d)
 | 0=>.nil
 | n+1=>.cons h (Das.rep h n)
theorem Yfb(ha:ME X io p YD a m)(hb:ME X io YD c b mb)(hs:Xr [a] X.env=(YF,eval a X.env)::Xr [] X.env:=by rfl):ME X io p YD (.BinOp (.List [a] pl) .Mult b pos) (Yio m mb):=by
 obtain⟨_,A,sa⟩:=ha;obtain⟨_,B,sb⟩:=hb;refine⟨_,Z6n Z9q (Z2n (Zbj A Ze4 hs)) B,λC H Y δ fp ex K Q R h k=>?_⟩;refine sa C H Y δ fp ex _ _ R h λH1 v r δ1 fp1 new r1 h1=>⟨(by show 1<=Xz;decide),λl hl=>?_⟩;have R1:=r1.base;have s1:=Z9 hl (.lst [v]);refine sb.pureAfter (R1.mk0 s1) h1 λH2 w n R2 s2 q2 h2=>?_;obtain⟨i,rfl,h2⟩:=q2.intInv h2;have q:=(((r1.da R).wide (L':=Lf C fp1 ex) λa l _=>l rfl).same s1).same s2;refine⟨l,i,[v],rfl,rfl,s2 _ _ Yj,h2.1.1,h2.1.2.1,by show 1*i.toNat<=Xz;rw[Nat.one_mul];exact h2.1.2.2,λt ht=>?_⟩;rw[Zry];have S:Stp p H δ fp H2 δ1 fp1:=by
  have:=r1.stp.trans (p':=YD) (Stp.same (p:=YD) (δ:=δ1) (fp:=fp1) (s1.trans s2) (s1.trans s2).al)
  rwa[Bool.and_true]at this
 refine k _ _ _ δ1 fp1 [t] (RE.tree R R2 S (Z9 ht _) (Zay ht) (Zdf t) ?_) h2.2;have:=Own.list ht ((Das.rep q i.toNat).wide (L':=λa=>YD=YD->Lf C fp1 ex a) λa l _ _=>l)
 rwa[List.map_replicate]at this
end
def Z7p:List V->Hp->VK->Prop:=λvs H Q=>∃j:Int,vs=[.int j]/\∀r,H r=YC->Q (.ref r) (upd H r (.rng 0 j))
theorem Zvk:Zbn X (.type "range") Z7p:=by
 intro pins s Y H vs us Q I r h;obtain⟨j,rfl,q⟩:=h;obtain⟨u,rfl,t,rfl⟩:=vals1 r;refine call_range_1 ?_;exact⟨.ref s.heap.objs.size,_,I.laid (o:=.rng 0 j) (λb o e=>Xl _ e) (X3 _) ⟨_,_,_,Qe _ rfl⟩,rfl,q _ I.fresh⟩
def Z1f(lo:Int)(n:Nat):List V:=(Xo n).map λ(i:Nat)=>V.int (lo+(i:Int))
def Z0d:List V->Hp->VK->Prop:=λvs H Q=>∃r lo hi,vs=[.ref r]/\H r=YB (.rng lo hi)/\(-(2^62)<=lo/\lo<2^62/\-(2^62)<=hi/\hi<2^62)/\(hi-lo).toNat<=Xz/\∀l,H l=YC->Q (.ref l) (upd H l (.lst (Z1f lo (hi-lo).toNat)))
theorem Zn9(lo:Int)(n:Nat):Z1f lo (n+1)= .int lo::Z1f (lo+1) n:=by
 unfold Z1f;rw[List.range_succ_eq_map,XM,XR];congr 1
 .simp
 .refine Xu λi _=>?_
  show V.int (lo+((i+1:Nat):Int))=V.int (lo+1+(i:Int));congr 1;omega
theorem Zq7:∀(acc:List Xe) (lo:Int),(∀(i:Nat) (v:Xe),acc[i]? =YB v->∃t,v=Value.int (lo+i) t)->Vals (Z1f lo acc.length) acc
 | [],_,_=>.nil
 | v::acc,lo,h=>by
  rw[JR,Zn9];obtain⟨t,e⟩:=h 0 v rfl;refine .cons ⟨t,by rw[e];simp⟩ (Zq7 acc (lo+1) λi w hw=>?_);obtain⟨t',e'⟩:=h (i+1) w (by simpa using hw);refine⟨t',?_⟩;rw[e'];congr 1;omega
theorem Zmv(hc:X.calm=YD):Zbn X (.type "list") Z0d:=by
 intro pins s Y H vs us Q I r h;obtain⟨a,lo,hi,rfl,e,hb,hz,q⟩:=h;obtain⟨u,rfl,ru⟩:=vals1 r;cases(show u=QZ a from ru);obtain⟨t,u',v,e1⟩:=(show ObjOk X.prog X.w H s.heap a (.rng lo hi)from I.hok a _ e);refine call_list_range (n:=(hi-lo).toNat) (I.ok.hd hc) e1 ?_ ?_ hz λh' tk acc c' hk hS hacc=>?_
 .exact small_one hb.1 hb.2.1 hb.2.2.1 hb.2.2.2
 .rw[rangeSize_one];split<;>omega
 .refine⟨.ref s.heap.objs.size,_,I.laid (o:=.lst (Z1f lo (hi-lo).toNat)) (t':=tk) hk (X3 _) ⟨?_,acc.toList,c',?_,by simpa using hS⟩,rfl,q _ I.fresh⟩
  .simp[Z1f];omega
  .have:=Zq7 acc.toList lo λi v hv=>by
    obtain⟨t,e⟩:=hacc.2 i v (by simpa using hv);exact⟨t,by rw[e,Int.mul_one]⟩
   rwa[show acc.toList.length=(hi-lo).toNat by simpa using hacc.1]at this
end L2
namespace L2
open PySem PySem.Spec PyProof.Rows PySem.SeqAt
variable {G:Xc}
theorem Zyw(lo:Int)(n:Nat):Zdn lo (n+1)= .int lo::Zdn (lo+1) n:=by
 unfold Zdn;rw[List.range_succ_eq_map,XM,XR];congr 1
 .simp
 .refine Xu λi _=>?_
  show Xk (lo+((i+1:Nat):Int))=Xk (lo+1+(i:Int));congr 1;omega
theorem Das.rng:∀(n:Nat) (lo:Int),Das G H L (Z1f lo n) (Zdn lo n)
 | 0,_=>.nil
 | n+1,lo=>by
  rw[Zn9,Zyw];exact .cons (.int _) (Das.rng n _)
section
variable {X:Cx}{io:List Nat}{p c:Bool}{a b e:YJ}{ma mb m:MEt}{mr:MAt}{pos pos' pl pr:Pos}
def Yhs(mr:MAt):MEt:=λδ K=>mr δ λrs δ'=>n1 (λd=>asI d λj=>(-(2^62)<=j/\j<2^62/\j.toNat<=Xz)/\K (.nd ((Zdn 0 j.toNat).map OT.fz)) δ') (OT.datas rs)
theorem Ybo{C:MC G}{Y:St}{r:YG}{lo hi:Int}{n:Nat}(R:Rel C io H Y δ fp ex)(R1:Rel C io H1 Y δ1 fp1 ex)(S:Stp p H δ fp H1 δ1 fp1)(hr:H1 r=YC)
  (hl:upd H1 r (.rng lo hi) l=YC):RE C io p YD H Y δ fp ex (upd (upd H1 r (.rng lo hi)) l (.lst (Z1f lo n))) (.ref l) (.nd ((Zdn lo n).map OT.fz)) δ1 fp1 [l]:=by
 have s1:=Z9 hr (.rng lo hi);have S':Stp p H δ fp (upd H1 r (.rng lo hi)) δ1 fp1:=by
  have:=S.trans (p':=YD) (Stp.same (p:=YD) (δ:=δ1) (fp:=fp1) s1 s1.al)
  rwa[Bool.and_true]at this
 exact RE.tree R (R1.mk0 s1) S' (Z9 hl _) (Zay hl) (Zdf l) (Own.list hl (Das.rng n lo))
theorem Zok(hc:X.calm=YD)(hgl:Gl X "list")(hml:X.mg "list"=YC)(hvl:Qh "list"=YB (.type "list"))(hg:Gl X "range")(hm:X.mg "range"=YC)(hv:Qh "range"=YB (.type "range"))(ha:MA X io p c [a] mr)
  (he:Xr [a] X.env=(YF,eval a X.env)::Xr [] X.env:=by rfl) (hpl:(JX pos' (Xr [] X.env)).any (·.1)=YF:=by rfl)
  (he':Xr [.Call (.Name "range" pr) [a] [] pos'] X.env=(YF,eval (.Call (.Name "range" pr) [a] [] pos') X.env)::Xr [] X.env:=by rfl) (hpl':(JX pos (Xr [] X.env)).any (·.1)=YF:=by rfl) :
  ME X io p YD (.Call (.Name "list" pl) [.Call (.Name "range" pr) [a] [] pos'] [] pos) (Yhs mr):=by
 obtain⟨_,A,s⟩:=ha;refine⟨_,Zcl (Zmv hc) hgl hml hvl (Zbj (Zcl Zvk hg hm hv A (he:=he) (hpl:=hpl)) Ze4 he') (he:=he') (hpl:=hpl'),λC H Y δ fp ex K Q R h kk=>s C H Y δ fp ex _ _ R h λH1 vs rs δ1 fp1 new r1 h1=>?_⟩;obtain⟨v,d,rfl,e2,q,h2⟩:=(r1.das R).one h1;obtain⟨j,rfl,h2⟩:=q.intInv h2;refine⟨j,rfl,λr hr=>⟨r,0,j,rfl,Yj,⟨by decide,by decide,h2.1.1,h2.1.2.1⟩,by rw[Int.sub_zero];exact h2.1.2.2,λl hl=>?_⟩⟩;rw[Int.sub_zero];exact kk _ _ _ δ1 fp1 [l] (Ybo R r1.base r1.stp hr hl) h2.2
end
def Zw7(ns:List Int):Nat:=(ns.foldl step_dedup []).length
theorem Zo7:∀(ns acc:List Int),(acc++ns).Nodup->ns.foldl step_dedup acc=acc++ns
 | [],acc,_=>by simp
 | n::ns,acc,h=>by
  have hn:n∉acc:=λm=>(JL.mp h).2.2 n m n (.head _) rfl;have:step_dedup acc n=acc++[n]:=by
   unfold step_dedup;rw[YM];intro z;obtain⟨x,hx,e⟩:=List.any_eq_true.mp z;have:=eq_of_beq e;subst this;exact hn hx
  rw[List.foldl_cons,this,Zo7 ns (acc++[n]) (by rwa[QQ])];simp
theorem Zt7(h:ns.Nodup):Zw7 ns=ns.length:=by
 unfold Zw7;rw[Zo7 ns [] (by simpa using h)];simp
theorem map_getD{ns:List Int}:(Xo ns.length).map (λi=>ns.getD i 0)=ns:=by
 refine V3 λi=>?_;rw[Xp]
 by_cases h:i<ns.length
 .rw[QG h,Qa,Xb,Xf h,Ua]
 .rw[Qv (by simpa using h),Qv (by simpa using h)];rfl
theorem Zge:∀{ns:List Int} {its:List Xe},Vals (ns.map V.int) its->BV its ns
 | [],_,.nil=>.nil
 | n::ns,_,.cons r rs=>by
  obtain⟨t,e⟩:=(show∃t,_=Value.int n t from r);rw[e];exact .cons n t (Zge rs)
section
variable {X:Cx}{io:List Nat}{p c:Bool}{a b e:YJ}{ma mb m:MEt}{mr:MAt}{pos pos' pl pr:Pos}
def Yfd(K:Xc):List V->Hp->VK->Prop:=λxs H Q=>∃(a:YG) (ns:List Int),xs=[.ref a]/\SqL K H a (ns.map V.int)/\ns.length+1<scanBound/\∀(l:YG) (S:Int->Bool),H l=YC->Q (.ref l) (upd H l (.set S (Zw7 ns)))
theorem Zvi{K:Xc}(hK:X.K=K)(hc:X.calm=YD):Zbn X (.type "set") (Yfd K):=by
 subst hK;intro pins s Y H xs us Q I r h;obtain⟨a,ns,rfl,hs,hb,q⟩:=h;obtain⟨u,rfl,ru⟩:=vals1 r;cases(show u=QZ a from ru);obtain⟨its,rv,pl,hz⟩:=I.list hs;have hi:=Zge rv;have hl:=hi.length;refine call_set_list (items:=its.toArray) (ns:=ns) (I.ok.hd hc) pl.isList (by simpa using hi) (by simp;omega) λh' tk hS hk=>?_;have hfm:(firstMet (λi=>ns.getD i 0) its.toArray.size).length=Zw7 ns:=by
  unfold firstMet Zw7;rw[show its.toArray.size=ns.length by simp[hl],map_getD]
 refine⟨.ref s.heap.objs.size,_,I.laid (o:=.set (λk'=>(firstMet (λi=>ns.getD i 0) its.toArray.size).any λx=>x==k') (Zw7 ns)) (t':=tk) (λb o e=>hk b o (XN e) e) (X3 _) ?_,rfl,q _ _ I.fresh⟩
 .rw[<-hfm];exact hS
def Z6r:List V->Hp->VK->Prop:=λxs H Q=>∃(a:YG) (S:Int->Bool) (n:Nat),xs=[.ref a]/\H a=YB (.set S n)/\Q (.int n) H
theorem Zp2:Zbn X (.builtin "len") Z6r:=by
 intro pins s Y H xs us Q I r h;obtain⟨a,S,n,rfl,e,q⟩:=h;obtain⟨u,rfl,ru⟩:=vals1 r;cases(show u=QZ a from ru);obtain⟨o,es,ep,t,ho,hx,hd,_,_,hz,hf,hn⟩:=(show ObjOk X.prog X.w H s.heap a (.set S n)from I.hok a _ e);subst hn;have:es.size<4096:=hz;exact call_len_set ho hx hd hf (by omega) ⟨.int es.size,H,I.kept (h':=s.heap) (λb o e=>e),⟨_,rfl⟩,q⟩
def Zvt(mr:MAt):MEt:=λδ K=>mr δ λrs δ'=>n1 (λd=>∃ns:List Int,d= .list (ns.map Xk)/\ns.length<4095/\K (.fz (.int (Zw7 ns))) δ') (OT.datas rs)
theorem Zzx(hc:X.calm=YD)(hgl:Gl X "len")(hml:X.mg "len"=YC)(hvl:Qh "len"=YB (.builtin "len"))(hg:Gl X "set")(hm:X.mg "set"=YC)(hv:Qh "set"=YB (.type "set"))(ha:MA X io p c [a] mr)
  (he:Xr [a] X.env=(YF,eval a X.env)::Xr [] X.env:=by rfl) (hpl:(JX pos' (Xr [] X.env)).any (·.1)=YF:=by rfl)
  (he':Xr [.Call (.Name "set" pr) [a] [] pos'] X.env=(YF,eval (.Call (.Name "set" pr) [a] [] pos') X.env)::Xr [] X.env:=by rfl) (hpl':(JX pos (Xr [] X.env)).any (·.1)=YF:=by rfl) :
  ME X io p YD (.Call (.Name "len" pl) [.Call (.Name "set" pr) [a] [] pos'] [] pos) (Zvt mr):=by
 obtain⟨_,A,s⟩:=ha;refine⟨_,Zij Zp2 hgl hml hvl (Zbj (Zcl (Zvi rfl hc) hg hm hv A (he:=he) (hpl:=hpl)) Ze4 he') (he:=he') (hpl:=hpl'),λC H Y δ fp ex K Q R h kk=>s C H Y δ fp ex _ _ R h λH1 vs rs δ1 fp1 new r1 h1=>?_⟩;obtain⟨v,d,rfl,e2,q,ns,e,hb,h2⟩:=(r1.das R).one h1;subst e;obtain⟨a,rfl,hs⟩:=q.ints_sq;refine⟨a,ns,rfl,hs,by show _<4096;omega,λl S hl=>⟨l,S,_,rfl,Yj,?_⟩⟩;have s1:=Z9 hl (.set S (Zw7 ns));have S':Stp p H δ fp (upd H1 l (.set S (Zw7 ns))) δ1 fp1:=by
  have:=r1.stp.trans (p':=YD) (Stp.same (p:=YD) (δ:=δ1) (fp:=fp1) s1 s1.al)
  rwa[Bool.and_true]at this
 exact kk _ _ _ δ1 fp1 [] (.fz (r1.base.mk0 s1) S' (.int _)) h2
def Ycn(K:Xc):V->List V->Hp->VK->Prop:=λx vs H Q=>∃(l:YG) (ns:List Int) (k:Int),x= .ref l/\vs=[.int k]/\SqL K H l (ns.map V.int)/\ns.length<=2^20/\k∈ns/\Q (.int (ns.idxOf k:Nat)) H
theorem Z1w(hK:X.K=K):MtR X "list.index" (Ycn K):=by
 subst hK;intro pins s Y H x vs v us Q I rx rv h;obtain⟨l,ns,k,rfl,rfl,hs,hb,hk,q⟩:=h;cases rx;obtain⟨u,rfl,t,rfl⟩:=vals1 rv;obtain⟨its,rw',pl,hz⟩:=I.list hs;have hi:=Zge rw';obtain⟨⟨cls,dd,data,sl⟩,ho,hc,n,hd⟩:=id pl.isList;simp only at hc hd;subst hc hd;have hlen:=hi.length;have hj:ns.idxOf k<ns.length:=List.idxOf_lt_length_iff.mpr hk;refine call_meets PySem.F.slot_list_index ⟨_,ho,rfl⟩ PySem.F.entry_list_index (PySem.F.args_list_index_2 _ _)
  (list_indexAt l its.toArray n dd sl (.int k t) (isInt k) (ns.idxOf k) (by simpa [hlen]using hj) (by omega) ?_ ?_) ⟨ho,λy hy=>(eq_isInt k t hi y (by simpa using hy)).at _ _,⟨.int (ns.idxOf k:Nat),H,I.kept (h':=s.heap) (λb o e=>e),⟨_,rfl⟩,q⟩⟩
 .show isInt k its[ns.idxOf k]=YD
  rw[isInt_at k hi _ (by omega) hj];simpa using List.getElem_idxOf hj
 .intro j hjs hlt
  show isInt k its[j]=YF;rw[isInt_at k hi j (by simpa using hjs) (by omega)];exact ne_of_lt_idxOf hlt _
def Z3o(m mb:MEt):MEt:=λδ K=>m δ λr δ1=>∃ns:List Int,r.data= .list (ns.map Xk)/\ns.length<=2^20/\mb δ1 λn δ2=>asI n.data λk=>k∈ns/\K (.fz (.int (ns.idxOf k:Nat))) δ2
theorem Z6s{o:YJ}(ho:ME X io YD YD o m)(he:ME X io YD c e mb)
  (hbase:Uy o "index" X.env (eval o X.env)=eval o X.env:=by rfl)
  (hfew:((JX cpos (Xr [e] X.env)).all (λx=>!x.1)&&(backToKw cpos (keywordEach [] X.env)).all (λx=>x.1.isSome)
   &&decide ([e].length+([]:List Ur).length+(if([]:List Ur).isEmpty then 0 else 1)<30))=YD:=by rfl)
  (hline:(apos.endLine==cpos.line)=YD:=by rfl) (hs:Xr [e] X.env=(YF,eval e X.env)::Xr [] X.env:=by rfl) (hplain:(JX cpos (Xr [] X.env)).any (·.1)=YF:=by rfl) :
  ME X io YD YD (.Call (.Attribute o "index" apos) [e] [] cpos) (Z3o m mb):=by
 obtain⟨_,A,sa⟩:=ho;obtain⟨_,B,sb⟩:=he;refine⟨_,Z17 Uo PySem.F.slot_list_index PySem.F.type_list_index (Z1w rfl) A (Zbj B Ze4 hs) hbase hfew hline hs hplain,λC H Y δ fp ex K Q R h kk=>?_⟩;refine sa.pureAfter R h λH1 v r R1 s1 q1 h1=>?_;obtain⟨ns,e1,hb,h1⟩:=h1;rw[e1]at q1;obtain⟨a,rfl,hsq⟩:=q1.ints_sq;refine⟨.inl ⟨rfl,_,hsq⟩,?_⟩;refine sb.pureAfter R1 h1 λH2 w n R2 s2 q2 h2=>?_;obtain⟨k,e2,h2⟩:=q2.intInv h2;subst e2;obtain⟨a',ea,hs'⟩:=(q1.same s2).ints_sq;cases ea;have s12:Same H H2:=s1.trans s2;exact⟨a,ns,k,rfl,rfl,hs',hb,h2.1,kk H2 _ _ δ fp [] (.fz R2 (.same s12 s12.al) (.int _)) h2.2⟩
def Yd2(i:Nat)(m:MEt):MEt:=λδ K=>match δ[i]? with
 | some (YB (.nd _))=>m δ λn δ1=>match δ1[i]? with
  | some (YB (.nd ts))=>asI n.data λj=>match ixN ts.length j with
   | some k=>match ts[k]? with
    | some (.fz d)=>ts.length<=Xz/\K (.fz d) (δ1.set i (YB (.nd (ts.eraseIdx k))))
    | _=>False
   | none=>False
  | _=>False
 | _=>False
theorem Owns.erase:∀{xs:List V} {ts:List OT} {as:List YG} {k:Nat} {d:Xa},Owns G H L xs ts as->ts[k]? =BR (.fz d)->Owns G H L (xs.eraseIdx k) (ts.eraseIdx k) as
 | _,_,_,_,_,.nil,e=>by simp at e
 | _,_,_,0,d,.cons q r,e=>by
  simp at e;subst e;cases q;exact r
 | _,_,_,k+1,d,.cons q r,e=>.cons q (Owns.erase (k:=k) r (by simpa using e))
theorem Ycs(i:Nat)(he:ME X io p c e m)(hN:X.N[i]? =YB x:=by rfl)(hv:Vis X.env.scope x:=by first|exact QT rfl|exact QF (QT rfl)|exact QF (QF rfl))(hd:(x==("__debug__" : Str))=YF:=by decide)
  (hcd:(x==("__classdict__" : Str))=YF:=by decide)
  (hbase:Uy (.Name x px) "pop" X.env (eval (.Name x px) X.env)=eval (.Name x px) X.env:=by rfl)
  (hfew:((JX cpos (Xr [e] X.env)).all (λx=>!x.1)&&(backToKw cpos (keywordEach [] X.env)).all (λx=>x.1.isSome)
   &&decide ([e].length+([]:List Ur).length+(if([]:List Ur).isEmpty then 0 else 1)<30))=YD:=by rfl)
  (hline:(apos.endLine==cpos.line)=YD:=by rfl) (hs:Xr [e] X.env=(YF,eval e X.env)::Xr [] X.env:=by rfl) (hplain:(JX cpos (Xr [] X.env)).any (·.1)=YF:=by rfl) :
  ME X io YF YD (.Call (.Attribute (.Name x px) "pop" apos) [e] [] cpos) (Yd2 i m):=by
 obtain⟨_,A,s⟩:=he;refine⟨_,Z17 Uo PySem.F.slot_list_pop PySem.F.type_list_pop Z2k (pv i hN hv hd hcd) (Zbj A Ze4 hs) hbase hfew hline hs hplain,λC H Y δ fp ex K Q R h kk=>?_⟩;unfold Yd2 at h;split at h
 case h_2=>exact h.elim
 rename_i ts0 hi0;obtain⟨a',xs0,bs0,hv0,hx0,_,_⟩:=R.ownNd hi0;refine⟨_,hv0,.inl ⟨rfl,xs0,.inl (.inl hx0)⟩,?_⟩;refine s C H Y δ fp ex _ _ R h λH1 v r δ1 fp1 new r1 h1=>?_;split at h1
 case h_2=>exact h1.elim
 rename_i ts1 hi1;obtain⟨j,rfl,h1⟩:=(r1.da R).intInv h1;split at h1
 case h_2=>exact h1.elim
 rename_i k hk;split at h1
 case h_2=>exact h1.elim
 rename_i d hd1;have R1:=r1.base;obtain⟨a1,xs1,bs1,hv1,hx1,o1,hf1⟩:=R1.ownNd hi1;rw[hv0]at hv1;cases hv1;obtain⟨y,cs,hy,oy,_⟩:=o1.get hd1;have qy:Da X.K H1 (Lf C fp1 ex) y d:=by cases oy;assumption
 obtain⟨z1,z2,z3,z4⟩:=Zpo hk;have hz:=h1.1;have hsz:Xz=16777216:=Qk;refine⟨a',xs1,j,k,y,rfl,rfl,hx1,by omega,by omega,by rw[o1.length];exact z1,hy,?_⟩;obtain⟨R2,S2⟩:=R1.top hi1 hv0 hf1 hx1 (o1.erase hd1) (List.Sublist.refl _);have S:=(r1.stp.trans S2).cast (p':=YF) λz=>nomatch z;refine kk _ _ _ _ _ [] (.fz R2 S ?_) h1.2;have ne':∀a,¬Foot fp1 a->a≠a':=λa h z=>h ⟨i,by rw[z,hf1];exact .head _⟩;have f0:∀a,¬Foot fp1 a->¬Foot (fpu fp1 i (a'::bs1)) a:=λa h z=>by
  rcases z.of_u with z|⟨j,_,z⟩
  .exact h ⟨i,by rw[hf1];exact z⟩
  .exact h ⟨j,z⟩
 refine qy.frame (λa zs l q=>⟨λ_=>⟨f0 a l.1,l.2.1,l.2.2⟩,?_⟩) λa zs q=>?_
 .rcases q with q|⟨u,q⟩
  .exact .inl (by rw[Yc (ne' a l.1)];exact q)
  .exact .inr ⟨u,by rw[Yc (ne' a l.1)];exact q⟩
 .rw[Yc]
  .exact q
  .intro z
   exact ImO.nl q (z▸hx1)
end
end L2
namespace L2
open PySem PySem.Spec PyProof.Rows
structure Apart(X:Cx)(pins:List (YG×Obj))(H:Hp)(b:YG):Prop where
 fr:H b=YC
 new:X.s₀.heap.get? b=YC
 loc:b≠X.env.locals
 cel:∀x c,X.env.cells.lookup x=YB c->c≠b
 pin:∀p∈X.pn++pins,p.1≠b
section
variable {Y:St}{b:YG}
def Fl(ap:YG->Prop)(C a:YG)(fl:Xe)(h:YH):Prop:=∃a0 oe vs T oT ts,h.get? a=YB oe/\(oe.cls= .ref C/\vs[0]? =YB a0)/\oe.data= .fields vs/\vs[1]? =YB (.ref T)/\T≠a/\h.get? T=YB oT/\oT.data= .fields ts/\ts[3]? =YB fl/\ap a/\ap T
def Fl0(ap:YG->Prop)(C a:YG)(h:YH):Prop:=∃a0 oe vs,h.get? a=YB oe/\(oe.cls= .ref C/\vs[0]? =YB a0)/\oe.data= .fields vs/\vs[1]? =YB .none/\ap a
def FlA(ap:YG->Prop)(fl:Xe)(C a:YG)(h:YH):Prop:=Fl ap C a .none h\/Fl0 ap C a h\/Fl ap C a fl h
section
variable {Q:Unit->Xh->Prop}
end
end
def Zsx(K:Xc)(C:YG):Prop:=PySem.W.excIn K C [.type "ValueError",.type "Exception",.type "BaseException",.type "object"] "ValueError.__new__"=YD
abbrev MXt:=Zm->(YG->Zm->Prop)->Prop
def XW(X:Cx)(C:MC X.K)(io:List Nat)(pins:List (YG×Obj))(ex:YG->Prop)(H:Hp)(fp:Fp)(k:YG->Zm->Prop)(e:Xe)(s':Xh):Prop :=
 ∃a cl Y' H' δ' fp',e= .ref a/\Inv X pins Y' H' s'/\FlA (Apart X pins H') (rawInt X.env.locals) cl a s'.heap/\Rel C io H' Y' δ' fp' ex/\Kp H fp H' fp'/\k cl δ'
def XS(X:Cx)(io:List Nat)(st:YK)(m:MXt):Prop:=∀(C:MC X.K) (pins:List (YG×Obj)) (s:Xh) (Y:St) (H:Hp) (δ:Zm) (fp:Fp) (ex:YG->Prop) (k:YG->Zm->Prop),Inv X pins Y H s->Rel C io H Y δ fp ex->m δ k ->
 X8 (Qm X.prog X.w) X.A (exec st X.env) (λ_ _=>False) (XW X C io pins ex H fp k) s
def XSs(X:Cx)(io:List Nat)(sts:List YK)(m:MXt):Prop:=∀(C:MC X.K) (pins:List (YG×Obj)) (s:Xh) (Y:St) (H:Hp) (δ:Zm) (fp:Fp) (ex:YG->Prop) (k:YG->Zm->Prop),Inv X pins Y H s->Rel C io H Y δ fp ex->m δ k ->
 X8 (Qm X.prog X.w) X.A (execs sts X.env) (λ_ _=>False) (XW X C io pins ex H fp k) s
section
variable {p:Bool}{m:MXt}{a b:List YK}{u:MSt}{w v:MXt}{mt:MTt}
end
section
variable {base:YH}
end
section
variable {p:Bool}{k:Nat}{f:YG}{fd:XJ}
end
section
variable {Y:St}
abbrev Cx.suite(X:Cx)(a:YG):Cx:={ X with A:=X.A.mark (YB (.ref a)),calm:=YF }
end
theorem Z3q(b:Bool)(k:Bool->Prop):asB (.bool b) k=k b:=rfl
inductive Yfn:V->Xe->Prop where
 | own (D:YG):Yfn (.ref D) (.ref D)
 | ty (T:String):Yfn (.ty T) (.type T)
inductive ClsVs:List V->List Xe->Prop where
 | nil:ClsVs [] []
 | cons {v:V} {c:Xe} {vs:List V} {cs:List Xe}:Yfn v c->ClsVs vs cs->ClsVs (v::vs) (c::cs)
theorem ClsVs.length:∀{vs:List V} {cs:List Xe},ClsVs vs cs->vs.length=cs.length
 | _,_,.nil=>rfl
 | _,_,.cons _ t=>by simp[t.length]
section
variable {p:Bool}{a b:YJ}
end
end L2
namespace L2
open PySem PySem.Spec PyProof.Rows PySem.P
section
variable {e t0:YG}{o:Obj}{vs:Array Xe}{m:Str}
structure Yke(s:Xh)(e C t0:YG)(m:Str)(tk:Tok):Prop where
 ob:∃o vs,s.heap.get? e=YB o/\o.cls= .ref C/\o.data= .fields vs/\vs[0]? =YB (.ref t0)
 tx:s.heap.TupAt t0 [.str m tk]
end
section
variable {j:Str}{jk:Nat}{np kp p1:Pos}
end
end L2
namespace L2
open PySem PySem.Spec PyProof.Rows
abbrev FE:=Zm->Option (OT×Zm)
abbrev FA:=Zm->Option (List OT×Zm)
abbrev FT:=Zm->Option (Bool×Zm)
abbrev FI:=Zm->Option (List Xa×Zm)
abbrev FO:=Zm->Option (Option Int×Zm)
abbrev FG:=Xa->Zm->Option Zm
abbrev FGs:=List Xa->Zm->Option Zm
def o2(f:Zm->Option (α×Zm)):Zm->(α->Zm->Prop)->Prop:=λδ K=>∃r δ',f δ=YB (r,δ')/\K r δ'
def oG(g:FG):MGt:=λd δ k=>∃δ',g d δ=YB δ'/\k δ'
def oGs(g:FGs):Zzg:=λd δ k=>∃δ',g d δ=YB δ'/\k δ'
section
variable {X:Cx}{io:List Nat}{p c:Bool}{e tg:YJ}{es:List YJ}{m m':MEt}{mr mr':MAt}{mt mt':MTt}{mi mi':MIt}{g g':MGt}{gs gs':Zzg}{mo mo':MOt}{st:YK}{sts:List YK}{u u':MSt}{eo:Option YJ}
theorem ME.weak(h:ME X io p c e m)(w:∀δ K,m' δ K->m δ K):ME X io p c e m':=let⟨t,A,s⟩:=h;⟨t,A,λC H Y δ fp ex K Q R h k=>s C H Y δ fp ex K Q R (w δ K h) k⟩
theorem MA.weak(h:MA X io p c es mr)(w:∀δ K,mr' δ K->mr δ K):MA X io p c es mr':=let⟨t,A,s⟩:=h;⟨t,A,λC H Y δ fp ex K Q R h k=>s C H Y δ fp ex K Q R (w δ K h) k⟩
theorem MT.weak(h:MT X io p e mt)(w:∀δ K,mt' δ K->mt δ K):MT X io p e mt':=let⟨t,A,s⟩:=h;⟨t,A,λC H Y δ fp ex K Q R h k=>s C H Y δ fp ex K Q R (w δ K h) k⟩
theorem MW.weak(h:MW X io p e mt)(w:∀δ K,mt' δ K->mt δ K):MW X io p e mt':=let⟨t,A,s⟩:=h;⟨t,A,λC H Y δ fp ex K Q R h k=>s C H Y δ fp ex K Q R (w δ K h) k⟩
theorem MIfs.weak(h:MIfs X io p es mt)(w:∀δ K,mt' δ K->mt δ K):MIfs X io p es mt':=let⟨t,A,s⟩:=h;⟨t,A,λC H Y δ fp ex K Q R h k=>s C H Y δ fp ex K Q R (w δ K h) k⟩
theorem MI.weak(h:MI X io p c tg e mi)(w:∀δ K,mi' δ K->mi δ K):MI X io p c tg e mi':=let⟨t,A,s⟩:=h;⟨t,A,λC H Y δ fp ex K Q R h k=>s C H Y δ fp ex K Q R (w δ K h) k⟩
theorem MO.weak(h:MO X io p eo mo)(w:∀δ K,mo' δ K->mo δ K):MO X io p eo mo':=let⟨t,A,s⟩:=h;⟨t,A,λC H Y δ fp ex K Q R h k=>s C H Y δ fp ex K Q R (w δ K h) k⟩
theorem MG.weak(h:MG X io c tg g)(w:∀d δ K,g' d δ K->g d δ K):MG X io c tg g':=let⟨t,A,s⟩:=h;⟨t,A,λC H Y δ fp ex v d k Q R q h kk=>s C H Y δ fp ex v d k Q R q (w d δ k h) kk⟩
theorem MGs.weak(h:MGs X io c es gs)(w:∀d δ K,gs' d δ K->gs d δ K):MGs X io c es gs':=let⟨t,A,s⟩:=h;⟨t,A,λC H Y δ fp ex v d k Q R q h kk=>s C H Y δ fp ex v d k Q R q (w d δ k h) kk⟩
theorem MS.weak(h:MS X io st u)(w:∀D δ,u' D δ->u D δ):MS X io st u':=let⟨t,A,s⟩:=h;⟨t,A,λC H Y δ fp ex D D' R h E=>s C H Y δ fp ex D D' R (w D δ h) E⟩
theorem MSs.weak(h:MSs X io sts u)(w:∀D δ,u' D δ->u D δ):MSs X io sts u':=let⟨t,A,s⟩:=h;⟨t,A,λC H Y δ fp ex D D' R h E=>s C H Y δ fp ex D D' R (w D δ h) E⟩
end
def Zd(i:Nat):FE:=λδ=>match δ[i]? with|some (YB (.fz d))=>YB (.fz d,δ)|_=>YC
def Zq9(i:Nat):FE:=λδ=>match δ[i]? with|some (YB t)=>YB (.fz t.data,δ)|_=>YC
def fC(d:Xa):FE:=λδ=>YB (.fz d,δ)
def Zj(g:Xa->Xa->Option Xa)(a b:FE):FE:=λδ=>(a δ).bind λp=>(b p.2).bind λq=>(g p.1.data q.1.data).bind λd=>YB (.fz d,q.2)
def Yl(g:Xa->Xa->Option OT)(a b:FE):FE:=λδ=>(a δ).bind λp=>(b p.2).bind λq=>(g p.1.data q.1.data).bind λd=>YB (d,q.2)
def fUn(g:Xa->Option Xa)(a:FE):FE:=λδ=>(a δ).bind λp=>(g p.1.data).bind λd=>YB (.fz d,p.2)
def Zuo(a b:FE):FE:=λδ=>(a δ).bind λp=>match p.1.data with| .bool YD=>b p.2| .bool YF=>YB (.fz (.bool YF),p.2)|_=>YC
def fOr(a b:FE):FE:=λδ=>(a δ).bind λp=>match p.1.data with| .bool YD=>YB (.fz (.bool YD),p.2)| .bool YF=>b p.2|_=>YC
def fIf(t:FT)(a b:FE):FE:=λδ=>(t δ).bind λp=>if p.1=YD then a p.2 else b p.2
def tV(e:FE):FT:=λδ=>(e δ).bind λp=>match p.1 with| .fz (.bool b)=>YB (b,p.2)|_=>YC
def tNo(t:FT):FT:=λδ=>(t δ).bind λp=>YB (!p.1,p.2)
def tAn(t u:FT):FT:=λδ=>(t δ).bind λp=>if p.1=YD then u p.2 else YB (YF,p.2)
def tO(t u:FT):FT:=λδ=>(t δ).bind λp=>if p.1=YD then YB (YD,p.2)else u p.2
def tD(e:FE):FT:=λδ=>(e δ).bind λp=>(Z1x p.1.data).bind λb=>YB (b,p.2)
def Zq:FA:=λδ=>YB ([],δ)
def Zc(e:FE)(a:FA):FA:=λδ=>(e δ).bind λp=>(a p.2).bind λq=>YB (p.1::q.1,q.2)
def Ze2(a:FA):FE:=λδ=>(a δ).bind λp=>if p.1.length<=Xz then YB (.fz (.tuple (OT.datas p.1)),p.2)else YC
def Zd2(a:FA):FE:=λδ=>(a δ).bind λp=>if p.1.length<=Xz then YB (.nd p.1,p.2)else YC
def Yf2(e:FE):FE:=λδ=>(e δ).bind λp=>if Zif p.1.data=YD then YB (.fz p.1.data,p.2)else YC
def Yb3(e:FE):FE:=λδ=>(e δ).bind λp=>if Z6p p.1=YD then YB (p.1,p.2)else YC
inductive RF where
 | ok (r:OT)
 | exn (c:Str)
 | bad
abbrev FD:=List Xa->RF
abbrev FIO:=OT->List Xa->Option (OT×OT)
def Zy(F:FD)(a:FA):FE:=λδ=>(a δ).bind λp=>match F (OT.datas p.1)with| .ok r=>YB (r,p.2)|_=>YC
def Z2u(i:Nat)(F:FIO)(a:FA):FE:=λδ=>match δ[i]? with
 | some (YB _)=>(a δ).bind λp=>match p.2[i]? with
  | some (YB t)=>(F t (OT.datas p.1)).bind λq=>YB (q.1,p.2.set i (YB q.2))
  | _=>YC
 | _=>YC
def Zag(g:List Xa->Option Xa)(a:FA):FE:=λδ=>(a δ).bind λp=>(g (OT.datas p.1)).bind λd=>YB (.fz d,p.2)
def fBl(g:List Xa->Option OT)(a:FA):FE:=λδ=>(a δ).bind λp=>(g (OT.datas p.1)).bind λd=>YB (d,p.2)
def Zph(T:String)(e:FE):FE:=λδ=>(e δ).bind λp=>if Ziu p.1.data=YD then YC else YB (.fz (.bool (Zsf T p.1.data)),p.2)
def oN:FO:=λδ=>YB (YC,δ)
def oI(e:FE):FO:=λδ=>(e δ).bind λp=>match p.1.data with| .int i=>YB (YB i,p.2)|_=>YC
def fSl(e:FE)(lo hi:FO):FE:=λδ=>(e δ).bind λp=>(lo p.2).bind λq=>(hi q.2).bind λr=>match p.1.data with| .list ds=>YB (.nd ((cutD ds q.1 r.1).map OT.fz),r.2)|_=>YC
def Zor(f g:Int->Int->Bool)(a b c:FE):FE:=λδ=>(a δ).bind λp=>(b p.2).bind λq=>match p.1.data,q.1.data with
 | .int i,.int j=>if f i j=YD then(c q.2).bind λr=>match r.1.data with| .int k=>YB (.fz (.bool (g j k)),r.2)|_=>YC else YB (.fz (.bool YF),q.2)
 | _,_=>YC
def Zf5(e:FE):FI:=λδ=>(e δ).bind λp=>match p.1.data with| .list ds=>YB (ds,p.2)|_=>YC
def iTp(e:FE):FI:=λδ=>(e δ).bind λp=>match p.1.data with| .tuple ds=>YB (ds,p.2)|_=>YC
def rOk(j:Int):Bool:=decide (-(2^62)<=j)&&decide (j<2^62)
theorem Zee{j:Int}(h:rOk j=YD):-(2^62)<=j/\j<2^62:=by
 unfold rOk at h;rw[XC]at h;exact⟨YW h.1,YW h.2⟩
theorem Zlg{j:Int}(h0:-1000000<=j)(h1:j<=1000000):rOk j=YD:=by
 unfold rOk;rw[YQ (show -(2^62)<=j by omega),YQ (show j<2^62 by omega)];rfl
def iRa(a:FA):FI:=λδ=>(a δ).bind λp=>match OT.datas p.1 with|[.int j]=>if rOk j=YD then YB (Zdn 0 j.toNat,p.2)else YC|_=>YC
def iRb(a:FA):FI:=λδ=>(a δ).bind λp=>match OT.datas p.1 with|[.int i,.int j]=>if(rOk i&&rOk j)=YD then YB (Zdn i (j-i).toNat,p.2)else YC|_=>YC
def Yde(a:FA):FI:=λδ=>(a δ).bind λp=>match OT.datas p.1 with|[.list as,.list bs]=>YB (Znc as bs,p.2)|_=>YC
def gNm(i:Nat):FG:=λd δ=>YB (δ.set i (YB (.fz d)))
def Yj0(i:Nat):FG:=λd δ=>if Zif d=YD then YB (δ.set i (YB (.fz d)))else YC
def gNl:FGs:=λds δ=>match ds with|[]=>YB δ|_=>YC
def gCn(g:FG)(gs:FGs):FGs:=λds δ=>match ds with|d::r=>(g d δ).bind (gs r)|[]=>YC
def gTp(n:Nat)(gs:FGs):FG:=λd δ=>match d with| .tuple ds=>if ds.length=n then gs ds δ else YC|_=>YC
def gLs(n:Nat)(gs:FGs):FG:=λd δ=>match d with| .list ds=>if ds.length=n then gs ds δ else YC|_=>YC
def compLoop(g:FG)(t:FT)(e:FE):List Xa->Zm->Option (List OT×Zm)
 | [],δ=>YB ([],δ)
 | d::ds,δ=>(g d δ).bind λδ1=>(t δ1).bind λp=>if p.1=YD then(e p.2).bind λq=>(compLoop g t e ds q.2).bind λz=>YB (q.1::z.1,z.2)else compLoop g t e ds p.2
def W3(n:Nat)(caps:List Nat)(it:FI)(g:FG)(t:FT)(e:FE):FE:=λδ=>(it δ).bind λp=>if p.1.length<=Xz then(compLoop g t e p.1 (blk n caps p.2)).bind λz=>YB (.nd z.1,p.2)else YC
def Znd:FT:=λδ=>YB (YD,δ)
inductive RS where
 | nx (δ:Zm)
 | rt (r:OT) (δ:Zm)
 | bk (δ:Zm)
 | ct (δ:Zm)
 | ex (c:Str) (δ:Zm)
 | bad
abbrev FS:=Zm->RS
def RS.fits(D:Zkh):RS->Prop
 | .nx δ=>D.nx δ
 | .rt r δ=>D.rt r δ
 | .bk δ=>D.bk δ
 | .ct δ=>D.ct δ
 | _=>False
def oS(f:FS):MSt:=λD δ=>(f δ).fits D
def xS(K:Xc)(f:FS):MXt:=λδ k=>∃c C δ',f δ= .ex c δ'/\ClsAt K c C/\k C δ'
def Z6(f g:FS):FS:=λδ=>match f δ with| .nx δ'=>g δ'|r=>r
def fNx:FS:=λδ=>.nx δ
def Ykh:FS:=λδ=>.bk δ
def Yjv:FS:=λδ=>.ct δ
def wE(e:FE)(k:OT->Zm->RS):FS:=λδ=>match e δ with|some (r,δ')=>k r δ'|none=>.bad
def wX(F:FD)(a:FA)(k:OT->Zm->RS):FS:=λδ=>match a δ with
 | some (rs,δ1)=>match F (OT.datas rs)with
  | .ok r=>k r δ1
  | .exn c=>.ex c δ1
  | .bad=>.bad
 | none=>.bad
def Zyb:OT->Zm->RS:=λ_ δ=>.nx δ
def Wu:OT->Zm->RS:=λr δ=>.rt r δ
def Yhf:OT->Zm->RS:=λr δ=>if Zif r.data=YD then .rt (.fz r.data) δ else .bad
def Y0(i:Nat):OT->Zm->RS:=λr δ=>.nx (δ.set i (YB (.fz r.data)))
def Ygu(i:Nat):OT->Zm->RS:=λr δ=>if Zif r.data=YD then .nx (δ.set i (YB (.fz r.data)))else .bad
def Zcb(i:Nat):OT->Zm->RS:=λr δ=>.nx (δ.set i (YB r))
def Yjw(g:FG):OT->Zm->RS:=λr δ=>match g r.data δ with|some δ'=>.nx δ'|none=>.bad
def Yhe:FS:=λδ=>.rt (.fz .none) δ
def Zft(i:Nat):FS:=λδ=>match δ[i]? with|some (YB t)=>.rt t (δ.set i YC)|_=>.bad
def Zaf(t:FT)(u w:FS):FS:=λδ=>match t δ with|some (b,δ')=>if b=YD then u δ' else w δ'|none=>.bad
def Znf(c:Str):FS:=λδ=>.ex c δ
def Wl(i:Nat)(e:FE):FS:=λδ=>match δ[i]? with
 | some (YB (.nd _))=>wE e (λr δ1=>match δ1[i]? with
  | some (YB (.nd ts))=>if ts.length<Xz then .nx (δ1.set i (YB (.nd (ts++[.fz r.data]))))else .bad
  | _=>.bad) δ
 | _=>.bad
def Zr0(i:Nat)(e:FE):FS:=λδ=>match δ[i]? with
 | some (YB (.nd _))=>wE e (λr δ1=>match δ1[i]? with
  | some (YB (.nd ts))=>if ts.length<Xz then .nx (δ1.set i (YB (.nd (ts++[r]))))else .bad
  | _=>.bad) δ
 | _=>.bad
def Yit(i:Nat)(e j:FE):FS:=wE e λr δ1=>match δ1[i]? with
 | some (YB (.nd ts))=>wE j (λn _=>match n.data with
  | .int k=>match ixN ts.length k with
   | some j=>.nx (δ1.set i (YB (.nd (ts.set j (.fz r.data)))))
   | none=>.bad
  | _=>.bad) δ1
 | _=>.bad
def Zy3(i:Nat)(e j j2:FE):FS:=wE e λr δ1=>match δ1[i]? with
 | some (YB (.nd ts))=>wE j (λn _=>match n.data with
  | .int k=>match ixN ts.length k with
   | some j=>match ts[j]? with
    | some (.nd us)=>wE j2 (λn' _=>match n'.data with
     | .int k'=>match ixN us.length k' with
      | some j'=>.nx (δ1.set i (YB (.nd (ts.set j (.nd (us.set j' (.fz r.data)))))))
      | none=>.bad
     | _=>.bad) δ1
    | _=>.bad
   | none=>.bad
  | _=>.bad) δ1
 | _=>.bad
def Zhu(i:Nat)(u:FS):FS:=λδ=>match δ[i]? with|some (YB t)=>u (δ.set i (YB (.fz t.data)))|_=>.bad
def forLoop(g:FG)(u:FS):List Xa->Zm->RS
 | [],δ=>.nx δ
 | d::ds,δ=>match g d δ with
  | none=>.bad
  | some δ1=>match u δ1 with
   | .nx δ2=>forLoop g u ds δ2
   | .ct δ2=>forLoop g u ds δ2
   | .bk δ2=>.nx δ2
   | r=>r
def Zau(it:FI)(g:FG)(u:FS):FS:=λδ=>match it δ with|some (ds,δ1)=>forLoop g u ds δ1|none=>.bad
def whileLoop(t:FT)(u:FS):Nat->Zm->RS
 | 0,_=>.bad
 | n+1,δ=>match t δ with
  | none=>.bad
  | some (b,δ1)=>if b=YD then match u δ1 with
   | .nx δ2=>whileLoop t u n δ2
   | .ct δ2=>whileLoop t u n δ2
   | .bk δ2=>.nx δ2
   | .rt r δ2=>.rt r δ2
   | _=>.bad
   else .nx δ1
open Classical in
def Zk7(t:FT)(u:FS):FS:=λδ=>if h:∃n,whileLoop t u n δ≠ .bad then whileLoop t u (Classical.choose h) δ else .bad
def Zgo(n:Nat)(ds:List Xa):Zm:=ds.map (λd=>YB (.fz d))++X5 (n-ds.length) YC
def Ye7(n:Nat)(t:OT)(ds:List Xa):Zm:=YB t::(ds.map (λd=>YB (.fz d))++X5 (n-(ds.length+1)) YC)
def RS.told:RS->RF
 | .nx _=>.ok (.fz .none)
 | .rt r _=>.ok r
 | .ex c _=>.exn c
 | _=>.bad
def Jh(np n:Nat)(S:FS):FD:=λds=>if ds.length=np then(S (Zgo n ds)).told else .bad
def sD(F:FD):List Xa->(OT->Prop)->Prop:=λds k=>∃r,F ds= .ok r/\k r
theorem bs{x:Option α}{f:α->Option β}{b:β}(h:x.bind f=YB b):∃a,x=YB a/\f a=YB b:=Option.bind_eq_some_iff.mp h
end L2
variable {ra:FA}{F:FD}{me fa fb fc:FE}{g:FG}{it:FI}{pl pr:Pos}
namespace L2
open PySem PySem.Spec PyProof.Rows
section
variable {X:Cx}{io:List Nat}{p c:Bool}{e tg:YJ}{es:List YJ}{st:YK}{sts:List YK}{eo:Option YJ}{fa fb fc:FE}{ra:FA}{ta tb:FT}{i:Nat}
theorem Yi(h:ME X io p c e (Yei i)):ME X io p c e (o2 (Zd i)):=h.weak λδ K q91=>by
 obtain⟨r,δ',h,k⟩:=q91;unfold Zd at h;unfold Yei;split at h
 .rename_i d hd;(try rw[hd]);cases h;exact k
 .cases h
theorem Ydw(h:ME X io p c e (Yd6 i)):ME X io p c e (o2 (Zq9 i)):=h.weak λδ K q92=>by
 obtain⟨r,δ',h,k⟩:=q92;unfold Zq9 at h;unfold Yd6;split at h
 .rename_i d hd;(try rw[hd]);cases h;exact k
 .cases h
theorem Zeb{d:Xa}(h:ME X io p c e (mC d)):ME X io p c e (o2 (fC d)):=h.weak λδ K ⟨r,δ',h,k⟩=>by cases h;exact k
def ByS(g:Xa->Xa->Option Xa)(rp:Xa->Xa->(Xa->Prop)->Prop):Prop:=∀d e r k,g d e=YB r->k r->rp d e k
def ByO(g:Xa->Xa->Option OT)(rp:Xa->Xa->(OT->Prop)->Prop):Prop:=∀d e r k,g d e=YB r->k r->rp d e k
theorem Z3l{g rp}(G:ByS g rp){K:OT->Zm->Prop}(h:o2 (Zj g fa fb) δ K):Zpk rp (o2 fa) (o2 fb) δ K:=by
 obtain⟨r,δ',h,k⟩:=h;obtain⟨⟨x,δ1⟩,h1,h⟩:=bs h;obtain⟨⟨y,δ2⟩,h2,h⟩:=bs h;obtain⟨d,h3,h⟩:=bs h;cases h;exact⟨x,δ1,h1,y,δ2,h2,G _ _ _ _ h3 k⟩
theorem Wh{g rp}(G:ByS g rp)(h:ME X io p c e (Zpk rp (o2 fa) (o2 fb))):ME X io p c e (o2 (Zj g fa fb)):=h.weak λδ K z=>Z3l G z
theorem Yj2{f:FE}{K:Bool->Zm->Prop}(h:o2 (tV f) δ K):o2 f δ (kB K):=by
 obtain⟨b,δ',h,k⟩:=h;obtain⟨⟨x,δ1⟩,h1,h⟩:=bs h;refine⟨x,δ1,h1,?_⟩;unfold kB
 try dsimp only at h|-
 split at h
 .cases h;exact k
 .cases h
theorem Za8{g rp}(G:ByS g rp)(h:MT X io p e (λδ K=>Zpk rp (o2 fa) (o2 fb) δ (kB K))):MT X io p e (o2 (tV (Zj g fa fb))):=h.weak λδ K z=>Z3l G (Yj2 z)
theorem Zdk{g rp}(G:ByO g rp)(h:ME X io p c e (Yeg rp (o2 fa) (o2 fb))):ME X io p c e (o2 (Yl g fa fb)):=h.weak λδ K h=>by
 obtain⟨r,δ',h,k⟩:=h;obtain⟨⟨x,δ1⟩,h1,h⟩:=bs h;obtain⟨⟨y,δ2⟩,h2,h⟩:=bs h;obtain⟨d,h3,h⟩:=bs h;cases h;exact⟨x,δ1,h1,y,δ2,h2,G _ _ _ _ h3 k⟩
def Zo2:Xa->Option Xa| .int i=>YB (.int (-i))|_=>YC
def Yeq:Xa->Option Xa| .bool b=>YB (.bool (!b))|_=>YC
theorem Zh5(h:ME X io p c e (Yih (o2 fa))):ME X io p c e (o2 (fUn Zo2 fa)):=h.weak λδ K h=>by
 obtain⟨r,δ',h,k⟩:=h;obtain⟨⟨x,δ1⟩,h1,h⟩:=bs h;obtain⟨d,h3,h⟩:=bs h;cases h;refine⟨x,δ1,h1,?_⟩;dsimp only at h3|-
 cases q:x.data<;>rw[q]at h3<;>cases h3
 exact k
theorem Zvp(h:ME X io p c e (Ya0 (o2 fa))):ME X io p c e (o2 (fUn Yeq fa)):=h.weak λδ K h=>by
 obtain⟨r,δ',h,k⟩:=h;obtain⟨⟨x,δ1⟩,h1,h⟩:=bs h;obtain⟨d,h3,h⟩:=bs h;cases h;refine⟨x,δ1,h1,?_⟩;dsimp only at h3|-
 cases q:x.data<;>rw[q]at h3<;>cases h3
 exact k
theorem Zhb(h:ME X io p c e (Yam (o2 fa) (o2 fb))):ME X io p c e (o2 (Zuo fa fb)):=h.weak λδ K h=>by
 obtain⟨r,δ',h,k⟩:=h;obtain⟨⟨x,δ1⟩,h1,h⟩:=bs h;refine⟨x,δ1,h1,?_⟩
 try dsimp only at h|-
 split at h
 .rename_i q;(try rw[q]);rw[Z3q,YL rfl];exact⟨r,δ',h,k⟩
 .rename_i q;(try rw[q]);cases h;rw[Z3q,YM Xn];exact k
 .cases h
theorem Z9o(h:ME X io p c e (mIf (o2 ta) (o2 fa) (o2 fb))):ME X io p c e (o2 (fIf ta fa fb)):=h.weak λδ K h=>by
 obtain⟨r,δ',h,k⟩:=h;obtain⟨⟨x,δ1⟩,h1,h⟩:=bs h;refine⟨x,δ1,h1,?_⟩
 try dsimp only at h|-
 split at h
 .rename_i q;rw[YL q];exact⟨r,δ',h,k⟩
 .rename_i q;rw[YM q];exact⟨r,δ',h,k⟩
theorem Z4b(h:MT X io p e (Yiq (o2 ta))):MT X io p e (o2 (tNo ta)):=h.weak λδ K h=>by
 obtain⟨r,δ',h,k⟩:=h;obtain⟨⟨x,δ1⟩,h1,h⟩:=bs h;cases h;exact⟨x,δ1,h1,k⟩
theorem Zyt(h:MW X io p e (Yiy (o2 ta) (o2 tb))):MW X io p e (o2 (tAn ta tb)):=h.weak λδ K h=>by
 obtain⟨r,δ',h,k⟩:=h;obtain⟨⟨x,δ1⟩,h1,h⟩:=bs h;refine⟨x,δ1,h1,?_⟩
 try dsimp only at h|-
 split at h
 .rename_i q;rw[YL q];exact⟨r,δ',h,k⟩
 .rename_i q;rw[YM q];cases h;exact k
theorem Zn1(h:MW X io p e (mOr (o2 ta) (o2 tb))):MW X io p e (o2 (tO ta tb)):=h.weak λδ K h=>by
 obtain⟨r,δ',h,k⟩:=h;obtain⟨⟨x,δ1⟩,h1,h⟩:=bs h;refine⟨x,δ1,h1,?_⟩
 try dsimp only at h|-
 split at h
 .rename_i q;rw[YL q];cases h;exact k
 .rename_i q;rw[YM q];exact⟨r,δ',h,k⟩
theorem Za2(h:MT X io p e (Yi4 (o2 fa))):MT X io p e (o2 (tD fa)):=h.weak λδ K h=>by
 obtain⟨r,δ',h,k⟩:=h;obtain⟨⟨x,δ1⟩,h1,h⟩:=bs h;obtain⟨d,h3,h⟩:=bs h;cases h;refine⟨x,δ1,h1,?_⟩;dsimp only at h3|-
 rw[h3];exact k
theorem Zb9(h:MA X io p c es Yh5):MA X io p c es (o2 Zq):=h.weak λδ K ⟨r,δ',h,k⟩=>by cases h;exact k
theorem Z43(h:MA X io p c es (Ydc (o2 fa) (o2 ra))):MA X io p c es (o2 (Zc fa ra)):=h.weak λδ K h=>by
 obtain⟨r,δ',h,k⟩:=h;obtain⟨⟨x,δ1⟩,h1,h⟩:=bs h;obtain⟨⟨y,δ2⟩,h2,h⟩:=bs h;cases h;exact⟨x,δ1,h1,y,δ2,h2,k⟩
theorem Yc0(h:ME X io p c e (Yi8 (o2 ra))):ME X io p c e (o2 (Ze2 ra)):=h.weak λδ K h=>by
 obtain⟨r,δ',h,k⟩:=h;obtain⟨⟨x,δ1⟩,h1,h⟩:=bs h;refine⟨x,δ1,h1,?_⟩;dsimp only at h;split at h
 .rename_i q;cases h;exact⟨q,k⟩
 .cases h
theorem Zvz(h:ME X io p c e (Yic (o2 ra))):ME X io p c e (o2 (Zd2 ra)):=h.weak λδ K h=>by
 obtain⟨r,δ',h,k⟩:=h;obtain⟨⟨x,δ1⟩,h1,h⟩:=bs h;refine⟨x,δ1,h1,?_⟩;dsimp only at h;split at h
 .rename_i q;cases h;exact⟨q,k⟩
 .cases h
theorem Zjh(h:ME X io p c e (Z1b (sD F) (o2 ra))):ME X io p c e (o2 (Zy F ra)):=h.weak λδ K h=>by
 obtain⟨r,δ',h,k⟩:=h;obtain⟨⟨x,δ1⟩,h1,h⟩:=bs h;refine⟨x,δ1,h1,?_⟩;dsimp only at h;split at h
 .rename_i q;cases h;exact⟨_,q,k⟩
 .cases h
theorem Zdi{g rp}(G:∀ds r k,g ds=YB r->k r->rp ds k)(h:ME X io p c e (Yef rp (o2 ra))):ME X io p c e (o2 (Zag g ra)):=h.weak λδ K h=>by
 obtain⟨r,δ',h,k⟩:=h;obtain⟨⟨x,δ1⟩,h1,h⟩:=bs h;obtain⟨d,h3,h⟩:=bs h;cases h;exact⟨x,δ1,h1,G _ _ _ h3 k⟩
theorem Zl6{g rp}(G:∀ds r k,g ds=YB r->k r->rp ds k)(h:ME X io p c e (mBl rp (o2 ra))):ME X io p c e (o2 (fBl g ra)):=h.weak λδ K h=>by
 obtain⟨r,δ',h,k⟩:=h;obtain⟨⟨x,δ1⟩,h1,h⟩:=bs h;obtain⟨d,h3,h⟩:=bs h;cases h;exact⟨x,δ1,h1,G _ _ _ h3 k⟩
theorem Zdh{T:String}(h:ME X io p c e (Yhv T (o2 fa))):ME X io p c e (o2 (Zph T fa)):=h.weak λδ K h=>by
 obtain⟨r,δ',h,k⟩:=h;obtain⟨⟨x,δ1⟩,h1,h⟩:=bs h
 by_cases hf:Ziu x.data=YD
 .have h':(if Ziu x.data=YD then YC else YB (OT.fz (.bool (Zsf T x.data)),δ1))=YB (r,δ'):=h
  rw[YL hf]at h';cases h'
 .have h':(if Ziu x.data=YD then YC else YB (OT.fz (.bool (Zsf T x.data)),δ1))=YB (r,δ'):=h
  rw[YM hf]at h';injection h' with h';injection h' with e1 e2;subst e1 e2;exact⟨x,_,h1,JW.mpr hf,k⟩
theorem Zi9(h:MO X io p eo Zyh):MO X io p eo (o2 oN):=h.weak λδ K ⟨r,δ',h,k⟩=>by cases h;exact k
theorem Zeo(h:MO X io p eo (Ybt (o2 fa))):MO X io p eo (o2 (oI fa)):=h.weak λδ K h=>by
 obtain⟨r,δ',h,k⟩:=h;obtain⟨⟨x,δ1⟩,h1,h⟩:=bs h;refine⟨x,δ1,h1,?_⟩
 try dsimp only at h|-
 split at h
 .rename_i q;(try rw[q]);cases h;exact k
 .cases h
theorem Zza{lo hi:FO}(h:ME X io p c e (mSl (o2 fa) (o2 lo) (o2 hi))):ME X io p c e (o2 (fSl fa lo hi)):=h.weak λδ K h=>by
 obtain⟨r,δ',h,k⟩:=h;obtain⟨⟨x,δ1⟩,h1,h⟩:=bs h;obtain⟨⟨y,δ2⟩,h2,h⟩:=bs h;obtain⟨⟨z,δ3⟩,h3,h⟩:=bs h;refine⟨x,δ1,h1,y,δ2,h2,z,δ3,h3,?_⟩
 try dsimp only at h|-
 split at h
 .rename_i q;(try rw[q]);cases h;exact k
 .cases h
theorem Z4w{f g:Int->Int->Bool}{K:OT->Zm->Prop}(h:o2 (Zor f g fa fb fc) δ K):Zrc f g (o2 fa) (o2 fb) (o2 fc) δ K:=by
 obtain⟨r,δ',h,k⟩:=h;obtain⟨⟨x,δ1⟩,h1,h⟩:=bs h;obtain⟨⟨y,δ2⟩,h2,h⟩:=bs h;refine⟨x,δ1,h1,y,δ2,h2,?_⟩
 try dsimp only at h|-
 split at h
 case h_2=>cases h
 rename_i i j q1 q2
 (try rw[q1,q2])
 show(if f i j=YD then _ else _);split at h
 .rename_i hf
  rw[YL hf];obtain⟨⟨z,δ3⟩,h3,h⟩:=bs h;refine⟨z,δ3,h3,?_⟩
  try dsimp only at h|-
  split at h
  .rename_i q;(try rw[q]);cases h;exact k
  .cases h
 .rename_i hf
  rw[YM hf];cases h;exact k
theorem Z0r{f g:Int->Int->Bool}(h:ME X io p c e (Zrc f g (o2 fa) (o2 fb) (o2 fc))):ME X io p c e (o2 (Zor f g fa fb fc)):=h.weak λδ K z=>Z4w z
theorem Z46(h:MI X io p c tg e (iL (o2 fa))):MI X io p c tg e (o2 (Zf5 fa)):=h.weak λδ K h=>by
 obtain⟨r,δ',h,k⟩:=h;obtain⟨⟨x,δ1⟩,h1,h⟩:=bs h;refine⟨x,δ1,h1,?_⟩
 try dsimp only at h|-
 split at h
 .rename_i q;(try rw[q]);cases h;exact k
 .cases h
theorem Zfy(h:MI X io p c tg e (iR1 (o2 ra))):MI X io p c tg e (o2 (iRa ra)):=h.weak λδ K h=>by
 obtain⟨r,δ',h,k⟩:=h;obtain⟨⟨x,δ1⟩,h1,h⟩:=bs h;refine⟨x,δ1,h1,?_⟩
 try dsimp only at h|-
 split at h
 case h_2=>cases h
 rename_i q
 (try rw[q])
 try dsimp only
 split at h
 .rename_i b;cases h;exact⟨Zee b,k⟩
 .cases h
theorem Zxh(h:MI X io p c tg e (iR2 (o2 ra))):MI X io p c tg e (o2 (iRb ra)):=h.weak λδ K h=>by
 obtain⟨r,δ',h,k⟩:=h;obtain⟨⟨x,δ1⟩,h1,h⟩:=bs h;refine⟨x,δ1,h1,?_⟩
 try dsimp only at h|-
 split at h
 case h_2=>cases h
 rename_i q
 (try rw[q])
 try dsimp only
 split at h
 .rename_i b
  cases h;rw[XC]at b;exact⟨⟨(Zee b.1).1,(Zee b.1).2,(Zee b.2).1,(Zee b.2).2⟩,k⟩
 .cases h
theorem Zl2(h:MG X io c tg (dName i)):MG X io c tg (oG (gNm i)):=h.weak λd δ K ⟨δ',h,k⟩=>by cases h;exact k
theorem Zqq(h:MGs X io c es Yiw):MGs X io c es (oGs gNl):=h.weak λd δ K q94=>by
 obtain⟨δ',h,k⟩:=q94;unfold gNl at h;split at h
 .cases h;exact⟨rfl,k⟩
 .cases h
theorem Zbx{gs:FGs}(h:MGs X io c es (Z99 (oG g) (oGs gs))):MGs X io c es (oGs (gCn g gs)):=h.weak λd δ K q95=>by
 obtain⟨δ',h,k⟩:=q95;unfold gCn at h;split at h
 .obtain⟨δ1,h1,h⟩:=bs h
  exact⟨δ1,h1,δ',h,k⟩
 .cases h
theorem Zw2{n:Nat}{gs:FGs}(h:MG X io c tg (dTup n (oGs gs))):MG X io c tg (oG (gTp n gs)):=h.weak λd δ K q96=>by
 obtain⟨δ',h,k⟩:=q96;unfold gTp at h;split at h
 case h_2=>cases h
 split at h
 .rename_i q;exact⟨q,δ',h,k⟩
 .cases h
theorem Zc6(h:MIfs X io p es Yc2):MIfs X io p es (o2 Znd):=h.weak λδ K ⟨r,δ',h,k⟩=>by cases h;exact k
theorem Z41{t:FT}{δ0:Zm}{zs:List OT}{δe:Zm}(h:compLoop g t me ds δ0=YB (zs,δe)) :
  ∃I:Nat->List OT->Zm->Prop,I 0 [] δ0/\
 (∀ (i:Nat) (d:Xa) (rs:List OT) (δ':Zm),ds[i]? =YB d->I i rs δ'->oG g d δ' λδ2=>o2 t δ2 λb δ3=>if b=YD then o2 me δ3 λr δ4=>I (i+1) (rs++[r]) δ4 else I (i+1) rs δ3)/\
 ∀rs δ',I ds.length rs δ'->rs=zs/\δ'=δe:=by
 refine⟨λi rs δ'=>∃ys,rs++ys=zs/\compLoop g t me (ds.drop i) δ'=YB (ys,δe),⟨zs,rfl,by rw[List.drop_zero];exact h⟩,?_,?_⟩
 .rintro i d rs δ' hd ⟨ys,e,hl⟩
  obtain⟨hi,hdi⟩:=Xw.mp hd;rw[Uj hi,hdi]at hl;unfold compLoop at hl;obtain⟨δ1,h1,hl⟩:=bs hl;obtain⟨⟨b,δ2⟩,h2,hl⟩:=bs hl;refine⟨δ1,h1,b,δ2,h2,?_⟩;dsimp only at hl;split at hl
  .rename_i hb
   rw[YL hb];obtain⟨⟨r,δ3⟩,h3,hl⟩:=bs hl;obtain⟨⟨ws,δ4⟩,h4,hl⟩:=bs hl;cases hl;exact⟨r,δ3,h3,ws,by rw[QQ];exact e,h4⟩
  .rename_i hb
   rw[YM hb];exact⟨ys,e,hl⟩
 .rintro rs δ' ⟨ys,e,hl⟩
  rw[List.drop_length]at hl;unfold compLoop at hl;cases hl;exact⟨by rw[<-e,QS],rfl⟩
theorem Zq5{n:Nat}{t:FT}{K:OT->Zm->Prop}(h:o2 (W3 n caps it g t me) δ K):Zhm n caps (o2 it) (oG g) (o2 t) (o2 me) δ K:=by
 obtain⟨r,δ',h,k⟩:=h;obtain⟨⟨ds,δ1⟩,h1,h⟩:=bs h;refine⟨ds,δ1,h1,?_⟩;dsimp only at h;split at h
 case isFalse=>cases h
 rename_i hz;obtain⟨⟨zs,δe⟩,h2,h⟩:=bs h;cases h;obtain⟨I,i0,st,en⟩:=Z41 h2;refine⟨hz,I,i0,st,λrs δ'' q=>?_⟩;obtain⟨rfl,rfl⟩:=en rs δ'' q;exact k
theorem Zcc{n:Nat}{t:FT}(h:ME X io p c e (Zhm n caps (o2 it) (oG g) (o2 t) (o2 me))):ME X io p c e (o2 (W3 n caps it g t me)):=h.weak λδ K z=>Zq5 z
end
section
variable {X:Cx}{io:List Nat}{p c:Bool}{e tg iter:YJ}{es:List YJ}{st:YK}{sts:List YK}{fa fb fc:FE}{ra:FA}{ta tb:FT}{i:Nat}{f g u w:FS}
theorem Zfe(h:MSs X io sts (Ye0 (oS f) (oS g))):MSs X io sts (oS (Z6 f g)):=h.weak λD δ h=>by
 unfold oS Z6 at h;unfold Ye0 oS;cases q:f δ<;>rw[q]at h<;>exact h
theorem Zc3(h:MSs X io sts Yc8):MSs X io sts (oS fNx):=h.weak λD δ h=>h
theorem Zud{k:OT->Zm->RS}(h:oS (wE fa k) D δ):o2 fa δ λr δ'=>(k r δ').fits D:=by
 unfold oS wE at h;split at h
 .rename_i q;exact⟨_,_,q,h⟩
 .exact h.elim
theorem o2.imp{f:Zm->Option (α×Zm)}{K K':α->Zm->Prop}(h:o2 f δ K)(k:∀r δ',K r δ'->K' r δ'):o2 f δ K':=let⟨r,δ',e,q⟩:=h;⟨r,δ',e,k r δ' q⟩
theorem Zrs{P:Prop}[Decidable P]{a:RS}(h:(if P then a else .bad:RS).fits D):P/\a.fits D:=by
 split at h
 .exact⟨‹_›,h⟩
 .exact h.elim
theorem Z4s(h:MS X io st (Z9h (o2 fa))):MS X io st (oS (wE fa Zyb)):=h.weak λD δ h=>Zud h
theorem Zfh(h:MS X io st (Yhx (o2 fa))):MS X io st (oS (wE fa Wu)):=h.weak λD δ h=>Zud h
theorem Zds(h:MS X io st (Z01 i)):MS X io st (oS (Zft i)):=h.weak λD δ h=>by
 unfold oS Zft at h;unfold Z01;split at h
 .rename_i q;(try rw[q]);exact h
 .exact h.elim
theorem Zm4(h:MS X io st (Yiv (o2 ta) (oS u) (oS w))):MS X io st (oS (Zaf ta u w)):=h.weak λD δ h=>by
 unfold oS Zaf at h;split at h
 .rename_i b δ' q
  refine⟨b,δ',q,?_⟩;split at h
  .rename_i hb;rw[YL hb];exact h
  .rename_i hb;rw[YM hb];exact h
 .exact h.elim
theorem Zwj(h:MS X io st (Z88 i (o2 fa))):MS X io st (oS (wE fa (Y0 i))):=h.weak λD δ h=>Zud h
theorem Z7x(h:MS X io st (Zo5 i (o2 fa))):MS X io st (oS (wE fa (Zcb i))):=h.weak λD δ h=>Zud h
section
variable {n:Nat}{o q:Nat}{gg:FG}{t:FT}
theorem Z15(h:MS X io st (if YD=YD then Zo5 i (Zhm n caps (o2 it) (oG gg) (o2 t) (o2 me))else Z88 i (Zhm n caps (o2 it) (oG gg) (o2 t) (o2 me)))):MS X io st (oS (wE (W3 n caps it gg t me) (Zcb i))) :=
 h.weak λD δ h=>by rw[YL rfl];exact Zq5 (Zud h)
theorem Zul(h:MS X io st (if YF=YD then Zo5 i (Zhm n caps (o2 it) (oG gg) (o2 t) (o2 me))else Z88 i (Zhm n caps (o2 it) (oG gg) (o2 t) (o2 me)))):MS X io st (oS (wE (W3 n caps it gg t me) (Y0 i))) :=
 h.weak λD δ h=>by rw[YM Xn];exact Zq5 (Zud h)
end
theorem J8(h:MS X io st (Zme i (o2 fa))):MS X io st (oS (Wl i fa)):=h.weak λD δ h=>by
 unfold oS Wl at h;unfold Zme;split at h
 case h_2=>exact h.elim
 rename_i q;(try rw[q]);refine(Zud h).imp λr δ' z=>?_;split at z
 .rename_i q2;(try rw[q2]);exact Zrs z
 .exact z.elim
theorem Z58(h:MS X io st (Yao i (o2 fa) (o2 fb) (o2 fc))):MS X io st (oS (Zy3 i fa fb fc)):=h.weak λD δ h=>by
 refine(Zud h).imp λr δ' z=>?_;split at z
 case h_2=>exact z.elim
 rename_i q;(try rw[q]);refine(Zud z).imp λn δ2 z=>?_;split at z
 case h_2=>exact z.elim
 rename_i k q2;(try rw[q2]);show match ixN _ k with|some j=>_|none=>_
 split at z
 case h_2=>exact z.elim
 rename_i q3;(try rw[q3])
 try dsimp only
 split at z
 case h_2=>exact z.elim
 rename_i q4;(try rw[q4]);refine(Zud z).imp λn' δ3 z=>?_;split at z
 case h_2=>exact z.elim
 rename_i k' q5;(try rw[q5]);show match ixN _ k' with|some j=>_|none=>_
 split at z
 .rename_i q6;(try rw[q6]);exact z
 .exact z.elim
theorem Zog(h:MS X io st (Zmd i (oS u))):MS X io st (oS (Zhu i u)):=h.weak λD δ h=>by
 unfold oS Zhu at h;unfold Zmd;split at h
 .rename_i q;(try rw[q]);exact h
 .exact h.elim
theorem Zav{gg:FG}{d:Xa}:forLoop gg u (d::ds) δ=match gg d δ with
  | none=>.bad
  | some δ1=>match u δ1 with
   | .nx δ2=>forLoop gg u ds δ2
   | .ct δ2=>forLoop gg u ds δ2
   | .bk δ2=>.nx δ2
   | r=>r:=rfl
theorem Zx9{gg:FG}(h:MS X io st (Yib (o2 it) (oG gg) (oS u))):MS X io st (oS (Zau it gg u)):=h.weak λD δ h=>by
 unfold oS Zau at h;split at h
 case h_2=>exact h.elim
 rename_i ds δ1 q;refine⟨ds,δ1,q,λi δ'=>(forLoop gg u (ds.drop i) δ').fits D,by show RS.fits D (forLoop gg u (ds.drop 0) δ1);rw[List.drop_zero];exact h,λi d δ' hd z=>?_,λδ' z=>?_⟩
 .obtain⟨hi,hdi⟩:=Xw.mp hd
  replace z:RS.fits D (forLoop gg u (ds.drop i) δ'):=z;rw[Uj hi,hdi,Zav]at z;split at z
  case h_1=>exact z.elim
  rename_i δ2 q2;refine⟨δ2,q2,?_⟩;unfold oS;cases q3:u δ2<;>rw[q3]at z<;>(try rw[q3])<;>exact z
 .replace z:RS.fits D (forLoop gg u (ds.drop ds.length) δ'):=z
  rw[List.drop_length]at z;exact z
theorem Zsh(h:MS X io st (Z3r (o2 ta) (oS u))):MS X io st (oS (Zk7 ta u)):=h.weak λD δ h=>by
 unfold oS Zk7 at h;split at h
 case isFalse=>exact h.elim
 rename_i hn;refine⟨λn δ'=>(whileLoop ta u n δ').fits D,⟨_,h⟩,λn δ' z=>?_⟩;cases n with
 | zero=>exact z.elim
 | succ n=>
  unfold whileLoop at z;split at z
  case h_1=>exact z.elim
  rename_i b δ1 q;refine⟨b,δ1,q,?_⟩;split at z
  .rename_i hb
   rw[YL hb];refine⟨λδ''=>(whileLoop ta u n δ'').fits D,λδ'' y=>⟨n,Vj n,y⟩,?_⟩;unfold oS;cases q3:u δ1<;>rw[q3]at z<;>exact z
  .rename_i hb
   rw[YM hb];exact z
theorem Ze6{n m:Nat}:∀{δ:Zm},whileLoop ta u n δ≠ .bad->whileLoop ta u (n+m) δ=whileLoop ta u n δ:=by
 induction n with
 | zero=>intro δ h;exact YX rfl h
 | succ n ih=>
  intro δ h;rw[Nat.succ_add];unfold whileLoop at h|-
  cases q:ta δ with
  | none=>rfl
  | some x=>
   obtain⟨b,δ1⟩:=x;rw[q]at h
   try dsimp only at h|-
   split
   .rename_i hb
    rw[YL hb]at h;cases q3:u δ1<;>rw[q3]at h<;>first|exact ih h|rfl
   .rfl
theorem Znk{r:RS}(n:Nat)(h:whileLoop ta u n δ=r)(hr:r≠ .bad):Zk7 ta u δ=r:=by
 have hn:∃n,whileLoop ta u n δ≠ .bad:=⟨n,by rw[h];exact hr⟩;unfold Zk7;rw[dif_pos hn];have h1:=Classical.choose_spec hn;have e1:=Ze6 (m:=n) h1;have e2:=Ze6 (m:=Classical.choose hn) (show whileLoop ta u n δ≠ .bad by rw[h];exact hr);rw[Nat.add_comm]at e2;rw[<-e1,e2,h]
theorem Zl9{cn:Str}:MS X io st (oS (Znf cn)):=Z1d.weak λD δ h=>h
class NoEx (f:FS):Prop where
 no:∀δ cn δ',f δ≠ .ex cn δ'
class NoExK (k:OT->Zm->RS):Prop where
 no:∀r δ cn δ',k r δ≠ .ex cn δ'
end
section
variable {P:Qi}{w:QJ}{K:Xc}{mg:Str->Option Xe}{base:YH}{x qual:Str}{st:YK}{f:YG}{fd:XJ}{N ps:List Str}{n np nn:Nat}{S:FS}
theorem RS.told_fits{r:RS}{o:OT}{k:OT->Prop}(h:r.told= .ok o)(hk:k o):r.fits (Z6i k):=by
 cases r<;>unfold RS.told at h<;>first|(cases h;exact hk)|cases h
theorem Z8(F:Fun K x qual st f fd)(Sc:Zv N ps (Zn st))(hN:N.length=nn)(hp:np=ps.length)
  (hb:∀(cdv:Xe) (A:QB) (outer:List Env) (s:Xh) (H:Hp) (E:XK),Room n (A.deeper (envOfC qual (Zn st) s.heap.objs.size f cdv))->MSs (Z21 CX0 P w K mg base N qual (Zn st) f cdv A outer s H E).nox [] (Zc7 st) (oS S)) :
  FnOk P w K mg base CX0 (n+1) f fd ps (spD K (sD (Jh np nn S))):=by
 subst hN hp;refine F.okD Sc (λds k h=>?_) λcdv A outer s H E hr=>⟨_,hb cdv A outer s H E hr,λds k h=>?_⟩
 .obtain⟨r,h,_⟩:=h
  unfold Jh at h;split at h
  .assumption
  .cases h
 .obtain⟨r,h,hk⟩:=h
  unfold Jh at h;split at h
  .exact RS.told_fits h hk
  .cases h
end
def i2(g:Int->Int->Xa):Xa->Xa->Option Xa:=λd e=>match d,e with| .int i,.int j=>YB (g i j)|_,_=>YC
def i2c(c:Int->Int->Bool)(g:Int->Int->Xa):Xa->Xa->Option Xa:=λd e=>match d,e with| .int i,.int j=>if c i j=YD then YB (g i j)else YC|_,_=>YC
theorem Ztc{g:Int->Int->Xa}:ByS (i2 g) (Z1t g):=λd e r k h hk=>by
 unfold i2 at h;split at h
 .cases h;exact hk
 .cases h
theorem Zsg{c:Int->Int->Bool}{C:Int->Int->Prop}{g:Int->Int->Xa}(hc:∀i j,c i j=YD->C i j):ByS (i2c c g) (d2I C g):=λd e r k h hk=>by
 unfold i2c at h;split at h
 .split at h
  .cases h;exact⟨hc _ _ ‹_›,hk⟩
  .cases h
 .cases h
def Z4z(a b:Int):Bool:=!(decide (Bl a>shortFactorBits)&&decide (Bl b>shortFactorBits)&&Builtin.Int.intTooBig (Bl a+Bl b))
def Ydr(_ j:Int):Bool:=decide (j≠0)&&decide (j.natAbs.log2<9000)
def Yjo(_ j:Int):Bool:=decide (j≠0)
def Yk6(i j:Int):Bool:=decide (0<=j/\j<=1000000/\i.natAbs<2^64)
theorem Zik{a:Int}:Z4z a b=YD↔IntMulOk a b:=by
 unfold Z4z IntMulOk;rw[Bool.not_eq_true',Bool.not_eq_true]
def Zcn:=i2 λi j=>.int (i+j)
def gSb:=i2 λi j=>.int (i-j)
def Zf4:=i2c Z4z λi j=>.int (i*j)
def Zbv:=i2c Ydr λi j=>.int (i.fdiv j)
def Zgz:=i2c Yjo λi j=>.int (i.fmod j)
def Zzn:=i2c Yk6 λi j=>.int (i^j.toNat)
def gLt:=i2 λi j=>.bool (decide (i<j))
def gLe:=i2 λi j=>.bool (decide (i<=j))
def gGt:=i2 λi j=>.bool (decide (j<i))
def gGe:=i2 λi j=>.bool (decide (j<=i))
theorem Yfi:ByS Zcn (Z1t λi j=>.int (i+j)):=Ztc
theorem Z47:ByS gSb (Z1t λi j=>.int (i-j)):=Ztc
theorem Yfp:ByS Zf4 (d2I MulOk λi j=>.int (i*j)):=Zsg λi j h=>⟨Zik.mp h⟩
theorem Yb2:ByS Zbv (d2I Yip λi j=>.int (i.fdiv j)):=Zsg λi j h=>⟨by
 unfold Ydr at h;rw[XC]at h;exact⟨YW h.1,YW h.2⟩⟩
theorem Ygd:ByS Zgz (d2I (λ_ j=>j≠0) λi j=>.int (i.fmod j)):=Zsg λi j h=>YW h
theorem Yfy:ByS Zzn (d2I Yjd λi j=>.int (i^j.toNat)):=Zsg λi j h=>⟨(YW h:0<=j/\j<=1000000/\i.natAbs<2^64)⟩
theorem Z9p:ByS gLt (Z1t λi j=>.bool (decide (i<j))):=Ztc
theorem Ykl:ByS gLe (Z1t λi j=>.bool (decide (i<=j))):=Ztc
theorem Ygn:ByS gGt (Z1t λi j=>.bool (decide (j<i))):=Ztc
theorem Yju:ByS gGe (Z1t λi j=>.bool (decide (j<=i))):=Ztc
def gEq:Xa->Xa->Option Xa:=λd e=>if(Uz d&&Uz e)=YD then YB (.bool (Q6 d e))else YC
def gNe:Xa->Xa->Option Xa:=λd e=>if(Uz d&&Uz e)=YD then YB (.bool (!Q6 d e))else YC
theorem Z87:ByS gEq dEq:=λd e r k h hk=>by
 unfold gEq at h;split at h
 .rename_i q
  rw[XC]at q;cases h;exact⟨⟨q.1⟩,⟨q.2⟩,hk⟩
 .cases h
theorem Yeo:ByS gNe dNe:=λd e r k h hk=>by
 unfold gNe at h;split at h
 .rename_i q
  rw[XC]at q;cases h;exact⟨⟨q.1⟩,⟨q.2⟩,hk⟩
 .cases h
def gIs:Xa->Xa->Option Xa:=λd e=>match e with| .none=>YB (.bool (Zht d))|_=>YC
def Zgu:Xa->Xa->Option Xa:=λd e=>match e with| .none=>YB (.bool (!Zht d))|_=>YC
theorem Zpm:ByS Zgu Ydh:=λd e r k h hk=>by
 unfold Zgu at h;split at h
 .cases h;exact⟨rfl,hk⟩
 .cases h
def Zuf(neg:Bool):Xa->Xa->Option Xa:=λd e=>match Zq1 e with
 | some ds=>if(scD d&&ds.all scD)=YD then YB (.bool (if neg then !memS d ds else memS d ds))else YC
 | none=>YC
theorem Z0q{neg:Bool}:ByS (Zuf neg) (dIn neg):=λd e r k h hk=>by
 unfold Zuf at h;split at h
 case h_2=>cases h
 rename_i ds q;split at h
 case isFalse=>cases h
 rename_i q2;rw[XC]at q2;cases h;refine⟨q2.1,?_⟩;cases e<;>cases q
 .exact⟨q2.2,hk⟩
 .exact⟨q2.2,hk⟩
def gIx:Xa->Xa->Option OT:=λd e=>(ixD d e).bind λx=>YB (.fz x)
theorem Ygm:ByO gIx dIx:=λd e r k h hk=>by
 obtain⟨x,h1,h2⟩:=bs h;cases h2;unfold dIx;rw[h1];exact hk
def Zlb:Xa->Xa->Option OT:=λd e=>match d,e with| .list ds,.list es=>if ds.length+es.length<=Xz then YB (.nd ((ds++es).map OT.fz))else YC|_,_=>YC
theorem Zne:ByO Zlb dCat:=λd e r k h hk=>by
 unfold Zlb at h;split at h
 .split at h
  .cases h;exact⟨‹_›,hk⟩
  .cases h
 .cases h
def Zai:List Xa->Option Xa:=λds=>match ds with|[d]=>(Z2l d).bind λn=>YB (.int n)|_=>YC
theorem Zt1:∀ds r k,Zai ds=YB r->k r->Yje ds k:=λds r k h hk=>by
 unfold Zai at h;split at h
 .obtain⟨n,h1,h2⟩:=bs h
  cases h2;show match Z2l _ with|some n=>_|none=>_
  rw[h1];exact hk
 .cases h
def Z83:List Xa->Option Xa:=λds=>match ds with|[.int i]=>YB (.int (if i<0 then -i else i))|_=>YC
theorem Z8f:∀ds r k,Z83 ds=YB r->k r->Yiu ds k:=λds r k h hk=>by
 unfold Z83 at h;split at h
 .cases h;exact hk
 .cases h
def Yjx:List Xa->Option Xa:=λds=>match ds with|[.int i,.int j]=>YB (.int (if j>i then j else i))|_=>YC
def Z3x:List Xa->Option Xa:=λds=>match ds with|[.int i,.int j]=>YB (.int (if j<i then j else i))|_=>YC
theorem Ydn:∀ds r k,Z3x ds=YB r->k r->Yh9 ds k:=λds r k h hk=>by
 unfold Z3x at h;split at h
 .cases h;exact hk
 .cases h
def Ybf:List Xa->Option Xa:=λds=>match ds with|[.int i]=>YB (.int i)|[.bool b]=>YB (.int (if b then 1 else 0))|_=>YC
theorem Yfc:∀ds r k,Ybf ds=YB r->k r->Yji ds k:=λds r k h hk=>by
 unfold Ybf at h;split at h
 .cases h;exact hk
 .cases h;exact hk
 .cases h
def Zy6:List Xa->Option OT:=λds=>match ds with|[d]=>(Zq1 d).bind λes=>YB (.nd (es.map OT.fz))|_=>YC
theorem Yai:∀ds r k,Zy6 ds=YB r->k r->Yc9 ds k:=λds r k h hk=>by
 unfold Zy6 at h;split at h
 .obtain⟨n,h1,h2⟩:=bs h
  cases h2;show match Zq1 _ with|some n=>_|none=>_
  rw[h1];exact hk
 .cases h
def Zdq:List Xa->Option (List Int)
 | []=>YB []
 | .int i::r=>(Zdq r).bind λl=>YB (i::l)
 | _::_=>YC
theorem Zb3:∀{ds:List Xa} {ns:List Int},Zdq ds=YB ns->ds=ns.map Xk
 | [],_,h=>by cases h;rfl
 | .int i::r,_,h=>by
  obtain⟨l,h1,h2⟩:=bs h;cases h2;rw[Zb3 h1];rfl
 | .none::_,_,h=>by cases h
 | .bool _::_,_,h=>by cases h
 | .str _::_,_,h=>by cases h
 | .list _::_,_,h=>by cases h
 | .tuple _::_,_,h=>by cases h
 | .dict _::_,_,h=>by cases h
@[simp] theorem J3:∀ns:List Int,Zdq (ns.map Xk)=YB ns
 | []=>rfl
 | n::ns=>by rw[XM,Zdq,J3 ns];rfl
section
variable {X:Cx}{io:List Nat}{p c:Bool}{e tg:YJ}{es:List YJ}{st:YK}{fa fb fc:FE}{ra:FA}{i:Nat}
def Z8g(a:FA):FE:=λδ=>(a δ).bind λp=>match OT.datas p.1 with|[.int j]=>if rOk j=YD/\j.toNat<=Xz then YB (.nd ((Zdn 0 j.toNat).map OT.fz),p.2)else YC|_=>YC
theorem Z3f(h:ME X io p c e (Yhs (o2 ra))):ME X io p c e (o2 (Z8g ra)):=h.weak λδ K h=>by
 obtain⟨r,δ',h,k⟩:=h;obtain⟨⟨x,δ1⟩,h1,h⟩:=bs h;refine⟨x,δ1,h1,?_⟩;dsimp only at h;split at h
 case h_2=>cases h
 rename_i q;split at h
 case isFalse=>cases h
 rename_i b;cases h
 (try rw[q])
 exact⟨⟨(Zee b.1).1,(Zee b.1).2,b.2⟩,k⟩
def Z9b(a b:FE):FE:=λδ=>(a δ).bind λp=>(b p.2).bind λq=>match q.1.data with| .int k=>if rOk k=YD/\k.toNat<=Xz then YB (.nd (X5 k.toNat (.fz p.1.data)),p.2)else YC|_=>YC
theorem Yc5(h:ME X io p c e (Yio (o2 fa) (o2 fb))):ME X io p c e (o2 (Z9b fa fb)):=h.weak λδ K h=>by
 obtain⟨r,δ',h,k⟩:=h;obtain⟨⟨x,δ1⟩,h1,h⟩:=bs h;obtain⟨⟨y,δ2⟩,h2,h⟩:=bs h;refine⟨x,δ1,h1,y,δ2,h2,?_⟩
 try dsimp only at h|-
 split at h
 case h_2=>cases h
 rename_i q
 (try rw[q])
 split at h
 case isFalse=>cases h
 rename_i b;cases h;have z:=Zee b.1;exact⟨⟨by omega,by omega,b.2⟩,k⟩
def Zl7(a:FA):FE:=λδ=>(a δ).bind λp=>match OT.datas p.1 with|[.list es]=>(Zdq es).bind λns=>if ns.length<4095 then YB (.fz (.int (Zw7 ns)),p.2)else YC|_=>YC
theorem Zxz(h:ME X io p c e (Zvt (o2 ra))):ME X io p c e (o2 (Zl7 ra)):=h.weak λδ K h=>by
 obtain⟨r,δ',h,k⟩:=h;obtain⟨⟨x,δ1⟩,h1,h⟩:=bs h;refine⟨x,δ1,h1,?_⟩;dsimp only at h;split at h
 case h_2=>cases h
 rename_i q;obtain⟨ns,h2,h⟩:=bs h;split at h
 case isFalse=>cases h
 cases h
 (try rw[q])
 exact⟨ns,by rw[Zb3 h2],‹_›,k⟩
def Zoj(a b:FE):FE:=λδ=>(a δ).bind λp=>match p.1.data with
 | .list es=>(Zdq es).bind λns=>if ns.length<=2^20 then(b p.2).bind λq=>match q.1.data with
  | .int k=>if k∈ns then YB (.fz (.int (ns.idxOf k:Nat)),q.2)else YC
  | _=>YC else YC
 | _=>YC
theorem Z0g(h:ME X io p c e (Z3o (o2 fa) (o2 fb))):ME X io p c e (o2 (Zoj fa fb)):=h.weak λδ K h=>by
 obtain⟨r,δ',h,k⟩:=h;obtain⟨⟨x,δ1⟩,h1,h⟩:=bs h;refine⟨x,δ1,h1,?_⟩
 try dsimp only at h|-
 split at h
 case h_2=>cases h
 rename_i q;obtain⟨ns,h2,h⟩:=bs h;split at h
 case isFalse=>cases h
 obtain⟨⟨y,δ2⟩,h3,h⟩:=bs h;refine⟨ns,by rw[q,Zb3 h2],‹_›,y,δ2,h3,?_⟩
 try dsimp only at h|-
 split at h
 case h_2=>cases h
 rename_i q2
 (try rw[q2])
 split at h
 case isFalse=>cases h
 cases h;exact⟨‹_›,k⟩
def Z85(i:Nat)(a:FE):FE:=λδ=>match δ[i]? with
 | some (YB (.nd _))=>(a δ).bind λp=>match p.2[i]? with
  | some (YB (.nd ts))=>match p.1.data with
   | .int j=>match ixN ts.length j with
    | some k=>match ts[k]? with
     | some (.fz d)=>if ts.length<=Xz then YB (.fz d,p.2.set i (YB (.nd (ts.eraseIdx k))))else YC
     | _=>YC
    | none=>YC
   | _=>YC
  | _=>YC
 | _=>YC
theorem Z3j(h:ME X io p c e (Yd2 i (o2 fa))):ME X io p c e (o2 (Z85 i fa)):=h.weak λδ K h=>by
 obtain⟨r,δ',h,k⟩:=h;unfold Z85 at h;unfold Yd2;split at h
 case h_2=>cases h
 rename_i q;(try rw[q]);obtain⟨⟨x,δ1⟩,h1,h⟩:=bs h;refine⟨x,δ1,h1,?_⟩
 try dsimp only at h|-
 split at h
 case h_2=>cases h
 rename_i q2;(try rw[q2])
 try dsimp only
 split at h
 case h_2=>cases h
 rename_i j q3;(try rw[q3]);show match ixN _ j with|some k=>_|none=>_
 split at h
 case h_2=>cases h
 rename_i q4;(try rw[q4]);(try dsimp only);split at h
 case h_2=>cases h
 rename_i q5;(try rw[q5]);split at h
 case isFalse=>cases h
 cases h;exact⟨‹_›,k⟩
end
variable {G:Xc}
section
variable {X:Cx}{io:List Nat}{p c:Bool}{e a b:YJ}{es:List YJ}{m ma mb:MEt}{mr:MAt}{pos apos cpos px py pt sp kp:Pos}{i j:Nat}{x y:Str}{fa fb:FE}{ra:FA}{st:YK}
def Yhl(a:FA):FE:=λδ=>(a δ).bind λp=>if p.1.length<=Xz then YB (.tp p.1,p.2)else YC
def Z35(i c:Nat)(e:FE):FS:=λδ=>match δ[i]? with
 | some (YB (.tp ts))=>match ts[c]? with
  | some (.nd us)=>wE e (λr _=>if us.length<Xz then .nx (δ.set i (YB (.tp (ts.set c (.nd (us++[.fz r.data]))))))else .bad) δ
  | _=>.bad
 | _=>.bad
def Yi5(i j:Nat)(a:FA):FS:=λδ=>match a δ with
 | some (rs,δ1)=>match OT.datas rs with
  | [d,e]=>.nx ((δ1.set i (YB (.fz d))).set j (YB (.fz e)))
  | _=>.bad
 | none=>.bad
end
class NoStar (e:YJ):Prop where
 h:∀es env,Xr (e::es) env=(YF,eval e env)::Xr es env
instance nx_Name{p:Pos}:NoStar (.Name x p):=⟨λ_ _=>rfl⟩
instance nx_Constant{x k}{p:Pos}:NoStar (.Constant x k p):=⟨λ_ _=>rfl⟩
instance nx_BinOp{a o b}{p:Pos}:NoStar (.BinOp a o b p):=⟨λ_ _=>rfl⟩
instance nx_Compare{a o b}{p:Pos}:NoStar (.Compare a o b p):=⟨λ_ _=>rfl⟩
instance nx_Call{f a k}{p:Pos}:NoStar (.Call f a k p):=⟨λ_ _=>rfl⟩
instance nx_List{a}{p:Pos}:NoStar (.List a p):=⟨λ_ _=>rfl⟩
instance nx_Tuple{a k}{p:Pos}:NoStar (.Tuple a k p):=⟨λ_ _=>rfl⟩
instance nx_Subscript{a b}{p:Pos}:NoStar (.Subscript a b p):=⟨λ_ _=>rfl⟩
instance nx_ListComp{a b s}{p:Pos}:NoStar (.ListComp a b s p):=⟨λ_ _=>rfl⟩
theorem Ze{p p2 c2:Bool}[NoStar e](ha:ME X io p c e (o2 fa))(hr:MA X io p' c' es (o2 ra))(hc:p'=YD\/c=YD:=by first|exact QT rfl|exact QF rfl)(h2:(p&&p')=p2:=by rfl)(h3:(c&&c')=c2:=by rfl):MA X io p2 c2 (e::es) (o2 (Zc fa ra)) :=
 h2▸h3▸Z43 (Z5o ha hr hc (NoStar.h es X.env))
theorem Zhc{p:Bool}(h:ME X io p c e m)(h2:p=p':=by rfl)(h3:c=c':=by rfl):ME X io p' c' e m:=h2▸h3▸h
theorem Zyu{base:YH}{k:Nat}{f:YG}{fd:XJ}{S:List Xa->(OT->Prop)->Prop}(h:∀ds k,¬S ds k):FnOk P w K mg base CX k f fd ps (spD K S):=by
 have h':∀{vs H Q E},spD K S vs H Q E->False:=λq=>by
  obtain⟨_,ds,k,_,z,_⟩:=q;exact h ds k z
 exact⟨λvs H Q E q=>(h' q).elim,λA outer s H args us vs Q E _ _ _ _ q=>(h' q).elim⟩
variable {G:Xc}
section
variable {X:Cx}{io:List Nat}{p c:Bool}{e a b:YJ}{es:List YJ}{m ma mb:MEt}{mr:MAt}{pos apos cpos px py pt sp kp:Pos}{i j:Nat}{x y:Str}{fa fb:FE}{ra:FA}{st:YK}{u:FS}
def insI(x:Int):List Int->List Int
 | []=>[x]
 | y::ys=>if x<=y then x::y::ys else y::insI x ys
def Yh:List Int->List Int
 | []=>[]
 | x::xs=>insI x (Yh xs)
theorem insI_perm(x:Int):∀l,(insI x l).Perm (x::l)
 | []=>.refl _
 | y::ys=>by
  unfold insI;split
  .exact .refl _
  .exact((insI_perm x ys).cons y).trans (.swap x y ys)
theorem Z2:∀l,(Yh l).Perm l
 | []=>.refl _
 | x::xs=>(insI_perm x _).trans ((Z2 xs).cons x)
theorem Zj1(x:Int):∀{l},l.Pairwise (·<=·)->(insI x l).Pairwise (·<=·)
 | [],_=>.cons (λ_ m=>nomatch m) .nil
 | y::ys,h=>by
  unfold insI;cases h with
  | cons h1 h2=>
   split
   .rename_i c
    refine .cons (λz m=>?_) (.cons h1 h2);rcases Xm.mp m with rfl|m
    .exact c
    .exact Bw c (h1 z m)
   .rename_i c
    refine .cons (λz m=>?_) (Zj1 x h2);rcases Xm.mp ((insI_perm x ys).mem_iff.mp m)with rfl|m
    .omega
    .exact h1 z m
theorem W8:∀l,(Yh l).Pairwise (·<=·)
 | []=>.nil
 | x::xs=>Zj1 x (W8 xs)
theorem J9:∀{l₁ l₂:List Int},l₁.Perm l₂->l₁.Pairwise (·<=·)->l₂.Pairwise (·<=·)->l₁=l₂
 | [],l₂,h,_,_=>h.nil_eq
 | a::l₁,[],h,_,_=>h.eq_nil
 | a::l₁,b::l₂,h,h1,h2=>by
  cases h1 with
  | cons p1 q1=>
   cases h2 with
   | cons p2 q2=>
    have e:a=b:=by
     have m1:a∈b::l₂:=h.mem_iff.mp (.head _);have m2:b∈a::l₁:=h.mem_iff.mpr (.head _);rcases Xm.mp m1 with e|m1
     .exact e
     .rcases Xm.mp m2 with e|m2
      .exact e.symm
      .have:=p2 a m1
       have:=p1 b m2;omega
    subst e;rw[J9 h.cons_inv q1 q2]
def Z4d(K:Xc):List V->Hp->VK->Prop:=λxs H Q=>∃(a:YG) (ns:List Int),xs=[.ref a]/\SqL K H a (ns.map V.int)/\ns.length<64/\∀l,H l=YC->Q (.ref l) (upd H l (.lst ((Yh ns).map V.int)))
theorem Z48:∀{its:List Xe} {ns:List Int},BV its ns->Vals (ns.map V.int) its
 | [],_,h=>by cases h;exact .nil
 | v::its,_,h=>by
  cases h with
  | cons n t h=>exact .cons ⟨_,rfl⟩ (Z48 h)
theorem Zex(hK:X.K=K):Zbn X (.builtin "sorted") (Z4d K):=by
 subst hK;intro pins s Y H xs us Q I r h;obtain⟨l,ns,rfl,hs,h64,q⟩:=h;obtain⟨u,rfl,ru⟩:=vals1 r;cases(show u=QZ l from ru);obtain⟨its,rv,pl,hz⟩:=I.list hs;have hl:=rv.length;rw[Xd]at hl;refine sorted_ints pl.isList (Zge rv) (by omega) λout ns' a1 a2 a3=>?_;obtain⟨e,he⟩:=sortedAll_at s.heap its out;have en:ns'=Yh ns:=J9 (a2.trans (Z2 ns).symm) a3 (W8 ns);subst en;refine⟨.ref (s.heap.objs.size+1),_,I.laid (t':=s.toks) (o:=.lst ((Yh ns).map V.int)) (λb ob q=>sortedAll_old q) (by omega) ⟨?_,out.toList,e,Z48 a1,he⟩,rfl,q _ (I.hok.fresh (by omega))⟩;rw[Xd,(Z2 ns).length_eq,Qk];omega
def Z29:List Xa->(OT->Prop)->Prop:=λds k=>n1 (λd=>∃ns:List Int,d= .list (ns.map Xk)/\ns.length<64/\k (.nd (((Yh ns).map Xk).map OT.fz))) ds
theorem Ziq:PN G (Z4d G) Z29:=λH L xs ds k Q hx h kk=>by
 obtain⟨v,d,rfl,rfl,q,ns,e,h64,h⟩:=hx.one h;have fin:∀(p:YG),H p=YC->Q (.ref p) (upd H p (.lst ((Yh ns).map V.int))):=λp hp=>kk _ _ _ [p] (Z9 hp _) (Own.list hp (Das.ints _)) (Zdf p) (Zay hp) h;subst e;generalize ed:Qu (ns.map Xk)=d at q;cases q with
 | lst l e r=>
  cases ed;exact⟨_,ns,rfl,by rw[r.int_inv]at e;exact .inl e,h64,fin⟩
 | scr ks=>
  injection ed with ed;have:ns=_:=List.map_inj_right (λx y z=>by injection z)|>.mp ed;subst this;exact⟨_,_,rfl,ks.sq,h64,fin⟩
 | _=>cases ed
def Zfa:List Xa->Option OT:=λds=>match ds with|[.list es]=>(Zdq es).bind λns=>if ns.length<64 then YB (.nd (((Yh ns).map Xk).map OT.fz))else YC|_=>YC
theorem Zms:∀ds r k,Zfa ds=YB r->k r->Z29 ds k:=λds r k h hk=>by
 unfold Zfa at h;split at h
 case h_2=>cases h
 obtain⟨ns,h1,h⟩:=bs h;split at h
 case isFalse=>cases h
 rename_i h2;cases h;exact⟨ns,by rw[Zb3 h1],h2,hk⟩
end
structure Gives(P:Qi)(w:QJ)(it:YG)(f:List YG)(St:YH->Prop)(x:Xe)(St':YH->Prop):Prop where
 mem:it∈f
 run:∀{A:QB} {E:Xe->Xh->Prop} {s:Xh} {Q:Xe->Xh->Prop},St s.heap->(∀h',St' h'->Uh it s.heap h'->Q x { s with heap:=h' })->X8 (Qm P w) A (JF (.ref it)) Q E s
 keep:∀h h',(∀c∈f,∀o,h.get? c=YB o->h'.get? c=YB o)->St h->St h'
 keep':∀h h',(∀c∈f,∀o,h.get? c=YB o->h'.get? c=YB o)->St' h->St' h'
structure Zkz(P:Qi)(w:QJ)(it:YG)(f:List YG)(St:YH->Prop):Prop where
 mem:it∈f
 run:∀{A:QB} {E:Xe->Xh->Prop} {s:Xh} {Q:Xe->Xh->Prop},A.handled=YC->St s.heap->(∀h' e,Heap.ExtBut it s.heap h'->(∃o,h'.get? e=YB o/\o.cls= .type "StopIteration")->E (.ref e) { s with heap:=h' })->X8 (Qm P w) A (JF (.ref it)) Q E s
 keep:∀h h',(∀c∈f,∀o,h.get? c=YB o->h'.get? c=YB o)->St h->St h'
structure ZA(z TI TO i1 i2:YG)(f1 f2:List YG):Prop where
 TIz:TI≠z
 TOz:TO≠z
 a1:∀c∈f1,c≠z/\c≠TO/\c≠i2
 a2:∀c∈f2,c≠z/\c≠TO/\c≠i1
section
variable {P:Qi}{w:QJ}{A:QB}{E:Xe->Xh->Prop}{s:Xh}
theorem Zlk{T:YG}{a b x:Xe}{k:Nat}{Q:Unit->Xh->Prop}(hT:Vo s.heap T a b)(h:∀h',h'.get? T=YB { cls:=.type "tuple",data:=.seq ((#[a,b]:Array Xe).setIfInBounds k x) }->Uh T s.heap h'->Q () { s with heap:=h' }) :
  X8 (Qm P w) A (updateSeq T (·.setIfInBounds k x)) Q E s:=wpAny_updateSeq_pair hT h
theorem Zyq{z TI TO i1 i2:YG}{f1 f2:List YG}{S1 T1 S2 T2:YH->Prop}{x y a b:Xe}(D:ZA z TI TO i1 i2 f1 f2)(G1:Gives P w i1 f1 S1 x T1)(G2:Gives P w i2 f2 S2 y T2)
  (hz:IsZip s.heap z TI TO .none) (hTI:Vo s.heap TI (.ref i1) (.ref i2)) (hTO:Vo s.heap TO a b) (h1:S1 s.heap) (h2:S2 s.heap)
  (hQ:∀h',IsZip h' z TI TO (rawInt s.heap.objs.size)->Vo h' TO x y->T1 h'->T2 h'->Vo h' s.heap.objs.size x y ->
   (∀ c o,c∉[z,TO,i1,i2]->s.heap.get? c=YB o->h'.get? c=YB o)->Q (.ref s.heap.objs.size) { s with heap:=h' }) :
  X8 (Qm P w) A (Builtin.«zip.__next__» ⟨[.ref z],[]⟩) (λfin s'=>∃v,fin= .done (.ret v)/\Q v s') E s:=by
 obtain⟨i1z,i1O,i12⟩:=D.a1 i1 G1.mem;obtain⟨i2z,i2O,i21⟩:=D.a2 i2 G2.mem;have r1:z∉f1/\TO∉f1/\i2∉f1:=⟨λm=>(D.a1 z m).1 rfl,λm=>(D.a1 TO m).2.1 rfl,λm=>(D.a1 i2 m).2.2 rfl⟩;have r2:z∉f2/\TO∉f2/\i1∉f2:=⟨λm=>(D.a2 z m).1 rfl,λm=>(D.a2 TO m).2.1 rfl,λm=>(D.a2 i1 m).2.2 rfl⟩;have st:∀{b:YG} {h h':YH} {f:List YG},Uh b h h'->b∉f->∀c∈f,∀o,h.get? c=YB o->h'.get? c=YB o:=λsb hb c hc o e=>sb.extBut _ _ (λq=>hb (q▸hc)) e;show X8 _ _ (field (.ref z) 2>>=_) _ _ _;refine Xi (Vp hz rfl (x:=.bool YF) rfl ?_);show X8 _ _ (field (.ref z) 3>>=_) _ _ _;refine Xi (Vp hz rfl (x:=.ref TI) rfl (Xi (VH hTI rfl ?_)));show X8 _ _ (BL (.ref z)>>=_) _ _ _;refine Xi ?_;unfold BL;refine Xi (Vp hz rfl (x:=.none) rfl (Qd ?_));simp only[if_true];refine Xi (wpAny_rule (Xi (Vp hz rfl (x:=.ref TO) rfl (Xi (V1 hz (by simp) λh3 z3 b3=>?_)))));replace z3:IsZip h3 z TI TO .ellipsis:=z3;refine Xi ?_;simp only[List.zipIdx_cons,List.zipIdx_nil,List.forIn_cons,UL];refine Xi (Xi (wpAny_onRaise ?_));show X8 _ _ (JF (.ref i1)>>=_) _ _ _;refine Xi (G1.run (s:={ s with heap:=h3 }) (G1.keep _ _ (st b3 r1.1) h1) λh4 k4 b4=>Qd ?_);have o4:Vo h4 TO a b:=b4.extBut _ _ i1O.symm (b3.extBut _ _ D.TOz hTO);refine Xi (VH o4 rfl (Xi (Zlk (s:={ s with heap:=h4 }) o4 λh5 o5 b5=>Xi (wpAny_letGo (Qd ?_)))));replace o5:Vo h5 TO x b:=o5;refine Xi (Xi (wpAny_onRaise ?_));show X8 _ _ (JF (.ref i2)>>=_) _ _ _;refine Xi (G2.run (s:={ s with heap:=h5 }) (G2.keep _ _ (st b5 r2.2.1) (G2.keep _ _ (st b4 r2.2.2) (G2.keep _ _ (st b3 r2.1) h2))) λh6 k6 b6=>Qd ?_);have o6:Vo h6 TO x b:=b6.extBut _ _ i2O.symm o5;refine Xi (VH o6 rfl (Xi (Zlk (s:={ s with heap:=h6 }) o6 λh7 o7 b7=>Xi (wpAny_letGo (Qd (Qd ?_))))));replace o7:Vo h7 TO x y:=o7;refine Xi (VH o7 rfl (Xi (wpAny_newTuple ?_)));have sz:h7.objs.size=s.heap.objs.size:=by rw[b7.1,b6.1,b5.1,b4.1,b3.1]
 have z7:IsZip h7 z TI TO .ellipsis:=b7.extBut _ _ D.TOz.symm (b6.extBut _ _ i2z.symm (b5.extBut _ _ D.TOz.symm (b4.extBut _ _ i1z.symm z3)));have t1:T1 h7:=G1.keep' _ _ (st b7 r1.2.1) (G1.keep' _ _ (st b6 r1.2.2) (G1.keep' _ _ (st b5 r1.2.1) k4));have t2:T2 h7:=G2.keep' _ _ (st b7 r2.2.1) k6;have old:∀c o,c∉[z,TO,i1,i2]->s.heap.get? c=YB o->h7.get? c=YB o:=λc o n e=>by
  simp only[Xm,U8,or_false,not_or]at n;exact b7.extBut _ _ n.2.1 (b6.extBut _ _ n.2.2.2 (b5.extBut _ _ n.2.1 (b4.extBut _ _ n.2.2.1 (b3.extBut _ _ n.1 e))))
 show X8 _ _ (Builtin.SmallTypes.ownedTupleHandOut (.ref z) (.ref h7.objs.size)>>=_) _ _ _;refine Xi ?_;unfold Builtin.SmallTypes.ownedTupleHandOut;have zp:IsZip (h7.push { cls:=.type "tuple",data:=.seq #[x,y] }) z TI TO .ellipsis:=Xl _ z7;refine Xi (V1 zp (by simp) λh8 z8 b8=>?_);replace z8:IsZip h8 z TI TO (rawInt h7.objs.size):=z8;refine V1 z8 (by simp) λh9 z9 b9=>?_;replace z9:IsZip h9 z TI TO (rawInt h7.objs.size):=z9;have up:∀c o,c≠z->h7.get? c=YB o->h9.get? c=YB o:=λc o n e=>b9.extBut _ _ n (b8.extBut _ _ n (Xl _ e));have nz:h7.objs.size≠z:=X6 (XN z7);have p9:Vo h9 h7.objs.size x y:=b9.extBut _ _ nz (b8.extBut _ _ nz (Qe _ rfl));refine Qd ⟨_,rfl,?_⟩;show Q (.ref h7.objs.size) _;rw[sz]at z9 p9|-
 exact hQ h9 z9 (up _ _ D.TOz o7) (G1.keep' _ _ (λc hc o e=>up c o (λq=>r1.1 (q▸hc)) e) t1) (G2.keep' _ _ (λc hc o e=>up c o (λq=>r2.1 (q▸hc)) e) t2) p9 λc o n e=>up c o (λq=>n (by simp[q])) (old c o n e)
theorem Z2c{z TI TO i1 i2:YG}{f1 f2:List YG}{S1 T1 S2:YH->Prop}{a b:Xe}{Q:Fin->Xh->Prop}(hh:A.handled=YC)(D:ZA z TI TO i1 i2 f1 f2)(g1:Zkz P w i1 f1 S1\/(∃x,Gives P w i1 f1 S1 x T1)/\Zkz P w i2 f2 S2)
  (hz:IsZip s.heap z TI TO .none) (hTI:Vo s.heap TI (.ref i1) (.ref i2)) (hTO:Vo s.heap TO a b) (h1:S1 s.heap) (h2:S2 s.heap)
  (hE:∀h' e,(∀c o,c∉[z,TO,i1,i2]->s.heap.get? c=YB o->h'.get? c=YB o)->(∃o,h'.get? e=YB o/\o.cls= .type "StopIteration")->E (.ref e) { s with heap:=h' }) :
  X8 (Qm P w) A (Builtin.«zip.__next__» ⟨[.ref z],[]⟩) Q E s:=by
 have r1:z∉f1/\TO∉f1/\i2∉f1:=⟨λm=>(D.a1 z m).1 rfl,λm=>(D.a1 TO m).2.1 rfl,λm=>(D.a1 i2 m).2.2 rfl⟩;have r2:z∉f2/\TO∉f2/\i1∉f2:=⟨λm=>(D.a2 z m).1 rfl,λm=>(D.a2 TO m).2.1 rfl,λm=>(D.a2 i1 m).2.2 rfl⟩;have st:∀{b:YG} {h h':YH} {f:List YG},Uh b h h'->b∉f->∀c∈f,∀o,h.get? c=YB o->h'.get? c=YB o:=λsb hb c hc o e=>sb.extBut _ _ (λq=>hb (q▸hc)) e;show X8 _ _ (field (.ref z) 2>>=_) _ _ _;refine Xi (Vp hz rfl (x:=.bool YF) rfl ?_);show X8 _ _ (field (.ref z) 3>>=_) _ _ _;refine Xi (Vp hz rfl (x:=.ref TI) rfl (Xi (VH hTI rfl ?_)));show X8 _ _ (BL (.ref z)>>=_) _ _ _;refine Xi ?_;unfold BL;refine Xi (Vp hz rfl (x:=.none) rfl (Qd ?_));simp only[if_true];refine Xi (wpAny_rule (Xi (Vp hz rfl (x:=.ref TO) rfl (Xi (V1 hz (by simp) λh3 z3 b3=>?_)))));replace z3:IsZip h3 z TI TO .ellipsis:=z3;refine Xi ?_;simp only[List.zipIdx_cons,List.zipIdx_nil,List.forIn_cons,UL];refine Xi (Xi (wpAny_onRaise ?_));show X8 _ _ (JF (.ref i1)>>=_) _ _ _;rcases g1 with G1|⟨⟨x,G1⟩,G2⟩
 .obtain⟨i1z,i1O,i12⟩:=D.a1 i1 G1.mem
  refine Xi (G1.run (s:={ s with heap:=h3 }) hh (G1.keep _ _ (st b3 r1.1) h1) λh4 e b4 he=>?_);obtain⟨oe,hoe,hce⟩:=he;have z4:IsZip h4 z TI TO .ellipsis:=b4 _ _ i1z.symm z3;have ez:e≠z:=λq=>by subst q;rw[z4]at hoe;cases hoe;simp at hce
  refine V1 z4 (by simp) λh5 _ b5=>hE h5 e (λc o n q=>?_) ⟨oe,b5.extBut _ _ ez hoe,hce⟩;simp only[Xm,U8,or_false,not_or]at n;exact b5.extBut _ _ n.1 (b4 _ _ n.2.2.1 (b3.extBut _ _ n.1 q))
 .obtain⟨i1z,i1O,i12⟩:=D.a1 i1 G1.mem
  obtain⟨i2z,i2O,i21⟩:=D.a2 i2 G2.mem;refine Xi (G1.run (s:={ s with heap:=h3 }) (G1.keep _ _ (st b3 r1.1) h1) λh4 k4 b4=>Qd ?_);have o4:Vo h4 TO a b:=b4.extBut _ _ i1O.symm (b3.extBut _ _ D.TOz hTO);refine Xi (VH o4 rfl (Xi (Zlk (s:={ s with heap:=h4 }) o4 λh5 o5 b5=>Xi (wpAny_letGo (Qd ?_)))));refine Xi (Xi (wpAny_onRaise ?_));show X8 _ _ (JF (.ref i2)>>=_) _ _ _;refine Xi (G2.run (s:={ s with heap:=h5 }) hh (G2.keep _ _ (st b5 r2.2.1) (G2.keep _ _ (st b4 r2.2.2) (G2.keep _ _ (st b3 r2.1) h2))) λh6 e b6 he=>?_);obtain⟨oe,hoe,hce⟩:=he;have z6:IsZip h6 z TI TO .ellipsis:=b6 _ _ i2z.symm (b5.extBut _ _ D.TOz.symm (b4.extBut _ _ i1z.symm z3));have ez:e≠z:=λq=>by subst q;rw[z6]at hoe;cases hoe;simp at hce
  refine V1 z6 (by simp) λh7 _ b7=>hE h7 e (λc o n q=>?_) ⟨oe,b7.extBut _ _ ez hoe,hce⟩;simp only[Xm,U8,or_false,not_or]at n;exact b7.extBut _ _ n.1 (b6 _ _ n.2.2.2 (b5.extBut _ _ n.2.1 (b4.extBut _ _ n.2.2.1 (b3.extBut _ _ n.1 q))))
theorem Zsz{z TI TO i1 i2:YG}{f1 f2:List YG}{S1 T1 S2 T2:YH->Prop}{x y a b:Xe}{Q:Option Xe->Xh->Prop}(D:ZA z TI TO i1 i2 f1 f2)(G1:Gives P w i1 f1 S1 x T1)(G2:Gives P w i2 f2 S2 y T2)
  (hz:IsZip s.heap z TI TO .none) (hTI:Vo s.heap TI (.ref i1) (.ref i2)) (hTO:Vo s.heap TO a b) (h1:S1 s.heap) (h2:S2 s.heap)
  (hQ:∀h',IsZip h' z TI TO (rawInt s.heap.objs.size)->Vo h' TO x y->T1 h'->T2 h'->Vo h' s.heap.objs.size x y ->
   (∀ c o,c∉[z,TO,i1,i2]->s.heap.get? c=YB o->h'.get? c=YB o)->Q (YB (.ref s.heap.objs.size)) { s with heap:=h' }):X8 (Qm P w) A (pyNext (.ref z)) Q E s:=by
 have hT:s.TypeIs (.ref z) "zip" :=⟨_,hz,rfl⟩;unfold pyNext;exact Xi (wpAny_attempt (U4 (name:=Str.ofString "__next__") hT F.slot_zip_next (VJ F.slot_zip_next hT F.entry_zip_next (Zyq D G1 G2 hz hTI hTO h1 h2 λh' a1 a2 a3 a4 a5 a6=>Qd (hQ h' a1 a2 a3 a4 a5 a6)) (F.args_zip_next_1 _))))
theorem Zv8{z TI TO i1 i2:YG}{f1 f2:List YG}{S1 T1 S2:YH->Prop}{a b:Xe}{Q:Option Xe->Xh->Prop}(hh:A.handled=YC)(D:ZA z TI TO i1 i2 f1 f2)(g1:Zkz P w i1 f1 S1\/(∃x,Gives P w i1 f1 S1 x T1)/\Zkz P w i2 f2 S2)
  (hz:IsZip s.heap z TI TO .none) (hTI:Vo s.heap TI (.ref i1) (.ref i2)) (hTO:Vo s.heap TO a b) (h1:S1 s.heap) (h2:S2 s.heap)
  (hQ:∀h',(∀c o,c∉[z,TO,i1,i2]->s.heap.get? c=YB o->h'.get? c=YB o)->Q YC { s with heap:=h' }):X8 (Qm P w) A (pyNext (.ref z)) Q E s:=by
 have hT:s.TypeIs (.ref z) "zip" :=⟨_,hz,rfl⟩;unfold pyNext;refine Xi (wpAny_attempt (U4 (name:=Str.ofString "__next__") hT F.slot_zip_next (VJ F.slot_zip_next hT F.entry_zip_next (Z2c hh D g1 hz hTI hTO h1 h2 λh' e hk he=>?_) (F.args_zip_next_1 _))));obtain⟨o,ho,hc⟩:=he;exact Xi (wpAny_isInstance (T :="StopIteration") (b:=YD) ⟨o,ho,hc⟩ isSubtype_stop (Qd (hQ _ hk)))
theorem Zv2{it t:YG}{items:Array Xe}{x:Xe}(hx:items[i]? =YB x):Gives P w it [it,t] (λh=>IsTupIter h it t i/\IsTup h t items) x (λh=>IsTupIter h it t (i+1)) where
 mem:=by simp
 run:=fun{A E s Q} ⟨hit,ht⟩ hQ=>by
  obtain⟨o,ho,hc,hd⟩:=id hit;obtain⟨ol,hol,_,nl,hdl⟩:=ht;unfold JF;refine Xi (U4 (name:=Str.ofString "__next__") hit.typeIs slot_tupleiter_next (VJ slot_tupleiter_next hit.typeIs entry_tupleiter_next ?_ (args_tupleiter_next _)));show X8 _ _ (field (.ref it) 0>>=_) _ _ s;refine Xi (Vp ho hd (x:=.ref t) rfl ?_);show X8 _ _ (if(QZ t==JB)=YD then _ else _) _ _ s;rw[YM (show¬((QZ t==JB)=YD)from Xn)];show X8 _ _ (field (.ref it) 1>>=_) _ _ s;refine Xi (Vp ho hd (x:=.int i 0) rfl ?_);show X8 _ _ (seqItems? (.ref t)>>=_) _ _ s;refine Xi (VH hol hdl ?_);simp only[Q7,hx];refine Xi (wpAny_setField ho hd (by simp) (Qd ⟨x,rfl,Qd (hQ _ ?_ (Heap.SameBut.update ..))⟩));exact⟨_,Heap.get?_update_self _ ho (Obj.isFreed_of_fields (Obj.data_mapFields hd _)),(Obj.cls_mapFields ..).trans hc,by rw[Obj.data_mapFields hd];simp[rawInt]⟩
 keep:=λh h' k ⟨⟨o,a1,a2⟩,⟨o',b1,b2⟩⟩=>⟨⟨o,k it (by simp) o a1,a2⟩,⟨o',k t (by simp) o' b1,b2⟩⟩
 keep':=λh h' k ⟨o,a1,a2⟩=>⟨o,k it (by simp) o a1,a2⟩
theorem Z10{it t:YG}{items:Array Xe}(hx:items[i]? =YC):Zkz P w it [it,t] (λh=>IsTupIter h it t i/\IsTup h t items) where
 mem:=by simp
 run:=fun{A E s Q} hh ⟨hit,ht⟩ hE=>by
  obtain⟨o,ho,hc,hd⟩:=id hit;obtain⟨ol,hol,_,nl,hdl⟩:=ht;unfold JF;refine Xi (U4 (name:=Str.ofString "__next__") hit.typeIs slot_tupleiter_next (VJ slot_tupleiter_next hit.typeIs entry_tupleiter_next ?_ (args_tupleiter_next _)));show X8 _ _ (field (.ref it) 0>>=_) _ _ s;refine Xi (Vp ho hd (x:=.ref t) rfl ?_);show X8 _ _ (if(QZ t==JB)=YD then _ else _) _ _ s;rw[YM (show¬((QZ t==JB)=YD)from Xn)];show X8 _ _ (field (.ref it) 1>>=_) _ _ s;refine Xi (Vp ho hd (x:=.int i 0) rfl ?_);show X8 _ _ (seqItems? (.ref t)>>=_) _ _ s;refine Xi (VH hol hdl ?_);simp only[Q7,hx];refine Xi (wpAny_rule (Xi (wpAny_setField ho hd (by simp) ?_)));show X8 _ _ (newExc (.type "StopIteration") []>>=_) _ _ _;refine Xi ?_;simp only[newExc,newTuple];refine Xi (wpAny_newObj_type ?_ (by size_fits));refine Xi (m:=firstArgMember _ _) (wpAny_of_eq (a:=JB) (by first|rfl|(simp only[firstArgMember];rfl)) ?_);refine wpAny_newObj_type ?_ (by size_fits);simp only[raiseNew];refine Xi (wpAny_handled ?_)
  first|rw[show A.in1.handled=YC from hh]|rw[hh]
  exact Xi (Qd (wpAny_throw (hE _ _ (((Heap.SameBut.update ..).extBut.push _).push _) ⟨_,Qe _ rfl,rfl⟩)))
 keep:=λh h' k ⟨⟨o,a1,a2⟩,⟨o',b1,b2⟩⟩=>⟨⟨o,k it (by simp) o a1,a2⟩,⟨o',k t (by simp) o' b1,b2⟩⟩
end
abbrev zT1(h:YH)(a:YG):YH:=h.push { cls:=.type "tuple_iterator",data:=.fields #[.ref a,.int 0 0] }
abbrev zT2(h:YH)(a b:YG):YH:=(zT1 h a).push { cls:=.type "tuple_iterator",data:=.fields #[.ref b,.int 0 0] }
abbrev zT3(h:YH)(a b:YG):YH:=(zT2 h a b).push { cls:=.type "tuple",data:=.seq #[.ref h.objs.size,.ref (zT1 h a).objs.size] }
abbrev zT4(h:YH)(a b:YG):YH:=(zT3 h a b).push { cls:=.type "tuple",data:=.seq #[.none,.none] }
abbrev zT5(h:YH)(a b:YG):YH:=(zT4 h a b).push { cls:=.type "zip",data:=.fields #[.none,.bool YF,.bool YF,.ref (zT2 h a b).objs.size,.ref (zT3 h a b).objs.size] }
theorem Z00(a b:YG)(xs ys:Array Xe) :
  Meets (Builtin.«zip.__new__» ⟨[.type "zip",.ref a,.ref b],[]⟩) (λ_ R s=>IsTup s.heap a xs/\IsTup s.heap b ys/\R (.ok (.ret (.ref (zT4 s.heap a b).objs.size))) { s with heap:=zT5 s.heap a b }) :=
 .of_wp λprog w A R s h=>by
  obtain⟨hp,g,d,tk,os⟩:=s;obtain⟨h1,h2,h⟩:=h;have hsub:=sub_zip;have hL1:IsTup (Xh.heap ⟨hp,g,d,tk,os⟩) a xs:=h1;have hL2:IsTup (Xh.heap ⟨hp.push { cls:=.type "tuple_iterator",data:=.fields #[.ref a,.int 0 0] },g,d,tk,os⟩) b ys:=h2.push _
  wp_walk using iter_tuple hL1,iter_tuple hL2
  exact⟨_,rfl,h⟩
section
variable {P:Qi}{w:QJ}{A:QB}{E:Xe->Xh->Prop}{s:Xh}
theorem Zwu{b:YG}{xs ys:Array Xe}(h1:IsTup s.heap a xs)(h2:IsTup s.heap b ys)
  (h:∀h' n,n=s.heap.objs.size->IsZip h' (n+4) (n+2) (n+3) .none->Vo h' (n+2) (.ref n) (.ref (n+1))->Vo h' (n+3) .none .none->IsTupIter h' n a 0->IsTupIter h' (n+1) b 0 ->
   (∀ c o,s.heap.get? c=YB o->h'.get? c=YB o)->Q (.ref (n+4)) { s with heap:=h' }):X8 (Qm P w) A (call (.type "zip") [.ref a,.ref b]) Q E s:=by
 refine callType_new F.called_zip (by decide) (F.typeCall_zip_2 _ _) (F.newCall_zip_2 _ _) (λobj=>F.args_object_init_3 obj _ _) F.entry_zip_new (Z00 a b xs ys) ⟨h1,h2,?_⟩;have e1:(zT1 s.heap a).objs.size=s.heap.objs.size+1:=Bg ..;have e2:(zT2 s.heap a b).objs.size=s.heap.objs.size+2:=by rw[Bg,e1]
 have e3:(zT3 s.heap a b).objs.size=s.heap.objs.size+3:=by rw[Bg,e2]
 have e4:(zT4 s.heap a b).objs.size=s.heap.objs.size+4:=by rw[Bg,e3]
 have up:∀{c o},(zT1 s.heap a).get? c=YB o->(zT5 s.heap a b).get? c=YB o:=λx=>Xl _ (Xl _ (Xl _ (Xl _ x)));have p5:(zT5 s.heap a b).get? (zT4 s.heap a b).objs.size=YB _:=Qe _ rfl;have p4:(zT5 s.heap a b).get? (zT3 s.heap a b).objs.size=YB _:=Xl _ (Qe _ rfl);have p3:(zT5 s.heap a b).get? (zT2 s.heap a b).objs.size=YB _:=Xl _ (Xl _ (Qe _ rfl));have p2:(zT5 s.heap a b).get? (zT1 s.heap a).objs.size=YB _:=Xl _ (Xl _ (Xl _ (Qe _ rfl)));have p1:(zT5 s.heap a b).get? s.heap.objs.size=YB _:=up (Qe _ rfl);show _/\_;rw[e2,e3,e4]at p5;rw[e1,e2]at p3;rw[e3]at p4;rw[e1]at p2;rw[e4];exact⟨⟨_,p5,rfl⟩,h _ _ rfl p5 p3 p4 ⟨_,p1,rfl,rfl⟩ ⟨_,p2,rfl,rfl⟩ λc o x=>up (Xl _ x)⟩
end
theorem nn{n a b:Nat}(h:a≠b):n+a≠n+b:=λe=>h (Nat.add_left_cancel e)
theorem n0{n b:Nat}(h:0≠b):n≠n+b:=λe=>h (Nat.add_left_cancel (n:=n) e)
theorem nlt{n a c:Nat}(h:a<n):a≠n+c:=XF (Qq h (Vk ..))
theorem ZA.new{n a b:Nat}(h1:a<n)(h2:b<n):ZA (n+4) (n+2) (n+3) n (n+1) [n,a] [n+1,b] where
 TIz:=(by first|exact nn (by decide)|exact n0 (by decide)|exact(n0 (by decide)).symm|exact nlt h1|exact nlt h2|exact(nlt h1).symm|exact(nlt h2).symm|exact XF h1|exact XF h2|exact X6 h1|exact X6 h2|omega)
 TOz:=(by first|exact nn (by decide)|exact n0 (by decide)|exact(n0 (by decide)).symm|exact nlt h1|exact nlt h2|exact(nlt h1).symm|exact(nlt h2).symm|exact XF h1|exact XF h2|exact X6 h1|exact X6 h2|omega)
 a1:=λc hc=>by
  simp only[Xm,U8,or_false]at hc;rcases hc with rfl|rfl
  .exact⟨(by first|exact nn (by decide)|exact n0 (by decide)|exact(n0 (by decide)).symm|exact nlt h1|exact nlt h2|exact(nlt h1).symm|exact(nlt h2).symm|exact XF h1|exact XF h2|exact X6 h1|exact X6 h2|omega),(by first|exact nn (by decide)|exact n0 (by decide)|exact(n0 (by decide)).symm|exact nlt h1|exact nlt h2|exact(nlt h1).symm|exact(nlt h2).symm|exact XF h1|exact XF h2|exact X6 h1|exact X6 h2|omega),(by first|exact nn (by decide)|exact n0 (by decide)|exact(n0 (by decide)).symm|exact nlt h1|exact nlt h2|exact(nlt h1).symm|exact(nlt h2).symm|exact XF h1|exact XF h2|exact X6 h1|exact X6 h2|omega)⟩
  .exact⟨(by first|exact nn (by decide)|exact n0 (by decide)|exact(n0 (by decide)).symm|exact nlt h1|exact nlt h2|exact(nlt h1).symm|exact(nlt h2).symm|exact XF h1|exact XF h2|exact X6 h1|exact X6 h2|omega),(by first|exact nn (by decide)|exact n0 (by decide)|exact(n0 (by decide)).symm|exact nlt h1|exact nlt h2|exact(nlt h1).symm|exact(nlt h2).symm|exact XF h1|exact XF h2|exact X6 h1|exact X6 h2|omega),(by first|exact nn (by decide)|exact n0 (by decide)|exact(n0 (by decide)).symm|exact nlt h1|exact nlt h2|exact(nlt h1).symm|exact(nlt h2).symm|exact XF h1|exact XF h2|exact X6 h1|exact X6 h2|omega)⟩
 a2:=λc hc=>by
  simp only[Xm,U8,or_false]at hc;rcases hc with rfl|rfl
  .exact⟨(by first|exact nn (by decide)|exact n0 (by decide)|exact(n0 (by decide)).symm|exact nlt h1|exact nlt h2|exact(nlt h1).symm|exact(nlt h2).symm|exact XF h1|exact XF h2|exact X6 h1|exact X6 h2|omega),(by first|exact nn (by decide)|exact n0 (by decide)|exact(n0 (by decide)).symm|exact nlt h1|exact nlt h2|exact(nlt h1).symm|exact(nlt h2).symm|exact XF h1|exact XF h2|exact X6 h1|exact X6 h2|omega),(by first|exact nn (by decide)|exact n0 (by decide)|exact(n0 (by decide)).symm|exact nlt h1|exact nlt h2|exact(nlt h1).symm|exact(nlt h2).symm|exact XF h1|exact XF h2|exact X6 h1|exact X6 h2|omega)⟩
  .exact⟨(by first|exact nn (by decide)|exact n0 (by decide)|exact(n0 (by decide)).symm|exact nlt h1|exact nlt h2|exact(nlt h1).symm|exact(nlt h2).symm|exact XF h1|exact XF h2|exact X6 h1|exact X6 h2|omega),(by first|exact nn (by decide)|exact n0 (by decide)|exact(n0 (by decide)).symm|exact nlt h1|exact nlt h2|exact(nlt h1).symm|exact(nlt h2).symm|exact XF h1|exact XF h2|exact X6 h1|exact X6 h2|omega),(by first|exact nn (by decide)|exact n0 (by decide)|exact(n0 (by decide)).symm|exact nlt h1|exact nlt h2|exact(nlt h1).symm|exact(nlt h2).symm|exact XF h1|exact XF h2|exact X6 h1|exact X6 h2|omega)⟩
theorem ZA.new2(n:Nat):(n+2:Nat)≠n+3/\(n+2:Nat)≠n/\(n+2:Nat)≠n+1:=⟨nn (by decide),(n0 (by decide)).symm,nn (by decide)⟩
section
variable {X:Cx}{io:List Nat}{p c:Bool}{a b:YJ}{mr:MAt}
def Z9d(ds:List Xa):Option (List Xa):=match ds with|[.list as,.list bs]=>YB (Znc as bs)|[.tuple as,.tuple bs]=>YB (Znc as bs)|_=>YC
def Zon(a:FA):FI:=λδ=>(a δ).bind λp=>(Z9d (OT.datas p.1)).bind λds=>YB (ds,p.2)
end
def Zho(xs:List α)(lo hi st:Option Int):List α :=
 (sliceRange (Bq lo hi st xs.length).1 (Bq lo hi st xs.length).2.1 (Bq lo hi st xs.length).2.2).filterMap (xs[·]?)
theorem Vals.places:∀{xs:List V} {its:List Xe},Vals xs its->∀js:List Nat,Vals (js.filterMap (xs[·]?)) (js.filterMap (its[·]?))
 | _,_,_,[]=>.nil
 | xs,its,h,j::js=>by
  have ih:=Vals.places h js;cases hn:xs[j]? with
  | some x=>
   obtain⟨u,hu,ru⟩:=h.get hn;simp only[JS,hn,hu];exact .cons ru ih
  | none=>
   have hv:its[j]? =YC:=by
    rw[Qy]at hn|-
    rw[<-h.length];exact hn
   simp only[JS,hn,hv];exact ih
theorem Das.places{xs:List V}(h:Das G H L xs ds):∀js:List Nat,Das G H L (js.filterMap (xs[·]?)) (js.filterMap (ds[·]?))
 | []=>.nil
 | j::js=>by
  have ih:=Das.places h js;cases hn:ds[j]? with
  | some x=>
   obtain⟨u,hu,ru⟩:=h.get hn;simp only[JS,hn,hu];exact .cons ru ih
  | none=>
   have hv:xs[j]? =YC:=by
    rw[Qy]at hn|-
    rw[h.length];exact hn
   simp only[JS,hn,hv];exact ih
theorem Das.pick{xs:List V}(h:Das G H L xs ds)(lo hi st:Option Int):Das G H L (Zho xs lo hi st) (Zho ds lo hi st):=by
 unfold Zho;rw[h.length];exact h.places _
theorem Vals.pick{xs:List V}{its:List Xe}(h:Vals xs its)(lo hi st:Option Int):Vals (Zho xs lo hi st) (slicePick its.toArray lo hi st).toList:=by
 have e:(slicePick its.toArray lo hi st).toList=(sliceRange (Bq lo hi st xs.length).1 (Bq lo hi st xs.length).2.1 (Bq lo hi st xs.length).2.2).filterMap (its[·]?):=by
  simp[slicePick,h.length]
 rw[e];exact h.places _
theorem Zi0{xs:List V}{its:List Xe}(h:Vals xs its)(lo hi st:Option Int):(Zho xs lo hi st).length<=xs.length:=by
 have e:=(h.pick lo hi st).length;have s:=slicePick_size_le its.toArray lo hi st;have l:=h.length;simp only[Vx,Xy]at e s;omega
section
variable {X:Cx}{e:YJ}{te:TE}{lo hi:Option YJ}{se:YJ}{tl th ts:TO}{pos p2:Pos}
def tSt(K:Xc)(te:TE)(tl th ts:TO):TE:=λY H Q=>te Y H λx H1=>tl Y H1 λl H2=>th Y H2 λu H3=>ts Y H3 λk H4=>∃a xs,x= .ref a/\SqL K H4 a xs/\k≠YB 0/\∀p,H4 p=YC->Q (.ref p) (upd H4 p (.lst (Zho xs l u k)))
theorem Z5y(he:PE X e te)(hl:PO X lo tl)(hu:PO X hi th)(hst:PO X (YB se) ts):PE X (.Subscript e (.Slice lo hi (YB se) p2) pos) (tSt X.K te tl th ts):=by
 intro pins s Y H Q I h;refine Subscript_ (thn (he pins s Y H _ I h) λv s1 qz9=>?_);obtain⟨x,H1,I1,r1,q1⟩:=qz9;refine wpAny_Slice (thn (hl pins s1 Y H1 _ I1 q1) λvl s2 qz9=>?_);obtain⟨l,H2,I2,pl,q2⟩:=qz9;refine thn (hu pins s2 Y H2 _ I2 q2) λvu s3 qz9=>?_;obtain⟨u,H3,I3,pu,q3⟩:=qz9;refine thn (hst pins s3 Y H3 _ I3 q3) λvs s4 qz9=>?_;obtain⟨k,H4,I4,ps,q4⟩:=qz9;obtain⟨a,xs,rfl,hx,hk,q⟩:=q4;cases r1;have I5:Inv X pins Y H4 { s4 with heap:=s4.heap.push { cls:=.type "slice",data:=.fields #[vl,vu,vs] } }:=I4.kept (t':=s4.toks) λb ob q=>Xl _ q;obtain⟨its,r,ht,hz⟩:=I5.list hx;have hlen:=r.length;show X8 (Qm X.prog X.w) X.A (subscriptTail e (.Slice lo hi (YB se) p2) (.ref a) (.ref s4.heap.objs.size)) (EP X pins Y Q) X.xe { s4 with heap:=s4.heap.push { cls:=.type "slice",data:=.fields #[vl,vu,vs] } };refine tail_any (ops:=[.ref a,.ref s4.heap.objs.size]) ht.isList.typeIs slot_list_getitem.lookup ?_ (by with_unfolding_all rfl);refine wpAny_getItem_list_slice ht.isList (Heap.IsSliceOf.new ..) pl pu ps hk ?_ (by rw[Xy]<;>omega);refine⟨.ref _,_,I5.laid (t':=s4.toks) (o:=.lst (Zho xs l u k)) (λb ob q=>Xl _ q) (X3 _) ?_,rfl,q _ (I5.hok.fresh (X3 _))⟩;exact⟨QD (Zi0 r l u k) hz,_,0,r.pick l u k,Qe _ rfl⟩
end
section
variable {X:Cx}{io:List Nat}{p c:Bool}{a e:YJ}{ma:MEt}{lo hi:Option YJ}{se:YJ}{ml mh ms:MOt}{pos p2:Pos}{fa:FE}
def Ybu(m:MEt)(ml mh ms:MOt):MEt:=λδ K=>m δ λr δ1=>ml δ1 λlo δ2=>mh δ2 λhi δ3=>ms δ3 λst δ4=>st≠YB 0/\asL r.data λds=>K (.nd ((Zho ds lo hi st).map OT.fz)) δ4
theorem Ydi(ha:ME X io YD c a ma)(hl:MO X io YD lo ml)(hh:MO X io YD hi mh)(hs:MO X io YD (YB se) ms):ME X io YD c (.Subscript a (.Slice lo hi (YB se) p2) pos) (Ybu ma ml mh ms):=by
 obtain⟨_,A,s⟩:=ha;obtain⟨_,B,sl⟩:=hl;obtain⟨_,D,sh⟩:=hh;obtain⟨_,F,ss⟩:=hs;refine⟨_,Z5y A B D F,?_⟩;intro C H Y δ fp ex K' Q R h k;refine s C H Y δ fp ex _ _ R h λH1 v r δ1 fp1 new r1 h1=>?_;refine sl C H1 Y δ1 fp1 ex _ _ r1.base h1 λH2 l δ2 fp2 R2 S2 h2=>?_;refine sh C H2 Y δ2 fp2 ex _ _ R2 h2 λH3 u δ3 fp3 R3 S3 h3=>?_;refine ss C H3 Y δ3 fp3 ex _ _ R3 h3 λH4 w δ4 fp4 R4 S4 h4=>?_;obtain⟨hw,h4⟩:=h4;have s2:Same H1 H2:=λb o e=>S2.keep b o e (.inl rfl);have s3:Same H2 H3:=λb o e=>S3.keep b o e (.inl rfl);have s4:Same H3 H4:=λb o e=>S4.keep b o e (.inl rfl);obtain⟨e3,e4⟩:=S2.env rfl;obtain⟨e5,e6⟩:=S3.env rfl;obtain⟨e7,e8⟩:=S4.env rfl;have q:=(((r1.da R).same s2).same s3).same s4;obtain⟨a',xs,ds,rfl,e,qs,h4⟩:=q.lstInv h4;refine⟨a',xs,rfl,e,hw,λp hp=>?_⟩;have S:=((r1.stp.trans S2).trans S3).trans S4;refine k _ _ _ δ4 fp4 [p] (RE.tree R R4 S (Z9 hp _) (Zay hp) (Zdf p) (Own.list hp ((qs.pick l u w).wide λa l _=>?_))) h4;rw[e8,e6,e4];exact l
def stepOf(d:Xa)(lo hi st:Option Int):Option OT:=match d with| .list ds=>if st=YB 0 then YC else YB (.nd ((Zho ds lo hi st).map OT.fz))|_=>YC
def Z0u(e:FE)(lo hi st:FO):FE:=λδ=>(e δ).bind λp=>(lo p.2).bind λq=>(hi q.2).bind λr=>(st r.2).bind λt=>(stepOf p.1.data q.1 r.1 t.1).bind λo=>YB (o,t.2)
theorem Z4x{lo hi st:FO}(h:ME X io p c e (Ybu (o2 fa) (o2 lo) (o2 hi) (o2 st))):ME X io p c e (o2 (Z0u fa lo hi st)):=h.weak λδ K h=>by
 obtain⟨r,δ',h,k⟩:=h;obtain⟨⟨x,δ1⟩,h1,h⟩:=bs h;obtain⟨⟨y,δ2⟩,h2,h⟩:=bs h;obtain⟨⟨z,δ3⟩,h3,h⟩:=bs h;obtain⟨⟨t,δ4⟩,h4,h⟩:=bs h;obtain⟨o,h5,h⟩:=bs h;cases h;refine⟨x,δ1,h1,y,δ2,h2,z,δ3,h3,t,δ4,h4,?_⟩;unfold stepOf at h5;dsimp only at h5|-
 split at h5
 .rename_i q
  split at h5
  .cases h5
  .rename_i n
   cases h5;refine⟨n,?_⟩;rw[show x.data=_ from q];exact k
 .cases h5
end
theorem Zmz{f g:α->Option β}:∀{l:List α},(∀k∈l,f k=g k)->l.filterMap f=l.filterMap g
 | [],_=>rfl
 | a::l,h=>by
  rw[JS,JS,h a (by simp),Zmz λk hk=>h k (by simp[hk])]
theorem Zwt(xs:List α):Zho xs YC YC (YB (-1))=xs.reverse:=by
 unfold Zho sliceRange Bq;simp only[Ua];have d0:¬((-1:Int)>0):=by decide
 simp only[YM d0];have hc:(if(xs.length:Int)-1> -1 then((xs.length:Int)-1- -1- -1-1)/(- -1)else 0)=(xs.length:Int):=by
  split
  .simp
  .omega
 rw[hc,List.filterMap_map,Q7];apply V3;intro i;have hf:List.filterMap ((λx=>xs[x]?)∘ λk:Nat=>((xs.length:Int)-1+ -1*(k:Int)).toNat) (Xo xs.length)=xs.reverse:=by
  have:∀k∈Xo xs.length,((λx=>xs[x]?)∘ λk:Nat=>((xs.length:Int)-1+ -1*(k:Int)).toNat) k=xs.reverse[k]?:=λk hk=>by
   have hk:=Xx.mp hk;show xs[((xs.length:Int)-1+ -1*(k:Int)).toNat]? =_;rw[V0 hk];congr 1;omega
  rw[Zmz this];have gen:∀(ys:List α) (m:Nat),m=ys.length->List.filterMap (λk=>ys[k]?) (Xo m)=ys:=by
   intro ys
   induction ys with
   | nil=>intro m hm;subst hm;rfl
   | cons y ys ih=>
    intro m hm;subst hm;rw[JR,List.range_succ_eq_map,JS];simp only[List.getElem?_cons_zero,List.filterMap_map];exact YT _ (ih _ rfl)
  exact gen _ _ (by simp)
 rw[hf]
theorem Zs1(xs:List α):Zho xs YC (YB 0) (YB (-1))=(xs.drop 1).reverse:=by
 cases xs with
 | nil=>rfl
 | cons y ys=>
  rw[List.drop_succ_cons,List.drop_zero,<-Zwt ys];unfold Zho sliceRange Bq;simp only[Ua,JR];have d0:¬((-1:Int)>0):=by decide
  have d1:¬((0:Int)<0):=by decide
  simp only[YM d0,YM d1];have e0:max (-1:Int) (min 0 (((ys.length+1:Nat):Int)-1))=0:=by omega
  rw[e0];have c1:(if((ys.length+1:Nat):Int)-1>0 then(((ys.length+1:Nat):Int)-1-0- -1-1)/(- -1)else 0)=(ys.length:Int):=by
   split
   .simp
   .omega
  have c2:(if(ys.length:Int)-1> -1 then((ys.length:Int)-1- -1- -1-1)/(- -1)else 0)=(ys.length:Int):=by
   split
   .simp
   .omega
  rw[c1,c2,List.filterMap_map,List.filterMap_map];refine Zmz λk hk=>?_;have hk:k<ys.length:=by simpa using hk
  show(y::ys)[(((ys.length+1:Nat):Int)-1+ -1*(k:Int)).toNat]? =ys[((ys.length:Int)-1+ -1*(k:Int)).toNat]?;rw[show(((ys.length+1:Nat):Int)-1+ -1*(k:Int)).toNat=((ys.length:Int)-1+ -1*(k:Int)).toNat+1 by omega,VD]
theorem Zpn(ds:List Xa):stepOf (.list ds) YC (YB 0) (YB (-1))=YB (.nd (((ds.drop 1).reverse).map OT.fz)):=by
 show(if YB (-1:Int)=YB 0 then YC else _)=_;rw[Zs1];exact YM (by decide)
variable {G:Xc}
section
variable {X:Cx}{io:List Nat}{p c:Bool}{a b e:YJ}{mr:MAt}{ra:FA}{i:Nat}
def isFn(y:Str)(d:Xa):Bool:=match d with| .dict [(.str x,.bool YD)]=>decide (x=y)|_=>YF
theorem Z4h{y:Str}{d:Xa}(h:isFn y d=YD):d=fnD y:=by
 unfold isFn at h;split at h
 .rw[YW h];rfl
 .cases h
theorem Z6e(y:Str):isFn y (fnD y)=YD:=YQ rfl
def Zgd(i:Nat)(y:Str)(F:FD)(a:FA):FE:=λδ=>match δ[i]? with
 | some (YB (.fz d))=>if isFn y d=YD then Zy F a δ else YC
 | _=>YC
theorem Zsk{y:Str}(h:ME X io p c e (Z4f i y (sD F) (o2 ra))):ME X io p c e (o2 (Zgd i y F ra)):=h.weak λδ K h=>by
 obtain⟨r,δ',h,k⟩:=h;unfold Zgd at h;split at h
 .rename_i d hd
  by_cases hf:isFn y d=YD
  .rw[YL hf]at h
   refine⟨by rw[hd,Z4h hf],?_⟩;obtain⟨⟨x,δ1⟩,h1,h⟩:=bs h;refine⟨x,δ1,h1,?_⟩;dsimp only at h;split at h
   .rename_i q;cases h;exact⟨_,q,k⟩
   .cases h
  .rw[YM hf]at h;cases h
 .cases h
end
def Yfz:List Int->Int
 | []=>0
 | x::xs=>xs.foldl min x
theorem Zus(xs:List Int)(x:Int):xs.foldl min x∈x::xs/\∀a∈x::xs,xs.foldl min x<=a:=by
 induction xs generalizing x with
 | nil=>exact⟨.head _,λa h=>by rw[Xj.mp h];exact JN _⟩
 | cons y ys ih=>
  obtain⟨h1,h2⟩:=ih (min x y);rw[List.foldl_cons];refine⟨?_,λa h=>?_⟩
  .rcases Xm.mp h1 with h|h
   .rw[h]
    rcases Int.le_total x y with z|z
    .rw[Uw z];exact .head _
    .rw[Uk z];exact .tail _ (.head _)
   .exact .tail _ (.tail _ h)
  .have h0:=h2 _ (.head _)
   rcases Xm.mp h with rfl|h
   .exact Bw h0 (Int.min_le_left ..)
   .rcases Xm.mp h with rfl|h
    .exact Bw h0 (Int.min_le_right ..)
    .exact h2 a (.tail _ h)
theorem Zui(h:0<ns.length):Yfz ns∈ns/\∀a∈ns,Yfz ns<=a:=by
 cases ns with
 | nil=>cases h
 | cons x xs=>exact Zus xs x
def Yht(K:Xc)(l:YG):It :=
 ⟨λi H=>∃xs x,SqL K H l xs/\xs[i]? =YB x,
   λi H v H'=>∃p x,H p=YC/\v= .ref p/\H'=upd H p (.tup [.int i,x])/\∀xs,SqL K H l xs->xs[i]? =YB x,
   λi H=>∃xs,SqL K H l xs/\xs.length<=i⟩
def StE(z it l:YG)(i:Nat)(h:YH):Prop:=(∃old,IsEnum h z it (i:Int) old)/\h.IsListIter it l i
end L2
variable {z i1:YG}{items:Array Xe}{gg:FG}{S1 T1:YH->Prop}{np kk:Nat}{o:OT}
namespace L2
open PySem PySem.Spec PyProof.Rows
theorem Zwr{it:YG}(hne:z≠it):Turn P w K (.Tuple es kk pos) (Yht K l) [z,it] z (StE z it l) where
 mem:=.head _
 obj:=λi h st b hb=>by
  obtain⟨⟨old,s1⟩,o4,e4,_,d4⟩:=st;rcases Xm.mp hb with rfl|hb
  .exact⟨_,s1,λv q=>by cases q⟩
  .rcases Xj.mp hb with rfl
   exact⟨_,e4,λv q=>by rw[d4]at q;cases q⟩
 keep:=λi h h' st k=>by
  obtain⟨⟨old,s1⟩,s4⟩:=st;exact⟨⟨old,k z (.head _) _ s1⟩,s4.at λo e=>k it (.tail _ (.head _)) o e⟩
 item:=by
  intro X hP hw hK hc i pins s Y H E I hf st hg;subst hP hw hK;obtain⟨⟨old,s1⟩,s4⟩:=st;obtain⟨xs,x,hx,ex⟩:=hg;obtain⟨its,rx,px,hzx⟩:=I.list hx;obtain⟨u,hu,ru⟩:=rx.get ex;refine wpAny_pyNext_enum_item s1 s4 px.isList (by simpa using hu) hne λh' g1 g2 g3 g4 g5=>?_;refine⟨_,rfl,wpAny_letOwnedTupleGo_enum (s:={ s with heap:=h',toks:=s.toks+1 }) g1 λh2 z2 sb=>?_⟩;have hTz:s.heap.objs.size≠z:=X6 (XN s1);have up:∀c o,c≠z->h'.get? c=YB o->h2.get? c=YB o:=λc o n e=>(sb.2 c n).trans e;have kp:∀b o,b∉[z,it]->s.heap.get? b=YB o->h2.get? b=YB o:=λb o n e=>by
   have n1:b≠z:=λq=>n (q▸ .head _);exact up b o n1 (g5 b o n1 (λq=>n (q▸ .tail _ (.head _))) e)
  have t5:=up _ _ hTz g3;have g2':h2.IsListIter it l (i+1):=g2.at λo e=>up _ o (VF hne) e;have I2:Inv X pins Y (upd H s.heap.objs.size (.tup [.int i,x])) { s with heap:=h2,toks:=s.toks+1 }:=by
   refine(I.tok (s.toks+1)).turnTup (ch:=[z,it]) (its:=[.int i s.toks,u]) (λb hb=>hf b hb) kp (λb hb=>?_) (X3 _) Z3b (.cons ⟨_,rfl⟩ (.cons ru .nil)) ⟨_,t5,rfl,0,rfl⟩;rcases Xm.mp hb with rfl|hb
   .exact⟨_,z2⟩
   .rcases Xj.mp hb with rfl
    obtain⟨o4,e4,_⟩:=g2';exact⟨_,e4⟩
  refine⟨.ref s.heap.objs.size,_,I2,rfl,⟨_,x,I.fresh,rfl,rfl,λys hy=>by rw[I.list_inj hy hx];exact ex⟩,⟨⟨_,z2⟩,g2'⟩,λb hb=>?_⟩;have:b≠s.heap.objs.size:=by
   rcases Xm.mp hb with rfl|hb
   .exact XF (XN s1)
   .rcases Xj.mp hb with rfl
    obtain⟨o4,e4,_⟩:=s4;exact XF (XN e4)
  rw[Yc this];exact(hf b hb).1
 done:=by
  intro X hP hw hK hc i pins s Y H E I hf st hg;subst hP hw hK;obtain⟨⟨old,s1⟩,s4⟩:=st;obtain⟨xs,hx,he⟩:=hg;obtain⟨its,rx,px,hzx⟩:=I.list hx;have l1:=rx.length;refine wpAny_pyNext_enum_end (I.ok.hd hc) s1 s4 px.isList (by simp;omega) λh' k=>⟨rfl,I.turnAll (ch:=[it]) (λb hb=>hf b (.tail _ hb)) λb o n e=>k b o (λq=>n (q▸ .head _)) e⟩
 self:=λ_ _ _ _ _ st h=>by
  obtain⟨⟨old,s1⟩,_⟩:=st;exact wpAny_pyIter_enum s1 h
def Ykx(K:Xc)(ta:TA):TI:=λY H R=>ta Y H λvs H1=>∃l,vs=[.ref l]/\(∃xs,SqL K H1 l xs)/\R (Yht K l) H1
theorem Z5x{a:YJ}{ta:TA}{p pt:Pos}(hK:X.K=K)(hg:Gl X "enumerate")(hm:X.mg "enumerate"=YC)(hv:Qh "enumerate"=YB (.type "enumerate"))(ha:PA X [a] ta)
  (he:Xr [a] X.env=(YF,eval a X.env)::Xr [] X.env:=by rfl) (hpl:(JX pos (Xr [] X.env)).any (·.1)=YF:=by rfl) :
  PI X (.Tuple es kk pt) (.Call (.Name "enumerate" p) [a] [] pos) (Ykx K ta):=by
 subst hK;intro pins s Y H R I h;refine V2 (Zi3 I hg hm hv ?_ (by decide) (by decide));refine BW (thn (ha pos pins s Y H _ I h) λus s1 q=>?_) he hpl;obtain⟨vs,H1,I1,r1,l,e1,⟨xs,hx⟩,q⟩:=q;subst e1;obtain⟨u,rfl,ru⟩:=vals1 r1;cases(show u=QZ l from ru);obtain⟨its,rx,px,hzx⟩:=I1.list hx;refine call_enumerate_list px.isList λh' g1 g2 g3 g4=>?_;have I2:Inv X pins Y H1 { s1 with heap:=h' }:=I1.kept (t':=s1.toks) g4;refine wpAny_pyIter_enum (s:={ s1 with heap:=h' }) g1 ?_;refine⟨_,[_,_],StE _ _ _,_,H1,rfl,I2,Zwr (X6 (Vj _)),⟨⟨_,g1⟩,g2⟩,λb hb=>?_,q⟩;have hb':s1.heap.objs.size<=b:=by
  rcases Xm.mp hb with rfl|hb
  .exact Nat.le_succ _
  .rcases Xj.mp hb with rfl
   exact X3 _
 exact I1.fpOk hb' (I1.hok.fresh hb')
def Zmw(as:List Xa):List Xa:=as.zipIdx.map λp=>.tuple [.int p.2,p.1]
theorem Znn{as:List Xa}{d:Xa}(h:(Zmw as)[i]? =YB d):∃x,as[i]? =YB x/\d= .tuple [.int i,x]:=by
 unfold Zmw at h;rw[Xp,List.getElem?_zipIdx]at h;cases e:as[i]? with
 | none=>rw[e]at h;cases h
 | some x=>
  rw[e]at h;cases h;exact⟨x,rfl,by rw[Nat.zero_add]⟩
theorem Zs5{as:List Xa}(h:(Zmw as)[i]? =YC):as.length<=i:=by
 have:=Qy.mp h;unfold Zmw at this;simpa using this
section
variable {X:Cx}{io:List Nat}{p c:Bool}{a:YJ}{mr:MAt}{ra:FA}
def iEn(mr:MAt):MIt:=λδ K=>mr δ λrs δ'=>match OT.datas rs with|[.list as]=>K (Zmw as) δ'|_=>False
theorem Z76{p' pt:Pos}(hg:Gl X "enumerate")(hm:X.mg "enumerate"=YC)(hv:Qh "enumerate"=YB (.type "enumerate"))(ha:MA X io p c [a] mr)
  (he:Xr [a] X.env=(YF,eval a X.env)::Xr [] X.env:=by rfl) (hpl:(JX pos (Xr [] X.env)).any (·.1)=YF:=by rfl):MI X io p c (.Tuple es kk pt) (.Call (.Name "enumerate" p') [a] [] pos) (iEn mr):=by
 obtain⟨_,A,s⟩:=ha;refine⟨_,Z5x rfl hg hm hv A he hpl,λC H Y δ fp ex K' Q R h kk=>s C H Y δ fp ex _ _ R h λH1 vs rs δ1 fp1 new r1 h1=>?_⟩;have q:=r1.das R;generalize OT.datas rs=ds at q h1;split at h1
 case h_2=>exact h1.elim
 rename_i as;cases q with
 | cons q1 q2=>
  cases q2;have R1:=r1.base;obtain⟨l1,xs,rfl,k1⟩:=R1.keptList q1;have e1:=k1 H1 λ_ _ e _=>e;refine⟨l1,rfl,⟨_,e1.1⟩,kk _ H1 _ δ1 fp1 R1 r1.stp (λH' kp i=>?_) h1⟩;obtain⟨s1,d1⟩:=k1 H' kp;refine⟨λd hd=>?_,λhd=>?_⟩
  .obtain⟨x,hx,rfl⟩:=Znn hd
   obtain⟨u,hu,qu⟩:=d1.get hx;refine⟨⟨_,u,s1,hu⟩,λv H'' hyl=>?_⟩;obtain⟨t,u',ht,rfl,rfl,hu'⟩:=hyl;have eu:=hu' _ s1;rw[hu]at eu;cases eu;exact⟨Z9 ht _,.tup Yj (.cons (.int _) (.cons (qu.same (Z9 ht _)) .nil))⟩
  .exact⟨_,s1,by rw[d1.length];exact Zs5 hd⟩
def Z1z(a:FA):FI:=λδ=>(a δ).bind λp=>match OT.datas p.1 with|[.list as]=>YB (Zmw as,p.2)|_=>YC
theorem Z8l(h:MI X io p c tg e (iEn (o2 ra))):MI X io p c tg e (o2 (Z1z ra)):=h.weak λδ K h=>by
 obtain⟨r,δ',h,k⟩:=h;obtain⟨⟨x,δ1⟩,h1,h⟩:=bs h;dsimp only at h;split at h
 .rename_i q
  injection h with h;injection h with e1 e2;subst e1 e2;refine⟨x,_,h1,?_⟩;dsimp only;rw[q];exact k
 .cases h
end
variable {G:Xc}
theorem Yah{p:α->Prop}{a b c d:α}(h1:p a)(h2:p b)(h3:p c)(h4:p d):∀x∈[a,b,c,d],p x:=by
 intro x hx;rcases Xm.mp hx with rfl|hx
 .exact h1
 rcases Xm.mp hx with rfl|hx
 .exact h2
 rcases Xm.mp hx with rfl|hx
 .exact h3
 rcases Xj.mp hx with rfl;exact h4
theorem Ygc{p:α->Prop}{a b c d e:α}(h1:p a)(h2:p b)(h3:p c)(h4:p d)(h5:p e):∀x∈[a,b,c,d,e],p x:=λx hx=>(Xm.mp hx).elim (λq=>q▸h1) (Yah h2 h3 h4 h5 x)
theorem no4{a b c d x:α}(h1:x≠a)(h2:x≠b)(h3:x≠c)(h4:x≠d):x∉[a,b,c,d]:=λhx=>Yah (p:=λy=>x≠y) h1 h2 h3 h4 x hx rfl
def SqB(K:Xc)(t:Bool)(H:Hp)(a:YG)(xs:List V):Prop:=match t with|true=>H a=YB (.tup xs)|false=>SqL K H a xs
def IsB(t:Bool)(h:YH)(a:YG)(its:Array Xe):Prop:=match t with|true=>IsTup h a its|false=>h.IsList a its
def ItB(t:Bool)(h:YH)(it a:YG)(i:Nat):Prop:=match t with|true=>IsTupIter h it a i|false=>h.IsListIter it a i
theorem ItB.at{t:Bool}{h h':YH}{it a:YG}{i:Nat}(x:ItB t h it a i)(k:∀o,h.get? it=YB o->h'.get? it=YB o):ItB t h' it a i:=by
 cases t with
 | false=>exact Heap.IsListIter.at x k
 | true=>
  obtain⟨o,ho,r⟩:=x;exact⟨o,k o ho,r⟩
theorem ItB.obj{t:Bool}{it:YG}(x:ItB t h it a i):∃o,h.get? it=YB o/\∀v,o.data≠ .cell v:=by
 cases t with
 | false=>
  obtain⟨o,ho,_,d⟩:=x;exact⟨o,ho,λv q=>by rw[d]at q;cases q⟩
 | true=>
  obtain⟨o,ho,_,d⟩:=x;exact⟨o,ho,λv q=>by rw[d]at q;cases q⟩
theorem IsB.lt{t:Bool}{its:Array Xe}(x:IsB t h a its):a<h.objs.size:=by
 cases t with
 | false=>
  obtain⟨o,ho,_⟩:=x;exact XN ho
 | true=>
  obtain⟨o,ho,_⟩:=x;exact XN ho
theorem SqB.its{X:Cx}{pins:List (YG×Obj)}{Y:St}{H:Hp}{s:Xh}{t:Bool}{a:YG}{xs:List V}(I:Inv X pins Y H s)(h:SqB X.K t H a xs):∃its:List Xe,Vals xs its/\IsB t s.heap a its.toArray:=by
 cases t with
 | false=>
  obtain⟨its,r,p,_⟩:=I.list h;exact⟨its,r,p.isList⟩
 | true=>
  obtain⟨_,its,r,p⟩:=(show ObjOk X.prog X.w H s.heap a (.tup xs)from I.hok a _ h);exact⟨its,r,p⟩
theorem SqB.inj{Y:St}{t:Bool}{xs ys:List V}(I:Inv X pins Y H s)(h:SqB X.K t H a xs)(k:SqB X.K t H a ys):xs=ys:=by
 cases t with
 | false=>exact I.list_inj h k
 | true=>
  have:=(show H a=YB (.tup xs)from h).symm.trans k;cases this;rfl
section
variable {P:Qi}{w:QJ}
theorem Zwq{t:Bool}{it:YG}{x:Xe}(hx:items[i]? =YB x):Gives P w it [it,a] (λh=>ItB t h it a i/\IsB t h a items) x (λh=>ItB t h it a (i+1)):=by
 cases t with
 | true=>exact Zv2 hx
 | false=>
  exact⟨.head _,λst hQ=>wpAny_nextOf_list_item st.1 st.2 hx hQ,λh h' k st=>⟨Heap.IsListIter.at st.1 λo e=>k it (.head _) o e,by
   obtain⟨o,ho,r⟩:=st.2;exact⟨o,k a (.tail _ (.head _)) o ho,r⟩⟩,λh h' k st=>Heap.IsListIter.at st λo e=>k it (.head _) o e⟩
theorem Yd1{t:Bool}{it:YG}(hx:items[i]? =YC):Zkz P w it [it,a] (λh=>ItB t h it a i/\IsB t h a items):=by
 cases t with
 | true=>exact Z10 hx
 | false=>
  exact⟨.head _,λhh st hE=>wpAny_nextOf_list_end hh st.1 st.2 hx hE,λh h' k st=>⟨Heap.IsListIter.at st.1 λo e=>k it (.head _) o e,by
   obtain⟨o,ho,r⟩:=st.2;exact⟨o,k a (.tail _ (.head _)) o ho,r⟩⟩⟩
end
def Yik(K:Xc)(t:Bool)(a b:YG):It :=
 ⟨λi H=>∃xs ys x y,SqB K t H a xs/\SqB K t H b ys/\xs[i]? =YB x/\ys[i]? =YB y,
   λi H v H'=>∃p x y,H p=YC/\v= .ref p/\H'=upd H p (.tup [x,y])/\(∀xs,SqB K t H a xs->xs[i]? =YB x)/\∀ys,SqB K t H b ys->ys[i]? =YB y,
   λi H=>∃xs ys,SqB K t H a xs/\SqB K t H b ys/\(xs.length<=i\/ys.length<=i)⟩
def Yjl(t:Bool)(z TI TO i1 i2 a b:YG)(i:Nat)(h:YH):Prop:=IsZip h z TI TO .none/\Vo h TI (.ref i1) (.ref i2)/\(∃x y,Vo h TO x y)/\ItB t h i1 a i/\ItB t h i2 b i
theorem Zxm{t:Bool}{TI TO i2 b:YG}(D:ZA z TI TO i1 i2 [i1,a] [i2,b])(D2:TI≠TO/\TI≠i1/\TI≠i2):Turn P w K (.Tuple es kk pos) (Yik K t a b) [z,TI,TO,i1,i2] z (Yjl t z TI TO i1 i2 a b) where
 mem:=.head _
 obj:=λi h st=>by
  obtain⟨s1,s2,⟨x,y,s3⟩,s4,s5⟩:=st;exact Ygc ⟨_,s1,λv q=>by cases q⟩ ⟨_,s2,λv q=>by cases q⟩ ⟨_,s3,λv q=>by cases q⟩ s4.obj s5.obj
 keep:=λi h h' st k=>by
  obtain⟨s1,s2,⟨x,y,s3⟩,s4,s5⟩:=st;have m2:TI∈[z,TI,TO,i1,i2]:=.tail _ (.head _);have m3:TO∈[z,TI,TO,i1,i2]:=.tail _ (.tail _ (.head _));have m4:i1∈[z,TI,TO,i1,i2]:=.tail _ (.tail _ (.tail _ (.head _)));have m5:i2∈[z,TI,TO,i1,i2]:=.tail _ (.tail _ (.tail _ (.tail _ (.head _))));exact⟨k z (.head _) _ s1,k TI m2 _ s2,⟨x,y,k TO m3 _ s3⟩,s4.at (k i1 m4),s5.at (k i2 m5)⟩
 item:=by
  intro X hP hw hK hc i pins s Y H E I hf st hg;subst hP hw hK;obtain⟨s1,s2,⟨x0,y0,s3⟩,s4,s5⟩:=st;obtain⟨xs,ys,x,y,hx,hy,ex,ey⟩:=hg;obtain⟨its,rx,px⟩:=hx.its I;obtain⟨its',ry,py⟩:=hy.its I;obtain⟨u,hu,ru⟩:=rx.get ex;obtain⟨u',hu',ru'⟩:=ry.get ey;rw[<-List.getElem?_toArray]at hu hu';refine Zsz D (Zwq hu) (Zwq hu') s1 s2 s3 ⟨s4,px⟩ ⟨s5,py⟩ λh' g1 g2 g3 g4 g5 g6=>?_;refine⟨_,rfl,wpAny_letOwnedTupleGo_zip (s:={ s with heap:=h' }) g1 λh2 z2 sb=>?_⟩;have up:∀c o,c≠z->h'.get? c=YB o->h2.get? c=YB o:=λc o n e=>(sb.2 c n).trans e;have kp:∀c o,c∉[z,TO,i1,i2]->s.heap.get? c=YB o->h2.get? c=YB o:=λc o n e=>up c o (λq=>n (q▸ .head _)) (g6 c o n e);have t5:Vo h2 s.heap.objs.size u u':=up _ _ (X6 (XN s1)) g5;have i1z:=(D.a1 i1 (.head _)).1;have i2z:=(D.a2 i2 (.head _)).1;have n3:=g3.at (up i1 · i1z);have n4:=g4.at (up i2 · i2z);obtain⟨f1,f2,f3,f4,f5⟩:(Zmn X pins H z/\Zmn X pins H TI/\Zmn X pins H TO/\Zmn X pins H i1/\Zmn X pins H i2):=⟨hf _ (.head _),hf _ (.tail _ (.head _)),hf _ (.tail _ (.tail _ (.head _))),hf _ (.tail _ (.tail _ (.tail _ (.head _)))),hf _ (.tail _ (.tail _ (.tail _ (.tail _ (.head _)))))⟩;have I2:Inv X pins Y (upd H s.heap.objs.size (.tup [x,y])) { s with heap:=h2 } :=
   I.turnTup (ch:=[z,TO,i1,i2]) (its:=[u,u']) (Yah f1 f3 f4 f5) kp (Yah ⟨_,z2⟩ ⟨_,up _ _ D.TOz g2⟩ (n3.obj.imp λ_ q=>q.1) (n4.obj.imp λ_ q=>q.1)) (X3 _) Z3b (.cons ru (.cons ru' .nil)) ⟨_,t5,rfl,0,rfl⟩
  have lt:∀{c:YG} {o:Obj},s.heap.get? c=YB o->Zmn X pins H c->upd H s.heap.objs.size (.tup [x,y]) c=YC:=λe f=>by rw[Yc (XF (XN e))];exact f.1
  refine⟨.ref s.heap.objs.size,_,I2,rfl,⟨_,x,y,I.fresh,rfl,rfl,λzs hz=>by rw[hz.inj I hx];exact ex,λzs hz=>by rw[hz.inj I hy];exact ey⟩,⟨z2,kp TI _ (no4 D.TIz D2.1 D2.2.1 D2.2.2) s2,⟨_,_,up _ _ D.TOz g2⟩,n3,n4⟩,?_⟩;obtain⟨o4,e4,_⟩:=s4.obj;obtain⟨o5,e5,_⟩:=s5.obj;exact Ygc (lt s1 f1) (lt s2 f2) (lt s3 f3) (lt e4 f4) (lt e5 f5)
 done:=by
  intro X hP hw hK hc i pins s Y H E I hf st hg;subst hP hw hK;obtain⟨s1,s2,⟨x0,y0,s3⟩,s4,s5⟩:=st;obtain⟨xs,ys,hx,hy,he⟩:=hg;obtain⟨its,rx,px⟩:=hx.its I;obtain⟨its',ry,py⟩:=hy.its I;have l1:=rx.length;have l2:=ry.length;refine Zv8 (I.ok.hd hc) D (S1:=λh=>ItB t h i1 a i/\IsB t h a its.toArray) (T1:=λh=>ItB t h i1 a (i+1)) (S2:=λh=>ItB t h i2 b i/\IsB t h b its'.toArray) ?_ s1 s2 s3 ⟨s4,px⟩ ⟨s5,py⟩ λh' k=>⟨rfl,I.turnAll (ch:=[z,TO,i1,i2]) (Yah (hf _ (.head _)) (hf _ (.tail _ (.tail _ (.head _)))) (hf _ (.tail _ (.tail _ (.tail _ (.head _))))) (hf _ (.tail _ (.tail _ (.tail _ (.tail _ (.head _))))))) k⟩;cases q:its.toArray[i]? with
  | none=>exact .inl (Yd1 q)
  | some v=>
   refine .inr ⟨⟨v,Zwq q⟩,Yd1 ?_⟩;have:=(Array.getElem?_eq_some_iff.mp q).1;rw[Xy]at this;rw[Array.getElem?_eq_none_iff,Xy];omega
 self:=λ_ _ _ _ _ st h=>wpAny_pyIter_zip st.1 h
theorem Zyc{t:Bool}{b:YG}{xs ys:Array Xe}(h1:IsB t s.heap a xs)(h2:IsB t s.heap b ys)
  (h:∀h' n,n=s.heap.objs.size->IsZip h' (n+4) (n+2) (n+3) .none->Vo h' (n+2) (.ref n) (.ref (n+1))->Vo h' (n+3) .none .none->ItB t h' n a 0->ItB t h' (n+1) b 0 ->
   (∀ c o,s.heap.get? c=YB o->h'.get? c=YB o)->Q (.ref (n+4)) { s with heap:=h' }):X8 (Qm P w) A (call (.type "zip") [.ref a,.ref b]) Q E s:=by
 cases t with
 | true=>exact Zwu h1 h2 h
 | false=>exact call_zip_2 h1 h2 λh' g1 g2 g3 g4 g5 _ g7=>h h' _ rfl g1 g2 g3 g4 g5 g7
def Ygv(K:Xc)(ta:TA):TI:=λY H R=>ta Y H λvs H1=>∃t a b,vs=[.ref a,.ref b]/\(∃xs,SqB K t H1 a xs)/\(∃ys,SqB K t H1 b ys)/\R (Yik K t a b) H1
theorem Z4m{a b:YJ}{ta:TA}{p pt:Pos}(hK:X.K=K)(hg:Gl X "zip")(hm:X.mg "zip"=YC)(hv:Qh "zip"=YB (.type "zip"))(ha:PA X [a,b] ta)
  (he:Xr [a,b] X.env=(YF,eval a X.env)::Xr [b] X.env:=by rfl) (hpl:(JX pos (Xr [b] X.env)).any (·.1)=YF:=by rfl) :
  PI X (.Tuple es kk pt) (.Call (.Name "zip" p) [a,b] [] pos) (Ygv K ta):=by
 subst hK;intro pins s Y H R I h;refine V2 (Zi3 I hg hm hv ?_ (by decide) (by decide));refine BW (thn (ha pos pins s Y H _ I h) λus s1 q=>?_) he hpl;obtain⟨vs,H1,I1,r1,t,l1,l2,e1,⟨xs,hx⟩,⟨ys,hy⟩,q⟩:=q;subst e1;obtain⟨u,u',rfl,ru,ru'⟩:=vals2 r1;cases(show u=QZ l1 from ru);cases(show u'=QZ l2 from ru');obtain⟨its,rx,px⟩:=hx.its I1;obtain⟨its',ry,py⟩:=hy.its I1;refine Zyc px py λh' n en g1 g2 g3 g4 g5 g7=>?_;have I2:Inv X pins Y H1 { s1 with heap:=h' }:=I1.kept (t':=s1.toks) g7;refine wpAny_pyIter_zip (s:={ s1 with heap:=h' }) g1 ?_;refine⟨_,[_,_,_,_,_],Yjl _ _ _ _ _ _ _ _,_,H1,rfl,I2,Zxm (ZA.new (en▸px.lt) (en▸py.lt)) (ZA.new2 n),⟨g1,g2,⟨_,_,g3⟩,g4,g5⟩,?_,q⟩;subst en;have ok:∀k:Nat,Zmn X pins H1 (s1.heap.objs.size+k):=λk=>I1.fpOk (Vk _ _) (I1.hok.fresh (Vk _ _));exact Ygc (ok 4) (ok 2) (ok 3) (ok 0) (ok 1)
section
variable {X:Cx}{io:List Nat}{p c:Bool}{a b:YJ}{mr:MAt}{ra:FA}
def Yeu(t:Bool)(as:List Xa):Xa:=match t with|true=>.tuple as|false=>.list as
theorem Rel.keptSq{C:MC G}{H:Hp}{Y:St}{δ:Zm}{fp:Fp}{ex:YG->Prop}{v:V}{t:Bool}{ds:List Xa}(R:Rel C io H Y δ fp ex)(q:Da G H (λa=>c=YD->Lf C fp ex a) v (Yeu t ds)) :
  ∃a xs,v= .ref a/\∀H':Hp,(∀b o,H b=YB o->(c=YF\/¬Foot fp b)->H' b=YB o)->SqB G t H' a xs/\Das G H' (λa=>c=YD->(Lf C fp ex a/\H a≠YC)) xs ds:=by
 cases t with
 | false=>exact R.keptList q
 | true=>
  generalize hd:Yeu YD ds=d at q;cases q with
  | tup e r=>
   cases hd;rename_i a0 xs0;refine⟨a0,xs0,rfl,λH' kp=>?_⟩;obtain⟨f1,f2⟩:=R.kept kp;exact⟨f2 _ (.tup _) e,r.frame f1 f2⟩
  | _=>cases hd
theorem Zz8{es:List Xa}(h:Z9d ds=YB es):∃t as bs,ds=[Yeu t as,Yeu t bs]/\es=Znc as bs:=by
 unfold Z9d at h;split at h
 .cases h;exact⟨YF,_,_,rfl,rfl⟩
 .cases h;exact⟨YD,_,_,rfl,rfl⟩
 .cases h
def iZB(mr:MAt):MIt:=λδ K=>mr δ λrs δ'=>∃es,Z9d (OT.datas rs)=YB es/\K es δ'
theorem Zpz{p' pt:Pos}(hg:Gl X "zip")(hm:X.mg "zip"=YC)(hv:Qh "zip"=YB (.type "zip"))(ha:MA X io p c [a,b] mr)
  (he:Xr [a,b] X.env=(YF,eval a X.env)::Xr [b] X.env:=by rfl) (hpl:(JX pos (Xr [b] X.env)).any (·.1)=YF:=by rfl):MI X io p c (.Tuple es kk pt) (.Call (.Name "zip" p') [a,b] [] pos) (iZB mr):=by
 obtain⟨_,A,s⟩:=ha;refine⟨_,Z4m rfl hg hm hv A he hpl,λC H Y δ fp ex K' Q R h kk=>s C H Y δ fp ex _ _ R h λH1 vs rs δ1 fp1 new r1 h1=>?_⟩;have q:=r1.das R;obtain⟨es,hz,h1⟩:=h1;obtain⟨t,as,bs,e,rfl⟩:=Zz8 hz;rw[e]at q;cases q with
 | cons q1 q2=>
  cases q2 with
  | cons q2 q3=>
   cases q3;have R1:=r1.base;obtain⟨l1,xs,rfl,k1⟩:=R1.keptSq q1;obtain⟨l2,ys,rfl,k2⟩:=R1.keptSq q2;refine⟨t,l1,l2,rfl,⟨_,(k1 H1 λ_ _ e _=>e).1⟩,⟨_,(k2 H1 λ_ _ e _=>e).1⟩,kk _ H1 _ δ1 fp1 R1 r1.stp (λH' kp i=>?_) h1⟩;obtain⟨s1,d1⟩:=k1 H' kp;obtain⟨s2,d2⟩:=k2 H' kp;refine⟨λd hd=>?_,λhd=>⟨_,_,s1,s2,by rw[d1.length,d2.length];exact Zuh hd⟩⟩;obtain⟨x,y,hx,hy,rfl⟩:=Zrw hd;obtain⟨u,hu,qu⟩:=d1.get hx;obtain⟨w,hw,qw⟩:=d2.get hy;refine⟨⟨_,_,u,w,s1,s2,hu,hw⟩,λv H'' hyl=>?_⟩;obtain⟨t',u',w',ht,rfl,rfl,hu',hw'⟩:=hyl;cases hu.symm.trans (hu' _ s1);cases hw.symm.trans (hw' _ s2);exact⟨Z9 ht _,.tup Yj (.cons (qu.same (Z9 ht _)) (.cons (qw.same (Z9 ht _)) .nil))⟩
theorem Zp0(g:MI X io p c tg e (iZB (o2 ra))):MI X io p c tg e (o2 (Zon ra)):=g.weak λδ K h=>by
 obtain⟨r,δ',h,k⟩:=h;obtain⟨⟨x,δ1⟩,h1,h⟩:=bs h;obtain⟨ds,h2,h⟩:=bs h;cases h;exact⟨x,_,h1,_,h2,k⟩
end
end L2
namespace L2
open PySem PySem.Spec PyProof.Rows PySem.W
def kEv(lt:Nat->Nat->Bool):KasT α->α
 | .ret a=>a
 | .ask i j k=>kEv lt (k (lt i j))
def kGood(n:Nat)(P:α->Prop):KasT α->Prop
 | .ret a=>P a
 | .ask i j k=>i<n/\j<n/\∀b,kGood n P (k b)
theorem kGood.bind{n:Nat}{P:α->Prop}{R:β->Prop}{f:α->KasT β}(hf:∀a,P a->kGood n R (f a)){t:KasT α}(h:kGood n P t):kGood n R (t.bind f):=by
 induction t with
 | ret a=>exact hf a h
 | ask i j k ih=>exact⟨h.1,h.2.1,λb=>ih b (h.2.2 b)⟩
theorem kGood.ev{n:Nat}{P:α->Prop}{lt:Nat->Nat->Bool}{t:KasT α}(h:kGood n P t):P (kEv lt t):=by
 induction t with
 | ret a=>exact h
 | ask i j k ih=>exact ih _ (h.2.2 _)
theorem kGood.wp{n:Nat}{P:α->Prop}{lt:Nat->Nat->Bool}{cmp:Nat->Nat->(Bool->Xh->Prop)->Xh->Prop}{Q:α->Xh->Prop}(hc:∀i j C,i<n->j<n->C (lt i j) s->cmp i j C s){t:KasT α}(h:kGood n P t)(q:Q (kEv lt t) s):t.kasWp cmp Q s:=by
 induction t with
 | ret a=>exact q
 | ask i j k ih=>exact hc i j _ h.1 h.2.1 (ih _ (h.2.2 _) q)
def kP(n:Nat)(p:Array Nat):Prop:=p.toList.Perm (Xo n)
theorem kP.at{n:Nat}{p:Array Nat}(h:kP n p)(h0:0<n)(i:Nat):p.getD i 0<n:=by
 by_cases c:i<p.size
 .have e:p.getD i 0=p[i]:=by simp[Array.getD,c]
  rw[e];exact Xx.mp (h.mem_iff.mp (Array.getElem_mem_toList c))
 .have e:p.getD i 0=0:=by simp[Array.getD,c]
  rw[e];exact h0
theorem kP.rev{n:Nat}{p:Array Nat}(h:kP n p)(i j:Nat):kP n (kas_rev p i j):=(Array.perm_iff_toList_perm.mp (mirror_perm p i j _)).trans h
theorem kP.bub{n:Nat}{p:Array Nat}(h:kP n p)(i j:Nat):kP n (bubble p i j):=(Array.perm_iff_toList_perm.mp (bubble_perm p i j)).trans h
theorem Zr2{n:Nat}{p:Array Nat}(h:kP n p)(h0:0<n)(f m:Nat):kGood n (λ_=>True) (kas_asc p f m):=by
 induction f generalizing m with
 | zero=>exact trivial
 | succ f ih=>
  refine⟨h.at h0 _,h.at h0 _,λb=>?_⟩;cases b
  .exact ih _
  .exact trivial
theorem Zwp{n:Nat}(h0:0<n)(f:Nat){p:Array Nat}(h:kP n p)(m q:Nat):kGood n (λr:Array Nat×Nat×Nat=>kP n r.1) (kas_desc f p m q):=by
 induction f generalizing p m q with
 | zero=>exact h
 | succ f ih=>
  refine⟨h.at h0 _,h.at h0 _,λb=>?_⟩;cases b
  .refine⟨h.at h0 _,h.at h0 _,λb=>?_⟩
   cases b
   .exact ih h _ _
   .exact h
  .show kGood n _ (if q>0 then _ else _)
   split
   .exact ih (h.rev _ _) _ _
   .exact ih h _ _
theorem Znj{n:Nat}{p:Array Nat}(h:kP n p)(h0:0<n)(m r:Nat):kGood n (λr:Nat×Array Nat=>kP n r.2) (kas_tail3 m r p):=by
 refine kGood.bind (P:=λ_=>True) (λa _=>?_) (Zr2 (h.rev _ _) h0 _ _);exact h.rev _ _
theorem Zgr{n:Nat}{p:Array Nat}(h:kP n p)(h0:0<n)(m r:Nat):kGood n (λr:Nat×Array Nat=>kP n r.2) (kas_descPart m r p) :=
 (Zwp h0 _ h _ _).bind λx hx=>by
  show kGood n _ (if x.2.2>0 then _ else _);split
  .exact Znj (hx.rev _ _) h0 _ _
  .exact Znj hx h0 _ _
theorem Zt0{n:Nat}{p:Array Nat}(h:kP n p)(h0:0<n)(r:Nat):kGood n (λr:Nat×Array Nat=>kP n r.2) (kas_count r p) :=
 (Zr2 h h0 _ _).bind λm _=>by
  show kGood n _ (if(m==r)=YD then _ else if m>1 then _ else _);split
  .exact h
  .split
   .refine⟨h.at h0 _,h.at h0 _,λb=>?_⟩
    cases b
    .exact Zgr (h.rev _ _) h0 _ _
    .exact h
   .exact Zgr h h0 _ _
theorem Zte{n:Nat}{p:Array Nat}(h:kP n p)(h0:0<n)(k f l r:Nat):kGood n (λ_=>True) (kas_place p k f l r):=by
 induction f generalizing l r with
 | zero=>exact trivial
 | succ f ih=>
  show kGood n _ (if l>=r then _ else _);split
  .exact trivial
  .refine⟨h.at h0 _,h.at h0 _,λb=>?_⟩
   cases b
   .exact ih _ _
   .exact ih _ _
theorem Z1q{n:Nat}(h0:0<n)(f:Nat){p:Array Nat}(h:kP n p)(k:Nat):kGood n (kP n) (kas_bin f p k):=by
 induction f generalizing p k with
 | zero=>exact h
 | succ f ih=>exact(Zte h h0 _ _ _ _).bind λl _=>ih (h.bub _ _) _
theorem Ziw{n:Nat}(h0:0<n):kGood n (kP n) (kas_sort n) :=
 (Zt0 (p:=Bv (Xo n)) (.refl _) h0 n).bind λr hr=>by
  show kGood n _ (if r.1<n then _ else _);split
  .exact Z1q h0 _ hr _
  .exact hr
def Zzi(lt:Nat->Nat->Bool)(n:Nat):List Nat:=(kEv lt (kas_sort n)).toList
theorem Zgk{lt:Nat->Nat->Bool}{n:Nat}(h0:0<n):(Zzi lt n).Perm (Xo n):=(Ziw h0).ev (P:=kP n)
end L2
namespace L2
open PySem PySem.Spec PyProof.Rows PySem.W PySem.SeqAt
open PySem.AutoSeq1 (wpAny_loadPart')
open MeetsSeq MeetsSeq2 MeetsSeq3 SeqRoads2
def ltI:List Int->List Int->Bool
 | [],[]=>YF
 | [],_::_=>YD
 | _::_,[]=>YF
 | x::xs,y::ys=>if x=y then ltI xs ys else decide (x<y)
theorem Zrm(h:BV vs ns)(i:Nat)(hi:i<vs.length):∃x t,vs[i]? =YB (.int x t)/\ns.drop i=x::ns.drop (i+1):=by
 induction h generalizing i with
 | nil=>exact YX hi (Vs i)
 | cons n t h ih=>
  cases i with
  | zero=>exact⟨n,t,rfl,rfl⟩
  | succ i=>exact ih i (Nat.lt_of_succ_lt_succ hi)
theorem Zip(h:BV vs ns):vs.length=ns.length:=by
 induction h with
 | nil=>rfl
 | cons n t h ih=>exact YT Nat.succ ih
theorem Zno{xs ys:List Int}(h:xs=[]\/ys=[]):ltI xs ys=decide (xs.length<ys.length):=by
 cases xs<;>cases ys<;>first|rfl|(rcases h with h|h<;>cases h)|exact(YQ (Nat.succ_pos _)).symm
theorem Zvg(l b:YG)(items items2:Array Xe)(n n2:Nat)(dd dd2:Option YG)(sl sl2:Array (Option Xe)){xs ys:List Int}(h1:BV items.toList xs)(h2:BV items2.toList ys)(k:Nat) :
  ∀i:Nat,items.size-i=k->i<=items.size->i<=items2.size->Meets (Builtin.«list.__eq__.loop» ⟨[.ref l,.ref b,rawInt i,rawInt 0],[]⟩)
   (λA R s=>s.heap.get? l=YB { cls:=.type "list",dict:=dd,data:=.seq items n,slots:=sl }/\s.heap.get? b=YB { cls:=.type "list",dict:=dd2,data:=.seq items2 n2,slots:=sl2 }/\
    R (.ok (.ret (.bool (ltI (xs.drop i) (ys.drop i))))) s):=by
 have e1:items.size=xs.length:=Zip h1;have e2:items2.size=ys.length:=Zip h2;have fin:∀i,i<=items.size->i<=items2.size->(i=items.size\/i=items2.size)->ltI (xs.drop i) (ys.drop i)=decide (items.size<items2.size):=λi u1 u2 c=>by
  rw[Zno (c.imp (λc=>UV (by omega)) λc=>UV (by omega)),QR,QR];exact decide_eq_decide.mpr (by omega)
 induction k with
 | zero=>
  intro i hk u1 u2 prog w A R s h;obtain⟨hp,g,d,tk,os⟩:=s;obtain⟨hl,hb,h⟩:=h
  wp_walk using JM hl,JM hb
  have hi1:items[((i:Nat):Int).toNat]? =YC:=by simp;omega
  rw[fin i u1 u2 (.inl (by omega))]at h;rw[hi1]
  wp_walk using JM hl,JM hb
  exact h
 | succ k ih=>
  intro i hk u1 u2 prog w A R s h;obtain⟨hp,g,d,tk,os⟩:=s;obtain⟨hl,hb,h⟩:=h;have hlt:i<items.size:=by omega
  obtain⟨x,t,q1,q2⟩:=Zrm h1 i hlt;have hi1:items[((i:Nat):Int).toNat]? =YB (.int x t):=by rw[Q7,<-q1,Be]
  wp_walk using JM hl,JM hb
  by_cases c:i<items2.size
  .obtain⟨y,u,q3,q4⟩:=Zrm h2 i c
   have hi2:items2[((i:Nat):Int).toNat]? =YB (.int y u):=by rw[Q7,<-q3,Be]
   have hc:((i:Int)+1)=((i+1:Nat):Int):=by push_cast;rfl
   rw[q2,q4]at h;unfold ltI at h;rw[hi1,hi2];refine Xi (EqAt.int_int x t y u prog w _ _ ?_)
   by_cases cx:x=y
   .rw[YL cx]at h
    rw[YZ.mpr cx]
    wp_walk
    rw[hc];exact⟨plainId_quiet plain_eq_loop _,codeAny_builtin entry_eq_loop (by
     rw[Around.under_plainId plain_eq_loop _];exact ih (i+1) (by omega) (by omega) (by omega) prog w A R _ ⟨hl,hb,h⟩)⟩
   .rw[YM cx]at h
    rw[beq_eq_false_iff_ne.mpr cx]
    wp_walk using JM hl,JM hb
    rw[hi1,hi2];refine Xi (lt_int ?_)
    wp_walk
    exact h
  .have hi2:items2[((i:Nat):Int).toNat]? =YC:=by simp;omega
   rw[fin i u1 u2 (.inr (by omega))]at h;rw[hi1,hi2]
   wp_walk using JM hl,JM hb
   exact h
theorem Zv1(l b:YG)(items items2:Array Xe)(n n2:Nat)(dd dd2:Option YG)(sl sl2:Array (Option Xe)){xs ys:List Int}(h1:BV items.toList xs)(h2:BV items2.toList ys) :
  Meets (Builtin.«list.__lt__» ⟨[.ref l,.ref b],[]⟩)
   (λA R s=>s.heap.get? l=YB { cls:=.type "list",dict:=dd,data:=.seq items n,slots:=sl }/\s.heap.get? b=YB { cls:=.type "list",dict:=dd2,data:=.seq items2 n2,slots:=sl2 }/\
    R (.ok (.ret (.bool (ltI xs ys)))) s):=by
 intro prog w A R s h;obtain⟨hp,g,d,tk,os⟩:=s;obtain⟨hl,hb,h⟩:=h;have f3:=AutoSeq1.sub_list_list
 wp_walk using JM hl,JM hb
 exact⟨plainId_quiet plain_eq_loop _,codeAny_builtin entry_eq_loop (by
  rw[Around.under_plainId plain_eq_loop _];exact Zvg l b items items2 n n2 dd dd2 sl sl2 h1 h2 _ 0 rfl (QH _) (QH _) prog w A R _ ⟨hl,hb,h⟩)⟩
theorem Zks{b:YG}{items2:Array Xe}{xs ys:List Int}{Q:Bool->Xh->Prop}(hu:A.units<cLine)(hl:s.heap.IsList l items)(hb:s.heap.IsList b items2)(h1:BV items.toList xs)(h2:BV items2.toList ys)(h:Q (ltI xs ys) s) :
  X8 (Qm prog w) A (oneLt' YD (.ref l) (.ref b)) Q E s:=by
 obtain⟨⟨cls,dd,data,sl⟩,hl,hc,n,hd⟩:=hl;obtain⟨⟨cls2,dd2,data2,sl2⟩,hb,hc2,n2,hd2⟩:=hb;simp only at hc hd hc2 hd2;subst hc hd hc2 hd2;rw[oneLt'_eq];simp only[if_true];refine Xi (wpAny_cRoomFor hu ?_);refine Xi (wpAny_callSpecialIfBound?_slot ⟨_,hl,rfl⟩ F.slot_list_lt (call_meets F.slot_list_lt ⟨_,hl,rfl⟩ F.entry_list_lt (F.args_list_lt_2 _ _) (Zv1 l b items items2 n n2 dd dd2 sl sl2 h1 h2) ⟨hl,hb,?_⟩));exact Ug h
theorem Yb0{a:Int}{t u:Tok}(h:Q (.bool (decide (a<b))) s):X8 (Qm prog w) A (richCompare .Lt (.int a t) (.int b u)) Q E s:=lt_int h
theorem Zub(l b:YG)(items items2:Array Xe)(n n2:Nat)(dd dd2:Option YG)(sl sl2:Array (Option Xe)){xs ys:List Int}(h1:BV items.toList xs)(h2:BV items2.toList ys) :
  Meets (Builtin.«tuple.__lt__» ⟨[.ref l,.ref b],[]⟩)
   (λA R s=>s.heap.get? l=YB { cls:=.type "tuple",dict:=dd,data:=.seq items n,slots:=sl }/\s.heap.get? b=YB { cls:=.type "tuple",dict:=dd2,data:=.seq items2 n2,slots:=sl2 }/\
    R (.ok (.ret (.bool (ltI xs ys)))) s) :=
 .of_wp λprog w A R s h=>by
  obtain⟨hp,g,d,tk,os⟩:=s;obtain⟨hl,hb,h⟩:=h;have f2:=AutoSeq1.sub_tuple_tuple;have e1:items.toList.length=xs.length:=Zip h1;have e2:items2.toList.length=ys.length:=Zip h2
  wp_walk using JM hl,JM hb,wpAny_forIn_list _ (λrest b s'=>b.1=YC/\s'=⟨hp,g,d,tk,os⟩/\∃i,rest=(items.toList.zip items2.toList).drop i/\i<=items.toList.length/\i<=items2.toList.length/\
   R (.ok (.ret (.bool (ltI (xs.drop i) (ys.drop i))))) ⟨hp,g,d,tk,os⟩) _
  case turn=>
   rintro⟨v,u⟩ rest b s' ⟨hb',rfl,i,hz,u1,u2,hR⟩;have hlt:i<(items.toList.zip items2.toList).length:=by
    rcases U0 i (items.toList.zip items2.toList).length with h'|h'
    .exact h'
    .rw[List.drop_of_length_le h']at hz;cases hz
   have hm:=hlt;rw[List.length_zip]at hm;obtain⟨x,t,q1,q2⟩:=Zrm h1 i (by omega);obtain⟨y,r,q3,q4⟩:=Zrm h2 i (by omega);rw[Uj hlt]at hz;injection hz with hyx hrest;have hz0:(items.toList.zip items2.toList)[i]? =YB (.int x t,.int y r):=by rw[List.getElem?_zip_eq_some];exact⟨q1,q3⟩
   rw[Xf hlt]at hz0;injection hz0 with hz0;rw[hz0]at hyx;cases hyx;rw[q2,q4]at hR;unfold ltI at hR;refine Xi (EqAt.int_int x t y r prog w _ _ ?_)
   by_cases cx:x=y
   .rw[YL cx]at hR
    rw[YZ.mpr cx]
    wp_walk
    exact⟨rfl,rfl,i+1,hrest,by omega,by omega,hR⟩
   .rw[YM cx]at hR
    rw[beq_eq_false_iff_ne.mpr cx]
    wp_walk using Yb0
    exact⟨_,rfl,hR⟩
  case fin=>
   rintro⟨b1,b2⟩ s' ⟨hb',rfl,i,hz,u1,u2,hR⟩;simp only at hb';subst hb';have hge:min items.toList.length items2.toList.length<=i:=by
    rcases U0 i (items.toList.zip items2.toList).length with h'|h'
    .rw[Uj h']at hz;cases hz
    .rw[List.length_zip]at h';exact h'
   have hv:ltI (xs.drop i) (ys.drop i)=decide (items.size<items2.size):=by
    rw[Zno ((show i=items.toList.length\/i=items2.toList.length by omega).imp (λc=>UV (by omega)) λc=>UV (by omega)),QR,QR];rw[Vx]at e1 e2 u1 u2;exact decide_eq_decide.mpr (by omega)
   rw[hv]at hR
   wp_walk
   exact⟨_,rfl,hR⟩
  case h=>
   exact⟨rfl,rfl,0,rfl,QH _,QH _,h⟩
theorem Zvd{b:YG}{items2:Array Xe}{xs ys:List Int}{Q:Bool->Xh->Prop}(hu:A.units<cLine)(hl:s.heap.IsTuple l items)(hb:s.heap.IsTuple b items2)(h1:BV items.toList xs)(h2:BV items2.toList ys)(h:Q (ltI xs ys) s) :
  X8 (Qm prog w) A (oneLt' YF (.ref l) (.ref b)) Q E s:=by
 obtain⟨⟨cls,dd,data,sl⟩,hl,hc,n,hd⟩:=hl;obtain⟨⟨cls2,dd2,data2,sl2⟩,hb,hc2,n2,hd2⟩:=hb;simp only at hc hd hc2 hd2;subst hc hd hc2 hd2;exact kat_one _ _ (richCompare_meets_room (op:=.Lt) ⟨_,hl,rfl⟩ ⟨_,hb,rfl⟩ F.slot_tuple_lt F.entry_tuple_lt (F.args_tuple_lt_2 _ _) (Zub l b items items2 n n2 dd dd2 sl sl2 h1 h2)
  ⟨hl,hb,show Value.bool (ltI xs ys)≠Xe.notImplemented/\_ from⟨(λx=>nomatch x),h⟩⟩ hu)
end L2
namespace L2
open PySem PySem.Spec PyProof.Rows PySem.W
def sLay(d:α)(lt:Nat->Nat->Bool)(vs:List α):List α:=if vs.length<2 then vs else(Zzi lt vs.length).map λi=>vs.getD i d
theorem Zti(d:α)(vs:List α):((Xo vs.length).map λi=>vs.getD i d)=vs:=by
 refine V3 λi=>?_;rw[Xp]
 by_cases c:i<vs.length
 .rw[QG c,Xf c]
  show YB (vs.getD i d)=_;rw[Xb,Xf c];rfl
 .rw[Qv (by rw[XD];omega),Qv (by omega)];rfl
theorem Zjb(d:α)(lt:Nat->Nat->Bool)(vs:List α):(sLay d lt vs).Perm vs:=by
 unfold sLay;split
 .exact .refl _
 .have:=(Zgk (lt:=lt) (n:=vs.length) (by omega)).map λi=>vs.getD i d
  rwa[Zti]at this
theorem Zrb(f:α->β)(d:α)(lt:Nat->Nat->Bool)(vs:List α):sLay (f d) lt (vs.map f)=(sLay d lt vs).map f:=by
 unfold sLay;rw[Xd];split
 .rfl
 .rw[XR]
  refine Xu λi _=>?_;show(vs.map f).getD i (f d)=f (vs.getD i d);rw[Xb,Xb,Xp];cases vs[i]? <;>rfl
theorem Zxo{lt:Nat->Nat->Bool}{xs:List V}(h:Vals xs us):Vals (sLay .non lt xs) (sLay .none lt us):=by
 unfold sLay;rw[h.length];split
 .exact h
 .generalize Zzi lt _=l
  induction l with
  | nil=>exact .nil
  | cons i l ih=>
   refine .cons ?_ ih;show RelV (xs.getD i V.non) (us.getD i JB);rw[Xb,Xb];cases e:xs[i]? with
   | some x=>
    obtain⟨u,e',r⟩:=h.get e;rw[e'];exact r
   | none=>
    have:us[i]? =YC:=Qv (by rw[<-h.length];exact Qy.mp e);rw[this];exact rfl
end L2
variable {h0:YH}{xs ys:List Int}{κ:Vh}
namespace L2
open PySem PySem.Spec PyProof.Rows PySem.W
theorem Zty{lt:Nat->Nat->Bool}{n:Nat}{P:PySem.Fin->Xh->Prop}(ho:s.heap.get? a=YB (Q0 "list" vs.toArray n))
  (k0:∀b o,h0.get? b=YB o->s.heap.get? b=YB o) (ha0:h0.get? a=YC) (h64:vs.length<64)
  (hk:2<=vs.length->∀s':Xh,(∀b o,h0.get? b=YB o->s'.heap.get? b=YB o)->∀Q:Vh->Xh->Prop,Q κ s'->X8 (Qm prog w) A (keyKind' vs.toArray) Q E s')
  (hc:2<=vs.length->∀s':Xh,(∀b o,h0.get? b=YB o->s'.heap.get? b=YB o)->∀i j C,i<vs.length->j<vs.length->C (lt i j) s'->kas_ask prog w A κ vs i j C s')
  (h:P (.done (.ret .none)) { s with heap:=sortedHeap s.heap a vs (Bv (sLay JB lt vs)) }):X8 (Qm prog w) A (Builtin.«list.sort» ⟨[.ref a],[]⟩) P E s:=by
 have ha:a<s.heap.objs.size:=XN ho;obtain⟨e1,ho1⟩:∃e1,(s.heap.update a (QX λ_=>(#[]:Array Xe))).get? a=YB (Q0 "list" #[] e1):=⟨_,get?_update_seq ho λ_=>#[]⟩;have ho6:(((s.heap.update a (QX λ_=>(#[]:Array Xe))).push (Q0 "tuple" vs.toArray 0)).push (Q0 "list" #[] 0)).get? a=YB (Q0 "list" #[] e1):=Xl _ (Xl _ ho1);have k6:∀b o,h0.get? b=YB o->(((s.heap.update a (QX λ_=>(#[]:Array Xe))).push (Q0 "tuple" vs.toArray 0)).push (Q0 "list" #[] 0)).get? b=YB o:=λb o e=>by
  refine Xl _ (Xl _ ?_);rw[Heap.get?_update_ne _ _ _ _ (λq=>by rw[q,ha0]at e;cases e)];exact k0 b o e
 rw[list_sort_plain];refine Xi (listItems_at ho rfl ?_);refine Xi (listUpdate_at ho rfl ?_ (by rw[Xy,Qk];omega) (QH _));refine Xi (seqEpoch_at ho1 rfl ?_);refine Xi (wpAny_newTuple ?_ (by show vs.length<=_;rw[Qk];omega));refine Xi (wpAny_newList ?_ (QH _));refine V8 ?_;show X8 (Qm prog w) A _ P E { s with heap:=((s.heap.update a (QX λ_=>(#[]:Array Xe))).push (Q0 "tuple" vs.toArray 0)).push (Q0 "list" #[] 0) };dsimp only;have hs:vs.toArray.size=vs.length:=Xy ..
 by_cases h2:vs.toArray.size<2
 .have el:sLay JB lt vs=vs:=YL (hs▸h2)
  rw[el]at h;rw[YL h2,YL h2];refine Xi (Qd ?_);rw[StateT.run_pure];refine Xi (Qd ?_);dsimp only;refine Xi (seqEpoch_at ho6 rfl ?_);have ez:((vs.toArray.zip vs.toArray).map (·.2))=vs.toArray:=by
   apply Array.toList_inj.mp;rw[Array.toList_map,Array.toList_zip,List.map_snd_zip (X3 _)]
  show X8 _ _ (Builtin.List.listUpdate _ (λ_=>(vs.toArray.zip vs.toArray).map (·.2))>>=_) _ _ _;rw[ez];refine Xi (listUpdate_at ho6 rfl ?_ (QH _) (by rw[hs,Qk];omega));simp only[bne_self_eq_false,Vn,if_false];exact Qd h
 .rw[YM h2,YM h2]
  have h2':2<=vs.length:=by omega
  have el:sLay JB lt vs=(Zzi lt vs.length).map λi=>vs.getD i JB:=YM (by omega);rw[el]at h;refine Xi (hk h2' _ k6 _ ?_);have est:Vf κ (vs.toArray.zip vs.toArray) #[] 7 YC=kas_st κ (UJ vs) (Bv (Xo vs.length)):=by
   have e:=kas_range (UJ vs);rw[pairsOf_size]at e;show Vf κ (UJ vs) #[] 7 YC=Vf κ ((Bv (Xo vs.length)).map (X7 (UJ vs))) #[] 7 YC;rw[e]
  have run:=kas_runs (prog:=prog) (w:=w) (A:=A) (κ:=κ) (it:=UJ vs) (E:=E) (s:={ s with heap:=((s.heap.update a (QX λ_=>(#[]:Array Xe))).push (Q0 "tuple" vs.toArray 0)).push (Q0 "list" #[] 0) })
   (Q:=λ_ st' s'=>arrOf st'=(kEv lt (kas_sort vs.length)).map (X7 (UJ vs))/\failedOf st'=YC/\s'={ s with heap:=((s.heap.update a (QX λ_=>(#[]:Array Xe))).push (Q0 "tuple" vs.toArray 0)).push (Q0 "list" #[] 0) })
   (G:=λp s'=>p=kEv lt (kas_sort vs.length)/\s'={ s with heap:=((s.heap.update a (QX λ_=>(#[]:Array Xe))).push (Q0 "tuple" vs.toArray 0)).push (Q0 "list" #[] 0) })
   h2' h64 (λp' st' s' _ a2 a3 a4=>⟨a4.1▸a2,a3,a4.2⟩) (by
    rw[<-kas_ask_eq];exact(Ziw (n:=vs.length) (by omega)).wp (hc h2' _ k6) ⟨rfl,rfl⟩)
  rw[<-est]at run;refine Xi (Vc run ?_ λ_ _ e=>e);intro r s' z;obtain⟨har,hf,rfl⟩:=z;have hout:(arrOf r.2).map (·.2)=Bv ((Zzi lt vs.length).map λi=>vs.getD i JB):=by
   apply Array.toList_inj.mp;rw[har,Array.map_map,Array.toList_map];exact Xu λi _=>by show(X7 (UJ vs) i).2=_;rw[kas_item_eq]
  rw[hout];refine Xi (seqEpoch_at ho6 rfl ?_);refine Xi (listUpdate_at ho6 rfl ?_ (QH _) (by rw[Xy,Xd,(Zgk (by omega)).length_eq,XD,Qk];omega));rw[hf];simp only[bne_self_eq_false,Vn,if_false];exact Qd h
theorem Z6d{lt:Nat->Nat->Bool}(hl:s.heap.IsList l vs.toArray)(h64:vs.length<64)
  (hk:2<=vs.length->∀s':Xh,(∀b o,s.heap.get? b=YB o->s'.heap.get? b=YB o)->∀Q:Vh->Xh->Prop,Q κ s'->X8 (Qm prog w) A.in1.in1 (keyKind' vs.toArray) Q E s')
  (hc:2<=vs.length->∀s':Xh,(∀b o,s.heap.get? b=YB o->s'.heap.get? b=YB o)->∀i j C,i<vs.length->j<vs.length->C (lt i j) s'->kas_ask prog w A.in1.in1 κ vs i j C s')
  (h:Q (.ref (s.heap.objs.size+1)) { s with heap:=sortedAll s.heap vs (Bv (sLay JB lt vs)) }):X8 (Qm prog w) A (call (.builtin "sorted") [.ref l]) Q E s:=by
 refine Calls.call_function_entry kind_sorted plain_sorted entry_sorted (args_sorted1 _) ?_;unfold Builtin.«sorted»;refine Xi (m:=checkCount "sorted" 1 1 _) (Qd ?_);refine Xi (collect_list hl ?_ (by rw[Qk];omega));refine Xi (wpAny_newList ?_ (by rw[Qk];omega));have hsz:((s.heap.push (Q0 "list" #[] 0)).update s.heap.objs.size (QX (·++vs.toArray))).objs.size=s.heap.objs.size+1:=by
  rw[Heap.size_update,size_push']
 have hoL:(((s.heap.push (Q0 "list" #[] 0)).update s.heap.objs.size (QX (·++vs.toArray))).push (Q0 "list" vs.toArray 0)).get? (s.heap.objs.size+1)=YB (Q0 "list" vs.toArray 0):=by
  rw[<-hsz];exact Qe _ rfl
 have keep:∀b o,s.heap.get? b=YB o->(((s.heap.push (Q0 "list" #[] 0)).update s.heap.objs.size (QX (·++vs.toArray))).push (Q0 "list" vs.toArray 0)).get? b=YB o:=λb o q=>by
  have hlt:b<s.heap.objs.size:=XN q;rw[Heap.get?_push_ne _ _ _ (by rw[hsz];exact XF (Nat.lt_succ_of_lt hlt)),Heap.get?_update_ne _ _ _ _ (XF hlt),Heap.get?_push_ne _ _ _ (XF hlt)];exact q
 show X8 _ _ _ _ _ { s with heap:=((s.heap.push (Q0 "list" #[] 0)).update s.heap.objs.size (QX (·++vs.toArray))).push (Q0 "list" vs.toArray 0) };rw[hsz];refine Xi (V8 (VJ slot_list_sort ⟨_,hoL,rfl⟩ entry_list_sort (Zty (h0:=s.heap) hoL keep (Heap.get?_none_of_le (Nat.le_succ _)) h64 hk hc ⟨_,rfl,?_⟩) (args_list_sort _)));exact Qd ⟨_,rfl,h⟩
end L2
namespace L2
open PySem PySem.Spec PyProof.Rows PySem.W
structure Ycj{α:Type}(kd:Xa->Option α)(lt:α->α->Bool):Prop where
 lay:∀d k,kd d=YB k->d.canLay0=YD
 run:∃κ:Vh,(∀(prog:Qi) (w:QJ) (A:QB) (E:Xe->Xh->Prop) (s:Xh) (vs:List Xe) (ds:List Xa) (as:List YG) (Q:Vh->Xh->Prop),2<=vs.length->ReadsAll s.heap vs ds as->(∀d∈ds,∃k,kd d=YB k)->Q κ s->X8 (Qm prog w) A (keyKind' vs.toArray) Q E s)/\
  ∀(prog:Qi) (w:QJ) (A:QB) (E:Xe->Xh->Prop) (s:Xh) (u v:Xe) (d e:Xa) (as bs:List YG) (k m:α) (C:Bool->Xh->Prop),A.units+32<cLine->Reads s.heap u d as->Reads s.heap v e bs->kd d=YB k->kd e=YB m->C (lt k m) s->X8 (Qm prog w) A (keyLt' κ u v) C E s
theorem readsAll_ints(ns:List Int)(r:ReadsAll h vs (ns.map Xk) as):BV vs ns:=by
 induction ns generalizing vs as with
 | nil=>cases r;exact .nil
 | cons n ns ih=>
  cases r with
  | cons r q=>
   cases r;exact .cons _ _ (ih q)
theorem Zap(r:Reads h u (.list (ns.map Xk)) as):∃a items,u= .ref a/\h.IsList a items/\BV items.toList ns:=by
 cases r with
 | list e c d q=>exact⟨_,_,rfl,⟨_,e,c,_,d⟩,readsAll_ints ns q⟩
theorem Zg4(r:Reads h u (.tuple (ns.map Xk)) as):∃a items,u= .ref a/\h.IsTuple a items/\BV items.toList ns:=by
 cases r with
 | tuple e c d q=>exact⟨_,_,rfl,⟨_,e,c,_,d⟩,readsAll_ints ns q⟩
theorem readsAll_get(r:ReadsAll h vs ds as):vs.length=ds.length/\∀(i:Nat) d,ds[i]? =YB d->∃v bs,vs[i]? =YB v/\Reads h v d bs:=by
 induction ds generalizing vs as with
 | nil=>cases r;exact⟨rfl,λi d e=>by rw[List.getElem?_nil]at e;cases e⟩
 | cons d ds ih=>
  cases r with
  | cons r q=>
   obtain⟨z1,z2⟩:=ih q;refine⟨YT Nat.succ z1,λi e he=>?_⟩;cases i with
   | zero=>cases he;exact⟨_,_,rfl,r⟩
   | succ i=>exact z2 i e he
theorem lay_ints(ns:List Int):Sh 1 (.list (ns.map Xk)):=Zx0 λd m=>by
 obtain⟨x,_,rfl⟩:=Xv.mp m;exact Zyl x
theorem Zf7(ns:List Int):Sh 1 (.tuple (ns.map Xk)):=Z2x λd m=>by
 obtain⟨x,_,rfl⟩:=Xv.mp m;exact Zyl x
theorem Zlh(e:h.IsList a items):Looks M h (typeOf (.ref a)) (.type "list"):=by
 obtain⟨o,e,c,_⟩:=e;have:Looks M h (typeOf (.ref a)) o.cls:=(Looks.ld e).andThen .now
 rwa[c]at this
def kdL:Xa->Option (List Int):=λd=>match d with| .list es=>Zdq es|_=>YC
theorem Zio{d:Xa}{k:List Int}(h:kdL d=YB k):d= .list (k.map Xk):=by
 cases d with
 | list es=>exact YT Qu (Zb3 h)
 | _=>cases h
theorem Zve(r:ReadsAll h vs ds as)(hv:v∈vs):∃d∈ds,∃bs,Reads h v d bs:=by
 obtain⟨i,hi⟩:=BX hv;obtain⟨z1,z2⟩:=readsAll_get r;have c:i<ds.length:=z1▸(Xw.mp hi).1;obtain⟨v',bs,e,q⟩:=z2 i _ (Xf c);rw[hi]at e;cases e;exact⟨_,Q4 c,bs,q⟩
theorem Z9r:Ycj kdL ltI:=by
 refine⟨λd k h=>by rw[Zio h];exact(lay_ints k).1,oneType',λprog w A E s vs ds as Q h2 r hk q=>kas_kind (T:=.type "list") h2 (λv hv=>?_) rfl rfl q,λprog w A E s u v d e as bs k m C hu r1 r2 h1 h2 h=>?_⟩
 .obtain⟨d,hd,bs,z⟩:=Zve r hv
  obtain⟨k,hk⟩:=hk d hd;rw[Zio hk]at z;obtain⟨a,items,rfl,e,_⟩:=Zap z;exact Zlh e
 .rw[Zio h1]at r1
  rw[Zio h2]at r2;obtain⟨a,i1,rfl,e1,z1⟩:=Zap r1;obtain⟨b,i2,rfl,e2,z2⟩:=Zap r2;rw[keyLt'_oneType];exact Zks (by omega) e1 e2 z1 z2 h
def kdT:Xa->Option (List Int×List Int):=λd=>match d with| .tuple [.list es,.tuple fs]=>(Zdq es).bind λns=>(Zdq fs).bind λms=>YB (ns,ms)|_=>YC
def ltT:List Int×List Int->List Int×List Int->Bool:=λa b=>if a.1=b.1 then(if a.2=b.2 then YF else ltI a.2 b.2)else ltI a.1 b.1
theorem Zil{d:Xa}{k:List Int×List Int}(h:kdT d=YB k):d= .tuple [.list (k.1.map Xk),.tuple (k.2.map Xk)]:=by
 unfold kdT at h;split at h
 case h_2=>cases h
 obtain⟨ns,h1,h⟩:=bs h;obtain⟨ms,h2,h⟩:=bs h;cases h;rw[Zb3 h1,Zb3 h2]
theorem Zqh{k:List Int×List Int}(r:Reads h u (.tuple [.list (k.1.map Xk),.tuple (k.2.map Xk)]) as):∃t o n a b,u= .ref t/\h.get? t=YB o/\o.cls= .type "tuple"/\o.data= .seq #[.ref a,.ref b] n/\(∃bs,Reads h (.ref a) (.list (k.1.map Xk)) bs)/\∃bs,Reads h (.ref b) (.tuple (k.2.map Xk)) bs:=by
 cases r with
 | @tuple t o vs n xs as e c d q=>
  obtain⟨l,hl⟩:∃l,l=vs.toList:=⟨_,rfl⟩;rw[<-hl]at q;cases q with
  | cons r1 q=>
   cases q with
   | cons r2 q=>
    cases q;obtain⟨a,_,rfl,_⟩:=Zap r1;obtain⟨b,_,rfl,_⟩:=Zg4 r2;have:vs=#[.ref a,.ref b]:=Array.toList_inj.mp hl.symm;subst this;exact⟨t,o,n,a,b,rfl,e,c,d,⟨_,r1⟩,_,r2⟩
theorem Zn2(a b:List Int):Q6 (.list (a.map Xk)) (.list (b.map Xk))=decide (a=b):=by
 have p:∀l:List Int,Wf (.list (l.map Xk))=YD:=λl=>by rw[Wf];induction l with|nil=>rfl|cons x l ih=>exact ih
 have inj:∀{l m:List Int},Qu (l.map Xk)= .list (m.map Xk)->l=m:=λh=>by
  injection h with h;exact(List.map_inj_right λx y z=>by injection z).mp h
 by_cases c:a=b
 .rw[Z2p (p a) (p b) (by rw[c]),YQ c]
 .rw[Ybb (p a) (p b) λz=>c (inj z),YS c]
theorem Zuw(a b:List Int):Q6 (.tuple (a.map Xk)) (.tuple (b.map Xk))=decide (a=b):=by
 have e:∀xs ys:List Xa,Q6 (.tuple xs) (.tuple ys)=Q6 (.list xs) (.list ys):=λxs ys=>by
  rw[Q6,Q6]
 rw[e,Zn2]
theorem Z26:Ycj kdT ltT:=by
 refine⟨λd k h=>?_,tuples' YD,λprog w A E s vs ds as Q h2 r hk q=>?_,λprog w A E s u v d e as bs k m C hu r1 r2 h1 h2 h=>?_⟩
 .rw[Zil h]
  exact(Z2x (n:=1) λd m=>by
   rcases Xm.mp m with rfl|m
   .exact lay_ints _
   .rw[Xj.mp m];exact Zf7 _).1
 .have key:∃fs:List Xe,KatTups s.heap vs fs/\fs.length=vs.length/\∀v∈fs,∃a items,v= .ref a/\s.heap.IsList a items:=by
   clear h2 q
   induction ds generalizing vs as with
   | nil=>cases r;exact⟨[],trivial,rfl,λ_ m=>nomatch m⟩
   | cons d ds ih=>
    cases r with
    | cons r q=>
     obtain⟨fs,t,l,z⟩:=ih _ _ q λd m=>hk d (.tail _ m);obtain⟨k,hk⟩:=hk d (.head _);rw[Zil hk]at r;obtain⟨t',o,n,a,b,rfl,e,c,hd,⟨_,x1⟩,_⟩:=Zqh r;obtain⟨a',items,ea,ex,_⟩:=Zap x1;cases ea;refine⟨.ref a::fs,KatTups.cons e c hd rfl t,YT Nat.succ l,λv hv=>?_⟩;rcases Xm.mp hv with rfl|hv
     .exact⟨a,items,rfl,ex⟩
     .exact z v hv
  obtain⟨fs,t,l,z⟩:=key;exact kat_kind (T:=.type "list") t (by omega) (λv hv=>by obtain⟨a,items,rfl,e⟩:=z v hv;exact Zlh e) rfl q
 .rw[Zil h1]at r1
  rw[Zil h2]at r2;obtain⟨t1,o1,n1,a1,b1,rfl,g1,c1,d1,⟨_,x1⟩,_,y1⟩:=Zqh r1;obtain⟨t2,o2,n2,a2,b2,rfl,g2,c2,d2,⟨_,x2⟩,_,y2⟩:=Zqh r2;refine kat_lt g1 d1 g2 d2 (kat_cons ?_);refine SeqAt.eqAt_reads _ _ A s _ _ _ _ x1 x2 (lay_ints _).1 (lay_ints _).1 (by have:=(lay_ints k.1).2;omega) prog w _ _ ?_;rw[Zn2];unfold ltT at h;obtain⟨p1,i1,e1,l1,z1⟩:=Zap x1;obtain⟨p2,i2,e2,l2,z2⟩:=Zap x2;cases e1;cases e2
  by_cases c:k.1=m.1
  .rw[YL c]at h
   rw[YQ c];refine kat_yes (kat_cons ?_);refine SeqAt.eqAt_reads _ _ A s _ _ _ _ y1 y2 (Zf7 _).1 (Zf7 _).1 (by have:=(Zf7 k.2).2;omega) prog w _ _ ?_;rw[Zuw];obtain⟨p1,i1,e1,l1,z1⟩:=Zg4 y1;obtain⟨p2,i2,e2,l2,z2⟩:=Zg4 y2;cases e1;cases e2
   by_cases c':k.2=m.2
   .rw[YL c']at h
    rw[YQ c'];exact kat_yes (kat_nil h)
   .rw[YM c']at h
    rw[YS c'];exact kat_no (Zvd (by omega) l1 l2 z1 z2 h)
  .rw[YM c]at h
   rw[YS c];exact kat_no (Zks (by omega) l1 l2 z1 z2 h)
end L2
namespace L2
open PySem PySem.Spec PyProof.Rows PySem.W
def lk(kd:Xa->Option α)(lt:α->α->Bool)(es:List Xa):Nat->Nat->Bool:=λi j=>((kd (es.getD i .none)).bind λa=>(kd (es.getD j .none)).map λb=>lt a b).getD YF
def keyed(kd:Xa->Option α)(es:List Xa):Prop:=∀d∈es,∃k,kd d=YB k
theorem Zlc{es:List Xa}(h:∀d∈es,d.canLay0=YD):Bo es=YD:=by
 induction es with
 | nil=>rw[Bo]
 | cons d es ih=>rw[Bo,h d (.head _),ih λd m=>h d (.tail _ m)];rfl
theorem Das.sLay{lt:Nat->Nat->Bool}{xs:List V}(h:Das G H L xs ds):Das G H L (L2.sLay .non lt xs) (L2.sLay .none lt ds):=by
 unfold L2.sLay;rw[h.length];split
 .exact h
 .generalize Zzi lt _=l
  induction l with
  | nil=>exact .nil
  | cons i l ih=>
   refine .cons ?_ ih;show Da G H L (xs.getD i .non) (ds.getD i .none);rw[Xb,Xb];cases e:xs[i]? with
   | some x=>
    obtain⟨u,e',r⟩:=h.get' e;rw[e'];exact r
   | none=>
    have:ds[i]? =YC:=Qv (by rw[<-h.length];exact Qy.mp e);rw[this];exact .non
def Zst(kd:Xa->Option α)(lt:α->α->Bool)(K:Xc):List V->Hp->VK->Prop:=λxs H Q=>∃(a:YG) (vs:List V) (L:YG->Prop) (es:List Xa),xs=[.ref a]/\SqL K H a vs/\Das K H L vs es/\vs.length<64/\keyed kd es/\∀l,H l=YC->Q (.ref l) (upd H l (.lst (sLay .non (lk kd lt es) vs)))
section
variable {kd:Xa->Option α}{lt:α->α->Bool}
theorem Zhs(S:Ycj kd lt)(hK:X.K=K)(hu:X.A.units+64<cLine):Zbn X (.builtin "sorted") (Zst kd lt K):=by
 subst hK;intro pins s Y H xs us Q I r h;obtain⟨l,vs,L,es,rfl,hs,hd,h64,hk,q⟩:=h;obtain⟨u,rfl,ru⟩:=vals1 r;cases(show u=QZ l from ru);obtain⟨its,rv,pl,hz⟩:=I.list hs;have hl:=rv.length;obtain⟨as,ra⟩:=hd.reads rfl I rv (Zlc λd m=>by obtain⟨k,e⟩:=hk d m;exact S.lay d k e);obtain⟨κ,S1,S2⟩:=S.run;obtain⟨z1,z2⟩:=readsAll_get ra;refine Z6d (κ:=κ) (lt:=lk kd lt es) pl.isList (by omega) (λh2 s' k Q q=>S1 _ _ _ _ s' _ es as Q h2 (ReadsAll.keeps k ra) hk q) (λh2 s' k i j C hi hj hc=>?_) ?_
 .rw[z1]at hi hj
  obtain⟨v,b1,e1,r1⟩:=z2 i _ (Xf hi);obtain⟨w,b2,e2,r2⟩:=z2 j _ (Xf hj);obtain⟨k1,q1⟩:=hk _ (Q4 hi);obtain⟨k2,q2⟩:=hk _ (Q4 hj);have ek:lk kd lt es i j=lt k1 k2:=by
   unfold lk;rw[Xb,Xb,Xf hi,Xf hj];show((kd es[i]).bind λa=>(kd es[j]).map λb=>lt a b).getD YF=_;rw[q1,q2];rfl
  rw[ek]at hc;unfold kas_ask;rw[Xb,Xb,e1,e2];exact S2 _ _ _ _ s' v w _ _ _ _ k1 k2 C (show X.A.units+1+1+32<cLine by omega) (Reads.keeps k r1) (Reads.keeps k r2) q1 q2 hc
 .obtain⟨e,he⟩:=sortedAll_at s.heap its (Bv (sLay JB (lk kd lt es) its))
  refine⟨.ref (s.heap.objs.size+1),_,I.laid (t':=s.toks) (o:=.lst (sLay .non (lk kd lt es) vs)) (λb ob q=>sortedAll_old q) (by omega) ⟨?_,sLay JB (lk kd lt es) its,e,Zxo rv,he⟩,rfl,q _ (I.hok.fresh (by omega))⟩;rw[(Zjb _ _ _).length_eq,Qk];omega
def Zr8(kd:Xa->Option α)(lt:α->α->Bool):List Xa->(OT->Prop)->Prop:=λds k=>n1 (λd=>∃es:List Xa,d= .list es/\es.length<64/\keyed kd es/\k (.nd ((sLay .none (lk kd lt es) es).map OT.fz))) ds
theorem Zmg:PN G (Zst kd lt G) (Zr8 kd lt):=λH L xs ds k Q hx h kk=>by
 obtain⟨v,d,rfl,rfl,q,es,e,h64,hk,h⟩:=hx.one h;have fin:∀(vs:List V) (p:YG),Das G H L vs es->H p=YC->Q (.ref p) (upd H p (.lst (sLay .non (lk kd lt es) vs))):=λvs p hv hp=>kk _ _ _ [p] (Z9 hp _) (Own.list hp hv.sLay) (Zdf p) (Zay hp) h;subst e;generalize ed:Qu es=d at q;cases q with
 | lst l e r=>
  cases ed;exact⟨_,_,L,es,rfl,.inl e,r,by rw[r.length];exact h64,hk,λp hp=>fin _ p r hp⟩
 | scr ks=>
  cases ed;exact⟨_,_,L,_,rfl,ks.sq,Das.ints _,by rw[(Das.ints (G:=G) (H:=H) (L:=L) _).length];exact h64,hk,λp hp=>fin _ p (Das.ints _) hp⟩
 | _=>cases ed
def Zh9(kd:Xa->Option α)(lt:α->α->Bool):List Xa->Option OT:=λds=>match ds with|[.list es]=>if(decide (es.length<64)&&es.all λd=>(kd d).isSome)=YD then YB (.nd ((sLay .none (lk kd lt es) es).map OT.fz))else YC|_=>YC
theorem Zqc:∀ds r k,Zh9 kd lt ds=YB r->k r->Zr8 kd lt ds k:=λds r k h hk=>by
 unfold Zh9 at h;split at h
 case h_2=>cases h
 split at h
 case isFalse=>cases h
 rename_i h2;rw[XC]at h2;cases h;exact⟨_,rfl,YW h2.1,λd m=>Ul.mp (Vg.mp h2.2 d m),hk⟩
end
end L2
namespace L2
open PySem PySem.Spec PyProof.Rows
section
variable {p q r:Bool}{a b:YJ}{f g:FS}{ta:FT}
theorem xv(i:Nat)(hN:X.N[i]? =YB x:=by rfl)(hv:Vis X.env.scope x:=by first|exact QT rfl|exact QF (QT rfl)|exact QF (QF rfl))(hd:(x==("__debug__" : Str))=YF:=by decide)(he:(x==("__classdict__" : Str))=YF:=by decide):ME X io YD YD (.Name x pos) (o2 (Zd i)):=Yi (mv i hN hv hd he)
theorem xo(i:Nat)(hN:X.N[i]? =YB x:=by rfl)(hv:Vis X.env.scope x:=by first|exact QT rfl|exact QF (QT rfl)|exact QF (QF rfl))(hd:(x==("__debug__" : Str))=YF:=by decide)(he:(x==("__classdict__" : Str))=YF:=by decide):ME X io YD YF (.Name x pos) (o2 (Zq9 i)):=Ydw (mo i hN hv hd he)
theorem xci{i:Int}:ME X io YD YD (.Constant (.int i) j pos) (o2 (fC (.int i))):=Zeb Zk3
theorem xix(ha:ME X io p c a (o2 fa))(hb:ME X io p' c' b (o2 fb))(hc:p'=YD\/c=YD:=by first|exact QT rfl|exact QF rfl)(hs:Ziv b:=by exact λ_ _=>rfl)(h2:(p&&p')=q:=by rfl)(h3:(c&&c')=r:=by rfl):ME X io q r (.Subscript a b pos) (o2 (Yl gIx fa fb)):=h2▸h3▸Zdk Ygm (Ygy (Zm1 rfl) Z5w ha hb hc (hs:=hs))
theorem xa0:MA X io YD YD [] (o2 Zq):=Zb9 Zby
theorem xa1[NoStar e](ha:ME X io p c e (o2 fa))(h2:(p&&YD)=q:=by rfl)(h3:(c&&YD)=r:=by rfl):MA X io q r [e] (o2 (Zc fa Zq)):=Ze ha xa0 (.inl rfl) h2 h3
theorem xsq(h:MS X io st (oS f))(k:MSs X io sts (oS g)):MSs X io (st::sts) (oS (Z6 f g)):=Zfe (Zar h k)
theorem xst(i:Nat)(hN:X.N.Nodup)(he:ME X io p YD e (o2 fa))(hi:X.N[i]? =YB x:=by rfl)(hx:Loc X.env.scope x:=by first|exact QT rfl|exact QF rfl)(hio:i∉io:=by decide)(hs:V9 e (YB (.Name x px)) pos.line X.env=pure YF:=by rfl)(hf:X.fn x=YD\/X.env.scope.names.lookup x=YB .local:=by first|exact .inl rfl|exact .inr rfl|assumption):MS X io (.Assign [.Name x px] e pos) (oS (wE fa (Y0 i))):=Zwj (Zwg hN hi hx he hio hs hf)
theorem xrt(h:ME X io p YD e (o2 fa)):MS X io (.Return (YB e) pos) (oS (wE fa Wu)):=Zfh (Ze8 h)
theorem xg(i:Nat)(hN:X.N.Nodup)(hi:X.N[i]? =YB x:=by rfl)(hx:Loc X.env.scope x:=by first|exact QT rfl|exact QF rfl)(hio:i∉io:=by decide)(hf:X.fn x=YD\/X.env.scope.names.lookup x=YB .local:=by first|exact .inl rfl|exact .inr rfl|assumption):MG X io YD (.Name x pos) (oG (gNm i)):=Zl2 (Zmc hN hi hx hio hf)
theorem xif(h:MT X io p e (o2 ta))(k:MSs X io ss (oS f))(l:MSs X io ss' (oS g)):MS X io (.If e ss ss' pos) (oS (Zaf ta f g)):=Zm4 (Zm8 h k l)
theorem xnl:MSs X io [] (oS fNx):=Zc3 Zdc
theorem xtp{n:Nat}(h:MA X io p c es (o2 ra)):ME X io p c (.Tuple es n pos) (o2 (Ze2 ra)):=Yc0 (Ygs h)
theorem xls(h:MA X io p c es (o2 ra)):ME X io p c (.List es pos) (o2 (Zd2 ra)):=Zvz (Z4n h)
theorem xil(h:ME X io p c e (o2 fa)):MI X io p c tg e (o2 (Zf5 fa)):=Z46 (Z73 h)
theorem xno(h:MT X io p e (o2 ta)):MT X io p (.UnaryOp .Not e pos) (o2 (tNo ta)):=Z4b (Z24 h)
theorem Zis(ha:ME X io p c a (o2 fa))(hb:ME X io p' c' b (o2 fb))(hc:p'=YD\/c=YD:=by first|exact QT rfl|exact QF rfl)(h2:(p&&p')=q:=by rfl):ME X io q YD (.BinOp a .Add b pos) (o2 (Zj Zcn fa fb)):=h2▸Wh Yfi (Zpb Yco Zlu ha hb hc)
theorem Z5p(ha:ME X io p c a (o2 fa))(hb:ME X io p' c' b (o2 fb))(hc:p'=YD\/c=YD:=by first|exact QT rfl|exact QF rfl)(h2:(p&&p')=q:=by rfl):ME X io q YD (.BinOp a .Sub b pos) (o2 (Zj gSb fa fb)):=h2▸Wh Z47 (Zpb Zvr Zlu ha hb hc)
theorem Zn7(ha:ME X io p c a (o2 fa))(hb:ME X io p' c' b (o2 fb))(hc:p'=YD\/c=YD:=by first|exact QT rfl|exact QF rfl)(h2:(p&&p')=q:=by rfl):ME X io q YD (.BinOp a .Mult b pos) (o2 (Zj Zf4 fa fb)):=h2▸Wh Yfp (Zpb Z8i Ydm ha hb hc)
theorem Zpi(ha:ME X io p c a (o2 fa))(hb:ME X io p' c' b (o2 fb))(hc:p'=YD\/c=YD:=by first|exact QT rfl|exact QF rfl)(h2:(p&&p')=q:=by rfl):ME X io q YD (.BinOp a .Mod b pos) (o2 (Zj Zgz fa fb)):=h2▸Wh Ygd (Zpb Z6a Yaw ha hb hc)
theorem Zue(ha:ME X io p c a (o2 fa))(hb:ME X io p' c' b (o2 fb))(hc:p'=YD\/c=YD:=by first|exact QT rfl|exact QF rfl)(h2:(p&&p')=q:=by rfl):ME X io q YD (.BinOp a .FloorDiv b pos) (o2 (Zj Zbv fa fb)):=h2▸Wh Yb2 (Zpb Z0a Z92 ha hb hc)
theorem Yhm(ha:ME X io p c a (o2 fa))(hb:ME X io p' c' b (o2 fb))(hc:p'=YD\/c=YD:=by first|exact QT rfl|exact QF rfl)(h2:(p&&p')=q:=by rfl):ME X io q YD (.BinOp a .Pow b pos) (o2 (Zj Zzn fa fb)):=h2▸Wh Yfy (Zpb Z7d Ydd ha hb hc)
theorem xeq(hu:X.A.units+64<cLine)(ha:ME X io p c a (o2 fa))(hb:ME X io p' c' b (o2 fb))(hc:p'=YD\/c=YD:=by first|exact QT rfl|exact QF rfl)(h2:(p&&p')=q:=by rfl):MT X io q (.Compare a [.Eq] [b] pos) (o2 (tV (Zj gEq fa fb))):=h2▸Za8 Z87 (Za9 (Zky hu) Ztk ha hb hc (hm:=W4 _))
theorem xne(hu:X.A.units+64<cLine)(ha:ME X io p c a (o2 fa))(hb:ME X io p' c' b (o2 fb))(hc:p'=YD\/c=YD:=by first|exact QT rfl|exact QF rfl)(h2:(p&&p')=q:=by rfl):MT X io q (.Compare a [.NotEq] [b] pos) (o2 (tV (Zj gNe fa fb))):=h2▸Za8 Yeo (Za9 (Zq8 hu) Z08 ha hb hc (hm:=W4 _))
theorem xlt(ha:ME X io p c a (o2 fa))(hb:ME X io p' c' b (o2 fb))(hc:p'=YD\/c=YD:=by first|exact QT rfl|exact QF rfl)(h2:(p&&p')=q:=by rfl):MT X io q (.Compare a [.Lt] [b] pos) (o2 (tV (Zj gLt fa fb))):=h2▸Za8 Z9p (Za9 Zt4 Zfd ha hb hc (hm:=W4 _))
theorem xgt(ha:ME X io p c a (o2 fa))(hb:ME X io p' c' b (o2 fb))(hc:p'=YD\/c=YD:=by first|exact QT rfl|exact QF rfl)(h2:(p&&p')=q:=by rfl):MT X io q (.Compare a [.Gt] [b] pos) (o2 (tV (Zj gGt fa fb))):=h2▸Za8 Ygn (Za9 Z5t Zfd ha hb hc (hm:=W4 _))
theorem xle(ha:ME X io p c a (o2 fa))(hb:ME X io p' c' b (o2 fb))(hc:p'=YD\/c=YD:=by first|exact QT rfl|exact QF rfl)(h2:(p&&p')=q:=by rfl):MT X io q (.Compare a [.LtE] [b] pos) (o2 (tV (Zj gLe fa fb))):=h2▸Za8 Ykl (Za9 Ybi Zfd ha hb hc (hm:=W4 _))
theorem xge(ha:ME X io p c a (o2 fa))(hb:ME X io p' c' b (o2 fb))(hc:p'=YD\/c=YD:=by first|exact QT rfl|exact QF rfl)(h2:(p&&p')=q:=by rfl):MT X io q (.Compare a [.GtE] [b] pos) (o2 (tV (Zj gGe fa fb))):=h2▸Za8 Yju (Za9 Yg0 Zfd ha hb hc (hm:=W4 _))
theorem xfr(hp:PassesOwn (Qm X.prog X.w) X.A X.env X.xe)(hc:X.calm=YD)(hi:MI X io p YD tg e (o2 it))(hg:MG X io YD tg (oG gg))(hb:MSs X io ss (oS f))(hs:∀x,By e X.env x=pure x:=by intro _;rfl):MS X io (.For tg e ss [] pos) (oS (Zau it gg f)):=Zx9 (Zwv hp hc hi hg hb hs)
theorem xg2{n:Nat}{g1 g2:FG}(hc:X.calm=YD)(ha:MG X io YD a (oG g1))(hb:MG X io YD b (oG g2))(h1:List.map (λx=>x.snd) (Bm [a,b] X.env)=assign a X.env::List.map (λx=>x.snd) (Bm [b] X.env):=by rfl)(h2:List.map (λx=>x.snd) (Bm [b] X.env)=assign b X.env::List.map (λx=>x.snd) (Bm [] X.env):=by rfl)(h3:(Bm [a,b] X.env).length=2:=by rfl)(h4:List.findIdx? (λx=>x.fst) (Bm [a,b] X.env)=YC:=by rfl):MG X io YD (.Tuple [a,b] n pos) (oG (gTp 2 (gCn g1 (gCn g2 gNl)))):=Zw2 (Zv4 (n:=2) hc (Zbx (Zbz ha (Zbx (Zbz hb (Zqq Zpr) h2)) h1)) h3 h4)
theorem xso(i:Nat)(hN:X.N.Nodup)(he:ME X io p YD e (o2 fa))(hi:X.N[i]? =YB x:=by rfl)(hx:Loc X.env.scope x:=by first|exact QT rfl|exact QF rfl)(hio:i∉io:=by decide)(hs:V9 e (YB (.Name x px)) pos.line X.env=pure YF:=by rfl)(hf:X.fn x=YD\/X.env.scope.names.lookup x=YB .local:=by first|exact .inl rfl|exact .inr rfl|assumption):MS X io (.Assign [.Name x px] e pos) (oS (wE fa (Zcb i))):=Z7x (Z82 hN hi hx he hio hs hf)
theorem xcl{k:Nat}{f:YG}{fd:XJ}(G:FnOk X.prog X.w X.K X.mg X.base CX0 k f fd ps (spD X.K (sD F)))(hr:Room k X.A)(hm:X.mg x=YB (.ref f))(hk:Ve X.K (.ref f)=YD)(hb:Binds X.K fd ps [])(ha:MA X io p c (e::es) (o2 ra))(hg:Gl X x:=by rfl)(h1:(x==("__debug__" : Str))=YF:=by decide)(h2:Xr (e::es) X.env=(YF,eval e X.env)::Xr es X.env:=by rfl)(h3:((JX pos (Xr es X.env)).any λx=>x.fst)=YF:=by rfl):ME X io p c (.Call (.Name x pp) (e::es) [] pos) (o2 (Zy F ra)):=Zjh (Zof G hr hg hm hk hb Zqn ha h1 h2 h3)
theorem xln(hm:X.mg "len"=YC)(ha:MA X io p c [e] (o2 ra))(hg:Gl X "len" :=by rfl)(h2:Xr [e] X.env=(YF,eval e X.env)::Xr [] X.env:=by rfl):ME X io p YD (.Call (.Name "len" pp) [e] [] pos) (o2 (Zag Zai ra)):=Zdi Zt1 (Zjk Zkw (Zcp rfl) hg hm L2.B.boot_len ha (by decide) (by decide) h2 (by rfl))
end
def tbl(P:List Nat)(led:Bool):SetTable:={ mask:=7,place:=P.toArray,dummies:=#[],finger:=0,led,moves:=0,plain:=YD }
def hT(k:List Int):Int:=reduceHash (Builtin.Tuple.tupleHashOf (k.map hashInt))
def hAt(ks:List (List Int))(i:Nat):Int:=(ks[i]?.map hT).getD 0
def Ye1(P:List Nat)(j:Nat):List Nat:=((tbl P YF).put j).1.place.toList
def Yim(P:List Nat)(j:Nat):Nat:=((tbl P YF).put j).2
def Ykw(ks:List (List Int))(p:Nat)(k:List Int):List (List Int):=ks.take p++k::ks.drop p
def Yhy(P:List Nat)(ks:List (List Int))(k:List Int):Option (List Nat×List (List Int)) :=
 match(tbl P YF).probe (hAt ks) (hT k) ((tbl P YF).probeStart (hT k))with
 | some (.empty j YC)=>if(tbl (Ye1 P j) YF).tooFull=YF/\(Ye1 P j).length=ks.length+1/\ks.length<=6/\Yim P j<=ks.length then YB (Ye1 P j,Ykw ks (Yim P j) k)else YC
 | some (.candidate _ i _)=>if ks[i]? =YB k then YB (P,ks)else YC
 | _=>YC
def grow(K:List (List Int)):Nat->List (List Nat×List (List Int))->List (List Nat×List (List Int))
 | 0,S=>S
 | n+1,S=>grow K n (S++(S.flatMap λs=>K.filterMap λk=>Yhy s.1 s.2 k).filter λs=>!S.contains s)
def okS(K:List (List Int))(S:List (List Nat×List (List Int))):Bool:=S.all λs=>K.all λk=>match Yhy s.1 s.2 k with
 | some s'=>S.contains s'&&(s'.2.length==if s.2.contains k then s.2.length else s.2.length+1)&&K.all λx=>s'.2.contains x==(s.2.contains x||x==k)
 | none=>YF
def K2:List (List Int):=[[0,0],[0,1],[1,0],[1,1]]
def S2:List (List Nat×List (List Int)):=(grow K2 4 [([],[])]).eraseDups
inductive KeysIn(U:YG->List Int->Prop):List (List Int)->List (Int×Xe)->Prop
 | nil:KeysIn U [] []
 | cons {k:List Int} {a:YG} {ks:List (List Int)} {l:List (Int×Xe)} (h:U a k) (t:KeysIn U ks l):KeysIn U (k::ks) ((hT k,.ref a)::l)
abbrev IK(prog:Qi)(w:QJ)(h:YH)(k:List Int)(a:YG):Prop:=IsTupleKey (intKind prog w) h k a
theorem items_int{ks:List Int}(h:ItemsAre (intKind prog w) ks vs):∀v∈vs,∃i t,v= .int i t:=by
 induction h with
 | nil=>exact λ_ m=>nomatch m
 | cons h _ ih=>
  intro v hv;rcases Xm.mp hv with rfl|hv
  .obtain⟨t,e⟩:=Value.isInt_shape h
   exact⟨_,t,e⟩
  .exact ih v hv
section
variable {R:Result->Xh->Prop}{I:YG}{fp wr:List YG}{n:Nat}{Pv:Nat->Xe->Prop}{St:Nat->YH->Prop}
end
inductive Ygo(H:Hp):List V->List (List Int)->Prop
 | nil:Ygo H [] []
 | cons {a:YG} {k:List Int} {xs:List V} {ks:List (List Int)} (h:H a=YB (.tup (k.map V.int))) (t:Ygo H xs ks):Ygo H (.ref a::xs) (k::ks)
section
variable {p:Bool}{a:YJ}{t:TA}
end
section
variable {p pt:Bool}{g:MGt}{mt:MTt}{me:MEt}
def Zoh:List OT->Bool
 | []=>YD
 | .fz _::r=>Zoh r
 | _::_=>YF
theorem Owns.fz_das:∀{ts:List OT} {xs:List V} {bs:List YG},Owns G H L xs ts bs->Zoh ts=YD->Das G H L xs (OT.datas ts):=fun{ts}=>by
 induction ts with
 | nil=>
  intro xs bs h _;cases h;rw[Zgt];exact .nil
 | cons t ts ih=>
  intro xs bs h a;cases t with
  | fz d=>
   cases h with
   | cons h r=>
    cases h with
    | fz q=>
     rw[Zev,OT.data_fz];exact .cons q (ih r a)
  | nd _=>cases a
  | tp _=>cases a
  | dc _ _ _=>cases a
end
section
variable {p pt:Bool}{sc:U6}{g:MGt}{mt:MTt}{me:MEt}
def Ycp(o:Option (Option OT)):Option (List OT):=match o with|some (YB (.nd ts))=>if Zoh ts=YD then YB ts else YC|_=>YC
theorem Zwk{o:Option (Option OT)}(h:Ycp o=YB ts):o=YB (YB (.nd ts))/\Zoh ts=YD:=by
 unfold Ycp at h;split at h
 .split at h
  .cases h;exact⟨rfl,‹_›⟩
  .cases h
 .cases h
end
abbrev Yky(h:YH)(T:YG)(a b c:Xe):Prop:=h.get? T=YB { cls:=.type "tuple",data:=.seq #[a,b,c] }
structure Z3A(z TI TO i1 i2 i3:YG)(f1 f2 f3:List YG):Prop where
 TIz:TI≠z
 TOz:TO≠z
 a1:∀c∈f1,c≠z/\c≠TO/\c≠i2/\c≠i3
 a2:∀c∈f2,c≠z/\c≠TO/\c≠i1/\c≠i3
 a3:∀c∈f3,c≠z/\c≠TO/\c≠i1/\c≠i2
abbrev z3A(h:YH)(a:YG):YH:=h.push { cls:=.type "list_iterator",data:=.fields #[.ref a,.int 0 0] }
abbrev z3B(h:YH)(a b:YG):YH:=z3A (z3A h a) b
abbrev z3C(h:YH)(a b c:YG):YH:=z3A (z3B h a b) c
abbrev z3D(h:YH)(a b c:YG):YH:=(z3C h a b c).push { cls:=.type "tuple",data:=.seq #[.ref h.objs.size,.ref (z3A h a).objs.size,.ref (z3B h a b).objs.size] }
abbrev z3E(h:YH)(a b c:YG):YH:=(z3D h a b c).push { cls:=.type "tuple",data:=.seq #[.none,.none,.none] }
abbrev z3F(h:YH)(a b c:YG):YH:=(z3E h a b c).push { cls:=.type "zip",data:=.fields #[.none,.bool YF,.bool YF,.ref (z3C h a b c).objs.size,.ref (z3D h a b c).objs.size] }
section
variable {p:Bool}{a b:YJ}
end
section
variable {p:Bool}
def Zlx(i:Nat)(m:MEt):MSt:=λD δ=>match δ[i]? with
 | some (YB (.nd _))=>m δ λr δ1=>match r,δ1[i]? with
  | .nd rs,YB (YB (.nd ts))=>ts.length+rs.length<=Xz/\D.nx (δ1.set i (YB (.nd (ts++(OT.datas rs).map OT.fz))))
  | _,_=>False
 | _=>False
theorem Owns.app:∀{zs xs:List V} {ts:List OT} {bs:List YG},Owns G H L xs ts bs->Das G H L zs ds->Owns G H L (xs++zs) (ts++ds.map OT.fz) bs:=by
 induction ds with
 | nil=>
  intro zs xs ts bs h g;cases g;rw[QS,List.map_nil,QS];exact h
 | cons d ds ih=>
  intro zs xs ts bs h g;cases g with
  | cons q g=>
   have:=ih (h.snoc (.fz q)) g;rw[QS,QQ,QQ]at this;exact this
theorem Zvn(i:Nat)(he:ME X io p YD e m)(hN:X.N[i]? =YB x:=by rfl)(hv:Vis X.env.scope x:=by first|exact QT rfl|exact QF (QT rfl)|exact QF (QF rfl))(hd:(x==("__debug__" : Str))=YF:=by decide)
  (hcd:(x==("__classdict__" : Str))=YF:=by decide)
  (hbase:Uy (.Name x px) "extend" X.env (eval (.Name x px) X.env)=eval (.Name x px) X.env:=by rfl)
  (hfew:((JX cpos (Xr [e] X.env)).all (λx=>!x.1)&&(backToKw cpos (keywordEach [] X.env)).all (λx=>x.1.isSome)
   &&decide ([e].length+([]:List Ur).length+(if([]:List Ur).isEmpty then 0 else 1)<30))=YD:=by rfl)
  (hline:(apos.endLine==cpos.line)=YD:=by rfl) (hs:Xr [e] X.env=(YF,eval e X.env)::Xr [] X.env:=by rfl) (hplain:(JX cpos (Xr [] X.env)).any (·.1)=YF:=by rfl)
  (hsw:V9 (.Call (.Attribute (.Name x px) "extend" apos) [e] [] cpos) YC pos.line X.env=pure YF:=by rfl) :
  MS X io (.Expr (.Call (.Attribute (.Name x px) "extend" apos) [e] [] cpos) pos) (Zlx i m):=by
 obtain⟨_,A,s⟩:=he;refine⟨_,Zpt (Z17 Uo PySem.F.slot_list_extend PySem.F.type_list_extend Zy2 (pv i hN hv hd hcd) (Zbj A Ze4 hs) hbase hfew hline hs hplain) hsw,λC H Y δ fp ex D D' R h E=>?_⟩;unfold Zlx at h;split at h
 case h_2=>exact h.elim
 rename_i ts0 hi0;obtain⟨a',xs0,bs0,hv0,hx0,_,_⟩:=R.ownNd hi0;refine⟨_,hv0,.inl ⟨rfl,xs0,.inl (.inl hx0)⟩,?_⟩;refine s C H Y δ fp ex _ _ R h λH1 v r δ1 fp1 new r1 h1=>?_;split at h1
 case h_2=>exact h1.elim
 rename_i rs ts1 hi1;have R1:=r1.base;obtain⟨a1,xs1,bs1,hv1,hx1,o1,hf1⟩:=R1.ownNd hi1;rw[hv0]at hv1;cases hv1;obtain⟨b,zs,rfl,hb,lz,qs⟩:∃b zs,v= .ref b/\H1 b=YB (.lst zs)/\zs.length=rs.length/\Das X.K H1 (Lf C fp1 ex) zs (OT.datas rs):=by
  have ow:=r1.own;have nw:∀a∈new,Lf C fp1 ex a:=λa m=>by
   refine⟨λqz=>?_,(R.newOk (r1.fresh a m)).2.1,.inr (R.newOk (r1.fresh a m)).2.2⟩;obtain⟨i,z⟩:=qz;exact r1.rel.dx i a z (.inr m)
  cases ow with
  | nd hb r=>exact⟨_,_,rfl,hb,r.length,r.das (λa l _=>⟨(l rfl).1,λz=>(l rfl).2.1 (.inl z),(l rfl).2.2⟩) λa m=>nw a (.tail _ m)⟩
 refine⟨a',b,xs1,zs,rfl,rfl,hx1,hb,by rw[o1.length,lz];exact h1.1,?_⟩;obtain⟨R2,S2⟩:=R1.top hi1 hv0 hf1 hx1 (o1.app qs) (List.Sublist.refl _);exact E.nx _ Y _ _ R2 (r1.stp.kp.trans S2.kp) h1.2
def Zg2(i:Nat)(e:FE):FS:=λδ=>match δ[i]? with
 | some (YB (.nd _))=>wE e (λr δ1=>match r,δ1[i]? with
  | .nd rs,YB (YB (.nd ts))=>if ts.length+rs.length<=Xz then .nx (δ1.set i (YB (.nd (ts++(OT.datas rs).map OT.fz))))else .bad
  | _,_=>.bad) δ
 | _=>.bad
theorem Zyj(h:MS X io st (Zlx i (o2 fa))):MS X io st (oS (Zg2 i fa)):=h.weak λD δ h=>by
 unfold oS Zg2 at h;unfold Zlx;split at h
 case h_2=>exact h.elim
 rename_i q;(try rw[q]);refine(Zud h).imp λr δ' z=>?_;split at z
 .rename_i q2;(try rw[q2]);exact Zrs z
 .exact z.elim
end
def Up(xs:List Nat):Prop:=xs.Pairwise (·<·)
structure Tb(b:Bool)(t:SetTable):Prop where
 led:t.led=b
 up:t.plain=YD->Up t.place.toList
def OfL(ks ns:List α):Prop:=ks.Nodup/\∀x,x∈ks↔x∈ns
abbrev Of(ks ns:List Int):Prop:=OfL ks ns
structure Yk9{τ:Type}(prog:Qi)(w:QJ)(A:QB)(S:YG)(T:YH->List τ->Prop)(h0:YH)(n:Nat)(Ok:Xe->τ->Prop):Prop where
 stay:∀h h' ks,T h ks->(∀o,h.get? S=YB o->h'.get? S=YB o)->T h' ks
 add:∀(s:Xh) (E:Xe->Xh->Prop) (v:Xe) (k:τ) (ks:List τ) (Q:Bool->Xh->Prop),Ok v k->(∀b o,b<S->h0.get? b=YB o->s.heap.get? b=YB o)->T s.heap ks->ks.length<n->(∀c h' tk ks',Uh S s.heap h'->T h' ks'->(k∈ks->ks'=ks)->(k∉ks->ks'.Perm (ks++[k]))->Q c { s with heap:=h',toks:=tk })->X8 (Qm prog w) A (setAdd S v) Q E s
section
variable {R:Result->Xh->Prop}{I S:YG}{fp wr:List YG}{n:Nat}{Pv:Nat->Xe->Prop}{St:Nat->YH->Prop}{τ:Type}{T:YH->List τ->Prop}{Ok:Xe->τ->Prop}
end
section
variable {κ:Type}[DecidableEq κ]
def Zzh(kvs:List (κ×V))(k:κ):Option V:=(kvs.find? λkv=>decide (kv.1=k)).map (·.2)
def putK(kvs:List (κ×V))(k:κ)(v:V):List (κ×V) :=
 if(kvs.any λkv=>decide (kv.1=k))=YD then kvs.map (λkv=>if kv.1=k then(kv.1,v)else kv)else kvs++[(k,v)]
theorem Z1e{p:κ×V}{r:List (κ×V)}{k:κ}(e:p.1=k):Zzh (p::r) k=YB p.2:=by simp[Zzh,List.find?_cons,e]
theorem Z1c{p:κ×V}{r:List (κ×V)}{k:κ}(e:¬p.1=k):Zzh (p::r) k=Zzh r k:=by simp[Zzh,List.find?_cons,e]
theorem KV.length{kvs:List (κ×V)}{vs:List (κ×Xe)}(r:KV kvs vs):kvs.length=vs.length:=Paired.length r
end
abbrev KT(H:Hp):List (List Key×V)->List (List Key×YG×Xe)->Prop:=Paired λp q=>p.1=q.1/\H q.2.1=YB (.tup (p.1.map kV))/\RelV p.2 q.2.2
def DGet(H:Hp)(a:YG)(y:V)(r:Option V):Prop :=
 (∃ kvs k,Rd H a (.dK kvs)/\y=kV k/\r=Zzh kvs k)\/∃kvs k b,Rd H a (.dT kvs)/\y= .ref b/\H b=YB (.tup (k.map kV))/\r=Zzh kvs k
def DPut(H:Hp)(a:YG)(y v:V)(H':Hp):Prop :=
 (∃ kvs k,H a=YB (.dK kvs)/\y=kV k/\kvs.length<Xz/\H'=upd H a (.dK (putK kvs k v)))\/
 ∃kvs k b,H a=YB (.dT kvs)/\y= .ref b/\H b=YB (.tup (k.map kV))/\kvs.length<Xz/\H'=upd H a (.dT (putK kvs k v))
theorem DGet.k{kvs:List (Key×V)}{k:Key}(e:H a=YB (.dK kvs)):DGet H a (kV k) (Zzh kvs k):=.inl ⟨kvs,k,.inl e,rfl,rfl⟩
theorem DGet.t{H:Hp}{a b:YG}{kvs:List (List Key×V)}{k:List Key}(e:H a=YB (.dT kvs))(eb:H b=YB (.tup (k.map kV))):DGet H a (.ref b) (Zzh kvs k):=.inr ⟨kvs,k,b,.inl e,rfl,eb,rfl⟩
theorem DPut.k{kvs:List (Key×V)}{k:Key}{v:V}(e:H a=YB (.dK kvs))(hl:kvs.length<Xz):DPut H a (kV k) v (upd H a (.dK (putK kvs k v))):=.inl ⟨kvs,k,e,rfl,hl,rfl⟩
theorem DPut.t{H:Hp}{a b:YG}{kvs:List (List Key×V)}{k:List Key}{v:V}(e:H a=YB (.dT kvs))(eb:H b=YB (.tup (k.map kV)))(hl:kvs.length<Xz) :
  DPut H a (.ref b) v (upd H a (.dT (putK kvs k v))):=.inr ⟨kvs,k,b,e,rfl,eb,hl,rfl⟩
section
variable {Y:St}{y v:V}{r:Xe}{o:Option V}
end
section
variable {Y:St}{kvs:List (Key×V)}{k:Key}
end
section
variable {o i value:YJ}{tpos:Pos}{td ty tv:TE}
end
abbrev VV:List (V×V)->List (Xe×Xe)->Prop:=Paired λp q=>RelV p.1 q.1/\RelV p.2 q.2
structure M1(X:Cx)(o:YJ)(m:Str)(apos:Pos)(e:YJ)(cpos:Pos):Prop where
 base:Uy o m X.env (eval o X.env)=eval o X.env
 few:((JX cpos (Xr [e] X.env)).all (λx=>!x.1)&&(backToKw cpos (keywordEach [] X.env)).all (λx=>x.1.isSome)
  &&decide (([e]:List YJ).length+([]:List Ur).length+(if([]:List Ur).isEmpty then 0 else 1)<30))=YD
 line:(apos.endLine==cpos.line)=YD
 trees:JX cpos (Xr [e] X.env)=[(YF,eval e X.env)]
structure M2(X:Cx)(o:YJ)(m:Str)(apos:Pos)(e f:YJ)(cpos:Pos):Prop where
 base:Uy o m X.env (eval o X.env)=eval o X.env
 few:((JX cpos (Xr [e,f] X.env)).all (λx=>!x.1)&&(backToKw cpos (keywordEach [] X.env)).all (λx=>x.1.isSome)
  &&decide (([e,f]:List YJ).length+([]:List Ur).length+(if([]:List Ur).isEmpty then 0 else 1)<30))=YD
 line:(apos.endLine==cpos.line)=YD
 trees:JX cpos (Xr [e,f] X.env)=[(YF,eval e X.env),(YF,eval f X.env)]
section
variable {Y:St}{y d:V}{r:Xe}{o:Option V}
end
section
variable {o f:YJ}{td ty tx:TE}
end
def Yfm(k:KY):List KY->List Xa->Option Xa
 | [],_=>YC
 | _::_,[]=>YC
 | j::ks,d::ds=>if j=k then YB d else Yfm k ks ds
section
variable {κ:Type}[DecidableEq κ]{f:κ->KY}
def Yjc(G:Xc)(H:Hp)(L:YG->Prop)(a:Option V)(b:Option Xa):Prop:=(∃v d,a=YB v/\b=YB d/\Da G H L v d)\/(a=YC/\b=YC)
theorem look(hf:∀a b,f a=f b->a=b)(k:κ)(kvs:List (κ×V)):∀ds,Das G H L (kvs.map (·.2)) ds->Yjc G H L (Zzh kvs k) (Yfm (f k) (kvs.map λp=>f p.1) ds):=by
 induction kvs with
 | nil=>exact λds _=>.inr ⟨rfl,rfl⟩
 | cons p kvs ih=>
  intro ds h;cases h with
  | cons h r=>
   rename_i d ds;show Yjc G H L _ (if f p.1=f k then YB d else Yfm (f k) (kvs.map λp=>f p.1) ds)
   by_cases e:p.1=k
   .rw[Z1e e,YL (YT f e)]
    exact .inl ⟨_,_,rfl,rfl,h⟩
   .rw[Z1c e,YM λz=>e (hf _ _ z)]
    exact ih _ r
end
section
variable {y:V}{e:Xa}
end
def Yds(K:Xc):R2:=λx y H Q=>Z9l K x y H Q\/∃a b ys,x= .ref a/\y= .ref b/\SqT K H a []/\SqT K H b ys/\Q (.ref b) H
theorem Z75:OpR X (VL .Add) (Yds X.K):=by
 intro pins s Y H x y v u Q I rx ry h;rcases h with h|h
 .exact Z7v pins s Y H x y v u Q I rx ry h
 .obtain⟨a,b,ys,rfl,rfl,ha,hb,q⟩:=h
  cases rx;cases ry;obtain⟨its,r1,p1,_⟩:=I.tuple ha;obtain⟨its2,r2,p2,_⟩:=I.tuple hb;cases r1;obtain⟨⟨cls,dd,data,sl⟩,ho,hc,n,hd⟩:=id p1;obtain⟨⟨cls2,dd2,data2,sl2⟩,ho2,hc2,n2,hd2⟩:=id p2;simp only at hc hd hc2 hd2;subst hc hd hc2 hd2;exact concat_meets ⟨_,ho,rfl⟩ ⟨_,ho2,rfl⟩ noFill_tuple_add seq_tuple_add PySem.F.slot_tuple_add PySem.F.entry_tuple_add (PySem.F.args_tuple_add_2 _ _)
   (tuple_addW0 a b _ its2.toArray n n2 dd dd2 sl sl2 rfl) ⟨ho,ho2,.ref b,H,I,rfl,q⟩
def Ztp:Xa->Xa->Option OT:=λd e=>match d,e with| .tuple ds,.tuple es=>if ds.length+es.length<=Xz then YB (.fz (.tuple (ds++es)))else YC|_,_=>YC
def Yda:Xa->Xa->(OT->Prop)->Prop:=λd e k=>∃r,Ztp d e=YB r/\k r
theorem Z9y:ByO Ztp Yda:=λ_ _ r _ h hk=>⟨r,h,hk⟩
theorem Z65:P2 G (Yds G) Yda:=λH L x y d e k Q hx hy h kk=>by
 obtain⟨r,h,hk⟩:=h;unfold Ztp at h;split at h
 case h_2=>cases h
 rename_i ds es
 by_cases c:ds.length+es.length<=Xz
 .rw[YL c]at h
  cases h;have same:∀v,Da G H L v (.tuple (ds++es))->Q v H:=λv q=>kk H v _ [] (Same.refl _) (.fz (q.wide λa l _=>⟨.inl l,λm=>nomatch m⟩)) .nil (λa m=>nomatch m) hk;cases hx with
  | tup e1 r1=>
   cases hy with
   | tup e2 r2=>
    rename_i a1 xs1 a2 xs2
    by_cases z:xs1=[]
    .subst z
     cases r1;exact .inr ⟨_,_,_,rfl,rfl,.inl (.inl e1),.inl (.inl e2),same _ (.tup e2 r2)⟩
    .refine .inl ⟨_,_,_,_,rfl,rfl,.inl (.inl e1),.inl (.inl e2),z,by rw[r1.length,r2.length];exact c,λw=>?_,λw p hp=>?_⟩
     .subst w
      cases r2;rw[QS]at same;exact same _ (.tup e1 r1)
     .exact kk _ _ _ [] (Z9 hp _) (.fz (.tup Yj (((r1.append r2).wide λa l _=>⟨.inl l,λm=>nomatch m⟩).same (Z9 hp _)))) .nil (λa m=>nomatch m) hk
 .rw[YM c]at h;cases h
def Yjh(o:Option (Option OT))(δ:Zm):Option (OT×Zm):=match o with|some (YB (.fz d))=>YB (.fz d,δ)|_=>YC
theorem Zxt(d:Xa)(δ:Zm):Yjh (YB (YB (.fz d))) δ=YB (.fz d,δ):=rfl
def Ybc(o:Option (Option OT))(δ:Zm):Option (OT×Zm):=match o with|some (YB t)=>YB (.fz t.data,δ)|_=>YC
theorem Z68(t:OT)(δ:Zm):Ybc (YB (YB t)) δ=YB (.fz t.data,δ):=rfl
theorem Zyn(i:Nat)(δ:Zm):Zd i δ=Yjh δ[i]? δ:=rfl
theorem Z6g(i:Nat)(δ:Zm):Zq9 i δ=Ybc δ[i]? δ:=rfl
theorem Yfv(d:Xa)(δ:Zm):fC d δ=YB (.fz d,δ):=rfl
theorem Z0b(g:Xa->Xa->Option Xa)(a b:FE)(δ:Zm):Zj g a b δ=(a δ).bind λp=>(b p.2).bind λq=>(g p.1.data q.1.data).bind λd=>YB (.fz d,q.2):=rfl
theorem Z7j(g:Xa->Xa->Option OT)(a b:FE)(δ:Zm):Yl g a b δ=(a δ).bind λp=>(b p.2).bind λq=>(g p.1.data q.1.data).bind λd=>YB (d,q.2):=rfl
theorem Yaf(g:Xa->Option Xa)(a:FE)(δ:Zm):fUn g a δ=(a δ).bind λp=>(g p.1.data).bind λd=>YB (.fz d,p.2):=rfl
def onB(d:Xa)(x y:Option α):Option α:=match d with| .bool YD=>x| .bool YF=>y|_=>YC
theorem Ygb(x y:Option α):onB (.bool YD) x y=x:=rfl
theorem Ye4(x y:Option α):onB (.bool YF) x y=y:=rfl
theorem Zyp(a b:FE)(δ:Zm):Zuo a b δ=(a δ).bind λp=>onB p.1.data (b p.2) (YB (.fz (.bool YF),p.2)):=by
 unfold Zuo onB;cases a δ with
 | none=>rfl
 | some p=>first|rfl|(simp only[Xg];done)|(simp only[Xg];generalize p.1.data=d;cases d<;>first|rfl|(rename_i b;cases b<;>rfl))
theorem Yi2(a b:FE)(δ:Zm):fOr a b δ=(a δ).bind λp=>onB p.1.data (YB (.fz (.bool YD),p.2)) (b p.2):=by
 unfold fOr onB;cases a δ with
 | none=>rfl
 | some p=>first|rfl|(simp only[Xg];done)|(simp only[Xg];generalize p.1.data=d;cases d<;>first|rfl|(rename_i b;cases b<;>rfl))
theorem Z37(t:FT)(a b:FE)(δ:Zm):fIf t a b δ=(t δ).bind λp=>if p.1=YD then a p.2 else b p.2:=rfl
def Yfw(t:OT)(δ:Zm):Option (Bool×Zm):=match t with| .fz (.bool b)=>YB (b,δ)|_=>YC
theorem Ya6(b:Bool)(δ:Zm):Yfw (.fz (.bool b)) δ=YB (b,δ):=rfl
theorem Yf0(e:FE)(δ:Zm):tV e δ=(e δ).bind λp=>Yfw p.1 p.2:=by
 unfold tV Yfw;cases e δ with
 | none=>rfl
 | some p=>rfl
theorem Yad(t:FT)(δ:Zm):tNo t δ=(t δ).bind λp=>YB (!p.1,p.2):=rfl
theorem Z23(t u:FT)(δ:Zm):tAn t u δ=(t δ).bind λp=>if p.1=YD then u p.2 else YB (YF,p.2):=rfl
theorem Z9g(t u:FT)(δ:Zm):tO t u δ=(t δ).bind λp=>if p.1=YD then YB (YD,p.2)else u p.2:=rfl
theorem Yg7(e:FE)(δ:Zm):tD e δ=(e δ).bind λp=>(Z1x p.1.data).bind λb=>YB (b,p.2):=rfl
theorem Yg8(δ:Zm):Znd δ=YB (YD,δ):=rfl
theorem Ygp(δ:Zm):Zq δ=YB ([],δ):=rfl
theorem Z09(e:FE)(a:FA)(δ:Zm):Zc e a δ=(e δ).bind λp=>(a p.2).bind λq=>YB (p.1::q.1,q.2):=rfl
theorem Z8w(a:FA)(δ:Zm):Ze2 a δ=(a δ).bind λp=>if p.1.length<=Xz then YB (.fz (.tuple (OT.datas p.1)),p.2)else YC:=rfl
theorem Zvo(a:FA)(δ:Zm):Zd2 a δ=(a δ).bind λp=>if p.1.length<=Xz then YB (.nd p.1,p.2)else YC:=rfl
theorem Yd9(a:FA)(δ:Zm):Yhl a δ=(a δ).bind λp=>if p.1.length<=Xz then YB (.tp p.1,p.2)else YC:=rfl
theorem Yej(e:FE)(δ:Zm):Yf2 e δ=(e δ).bind λp=>if Zif p.1.data=YD then YB (.fz p.1.data,p.2)else YC:=rfl
theorem Ycq(e:FE)(δ:Zm):Yb3 e δ=(e δ).bind λp=>if Z6p p.1=YD then YB (p.1,p.2)else YC:=rfl
def okO(x:RF)(δ:Zm):Option (OT×Zm):=match x with| .ok r=>YB (r,δ)|_=>YC
theorem Ycc(r:OT)(δ:Zm):okO (.ok r) δ=YB (r,δ):=rfl
theorem Z1h(F:FD)(a:FA)(δ:Zm):Zy F a δ=(a δ).bind λp=>okO (F (OT.datas p.1)) p.2:=by
 unfold Zy okO;cases a δ with
 | none=>rfl
 | some p=>rfl
def atO(o:Option (Option OT))(k:OT->Option α):Option α:=match o with|some (YB t)=>k t|_=>YC
theorem Yj5(t:OT)(k:OT->Option α):atO (YB (YB t)) k=k t:=rfl
theorem Yas(i:Nat)(F:FIO)(a:FA)(δ:Zm):Z2u i F a δ=atO δ[i]? λ_=>(a δ).bind λp=>atO p.2[i]? λt=>(F t (OT.datas p.1)).bind λq=>YB (q.1,p.2.set i (YB q.2)):=by
 unfold Z2u;generalize δ[i]? =o;rcases o with _|_|t
 .rfl
 .rfl
 .show(a δ).bind _=(a δ).bind _
  cases a δ with
  | none=>rfl
  | some p=>
   show(λo:Option (Option OT)=>(match o with|some (YB t)=>(F t (OT.datas p.1)).bind λq=>YB (q.1,p.2.set i (YB q.2))|_=>YC)) p.2[i]? =atO p.2[i]? _;generalize p.2[i]? =o;rcases o with _|_|t<;>rfl
theorem Z7l(g:List Xa->Option Xa)(a:FA)(δ:Zm):Zag g a δ=(a δ).bind λp=>(g (OT.datas p.1)).bind λd=>YB (.fz d,p.2):=rfl
theorem Z9v(g:List Xa->Option OT)(a:FA)(δ:Zm):fBl g a δ=(a δ).bind λp=>(g (OT.datas p.1)).bind λd=>YB (d,p.2):=rfl
theorem Z51(T:String)(e:FE)(δ:Zm):Zph T e δ=(e δ).bind λp=>if Ziu p.1.data=YD then YC else YB (.fz (.bool (Zsf T p.1.data)),p.2):=rfl
theorem Ye3(δ:Zm):oN δ=YB (YC,δ):=rfl
def asInt(d:Xa)(k:Int->Option α):Option α:=match d with| .int i=>k i|_=>YC
theorem Zwi(i:Int)(k:Int->Option α):asInt (.int i) k=k i:=rfl
def Zym(d:Xa)(k:List Xa->Option α):Option α:=match d with| .list i=>k i|_=>YC
theorem Zwf(i:List Xa)(k:List Xa->Option α):Zym (.list i) k=k i:=rfl
def Z42(d:Xa)(k:List Xa->Option α):Option α:=match d with| .tuple i=>k i|_=>YC
theorem Yga(i:List Xa)(k:List Xa->Option α):Z42 (.tuple i) k=k i:=rfl
theorem Yfh(e:FE)(δ:Zm):oI e δ=(e δ).bind λp=>asInt p.1.data λi=>YB (YB i,p.2):=by
 unfold oI asInt;cases e δ with
 | none=>rfl
 | some p=>rfl
theorem Z91(e:FE)(lo hi:FO)(δ:Zm):fSl e lo hi δ=(e δ).bind λp=>(lo p.2).bind λq=>(hi q.2).bind λr=>Zym p.1.data λds=>YB (.nd ((cutD ds q.1 r.1).map OT.fz),r.2):=by
 unfold fSl Zym;rfl
theorem Z45(e:FE)(δ:Zm):Zf5 e δ=(e δ).bind λp=>Zym p.1.data λds=>YB (ds,p.2):=by
 unfold Zf5 Zym;rfl
theorem Yh7(e:FE)(δ:Zm):iTp e δ=(e δ).bind λp=>Z42 p.1.data λds=>YB (ds,p.2):=by
 unfold iTp Z42;rfl
def as1(ds:List Xa)(k:Int->Option α):Option α:=match ds with|[.int i]=>k i|_=>YC
theorem Z8v(i:Int)(k:Int->Option α):as1 [.int i] k=k i:=rfl
def as2(ds:List Xa)(k:Int->Int->Option α):Option α:=match ds with|[.int i,.int j]=>k i j|_=>YC
theorem Ygr(i j:Int)(k:Int->Int->Option α):as2 [.int i,.int j] k=k i j:=rfl
theorem Z2s(a:FA)(δ:Zm):iRa a δ=(a δ).bind λp=>as1 (OT.datas p.1) λj=>if rOk j=YD then YB (Zdn 0 j.toNat,p.2)else YC:=by
 unfold iRa as1;rfl
theorem Yag(a:FA)(δ:Zm):iRb a δ=(a δ).bind λp=>as2 (OT.datas p.1) λi j=>if(rOk i&&rOk j)=YD then YB (Zdn i (j-i).toNat,p.2)else YC:=by
 unfold iRb as2;rfl
theorem Z6f(a:FA)(δ:Zm):Z8g a δ=(a δ).bind λp=>as1 (OT.datas p.1) λj=>if rOk j=YD/\j.toNat<=Xz then YB (.nd ((Zdn 0 j.toNat).map OT.fz),p.2)else YC:=by
 unfold Z8g as1;rfl
theorem Z5r(a b:FE)(δ:Zm):Z9b a b δ=(a δ).bind λp=>(b p.2).bind λq=>asInt q.1.data λk=>if rOk k=YD/\k.toNat<=Xz then YB (.nd (X5 k.toNat (.fz p.1.data)),p.2)else YC:=by
 unfold Z9b asInt;rfl
def Yhj(ds:List Xa)(k:List Xa->List Xa->Option α):Option α:=match ds with|[.list i,.list j]=>k i j|_=>YC
theorem Yh4(i j:List Xa)(k:List Xa->List Xa->Option α):Yhj [.list i,.list j] k=k i j:=rfl
theorem Yex(a:FA)(δ:Zm):Yde a δ=(a δ).bind λp=>Yhj (OT.datas p.1) λas bs=>YB (Znc as bs,p.2):=by
 unfold Yde Yhj;rfl
theorem Yhz(i:Nat)(d:Xa)(δ:Zm):gNm i d δ=YB (δ.set i (YB (.fz d))):=rfl
theorem Yhi(i:Nat)(d:Xa)(δ:Zm):Yj0 i d δ=if Zif d=YD then YB (δ.set i (YB (.fz d)))else YC:=rfl
theorem Yjk(δ:Zm):gNl [] δ=YB δ:=rfl
theorem Yho(g:FG)(gs:FGs)(d:Xa)(r:List Xa)(δ:Zm):gCn g gs (d::r) δ=(g d δ).bind (gs r):=rfl
theorem Yh8(n:Nat)(gs:FGs)(ds:List Xa)(δ:Zm):gTp n gs (.tuple ds) δ=if ds.length=n then gs ds δ else YC:=rfl
theorem Yh1(n:Nat)(gs:FGs)(ds:List Xa)(δ:Zm):gLs n gs (.list ds) δ=if ds.length=n then gs ds δ else YC:=rfl
def RS.thn(r:RS)(g:FS):RS:=match r with| .nx δ=>g δ|r=>r
theorem Yan(δ:Zm)(g:FS):(RS.nx δ).thn g=g δ:=rfl
theorem Yba(r:OT)(δ:Zm)(g:FS):(RS.rt r δ).thn g= .rt r δ:=rfl
theorem Yhu(δ:Zm)(g:FS):(RS.bk δ).thn g= .bk δ:=rfl
theorem Yh6(δ:Zm)(g:FS):(RS.ct δ).thn g= .ct δ:=rfl
theorem Yh3(c:Str)(δ:Zm)(g:FS):(RS.ex c δ).thn g= .ex c δ:=rfl
theorem Zyr(f g:FS)(δ:Zm):Z6 f g δ=(f δ).thn g:=rfl
theorem Yiz(δ:Zm):fNx δ= .nx δ:=rfl
theorem Yff(δ:Zm):Ykh δ= .bk δ:=rfl
theorem Yfj(δ:Zm):Yjv δ= .ct δ:=rfl
theorem Ybx(c:Str)(δ:Zm):Znf c δ= .ex c δ:=rfl
theorem Yd7(δ:Zm):Yhe δ= .rt (.fz .none) δ:=rfl
def onO(o:Option (α×Zm))(k:α->Zm->RS):RS:=match o with|some (r,δ')=>k r δ'|none=>.bad
theorem Jd(r:α)(δ:Zm)(k:α->Zm->RS):onO (YB (r,δ)) k=k r δ:=rfl
theorem Zgm(e:FE)(k:OT->Zm->RS)(δ:Zm):wE e k δ=onO (e δ) k:=by
 unfold wE onO;cases e δ<;>rfl
def onF(x:RF)(δ:Zm)(k:OT->Zm->RS):RS:=match x with| .ok r=>k r δ| .exn c=>.ex c δ| .bad=>.bad
theorem Yhr(r:OT)(δ:Zm)(k:OT->Zm->RS):onF (.ok r) δ k=k r δ:=rfl
theorem Yjp(c:Str)(δ:Zm)(k:OT->Zm->RS):onF (.exn c) δ k= .ex c δ:=rfl
theorem Yks(F:FD)(a:FA)(k:OT->Zm->RS)(δ:Zm):wX F a k δ=onO (a δ) λrs δ1=>onF (F (OT.datas rs)) δ1 k:=by
 unfold wX onO onF;cases a δ with
 | none=>rfl
 | some p=>rfl
theorem Zxn(t:FT)(u w:FS)(δ:Zm):Zaf t u w δ=onO (t δ) λb δ'=>if b=YD then u δ' else w δ':=by
 unfold Zaf onO;cases t δ<;>rfl
theorem Z8k(it:FI)(g:FG)(u:FS)(δ:Zm):Zau it g u δ=onO (it δ) λds δ1=>forLoop g u ds δ1:=by
 unfold Zau onO;cases it δ<;>rfl
theorem Zzs(r:OT)(δ:Zm):Zyb r δ= .nx δ:=rfl
theorem Z6b(r:OT)(δ:Zm):Wu r δ= .rt r δ:=rfl
theorem Yea(r:OT)(δ:Zm):Yhf r δ=if Zif r.data=YD then .rt (.fz r.data) δ else .bad:=rfl
theorem Zv6(i:Nat)(r:OT)(δ:Zm):Y0 i r δ= .nx (δ.set i (YB (.fz r.data))):=rfl
theorem Yez(i:Nat)(r:OT)(δ:Zm):Ygu i r δ=if Zif r.data=YD then .nx (δ.set i (YB (.fz r.data)))else .bad:=rfl
theorem Zz3(i:Nat)(r:OT)(δ:Zm):Zcb i r δ= .nx (δ.set i (YB r)):=rfl
def onD(o:Option Zm):RS:=match o with|some δ=>.nx δ|none=>.bad
theorem Yey(δ:Zm):onD (YB δ)= .nx δ:=rfl
theorem Ye8(g:FG)(r:OT)(δ:Zm):Yjw g r δ=onD (g r.data δ):=rfl
def onT(o:Option (Option OT))(k:OT->RS):RS:=match o with|some (YB t)=>k t|_=>.bad
theorem Z7y(t:OT)(k:OT->RS):onT (YB (YB t)) k=k t:=rfl
theorem Zrk(i:Nat)(δ:Zm):Zft i δ=onT δ[i]? λt=>.rt t (δ.set i YC):=rfl
theorem Zto(i:Nat)(u:FS)(δ:Zm):Zhu i u δ=onT δ[i]? λt=>u (δ.set i (YB (.fz t.data))):=rfl
def onN(o:Option (Option OT))(k:List OT->RS):RS:=match o with|some (YB (.nd ts))=>k ts|_=>.bad
theorem Ydx(t:List OT)(k:List OT->RS):onN (YB (YB (.nd t))) k=k t:=rfl
theorem Zs6(i:Nat)(e:FE)(δ:Zm):Wl i e δ=onN δ[i]? λ_=>onO (e δ) λr δ1=>onN δ1[i]? λts=>if ts.length<Xz then .nx (δ1.set i (YB (.nd (ts++[.fz r.data]))))else .bad:=by
 unfold Wl;generalize δ[i]? =o;rcases o with _|_|(_|_|_|_)
 .rfl
 .rfl
 .rfl
 .show wE e _ δ=onO (e δ) _
  rw[Zgm];congr 1
 .rfl
 .rfl
theorem Z5v(i:Nat)(e:FE)(δ:Zm):Zr0 i e δ=onN δ[i]? λ_=>onO (e δ) λr δ1=>onN δ1[i]? λts=>if ts.length<Xz then .nx (δ1.set i (YB (.nd (ts++[r]))))else .bad:=by
 unfold Zr0;generalize δ[i]? =o;rcases o with _|_|(_|_|_|_)
 .rfl
 .rfl
 .rfl
 .show wE e _ δ=onO (e δ) _
  rw[Zgm];congr 1
 .rfl
 .rfl
def onI(d:Xa)(k:Int->RS):RS:=match d with| .int i=>k i|_=>.bad
theorem Yj3(i:Int)(k:Int->RS):onI (.int i) k=k i:=rfl
def onX(o:Option Nat)(k:Nat->RS):RS:=match o with|some i=>k i|_=>.bad
theorem Ykr(i:Nat)(k:Nat->RS):onX (YB i) k=k i:=rfl
theorem Yg4(i:Nat)(e j:FE)(δ:Zm):Yit i e j δ=onO (e δ) λr δ1=>onN δ1[i]? λts=>onO (j δ1) λn _=>onI n.data λk=>onX (ixN ts.length k) λj=>.nx (δ1.set i (YB (.nd (ts.set j (.fz r.data))))):=by
 unfold Yit;rw[Zgm];congr 1;funext r δ1;generalize δ1[i]? =o;rcases o with _|_|(_|_|_|_)
 .rfl
 .rfl
 .rfl
 .show wE j _ δ1=onO (j δ1) _
  rw[Zgm];congr 1;funext n δ2;generalize n.data=d;cases d<;>try rfl
  show(match ixN _ _ with|some j=>_|none=>_)=onX (ixN _ _) _;generalize ixN _ _=x;cases x<;>rfl
 .rfl
 .rfl
def onU(o:Option OT)(k:List OT->RS):RS:=match o with|some (.nd ts)=>k ts|_=>.bad
theorem Yj1(t:List OT)(k:List OT->RS):onU (YB (.nd t)) k=k t:=rfl
def onP(o:Option (Option OT))(k:List OT->RS):RS:=match o with|some (YB (.tp ts))=>k ts|_=>.bad
theorem Yj7(t:List OT)(k:List OT->RS):onP (YB (YB (.tp t))) k=k t:=rfl
theorem Z90(i c:Nat)(e:FE)(δ:Zm):Z35 i c e δ=onP δ[i]? λts=>onU ts[c]? λus=>onO (e δ) λr _=>if us.length<Xz then .nx (δ.set i (YB (.tp (ts.set c (.nd (us++[.fz r.data]))))))else .bad:=by
 unfold Z35;generalize δ[i]? =o;rcases o with _|_|(_|_|ts|_)
 .rfl
 .rfl
 .rfl
 .rfl
 .show(match ts[c]? with|some (.nd us)=>wE e _ δ|_=>_)=onU ts[c]? _
  generalize ts[c]? =o;rcases o with _|(_|_|_|_)
  .rfl
  .rfl
  .show wE e _ δ=onO (e δ) _
   rw[Zgm]
  .rfl
  .rfl
 .rfl
def on2(ds:List Xa)(k:Xa->Xa->RS):RS:=match ds with|[d,e]=>k d e|_=>.bad
theorem Yk2(d e:Xa)(k:Xa->Xa->RS):on2 [d,e] k=k d e:=rfl
theorem Yge(i j:Nat)(a:FA)(δ:Zm):Yi5 i j a δ=onO (a δ) λrs δ1=>on2 (OT.datas rs) λd e=>.nx ((δ1.set i (YB (.fz d))).set j (YB (.fz e))):=by
 unfold Yi5 onO on2;cases a δ<;>rfl
theorem Zpw{n:Nat}{S:FS}(h:ds.length=np):Jh np n S ds=(S (Zgo n ds)).told:=by
 unfold Jh;rw[YL h]
theorem Z7o(δ:Zm):(RS.nx δ).told= .ok (.fz .none):=rfl
theorem Zw9(r:OT)(δ:Zm):(RS.rt r δ).told= .ok r:=rfl
theorem Yfu(c:Str)(δ:Zm):(RS.ex c δ).told= .exn c:=rfl
theorem Yja(i j:Int):Zcn (.int i) (.int j)=YB (.int (i+j)):=rfl
theorem Yk0(i j:Int):gSb (.int i) (.int j)=YB (.int (i-j)):=rfl
theorem Ykf(i j:Int):gLt (.int i) (.int j)=YB (.bool (decide (i<j))):=rfl
theorem Ykg(i j:Int):gLe (.int i) (.int j)=YB (.bool (decide (i<=j))):=rfl
theorem Yg2(i j:Int):gGt (.int i) (.int j)=YB (.bool (decide (j<i))):=rfl
theorem Yg9(i j:Int):gGe (.int i) (.int j)=YB (.bool (decide (j<=i))):=rfl
theorem Zff{i j:Int}(h:Z4z i j=YD):Zf4 (.int i) (.int j)=YB (.int (i*j)):=by
 unfold Zf4 i2c;dsimp only;rw[YL h]
theorem Zjq{i j:Int}(h:Ydr i j=YD):Zbv (.int i) (.int j)=YB (.int (i.fdiv j)):=by
 unfold Zbv i2c;dsimp only;rw[YL h]
theorem Z4a{i j:Int}(h:j≠0):Zgz (.int i) (.int j)=YB (.int (i.fmod j)):=by
 unfold Zgz i2c Yjo;dsimp only;rw[YL (YQ h)]
theorem Zfl{m n:Nat}{x:Int}(h:Bt m x)(k:Bt n y)(hmn:m+n<=100000000:=by decide):Z4z x y=YD:=Zik.mpr (h.mulOk k hmn)
theorem Z2v{x:Int}(h:x.natAbs<2^64):Z4z x y=YD:=Zik.mpr (.of_left (intBits_le_64 (by omega) (by omega)))
theorem Ybn{x:Int}(h:y.natAbs<2^64):Z4z x y=YD:=Zik.mpr (.of_right (intBits_le_64 (by omega) (by omega)))
theorem Zjt{n:Nat}{i j:Int}(h0:j≠0)(h:Bt n j)(hn:n<=9000:=by decide):Ydr i j=YD:=by
 obtain⟨h1,h2⟩:=DivOk.of (i:=i) h0 h hn;unfold Ydr;rw[YQ h1,YQ h2];rfl
theorem Yg6(i j:Int):gEq (.int i) (.int j)=YB (.bool (decide (i=j))):=by
 show YB (PyData.bool (i==j))=_;rw[show(i==j)=decide (i=j)from rfl]
theorem Yfl(i j:Int):gNe (.int i) (.int j)=YB (.bool (!decide (i=j))):=by
 show YB (PyData.bool (!(i==j)))=_;rw[show(i==j)=decide (i=j)from rfl]
theorem Yk1(d:Xa):gIs d .none=YB (.bool (Zht d)):=rfl
theorem Yeh(d:Xa):Zgu d .none=YB (.bool (!Zht d)):=rfl
theorem Zqo(ds:List Xa)(i:Int):gIx (.list ds) (.int i)=(atI ds i).bind λx=>YB (.fz x):=rfl
theorem Yhc(ds:List Xa)(i:Int):gIx (.tuple ds) (.int i)=(atI ds i).bind λx=>YB (.fz x):=rfl
theorem Zoz(ds:List Xa):Zai [.list ds]=YB (.int ds.length):=rfl
theorem Z3u(ds:List Xa):Zai [.tuple ds]=YB (.int ds.length):=rfl
theorem Zxd(i:Int):Z83 [.int i]=YB (.int (i.natAbs:Int)):=by
 show YB (Xk (if i<0 then -i else i))=_;congr 2;split<;>omega
theorem Yii(i j:Int):Yjx [.int i,.int j]=YB (.int (if j>i then j else i)):=rfl
theorem Ydz(i j:Int):Z3x [.int i,.int j]=YB (.int (if j<i then j else i)):=rfl
theorem Yh2(i:Int):Ybf [.int i]=YB (.int i):=rfl
theorem Ycy(b:Bool):Ybf [.bool b]=YB (.int (if b then 1 else 0)):=rfl
theorem Z50(ds:List Xa):Zy6 [.list ds]=YB (.nd (ds.map OT.fz)):=rfl
theorem Yf8(ds:List Xa):Zy6 [.tuple ds]=YB (.nd (ds.map OT.fz)):=rfl
theorem Yaj{es:List Xa}(h:ds.length+es.length<=Xz):Zlb (.list ds) (.list es)=YB (.nd ((ds++es).map OT.fz)):=by
 unfold Zlb;dsimp only;rw[YL h]
theorem Ydf(i:Int):Zo2 (.int i)=YB (.int (-i)):=rfl
theorem Yis(b:Bool):Yeq (.bool b)=YB (.bool (!b)):=rfl
theorem Yil(b:Bool):Z1x (.bool b)=YB b:=rfl
theorem Yh0(i:Int):Z1x (.int i)=YB (i !=0):=rfl
theorem Yjq:Z1x .none=YB YF:=rfl
theorem Yhw(ds:List Xa):Z1x (.list ds)=YB (!ds.isEmpty):=rfl
theorem Zsa{u:FS}(I:Nat->Zm->Prop)(h0:I 0 δ)
  (turn:∀(i:Nat) (d:Xa) (δ:Zm),ds[i]? =YB d->I i δ->∃δ1 δ2,gg d δ=YB δ1/\(u δ1= .nx δ2\/u δ1= .ct δ2)/\I (i+1) δ2):∃δ',forLoop gg u ds δ= .nx δ'/\I ds.length δ':=by
 induction ds generalizing δ I with
 | nil=>exact⟨δ,rfl,h0⟩
 | cons d ds ih=>
  obtain⟨δ1,δ2,e1,e2,h1⟩:=turn 0 d δ rfl h0;obtain⟨δ',e3,h3⟩:=ih (δ:=δ2) (λi δ=>I (i+1) δ) h1 λi d' δ hd hi=>turn (i+1) d' δ (by simpa using hd) hi;refine⟨δ',?_,h3⟩;rw[Zav,e1];dsimp only;rcases e2 with e2|e2<;>rw[e2]<;>exact e3
def Goes(r:RS)(Q:Zm->Prop):Prop:=∃δ,(r= .nx δ\/r= .ct δ)/\Q δ
theorem Goes.nx{Q:Zm->Prop}(h:Q δ):Goes (.nx δ) Q:=⟨δ,.inl rfl,h⟩
theorem Goes.ct{Q:Zm->Prop}(h:Q δ):Goes (.ct δ) Q:=⟨δ,.inr rfl,h⟩
theorem Zyy{cs:Zm}(mk:α->Xa)(f:α->OT):∀(xs:List α) (z:Option OT),(∀x∈xs,me (YB (.fz (mk x))::cs)=YB (f x,YB (.fz (mk x))::cs)) ->
  ∃z',compLoop (gNm 0) Znd me (xs.map mk) (z::cs)=YB (xs.map f,z'::cs)
 | [],z,_=>⟨z,rfl⟩
 | x::xs,z,h=>by
  obtain⟨z',e⟩:=Zyy mk f xs (YB (.fz (mk x))) λy hy=>h y (.tail _ hy);refine⟨z',?_⟩;rw[XM,compLoop];show(YB (YB (OT.fz (mk x))::cs)).bind _=_;rw[Xg];show(YB (YD,YB (OT.fz (mk x))::cs)).bind _=_;rw[Xg,YL rfl,h x (.head _),Xg,e];rfl
theorem Zsr{t:FT}{cs:Zm}(mk:α->Xa)(p:α->Bool)(f:α->OT):∀(xs:List α) (z:Option OT),(∀x∈xs,t (YB (.fz (mk x))::cs)=YB (p x,YB (.fz (mk x))::cs))->(∀x∈xs,p x=YD->me (YB (.fz (mk x))::cs)=YB (f x,YB (.fz (mk x))::cs)) ->
  ∃z',compLoop (gNm 0) t me (xs.map mk) (z::cs)=YB ((xs.filter p).map f,z'::cs)
 | [],z,_,_=>⟨z,rfl⟩
 | x::xs,z,ht,h=>by
  obtain⟨z',e⟩:=Zsr mk p f xs (YB (.fz (mk x))) (λy hy=>ht y (.tail _ hy)) λy hy=>h y (.tail _ hy);refine⟨z',?_⟩;rw[XM,compLoop];show(YB (YB (OT.fz (mk x))::cs)).bind _=_;rw[Xg,ht x (.head _),Xg];dsimp only
  by_cases hp:p x=YD
  .rw[YL hp,h x (.head _) hp,Xg,e,Bk hp];rfl
  .rw[YM hp,e,Ba hp]
theorem Zr3{cs:Zm}(xs:List α)(mk:α->Xa)(f:α->OT)(hi:it δ=YB (xs.map mk,δ1))(hz:xs.length<=Xz)(hb:blk 1 caps δ1=YC::cs)
  (h:∀x∈xs,me (YB (.fz (mk x))::cs)=YB (f x,YB (.fz (mk x))::cs)):W3 1 caps it (gNm 0) Znd me δ=YB (.nd (xs.map f),δ1):=by
 unfold W3;rw[hi,Xg];dsimp only;rw[YL (by rw[Xd];exact hz),hb];obtain⟨z',e⟩:=Zyy (me:=me) (cs:=cs) mk f xs YC h;rw[e];rfl
theorem Zop{t:FT}{cs:Zm}(xs:List α)(mk:α->Xa)(p:α->Bool)(f:α->OT)(hi:it δ=YB (xs.map mk,δ1))(hz:xs.length<=Xz)(hb:blk 1 caps δ1=YC::cs)
  (ht:∀x∈xs,t (YB (.fz (mk x))::cs)=YB (p x,YB (.fz (mk x))::cs)) (h:∀x∈xs,p x=YD->me (YB (.fz (mk x))::cs)=YB (f x,YB (.fz (mk x))::cs)):W3 1 caps it (gNm 0) t me δ=YB (.nd ((xs.filter p).map f),δ1):=by
 unfold W3;rw[hi,Xg];dsimp only;rw[YL (by rw[Xd];exact hz),hb];obtain⟨z',e⟩:=Zsr (t:=t) (me:=me) (cs:=cs) mk p f xs YC ht h;rw[e];rfl
theorem Yj9:(2<=Xz)=True:=by simp[Qk]
theorem Ykc:(1<=Xz)=True:=by simp[Qk]
theorem Yku:(0<=Xz)=True:=by simp
theorem Ye6:(3<=Xz)=True:=by simp[Qk]
theorem Zta(f:α->Xa)(xs:List α):(xs.map λx=>OT.fz (f x)).map OT.data=xs.map f:=by
 rw[XR];exact Xu λx _=>OT.data_fz _
theorem Z49{j:Int}{x:α}(h0:0<=j)(h1:j<=1000000):(if rOk j=YD then YB x else YC)=YB x:=YL (Zlg (by omega) h1)
theorem Z72{i j:Int}{x:α}(h0:0<=i)(h1:i<=1000000)(h2:0<=j)(h3:j<=1000000):(if(rOk i&&rOk j)=YD then YB x else YC)=YB x:=YL (by rw[Zlg (by omega) h1,Zlg (by omega) h3];rfl)
theorem Yal{r:RS}{k:Nat}(h:k<=1000000):(if k<Xz then r else .bad)=r:=YL (by rw[Qk];omega)
def EvV(e:FE)(δ:Zm)(d:Xa):Prop:=∃t,e δ=YB (t,δ)/\t.data=d
def EvA(a:FA)(δ:Zm)(ds:List Xa):Prop:=∃ts,a δ=YB (ts,δ)/\OT.datas ts=ds
def EvT(t:FT)(δ:Zm)(b:Bool):Prop:=t δ=YB (b,δ)
def Told(F:FD)(ds:List Xa)(d:Xa):Prop:=∃t,F ds= .ok t/\t.data=d
section
variable {e a b:FE}{as:FA}{x y d:Xa}{xs:List Xa}{p q:Bool}{t u:FT}{S S':FS}{r:RS}
theorem EvV.cast{e:FE}{x y:Xa}(h:EvV e δ x)(k:x=y):EvV e δ y:=k▸h
theorem Za(h:δ[i]? =YB (YB (.fz d)):=by rfl):EvV (Zd i) δ d:=⟨_,by rw[Zyn,h,Zxt],OT.data_fz _⟩
theorem Zun{t:OT}(h:δ[i]? =YB (YB t))(hd:t.data=d):EvV (Zq9 i) δ d:=⟨_,by rw[Z6g,h,Z68],by rw[OT.data_fz,hd]⟩
theorem Z1:EvV (fC d) δ d:=⟨_,rfl,OT.data_fz _⟩
theorem Zz{g:Xa->Xa->Option Xa}(ha:EvV a δ x)(hb:EvV b δ y)(h:g x y=YB d):EvV (Zj g a b) δ d:=by
 obtain⟨_,e1,d1⟩:=ha;obtain⟨_,e2,d2⟩:=hb;exact⟨_,by rw[Z0b,e1,Xg,e2,Xg,d1,d2,h,Xg],OT.data_fz _⟩
theorem Zyk{g:Xa->Xa->Option OT}(ha:EvV a δ x)(hb:EvV b δ y)(h:g x y=YB o)(hd:o.data=d):EvV (Yl g a b) δ d:=by
 obtain⟨_,e1,d1⟩:=ha;obtain⟨_,e2,d2⟩:=hb;exact⟨_,by rw[Z7j,e1,Xg,e2,Xg,d1,d2,h,Xg],hd⟩
theorem Wq(ha:EvV a δ x)(hb:EvV b δ y)(h:gIx x y=YB (.fz d)):EvV (Yl gIx a b) δ d:=Zyk ha hb h (OT.data_fz _)
theorem Y9{i j:Int}(ha:EvV a δ (.int i))(hb:EvV b δ (.int j)):EvV (Zj Zcn a b) δ (.int (i+j)):=Zz ha hb rfl
theorem Zei{i j:Int}(ha:EvV a δ (.int i))(hb:EvV b δ (.int j)):EvV (Zj gSb a b) δ (.int (i-j)):=Zz ha hb rfl
theorem Ybq{g:Xa->Option Xa}(ha:EvV a δ x)(h:g x=YB d):EvV (fUn g a) δ d:=by
 obtain⟨_,e1,d1⟩:=ha;exact⟨_,by rw[Yaf,e1,Xg,d1,h,Xg],OT.data_fz _⟩
theorem Zf8(ha:EvV a δ (.bool YD))(hb:EvV b δ d):EvV (Zuo a b) δ d:=by
 obtain⟨_,e1,d1⟩:=ha;obtain⟨_,e2,d2⟩:=hb;exact⟨_,by rw[Zyp,e1,Xg,d1,Ygb,e2],d2⟩
theorem Z1r(ha:EvV a δ (.bool YF)):EvV (Zuo a b) δ (.bool YF):=by
 obtain⟨_,e1,d1⟩:=ha;exact⟨_,by rw[Zyp,e1,Xg,d1,Ye4],OT.data_fz _⟩
theorem Zgi{T:String}(ha:EvV a δ x)(hf:Ziu x=YF:=by rfl):EvV (Zph T a) δ (.bool (Zsf T x)):=by
 obtain⟨_,e1,d1⟩:=ha;exact⟨_,by rw[Z51,e1,Xg,d1,YM (by rw[hf];decide)],OT.data_fz _⟩
theorem Zh:EvA Zq δ []:=⟨_,rfl,Zgt⟩
theorem Zb(h:EvV e δ d)(k:EvA as δ ds):EvA (Zc e as) δ (d::ds):=by
 obtain⟨_,e1,d1⟩:=h;obtain⟨_,e2,d2⟩:=k;exact⟨_,by rw[Z09,e1,Xg,e2,Xg],by rw[Zev,d1,d2]⟩
theorem Zo(h:EvA as δ ds)(k:Told F ds d):EvV (Zy F as) δ d:=by
 obtain⟨_,e1,d1⟩:=h;obtain⟨_,e2,d2⟩:=k;exact⟨_,by rw[Z1h,e1,Xg,d1,e2,Ycc],d2⟩
theorem Jf{g:List Xa->Option Xa}(h:EvA as δ ds)(k:g ds=YB d):EvV (Zag g as) δ d:=by
 obtain⟨_,e1,d1⟩:=h;exact⟨_,by rw[Z7l,e1,Xg,d1,k,Xg],OT.data_fz _⟩
theorem Zo9{g:List Xa->Option OT}(h:EvA as δ ds)(k:g ds=YB o)(hd:o.data=d):EvV (fBl g as) δ d:=by
 obtain⟨_,e1,d1⟩:=h;exact⟨_,by rw[Z9v,e1,Xg,d1,k,Xg],hd⟩
theorem Zgf:∀ts:List OT,(OT.datas ts).length=ts.length
 | []=>by rw[Zgt];rfl
 | t::ts=>by rw[Zev,JR,JR,Zgf ts]
theorem datas_map:∀ts:List OT,OT.datas ts=ts.map OT.data
 | []=>Zgt
 | t::ts=>by rw[Zev,XM,datas_map ts]
theorem Jt(h:EvA as δ ds)(hl:ds.length<=1000):EvV (Ze2 as) δ (.tuple ds):=by
 obtain⟨ts,e1,d1⟩:=h;have:=Zgf ts;rw[d1]at this;exact⟨_,by rw[Z8w,e1,Xg,YL (by rw[Qk];show ts.length<=_;omega)],by rw[OT.data_fz];exact YT _ d1⟩
theorem Zhy(h:EvA as δ ds)(hl:ds.length<=1000):EvV (Zd2 as) δ (.list ds):=by
 obtain⟨ts,e1,d1⟩:=h;have:=Zgf ts;rw[d1]at this;exact⟨_,by rw[Zvo,e1,Xg,YL (by rw[Qk];show ts.length<=_;omega)],by rw[OT.data_nd,<-datas_map,d1]⟩
theorem Zo8{b:Bool}(h:o.data= .bool b):o= .fz (.bool b):=by
 cases o with
 | fz d=>rw[OT.data_fz]at h;rw[h]
 | nd ts=>rw[OT.data_nd]at h;cases h
 | tp ts=>rw[OT.data_tp]at h;cases h
 | dc _ _ _=>rw[OT.data_dc]at h;cases h
theorem Zan(h:EvV e δ (.bool p)):EvT (tV e) δ p:=by
 obtain⟨_,e1,d1⟩:=h;unfold EvT;rw[Yf0,e1,Xg,Zo8 d1,Ya6]
theorem Yep(h:EvV e δ d)(k:Z1x d=YB p):EvT (tD e) δ p:=by
 obtain⟨_,e1,d1⟩:=h;unfold EvT;rw[Yg7,e1,Xg,d1,k,Xg]
theorem Ze1(h:EvV e δ (.bool p)):EvT (tD e) δ p:=Yep h rfl
theorem Zke(h:EvT t δ p):EvT (tNo t) δ (!p):=by
 unfold EvT at h|-
 rw[Yad,h,Xg]
theorem Zsy(h:EvT t δ YD)(k:EvT u δ p):EvT (tAn t u) δ p:=by
 unfold EvT at h k|-
 rw[Z23,h,Xg,YL rfl,k]
theorem Zvm(h:EvT t δ YF):EvT (tAn t u) δ YF:=by
 unfold EvT at h|-
 rw[Z23,h,Xg,YM Xn]
theorem Z3n(h:EvT t δ YF)(k:EvT u δ p):EvT (tO t u) δ p:=by
 unfold EvT at h k|-
 rw[Z9g,h,Xg,YM Xn,k]
theorem Yaz(h:EvT t δ YD):EvT (tO t u) δ YD:=by
 unfold EvT at h|-
 rw[Z9g,h,Xg,YL rfl]
theorem Y6(h:S δ= .nx δ')(k:S' δ'=r):Z6 S S' δ=r:=by rw[Zyr,h,Yan,k]
theorem Zu9(h:S δ= .rt o δ'):Z6 S S' δ= .rt o δ':=by rw[Zyr,h,Yba]
theorem Zu(h:EvV e δ d):wE e (Y0 i) δ= .nx (δ.set i (YB (.fz d))):=by
 obtain⟨_,e1,d1⟩:=h;rw[Zgm,e1,Jd,Zv6,d1]
theorem Zys(h:EvV e δ d):∃o,wE e Wu δ= .rt o δ/\o.data=d:=by
 obtain⟨_,e1,d1⟩:=h;exact⟨_,by rw[Zgm,e1,Jd,Z6b],d1⟩
theorem Zaz(h:EvT t δ YD)(k:S δ=r):Zaf t S S' δ=r:=by
 unfold EvT at h;rw[Zxn,h,Jd,YL rfl,k]
theorem Z5(h:EvT t δ YF)(k:S' δ=r):Zaf t S S' δ=r:=by
 unfold EvT at h;rw[Zxn,h,Jd,YM (by decide),k]
def Zi8(S:FS)(δ:Zm)(d:Xa):Prop:=∃o δ',S δ= .rt o δ'/\o.data=d
theorem Zr(h:S δ= .nx δ')(k:Zi8 S' δ' d):Zi8 (Z6 S S') δ d:=by
 obtain⟨o,δ2,e,hd⟩:=k;exact⟨o,δ2,Y6 h e,hd⟩
theorem Wx(k:Zi8 S δ d):Zi8 (Z6 S S') δ d:=by
 obtain⟨o,δ2,e,hd⟩:=k;exact⟨o,δ2,Zu9 e,hd⟩
theorem Z7(h:EvV e δ d):Zi8 (wE e Wu) δ d:=by
 obtain⟨o,e1,hd⟩:=Zys h;exact⟨o,δ,e1,hd⟩
theorem Zaj(h:EvT t δ YD)(k:Zi8 S δ d):Zi8 (Zaf t S S') δ d:=by
 obtain⟨o,δ2,e,hd⟩:=k;exact⟨o,δ2,Zaz h e,hd⟩
theorem Zx{n:Nat}(hl:xs.length=np)(k:Zi8 S (Zgo n xs) d):Told (Jh np n S) xs d:=by
 obtain⟨o,δ2,e,hd⟩:=k;exact⟨o,by rw[Zpw hl,e,Zw9],hd⟩
def EvO(o:FO)(δ:Zm)(l:Option Int):Prop:=o δ=YB (l,δ)
theorem Yeb:EvO oN δ YC:=rfl
theorem Z84{i:Int}(h:EvV e δ (.int i)):EvO (oI e) δ (YB i):=by
 obtain⟨_,e1,d1⟩:=h;unfold EvO;rw[Yfh,e1,Xg,d1,Zwi]
theorem Yfe{lo hi:FO}{l h:Option Int}(he:EvV e δ (.list ds))(hl:EvO lo δ l)(hh:EvO hi δ h):EvV (fSl e lo hi) δ (.list (cutD ds l h)):=by
 obtain⟨_,e1,d1⟩:=he;unfold EvO at hl hh;exact⟨_,by rw[Z91,e1,Xg,hl,Xg,hh,Xg,d1,Zwf],by rw[OT.data_nd,OT.map_fz]⟩
theorem Zsq{es:List Xa}(ha:EvV a δ (.list ds))(hb:EvV b δ (.list es))(h:ds.length+es.length<=1000000):EvV (Yl Zlb a b) δ (.list (ds++es)) :=
 Zyk ha hb (Yaj (by rw[Qk];omega)) (by rw[OT.data_nd,OT.map_fz])
def EvI(it:FI)(δ:Zm)(ds:List Xa):Prop:=it δ=YB (ds,δ)
theorem Js(h:EvV e δ (.list ds)):EvI (Zf5 e) δ ds:=by
 obtain⟨_,e1,d1⟩:=h;unfold EvI;rw[Z45,e1,Xg,d1,Zwf]
theorem Zkj{n:Nat}(h:EvA as δ [.int n])(hn:n<=1000000):EvI (iRa as) δ (Zdn 0 n):=by
 obtain⟨_,e1,d1⟩:=h;unfold EvI;rw[Z2s,e1,Xg,d1,Z8v,Z49 (by omega) (by omega),Q7]
theorem Zb4(h:EvI it δ ds)(k:forLoop g S ds δ=r):Zau it g S δ=r:=by
 unfold EvI at h;rw[Z8k,h,Jd,k]
theorem Zfz{cs:Zm}(xs:List α)(mk f:α->Xa)(hi:EvI it δ (xs.map mk))(hz:xs.length<=1000000)(hb:blk 1 caps δ=YC::cs)(h:∀x∈xs,EvV me (YB (.fz (mk x))::cs) (f x)):EvV (W3 1 caps it (gNm 0) Znd me) δ (.list (xs.map f)):=by
 have g:∀x,∃o:OT,x∈xs->me (YB (.fz (mk x))::cs)=YB (o,YB (.fz (mk x))::cs)/\o.data=f x:=λx=>by
  by_cases c:x∈xs
  .obtain⟨o,h1,h2⟩:=h x c
   exact⟨o,λ_=>⟨h1,h2⟩⟩
  .exact⟨.fz .none,λz=>YX z c⟩
 obtain⟨o,ho⟩:=Um g;unfold EvI at hi;refine⟨_,Zr3 (cs:=cs) xs mk o hi (by rw[Qk];omega) hb (λx hx=>(ho x hx).1),?_⟩;rw[OT.data_nd,XR];exact YT _ (Xu λx hx=>(ho x hx).2)
theorem Zhx(h:EvV e δ d)(hi:δ[i]? =YB (YB (.nd ts)))(hl:ts.length<=1000000):Wl i e δ= .nx (δ.set i (YB (.nd (ts++[.fz d])))):=by
 obtain⟨_,e1,d1⟩:=h;rw[Zs6,hi,Ydx,e1,Jd,hi,Ydx,Yal hl,d1]
theorem Zl3(h:e δ=YB (o,δ)):wE e (Zcb i) δ= .nx (δ.set i (YB o)):=by rw[Zgm,h,Jd,Zz3]
theorem Yb9(h:δ[i]? =YB (YB o))(hd:o.data=d):Zi8 (Zft i) δ d:=⟨o,_,by rw[Zrk,h,Z7y],hd⟩
theorem Zod(h:δ[i]? =YB (YB o))(k:S (δ.set i (YB (.fz o.data)))=r):Zhu i S δ=r:=by rw[Zto,h,Z7y,k]
theorem Z6h(h:EvV e δ d):wE e Zyb δ= .nx δ:=by
 obtain⟨_,e1,d1⟩:=h;rw[Zgm,e1,Jd,Zzs]
theorem Zyz{n:Nat}(hl:xs.length=np)(k:S (Zgo n xs)= .nx δ'):Told (Jh np n S) xs .none:=⟨_,by rw[Zpw hl,k,Z7o],OT.data_fz _⟩
theorem Told.ok{F:FD}{b:Bool}(h:Told F ds (.bool b)):F ds= .ok (.fz (.bool b)):=by
 obtain⟨o,e1,d1⟩:=h;rw[e1,Zo8 d1]
theorem Zsd{i:Int}(h:o.data= .int i):o= .fz (.int i):=by
 cases o with
 | fz d=>rw[OT.data_fz]at h;rw[h]
 | nd ts=>rw[OT.data_nd]at h;cases h
 | tp ts=>rw[OT.data_tp]at h;cases h
 | dc _ _ _=>rw[OT.data_dc]at h;cases h
theorem Told.int{F:FD}{i:Int}(h:Told F ds (.int i)):F ds= .ok (.fz (.int i)):=by
 obtain⟨o,e1,d1⟩:=h;rw[e1,Zsd d1]
theorem Zxx(h:o.data= .none):o= .fz .none:=by
 cases o with
 | fz d=>rw[OT.data_fz]at h;rw[h]
 | nd ts=>rw[OT.data_nd]at h;cases h
 | tp ts=>rw[OT.data_tp]at h;cases h
 | dc _ _ _=>rw[OT.data_dc]at h;cases h
theorem Told.of(h:F ds= .ok o)(hd:o.data=d):Told F ds d:=⟨o,h,hd⟩
end
section
variable {e a b:FE}{as:FA}{x y d:Xa}{xs:List Xa}{i j:Int}{k:Nat}{p q:Bool}{t u:FT}{S S':FS}{r:RS}{Q:Xa->Prop}
theorem Za1(ha:EvV a δ (.int i))(hb:EvV b δ (.int j))(h:j≠0):EvV (Zj Zgz a b) δ (.int (i.fmod j)):=Zz ha hb (Z4a h)
theorem Z93{i j:Int}(h:(decide (0<j)&&decide (j<18446744073709551616))=YD):Zbv (.int i) (.int j)=YB (.int (i.fdiv j)):=by
 rw[XC,decide_eq_true_eq,decide_eq_true_eq]at h;exact Zjq (Zjt (n:=64) (by omega) (Bt.of_lt (by omega) (by omega)))
theorem Zdt(ha:EvV a δ (.int i))(hb:EvV b δ (.int j))(h:(decide (0<j)&&decide (j<18446744073709551616))=YD:=by decide):EvV (Zj Zbv a b) δ (.int (i.fdiv j)):=Zz ha hb (Z93 h)
theorem Zfv(ha:EvV a δ (.int i))(hb:EvV b δ (.int j))(h:i.natAbs<2^64:=by decide):EvV (Zj Zf4 a b) δ (.int (i*j)):=Zz ha hb (Zff (Z2v h))
theorem Zx6(ha:EvV a δ (.int i))(hb:EvV b δ (.int j))(h:j.natAbs<2^64:=by decide):EvV (Zj Zf4 a b) δ (.int (i*j)):=Zz ha hb (Zff (Ybn h))
theorem Zdr(ha:EvV a δ (.int i))(hb:EvV b δ (.int j))(h:decide (i<j)=p):EvV (Zj gLt a b) δ (.bool p):=h▸Zz ha hb rfl
theorem Z9e(ha:EvV a δ (.int i))(hb:EvV b δ (.int j))(h:decide (i<=j)=p):EvV (Zj gLe a b) δ (.bool p):=h▸Zz ha hb rfl
theorem Zfw(ha:EvV a δ (.int i))(hb:EvV b δ (.int j))(h:decide (j<i)=p):EvV (Zj gGt a b) δ (.bool p):=h▸Zz ha hb (Yg2 _ _)
theorem Z98(ha:EvV a δ (.int i))(hb:EvV b δ (.int j))(h:decide (j<=i)=p):EvV (Zj gGe a b) δ (.bool p):=h▸Zz ha hb (Yg9 _ _)
theorem Zm5(ha:EvV a δ (.int i))(hb:EvV b δ (.int j))(h:decide (i=j)=p):EvV (Zj gEq a b) δ (.bool p):=h▸Zz ha hb (Yg6 _ _)
theorem Ztj(ha:EvV a δ (.int i))(hb:EvV b δ (.int j))(h:(!decide (i=j))=p):EvV (Zj gNe a b) δ (.bool p):=h▸Zz ha hb (Yfl _ _)
theorem Zjl(ha:EvV a δ (.int i)):EvV (fUn Zo2 a) δ (.int (-i)):=Ybq ha (Ydf _)
theorem Zi6(h:EvV e δ (.list ds)):EvV (Zag Zai (Zc e Zq)) δ (.int ds.length):=Jf (Zb h Zh) (Zoz ds)
theorem Z30(ha:EvV a δ (.list ds))(hb:EvV b δ (.int i))(h:atI ds i=YB d):EvV (Yl gIx a b) δ d:=Wq ha hb (by rw[Zqo,h];rfl)
def Zsi(S:FS)(δ:Zm)(Q:Xa->Prop):Prop:=∃d,Zi8 S δ d/\Q d
theorem Zbl(h:S δ= .nx δ')(k:Zsi S' δ' Q):Zsi (Z6 S S') δ Q:=k.imp λ_ k=>⟨Zr h k.1,k.2⟩
theorem Zzw(k:Zsi S δ Q):Zsi (Z6 S S') δ Q:=k.imp λ_ k=>⟨Wx k.1,k.2⟩
theorem Zsb(h:EvV e δ d)(k:Q d):Zsi (wE e Wu) δ Q:=⟨d,Z7 h,k⟩
theorem Z69(h:EvT t δ YD)(k:Zsi S δ Q):Zsi (Zaf t S S') δ Q:=k.imp λ_ k=>⟨Zaj h k.1,k.2⟩
theorem Yhn(h:δ[k]? =YB (YB o))(hd:Q o.data):Zsi (Zft k) δ Q:=⟨_,Yb9 h rfl,hd⟩
theorem Ztw{n:Nat}(hl:xs.length=np)(h:Zsi S (Zgo n xs) Q):∃d,Told (Jh np n S) xs d/\Q d:=h.imp λ_ k=>⟨Zx hl k.1,k.2⟩
theorem Znv(I:Nat->Zm->Prop)(hi:EvI it δ ds)(h0:I 0 δ)(turn:∀(i:Nat) (d:Xa) (δ:Zm),ds[i]? =YB d->I i δ->∃δ1 δ2,g d δ=YB δ1/\(S δ1= .nx δ2\/S δ1= .ct δ2)/\I (i+1) δ2)(k:∀δ',I ds.length δ'->Zsi S' δ' Q):Zsi (Z6 (Zau it g S) S') δ Q:=by
 obtain⟨δ',e,h⟩:=Zsa I h0 turn;exact Zbl (Zb4 hi e) (k δ' h)
theorem Zga(I:Nat->Zm->Prop)(hi:EvI it δ ds)(h0:I 0 δ)(turn:∀(i:Nat) (d:Xa) (δ:Zm),ds[i]? =YB d->I i δ->∃δ1 δ2,g d δ=YB δ1/\(S δ1= .nx δ2\/S δ1= .ct δ2)/\I (i+1) δ2)(k:∀δ',I ds.length δ'->Zi8 S' δ' d):Zi8 (Z6 (Zau it g S) S') δ d:=by
 obtain⟨δ',e,h⟩:=Zsa I h0 turn;exact Zr (Zb4 hi e) (k δ' h)
theorem Zg3(I:Nat->Zm->Prop)(hi:EvI it δ ds)(h0:I 0 δ)(turn:∀(i:Nat) (d:Xa) (δ:Zm),ds[i]? =YB d->I i δ->∃δ1 δ2,g d δ=YB δ1/\(S δ1= .nx δ2\/S δ1= .ct δ2)/\I (i+1) δ2):∃δ',Zau it g S δ= .nx δ'/\I ds.length δ':=by
 obtain⟨δ',e,h⟩:=Zsa I h0 turn;exact⟨δ',Zb4 hi e,h⟩
theorem Zwb{m n:Nat}(h:EvA as δ [.int m,.int n])(hm:m<=1000000)(hn:n<=1000000):EvI (iRb as) δ (Zdn m (n-m)):=by
 obtain⟨_,e1,d1⟩:=h;unfold EvI;rw[Yag,e1,Xg,d1,Ygr,Z72 (by omega) (by omega) (by omega) (by omega),show((n:Int)-(m:Int)).toNat=n-m by omega]
theorem Zia:wE (Zd2 Zq) (Zcb k) δ= .nx (δ.set k (YB (.nd []))):=Zl3 (by rw[Zvo];rfl)
theorem Zfn{i:Int}(h:0<j):0<=i.fmod j:=by rw[Zgb h];exact Int.emod_nonneg _ (by omega)
theorem Zf0{i:Int}(h:0<j):i.fmod j<j:=by rw[Zgb h];exact Int.emod_lt_of_pos _ h
theorem Znp(i:Int){n:Nat}(h:0<n):∃m:Nat,i.fmod (n:Int)=m/\m<n:=by
 have h0:=Zfn (i:=i) (j:=n) (by omega);have h1:=Zf0 (i:=i) (j:=n) (by omega);exact⟨(i.fmod n).toNat,by omega,by omega⟩
theorem Yab{n:Int}(h:EvA as δ [.int n])(h0:0<=n)(h1:n<=1000000):EvV (Z8g as) δ (.list (Zdn 0 n.toNat)):=by
 obtain⟨_,e1,d1⟩:=h;exact⟨_,by rw[Z6f,e1,Xg,d1,Z8v,YL ⟨Zlg (by omega) (by omega),by rw[Qk];omega⟩],by rw[OT.data_nd,OT.map_fz]⟩
theorem Zvc{es:List Xa}(h:EvA as δ ds)(hz:Z9d ds=YB es):EvI (Zon as) δ es:=by
 obtain⟨_,e1,d1⟩:=h;unfold EvI Zon;rw[e1,Xg,d1,hz,Xg]
theorem Ybh{n:Nat}(hn:n<=1000000){v:Option OT}:(Z9b (fC d) (Zd 1)) [v,YB (.fz (.int n))]=YB (.nd (X5 n (.fz d)),[v,YB (.fz (.int n))]):=by
 obtain⟨_,e1,d1⟩:=Za (δ:=[v,YB (.fz (.int n))]) (i:=1) (d:=.int n);rw[Z5r,Yfv,Xg,e1,Xg,d1,Zwi,YL ⟨Zlg (by omega) (by omega),by rw[Qk];omega⟩,Q7,OT.data_fz]
theorem Zsp(I:Nat->Zm->Prop){J:Zm->Prop}(hg:gg d δ=YB δ1)(hi:EvI it δ1 ds)(h0:I 0 δ1)(turn:∀(i:Nat) (d:Xa) (δ:Zm),ds[i]? =YB d->I i δ->∃δ1 δ2,g d δ=YB δ1/\(S δ1= .nx δ2\/S δ1= .ct δ2)/\I (i+1) δ2)(hJ:∀δ',I ds.length δ'->J δ'):∃δ1 δ2,gg d δ=YB δ1/\(Zau it g S δ1= .nx δ2\/Zau it g S δ1= .ct δ2)/\J δ2:=by
 obtain⟨δ',e,h⟩:=Zsa I h0 turn;exact⟨δ1,δ',hg,.inl (Zb4 hi e),hJ δ' h⟩
theorem Zob{T:String}(ha:EvV a δ x)(h:Zsf T x=p)(hf:Ziu x=YF:=by rfl):EvV (Zph T a) δ (.bool p):=(Zgi ha hf).cast (by rw[h])
theorem Zvh{a b:FE}{bs es:List Xa}{as:List Xa}(ha:EvV a δ (.list as))(hb:EvV b δ (.list bs))(hz:Znc as bs=es):EvI (Zon (Zc a (Zc b Zq))) δ es:=Zvc (Zb ha (Zb hb Zh)) (YT YB hz)
theorem Z4k(ha:EvV a δ (.list ds)):EvI (Z1z (Zc a Zq)) δ (Zmw ds):=by
 obtain⟨_,e1,d1⟩:=Zb ha Zh;unfold EvI Z1z;rw[e1,Xg];dsimp only;rw[d1]
theorem Z0t{y:Str}(h:δ[k]? =YB (YB (.fz (fnD y))))(ha:EvA as δ ds)(hF:Told F ds d):EvV (Zgd k y F as) δ d:=by
 obtain⟨o,e1,d1⟩:=Zo ha hF;refine⟨o,?_,d1⟩;unfold Zgd;rw[h];dsimp only;rw[YL (Z6e y),e1]
theorem Zl1{t:FT}{cs:Zm}(xs:List α)(mk:α->Xa)(pr:α->Bool)(hi:EvI it δ (xs.map mk))(hz:xs.length<=1000000)(hb:blk 1 caps δ=YC::cs)(ht:∀x∈xs,EvT t (YB (.fz (mk x))::cs) (pr x))(h:∀x∈xs,pr x=YD->me (YB (.fz (mk x))::cs)=YB (.fz (mk x),YB (.fz (mk x))::cs)):EvV (W3 1 caps it (gNm 0) t me) δ (.list ((xs.filter pr).map mk)):=by
 unfold EvI at hi;refine⟨_,Zop (cs:=cs) xs mk pr (λx=>.fz (mk x)) hi (by rw[Qk];omega) hb (λx hx=>ht x hx) h,?_⟩;rw[OT.data_nd,XR];exact YT _ (Xu λx _=>OT.data_fz _)
theorem Told.none{F:FD}(h:Told F ds .none):F ds= .ok (.fz .none):=by
 obtain⟨o,e1,d1⟩:=h;rw[e1,Zxx d1]
end
end L2
namespace My
open PySem L2 PySem.Spec
def Jy:FS :=
 (Z6 (wE (Zag Z83 (Zc (Zd 0) Zq)) (Y0 0))
  (Z6 (wE (Zag Z83 (Zc (Zd 1) Zq)) (Y0 1))
  (Z6 (Zk7 (tV (Zj gNe (Zd 1) (fC (.int 0)))) (Z6 (wE (Zj Zgz (Zd 0) (Zd 1)) (Y0 2))
  (Z6 (wE (Zd 1) (Y0 0))
  (wE (Zd 2) (Y0 1)))))
  (wE (Zd 0) Wu))))
def Yo:FD:=Jh 2 3 Jy
theorem Zlw{f1 f2:Int->Int->Option OT->Zm}{t:FT}{u:FS}(ht:∀x y z,t (f1 x y z)=YB (!decide (y=0),f1 x y z))(hu:∀x y z,y≠0->∃z',u (f1 x y z)= .nx (f1 y (x.fmod y) z')) :
  ∀(n:Nat) (x y:Int) (z:Option OT),0<=x->0<=y->y.toNat<n->∃z',whileLoop t u n (f1 x y z)= .nx (f1 (Bx x y:Int) 0 z')
 | 0,_,_,_,_,_,h=>YX h (Vs _)
 | n+1,x,y,z,hx,hy,h=>by
  unfold whileLoop;rw[ht];dsimp only
  by_cases c:y=0
  .subst c
   refine⟨z,?_⟩;simp only[decide_true,Bool.not_true,Vn,if_false];rw[Int.gcd_zero_right];congr 2;omega
  .simp only[c,decide_false,Bool.not_false,if_true]
   obtain⟨z1,e1⟩:=hu x y z c;rw[e1];dsimp only;have hm:x.fmod y=x%y:=Zgb (by omega);have h1:0<=x%y:=Int.emod_nonneg x c;have h2:x%y<y:=Int.emod_lt_of_pos x (by omega);obtain⟨z2,e2⟩:=Zlw (f1:=f1) (f2:=f2) ht hu n y (x.fmod y) z1 hy (by omega) (by omega);exact⟨z2,by rw[e2,Z0k hx (by omega)]⟩
theorem Zbk(a b:Int):Yo [.int a,.int b]= .ok (.fz (.int (Bx a b:Int))):=by
 obtain⟨z',e⟩:=Zlw (f1:=λx y z=>[YB (.fz (.int x)),YB (.fz (.int y)),z]) (f2:=λx y z=>[]) (t:=tV (Zj gNe (Zd 1) (fC (.int 0)))) (u:=Z6 (wE (Zj Zgz (Zd 0) (Zd 1)) (Y0 2)) (Z6 (wE (Zd 1) (Y0 0)) (wE (Zd 2) (Y0 1)))) (λx y z=>Zan (Ztj Za Z1 rfl)) (λx y z hy=>⟨_,Y6 (Zu (Za1 Za Za hy)) (Y6 (Zu Za) (Zu Za))⟩) ((b.natAbs:Int).toNat+1) (a.natAbs:Int) (b.natAbs:Int) YC (by omega) (by omega) (by omega);rw[VN,Int.natAbs_natCast,Int.natAbs_natCast]at e;exact Told.int<|Zx rfl<|Zr (Zu (Jf (Zb Za Zh) (Zxd a)))<|Zr (Zu (Jf (Zb Za Zh) (Zxd b)))<|Zr (Znk _ e (by intro z;cases z)) (Z7 Za)
def Zen:FS :=
 (Z6 (wE (Zy Yo (Zc (Zd 0) (Zc (Zd 1) Zq))) (Y0 2))
  (Z6 (Zaf (tV (Zj gLt (Zd 1) (fC (.int 0))))
  (wE (fUn Zo2 (Zd 2)) (Y0 2))
  fNx)
  (wE (Ze2 (Zc (Zj Zbv (Zd 0) (Zd 2)) (Zc (Zj Zbv (Zd 1) (Zd 2)) Zq))) Wu)))
def Zaa:FD:=Jh 2 3 Zen
theorem Ycu{n:Nat}{t:Int}(hb:b≠0)(hB:Bt n b)(hn:n<=9000)(s:Int)(e:s=shr t b):Zbv (.int t) (.int s)=YB (.int (XH t b).num)/\Zbv (.int b) (.int s)=YB (.int ((XH t b).den:Int)):=by
 subst e;rw[Zjq (Zjt (Z2t hb) (Z4e hb hB) hn),Zjq (Zjt (Z2t hb) (Z4e hb hB) hn),Z40 hb,Z64 hb];exact⟨rfl,rfl⟩
theorem Zi2{n:Nat}{t:Int}(hb:b≠0)(hB:Bt n b)(hn:n<=9000:=by decide):Told Zaa [.int t,.int b] (frD (XH t b)):=by
 have fin:∀{δ:Zm} {s:Int},s=shr t b->δ[0]? =YB (YB (.fz (.int t)))->δ[1]? =YB (YB (.fz (.int b)))->δ[2]? =YB (YB (.fz (.int s)))->Zi8 (wE (Ze2 (Zc (Zj Zbv (Zd 0) (Zd 2)) (Zc (Zj Zbv (Zd 1) (Zd 2)) Zq))) Wu) δ (frD (XH t b)):=λe h0 h1 h2=>by
  obtain⟨e1,e2⟩:=Ycu hb hB hn _ e;exact Z7 (Jt (Zb (Zz (Za h0) (Za h2) e1) (Zb (Zz (Za h1) (Za h2) e2) Zh)) (show 2<=1000 by decide))
 have g:Told Yo [.int t,.int b] _:=.of (Zbk t b) (OT.data_fz _)
 by_cases c:b<0
 .exact Zx rfl<|Zr (Zu (Zo (Zb Za (Zb Za Zh)) g))<|Zr (Zaz (Zan (Zdr Za Z1 (YQ c))) (Zu (Zjl Za))) (fin (by unfold shr;rw[YL c]) rfl rfl rfl)
 .exact Zx rfl<|Zr (Zu (Zo (Zb Za (Zb Za Zh)) g))<|Zr (Z5 (Zan (Zdr Za Z1 (YS c))) rfl) (fin (by unfold shr;rw[YM c]) rfl rfl rfl)
def Zed:FS :=
 (wE (Zuo (Zph "int" (Zd 0)) (fUn Yeq (Zph "bool" (Zd 0)))) Wu)
def We:FD:=Jh 1 1 Zed
theorem Zh3(i:Int):We [.int i]= .ok (.fz (.bool YD)):=rfl
def Zd8:FS :=
 (Z6 (Zaf (tO (tNo (tD (Zy We (Zc (Zd 0) Zq)))) (tO (tNo (tD (Zy We (Zc (Zd 1) Zq)))) (tV (Zj gEq (Zd 1) (fC (.int 0))))))
  (Znf "NoNumber")
  fNx)
  (wE (Zy Zaa (Zc (Zd 0) (Zc (Zd 1) Zq))) Wu))
def Yr:FD:=Jh 2 2 Zd8
theorem Zjy{n:Nat}{t:Int}(hb:b≠0)(hB:Bt n b)(hn:n<=9000:=by decide):Told Yr [.int t,.int b] (frD (XH t b)):=by
 have w:∀{i:Int},Told We [.int i] (.bool YD):=fun{i}=>.of (Zh3 i) (OT.data_fz _);exact Zx rfl<|Zr (Z5 (Z3n (Zke (p:=YD) (Ze1 (Zo (Zb Za Zh) w))) (Z3n (Zke (p:=YD) (Ze1 (Zo (Zb Za Zh) w))) (Zan (Zm5 Za Z1 (YS hb))))) rfl) (Z7 (Zo (Zb Za (Zb Za Zh)) (Zi2 hb hB hn)))
def Za3:FS :=
 (Z6 (wE (fC (.int 1)) (Y0 1))
  (Z6 (Zau (Zf5 (Zd 0)) (gNm 2)
  (wE (Zj Zf4 (Zj Zbv (Zd 1) (Zy Yo (Zc (Zd 1) (Zc (Yl gIx (Zd 2) (fC (.int 1))) Zq)))) (Yl gIx (Zd 2) (fC (.int 1)))) (Y0 1)))
  (wE (Zd 1) Wu)))
def Wc:FD:=Jh 1 3 Za3
def prD(p:Int×Int):Xa:=.tuple [.int p.1,.int p.2]
theorem Z1k{a B:Int}(ha:0<a)(hb:0<b)(h1:a∣B)(h2:b∣B)(hB:0<B):0<a.fdiv (Bx a b)*b/\a∣a.fdiv (Bx a b)*b/\b∣a.fdiv (Bx a b)*b/\a.fdiv (Bx a b)*b∣B:=by
 have hg:0<(Bx a b:Int):=Zgj (by omega);have d1:(Bx a b:Int)∣a:=Int.gcd_dvd_left ..;have d2:(Bx a b:Int)∣b:=Int.gcd_dvd_right ..;rw[Zal hg];have e:a/(Bx a b:Int)*b=(Int.lcm a b:Int):=by
  have q:=Int.gcd_mul_lcm a b;have h3:(Bx a b:Int)*(Int.lcm a b:Int)=a*b:=by
   rw[<-Int.natCast_mul,q,Int.natCast_mul,Int.natAbs_of_nonneg (by omega),Int.natAbs_of_nonneg (by omega)]
  obtain⟨k,hk⟩:=d1;have e1:a/(Bx a b:Int)=k:=Int.ediv_eq_of_eq_mul_right (by omega) hk;rw[e1];apply Int.eq_of_mul_eq_mul_left (a:=(Bx a b:Int)) (by omega);rw[h3,<-Int.mul_assoc,<-hk]
 rw[e];refine⟨?_,Int.dvd_lcm_left ..,Int.dvd_lcm_right ..,Int.coe_lcm_dvd h1 h2⟩;have:Int.lcm a b≠0:=by
  rw[Ne,Int.lcm_eq_zero_iff];omega
 omega
theorem Zlj{n:Nat}{a B:Int}(hB:0<B)(h:a∣B)(b:Bt n B):Bt n a:=by
 refine Bt.of_le b ?_;have:=Int.natAbs_dvd_natAbs.mpr h;exact Nat.le_of_dvd (by omega) this
theorem Zih{n:Nat}{B:Int}(hB:0<B)(bB:Bt n B)(hn:n<=9000:=by decide)(ps:List (Int×Int))(h:∀p∈ps,0<p.2/\p.2∣B) :
  ∃m,Told Wc [.list (ps.map prD)] (.int m)/\0<m/\(∀p∈ps,p.2∣m)/\m∣B:=by
 have key:∃d,Told Wc [.list (ps.map prD)] d/\∃m,d= .int m/\0<m/\(∀p∈ps,p.2∣m)/\m∣B:=by
  refine Ztw rfl<|Zbl (Zu Z1)<|Znv (ds:=ps.map prD) (λi δ=>∃m z,δ=[YB (.fz (.list (ps.map prD))),YB (.fz (.int m)),z]/\0<m/\(∀j p,j<i->ps[j]? =YB p->p.2∣m)/\m∣B) (Js Za) ⟨1,YC,rfl,by decide,λj p hj=>YX hj (Vs j),Int.one_dvd _⟩ (λi d δ hd hi=>?_) λδ' hi=>?_
  .obtain⟨m,z,hδ,h1,h2,h3⟩:=hi
   subst hδ;rw[Xp]at hd;cases e:ps[i]? with
   | none=>rw[e]at hd;cases hd
   | some p=>
    rw[e]at hd;cases hd;obtain⟨q1,q2⟩:=h p (Qz e);obtain⟨s1,s2,s3,s4⟩:=Z1k h1 q1 h3 q2 hB;have g0:0<(Bx m p.2:Int):=Zgj (by omega);have bg:Bt n (Bx m p.2:Int):=Zlj hB (Int.dvd_trans (Int.gcd_dvd_right ..) q2) bB;have bm:Bt n (m.fdiv (Bx m p.2)):=by
     rw[Zal g0];exact Bt.of_le (Zlj hB h3 bB) (Int.natAbs_ediv_le_natAbs _ _)
    have at1:∀{δ:Zm},δ[2]? =YB (YB (.fz (prD p)))->EvV (Yl gIx (Zd 2) (fC (.int 1))) δ (.int p.2):=λh=>Wq (Za h) Z1 rfl;refine⟨_,_,rfl,.inl (Zu (Zz (Zz Za (Zo (Zb Za (Zb (at1 rfl) Zh)) (.of (Zbk m p.2) (OT.data_fz _))) (Zjq (Zjt (by omega) bg hn))) (at1 rfl) (Zff (Zfl bm (Zlj hB q2 bB) (by omega))))),_,_,rfl,s1,λj p' hj hp=>?_,s4⟩
    by_cases z:j=i
    .subst z
     rw[e]at hp;cases hp;exact s3
    .exact Int.dvd_trans (h2 j p' (by omega) hp) s2
  .obtain⟨m,z,rfl,h1,h2,h3⟩:=hi
   refine Zsb Za ⟨m,rfl,h1,λp hp=>?_,h3⟩;obtain⟨j,hj⟩:=BX hp;exact h2 j p (by have:=(Xw.mp hj).1;rwa[Xd]) hj
 obtain⟨d,h,m,rfl,hm⟩:=key;exact⟨m,h,hm⟩
def Zbe:FS :=
 (Z6 (wE (fC (.int 1)) (Y0 1))
  (Z6 (Zau (Zf5 (Zd 0)) (gNm 2)
  (wE (Zy Wc (Zc (Yl Zlb (Zd2 (Zc (Ze2 (Zc (fC (.int 1)) (Zc (Zd 1) Zq))) Zq)) (Zd 2)) Zq)) (Y0 1)))
  (wE (Zd 1) Wu)))
def Z0:FD:=Jh 1 3 Zbe
theorem Z4l(r:List Rat):r.map frD=(r.map λq=>(q.num,(q.den:Int))).map prD:=by rw[XR];rfl
def Z86(T:List (List Rat))(B:Int):Prop:=∀r∈T,∀q∈r,(q.den:Int)∣B
theorem Zej{n:Nat}{B:Int}(hB:0<B)(bB:Bt n B)(hn:n<=9000:=by decide)(T:List (List Rat))(hz:∀r∈T,r.length<=1000)(h:Z86 T B) :
  ∃m,Told Z0 [tbD T] (.int m)/\0<m/\Z86 T m/\m∣B:=by
 have key:∃d,Told Z0 [.list (T.map Zsn)] d/\∃m,d= .int m/\0<m/\Z86 T m/\m∣B:=by
  refine Ztw rfl<|Zbl (Zu Z1)<|Znv (ds:=T.map Zsn) (λi δ=>∃m z,δ=[YB (.fz (.list (T.map Zsn))),YB (.fz (.int m)),z]/\0<m/\(∀j r,j<i->T[j]? =YB r->∀q∈r,(q.den:Int)∣m)/\m∣B) (Js Za) ⟨1,YC,rfl,by decide,λj p hj=>YX hj (Vs j),Int.one_dvd _⟩ (λi d δ hd hi=>?_) λδ' hi=>?_
  .obtain⟨m,z,hδ,h1,h2,h3⟩:=hi
   subst hδ;rw[Xp]at hd;cases e:T[i]? with
   | none=>rw[e]at hd;cases hd
   | some r=>
    rw[e]at hd;cases hd;have hr:=Qz e;obtain⟨m',e1,p1,p2,p3⟩:=Zih hB bB hn ((1,m)::r.map λq=>(q.num,(q.den:Int))) λp hp=>by
     rcases Xm.mp hp with rfl|hp
     .exact⟨h1,h3⟩
     .obtain⟨q,hq,rfl⟩:=Xv.mp hp
      exact⟨Zcx q,h r hr q hq⟩
    rw[XM,<-Z4l]at e1;have hl:=hz r hr;refine⟨_,_,rfl,.inl (Zu (Zo (Zb (Zsq (ds:=[prD (1,m)]) (es:=r.map frD) (Zhy (Zb (Jt (Zb Z1 (Zb Za Zh)) (show 2<=1000 by decide)) Zh) (show 1<=1000 by decide)) Za (by rw[Xd,QM];omega)) Zh) e1)),m',_,rfl,p1,λj r' hj hr' q hq=>?_,p3⟩
    by_cases z:j=i
    .subst z
     rw[e]at hr';cases hr';exact p2 (q.num,(q.den:Int)) (.tail _ (Xv.mpr ⟨q,hq,rfl⟩))
    .exact Int.dvd_trans (h2 j r' (by omega) hr' q hq) (p2 (1,m) (.head _))
  .obtain⟨m,z,rfl,h1,h2,h3⟩:=hi
   refine Zsb Za ⟨m,rfl,h1,λr hr q hq=>?_,h3⟩;obtain⟨j,hj⟩:=BX hr;exact h2 j r (by have:=(Xw.mp hj).1;rwa[Xd]) hj q hq
 obtain⟨d,h,m,rfl,hm⟩:=key;exact⟨m,h,hm⟩
def scI(m:Int)(q:Rat):Int:=q.num*(m/(q.den:Int))
theorem Z3i{m:Int}{q:Rat}(h:(q.den:Int)∣m):(scI m q:Rat)=q*(m:Rat):=by
 obtain⟨k,rfl⟩:=h;unfold scI;rw[Int.mul_ediv_cancel_left _ (Zwn q)];rw[Ut,Ut,Yjr,Rat.mul_assoc]
def Zdl:FS :=
 (wE (W3 1 [0] (Zf5 (Zd 1)) (gNm 0) Znd (Zj Zf4 (Yl gIx (Zd 0) (fC (.int 0))) (Zj Zbv (Zd 1) (Yl gIx (Zd 0) (fC (.int 1)))))) Wu)
def Za0:FD:=Jh 2 2 Zdl
theorem Zni{n:Nat}{m:Int}(hm:0<m)(bm:Bt n m)(r:List Rat)(hz:r.length<=1000)(h:∀q∈r,(q.den:Int)∣m/\Bt n q.num)(hn:n<=9000:=by decide) :
  Told Za0 [.int m,Zsn r] (.list (r.map λq=>.int (scI m q))) :=
 Zx rfl<|Z7<|Zfz (cs:=[YB (.fz (.int m))]) r frD (λq=>.int (scI m q)) (Js Za) (by omega) rfl λq hq=>by
  obtain⟨h1,h2⟩:=h q hq;refine(Zz (Wq (d:=.int q.num) Za Z1 rfl) (Zz Za (Wq (d:=.int (q.den:Int)) Za Z1 rfl) (Zjq (Zjt (Zwn q) (Zlj hm h1 bm) hn))) (Zff ?_)).cast ?_
  .rw[Zal (Zcx q)]
   exact Zfl h2 (Bt.of_le bm (Int.natAbs_ediv_le_natAbs _ _)) (by omega)
  .rw[Zal (Zcx q)];rfl
def Zcm:FS :=
 (wE (W3 1 [0] (Zf5 (Zd 1)) (gNm 0) Znd (Zy Za0 (Zc (Zd 1) (Zc (Zd 0) Zq)))) Wu)
def Yd:FD:=Jh 2 2 Zcm
theorem Zf6{n:Nat}{m:Int}(hm:0<m)(bm:Bt n m)(T:List (List Rat))(hT:T.length<=1000)(hz:∀r∈T,r.length<=1000)(h:Z86 T m)(hb:∀r∈T,∀q∈r,Bt n q.num)(hn:n<=9000:=by decide) :
  Told Yd [.int m,tbD T] (.list (T.map λr=>.list (r.map λq=>.int (scI m q)))) :=
 Zx rfl<|Z7<|Zfz (cs:=[YB (.fz (.int m))]) T Zsn (λr=>.list (r.map λq=>.int (scI m q))) (Js Za) (by omega) rfl λr hr=>Zo (Zb Za (Zb Za Zh)) (Zni hm bm r (hz r hr) (λq hq=>⟨h r hr q hq,hb r hr q hq⟩) hn)
def Zes:FS :=
 (Z6 (wE (Zd2 Zq) (Zcb 1))
  (Z6 (Zau (iRa (Zc (Zd 0) Zq)) (gNm 2)
  (Zau (iRb (Zc (Zj Zcn (Zd 2) (fC (.int 1))) (Zc (Zd 0) Zq))) (gNm 3)
  (Wl 1 (Ze2 (Zc (Zd 2) (Zc (Zd 3) Zq))))))
  (Zft 1)))
def Jz:FD:=Jh 1 4 Zes
def Yt(n:Nat):List (Nat×Nat):=(Xo n).flatMap λi=>(Xo (n-(i+1))).map λj=>(i,i+1+j)
def ptD(p:Nat×Nat):Xa:=.tuple [.int p.1,.int p.2]
theorem Yg{n:Nat}{p:Nat×Nat}(h:p∈Yt n):p.1<p.2/\p.2<n:=by
 unfold Yt at h;obtain⟨i,hi,hp⟩:=U9.mp h;obtain⟨j,hj,rfl⟩:=Xv.mp hp;have:=Xx.mp hi;have:=Xx.mp hj;dsimp only;omega
theorem Zk5{n:Nat}(h:i<j)(hj:j<n):(i,j)∈Yt n:=by
 unfold Yt;exact U9.mpr ⟨i,Xx.mpr (by omega),Xv.mpr ⟨j-(i+1),Xx.mpr (by omega),by congr 1;omega⟩⟩
def Zlq(n i:Nat):List (Nat×Nat):=(Xo i).flatMap λi=>(Xo (n-(i+1))).map λj=>(i,i+1+j)
theorem Zpd(n:Nat):∀i,(Zlq n i).length<=i*n
 | 0=>by simp[Zlq]
 | i+1=>by
  have:=Zpd n i;unfold Zlq at this|-
  rw[Uq,VB,Xq];simp only[List.flatMap_cons,List.flatMap_nil,QS,Xd,XD];have e:(i+1)*n=i*n+n:=by rw[Nat.succ_mul]
  omega
theorem Zld(n i:Nat):Zlq n (i+1)=Zlq n i++(Xo (n-(i+1))).map λj=>(i,i+1+j):=by
 unfold Zlq;rw[Uq,VB];simp
theorem Zps(n:Nat)(hn:n<=1000):Told Jz [.int n] (.list ((Yt n).map ptD)):=by
 refine Zx rfl<|Zr Zia<|Zga (ds:=Zdn 0 n) (λi δ=>∃z1 z2,δ=[YB (.fz (.int n)),YB (.nd (((Zlq n i).map ptD).map OT.fz)),z1,z2]) (Zkj (Zb Za Zh) (by omega)) ⟨_,_,rfl⟩ (λi d δ hd h=>?_) λδ' h=>?_
 .obtain⟨z1,z2,rfl⟩:=h
  obtain⟨hi,rfl⟩:=Zaq hd;rw[Bh];have ln:=Zpd n i;have l2:i*n<=999*1000:=Nat.mul_le_mul (by omega) hn;refine Zsp (ds:=Zdn ((i+1:Nat):Int) (n-(i+1))) (λj δ=>∃z,δ=[YB (.fz (.int n)),YB (.nd (((Zlq n i++(Xo j).map λj=>(i,i+1+j)).map ptD).map OT.fz)),YB (.fz (.int i)),z]) rfl (Zwb (m:=i+1) (Zb (EvV.cast (Y9 Za Z1) rfl) (Zb Za Zh)) (by omega) (by omega)) ⟨z2,by rw[List.range_zero,List.map_nil,QS];rfl⟩ (λj d δ hd h=>?_) λδ' h=>?_
  .obtain⟨z,rfl⟩:=h
   obtain⟨hj,rfl⟩:=Zaq hd;refine⟨_,_,rfl,.inl (Zhx (Jt (Zb Za (Zb Za Zh)) (show 2<=1000 by decide)) rfl (by rw[Xd,Xd,Xq,Xd,XD];omega)),YB (.fz (.int (((i+1:Nat):Int)+j))),?_⟩;rw[Uq];simp only[Qg,QQ];rfl
  .obtain⟨z,rfl⟩:=h
   rw[Wk,<-Zld];exact⟨_,_,rfl⟩
 .obtain⟨z1,z2,rfl⟩:=h
  rw[Wk];exact Yb9 rfl (by rw[OT.data_nd,OT.map_fz];rfl)
end My
namespace My
open PySem L2 PySem.Spec
def Zb2:FS :=
 (Z6 (Zaf (tV (Zj gLt (Zd 1) (Zag Zai (Zc (Zd 0) Zq))))
  (wE (Yl gIx (Zd 0) (Zd 1)) Wu)
  fNx)
  (wE (fC (.int 0)) Wu))
def W0:FD:=Jh 2 2 Zb2
def Zdv:FS :=
 (Z6 (Zaf (tV (Zj gEq (Zj Zgz (Zj Zbv (Zd 0) (fC (.int 7))) (fC (.int 8))) (fC (.int 3))))
  (wE (Zj Zcn (Zj Zcn (Zd 2) (fC (.int 1))) (Zj Zgz (Zj Zbv (Zd 0) (fC (.int 56))) (Zj gSb (Zd 3) (Zd 2)))) Wu)
  fNx)
  (wE (Zj Zcn (Zd 1) (Zj Zgz (Zd 0) (Zj gSb (Zj Zcn (Zd 2) (fC (.int 1))) (Zd 1)))) Wu))
def Jv:FD:=Jh 4 4 Zdv
def Zd3:FS :=
 (Z6 (wE (Zj Zgz (Zj Zf4 (Zj Zcn (Zj Zcn (Zj Zgz (Zd 0) (fC (.int 2147483629))) (Zj Zf4 (fC (.int 9973)) (Zd 1))) (fC (.int 5))) (fC (.int 48271))) (fC (.int 2147483647))) (Y0 2))
  (Z6 (wE (Zj Zgz (Zj Zf4 (Zd 2) (Zd 2)) (fC (.int 2147483587))) (Y0 2))
  (wE (Zj Zbv (Zj Zgz (Zj Zf4 (Zj Zcn (Zd 2) (Zj Zf4 (fC (.int 7919)) (Zd 1))) (fC (.int 16807))) (fC (.int 2147483563))) (fC (.int 8))) Wu)))
def W9:FD:=Jh 2 3 Zd3
def Zb1:FS :=
 (Z6 (wE (Zd2 Zq) (Zcb 2))
  (Z6 (wE (Zd 0) (Y0 3))
  (Z6 (Zau (iRa (Zc (Zd 1) Zq)) (gNm 4)
  (Z6 (wE (Zy W9 (Zc (Zd 0) (Zc (Zd 4) Zq))) (Y0 5))
  (Z6 (Zaf (tV (Zj gGe (Zd 0) (Zj Zzn (fC (.int 10)) (fC (.int 18)))))
  (wE (Zj Zgz (Zd 3) (fC (.int 720720))) (Y0 5))
  fNx)
  (Z6 (wE (Zj Zbv (Zd 3) (fC (.int 720720))) (Y0 3))
  (Wl 2 (Zd 5))))))
  (Zft 2))))
def Ww:FD:=Jh 2 6 Zb1
def Zg(p:List Int):Xa:=.list (p.map Xk)
end My
variable {S':FS}{B:Int}{p:List Int}{cs:Zm}
namespace My
open PySem L2 PySem.Spec
theorem Zss{i:Int}(h0:0<=i)(h1:i<p.length):atI (p.map Xk) i=YB (.int (p.getD i.toNat 0)):=by
 rw[Zo1 h0,Xp,Xf (by omega)];simp[Xb,Xf (show i.toNat<p.length by omega)]
theorem Y5{a b:FE}{i:Int}(ha:EvV a δ (Zg p))(hb:EvV b δ (.int i))(h0:0<=i)(h1:i<p.length):EvV (Yl gIx a b) δ (.int (p.getD i.toNat 0)):=Z30 ha hb (Zss h0 h1)
theorem Jq{a:FE}(ha:EvV a δ (Zg p)):EvV (Zag Zai (Zc a Zq)) δ (.int p.length):=by
 have:=Zi6 (ds:=p.map Xk) ha
 rwa[Xd]at this
theorem Yhq:Zzn (.int 10) (.int 18)=YB (.int 1000000000000000000):=rfl
theorem Zk0(ns:List Int){k:Int}(h0:0<=k):∃c,W0 [Zg ns,.int k]= .ok (.fz (.int c)):=by
 by_cases c:k<ns.length
 .exact⟨_,Told.int<|Zx rfl<|Wx (Zaj (Zan (Zdr Za (Jq Za) (YQ c))) (Z7 (Y5 Za Za h0 c)))⟩
 .exact⟨_,Told.int<|Zx rfl<|Zr (Z5 (Zan (Zdr Za (Jq Za) (YS c))) rfl) (Z7 Z1)⟩
theorem Z6o(c:Int){a d:Int}(h1:a<=b)(h2:b<d):∃n:Int,Jv [.int c,.int a,.int b,.int d]= .ok (.fz (.int n))/\a<=n/\n<=d:=by
 by_cases k:(c.fdiv 7).fmod 8=3
 .have q0:=Zfn (i:=c.fdiv 56) (j:=d-b) (by omega)
  have q1:=Zf0 (i:=c.fdiv 56) (j:=d-b) (by omega);exact⟨_,Told.int<|Zx rfl<|Wx (Zaj (Zan (Zm5 (Za1 (Zdt Za Z1) Z1 (by decide)) Z1 (YQ k)))
   (Z7 (Y9 (Y9 Za Z1) (Za1 (Zdt Za Z1) (Zei Za Za) (by omega))))),by omega,by omega⟩
 .have q0:=Zfn (i:=c) (j:=b+1-a) (by omega)
  have q1:=Zf0 (i:=c) (j:=b+1-a) (by omega);exact⟨_,Told.int<|Zx rfl<|Zr (Z5 (Zan (Zm5 (Za1 (Zdt Za Z1) Z1 (by decide)) Z1 (YS k))) rfl)
   (Z7 (Y9 Za (Za1 Za (Zei (Y9 Za Z1) Za) (by omega)))),by omega,by omega⟩
theorem Zxp(c k:Int):∃v,Told W9 [.int c,.int k] (.int v):=by
 have n0:=Zfn (i:=(c.fmod 2147483629+9973*k+5)*48271) (j:=2147483647) (by decide);have n1:=Zf0 (i:=(c.fmod 2147483629+9973*k+5)*48271) (j:=2147483647) (by decide);exact⟨_,Zx rfl<|Zr (Zu (Za1 (Zx6 (Y9 (Y9 (Za1 Za Z1 (by decide)) (Zfv Z1 Za)) Z1) Z1) Z1 (by decide)))<|
  Zr (Zu (Za1 (Zfv Za Za (by omega)) Z1 (by decide)))<|
  Z7 (Zdt (Za1 (Zx6 (Y9 Za (Zfv Z1 Za)) Z1) Z1 (by decide)) Z1)⟩
theorem Zm9{e:FE}{vs:List Int}{v:Int}(h:EvV e δ (.int v))(hi:δ[i]? =YB (YB (.nd (vs.map λv=>.fz (.int v)))))(hl:vs.length<=1000000):Wl i e δ= .nx (δ.set i (YB (.nd ((vs++[v]).map λv=>.fz (.int v))))):=by
 rw[Zhx h hi (by rw[Xd];exact hl),Qg];rfl
theorem Zf3(p:List Int):(OT.nd ((p.map Xk).map OT.fz)).data=Zg p:=by
 rw[OT.data_nd,OT.map_fz];rfl
theorem Zll(vs:List Int):(OT.nd (vs.map λv=>OT.fz (.int v))).data=Zg vs:=by rw[OT.data_nd,Zta];rfl
theorem Zt5(c:Int)(m:Nat)(hm:m<=1000):∃vs:List Int,Told Ww [.int c,.int m] (Zg vs)/\vs.length=m:=by
 have key:∃d,Told Ww [.int c,.int m] d/\∃vs,d=Zg vs/\vs.length=m :=
  Ztw rfl<|Zbl Zia<|Zbl (Zu Za)<|Znv (ds:=Zdn 0 m) (λi δ=>∃(vs:List Int) (x:Int) (z1 z2:Option OT),δ=[YB (.fz (.int c)),YB (.fz (.int m)),YB (.nd (vs.map λv=>.fz (.int v))),YB (.fz (.int x)),z1,z2]/\vs.length=i)
   (Zkj (Zb Za Zh) (by omega)) ⟨[],c,YC,YC,rfl,rfl⟩ (λi d δ hd q91=>by
    obtain⟨vs,x,z1,z2,e,hl⟩:=q91;subst e;obtain⟨hi,rfl⟩:=Zaq hd;obtain⟨v,ev⟩:=Zxp c (0+(i:Int))
    by_cases q:1000000000000000000<=c
    .exact⟨_,_,rfl,.inl (Y6 (Zu (Zo (Zb Za (Zb Za Zh)) ev))<|Y6 (Zaz (Zan (Z98 Za (Zz Z1 Z1 Yhq) (YQ q))) (Zu (Za1 Za Z1 (by decide))))<|
      Y6 (Zu (Zdt Za Z1)) (Zm9 (vs:=vs) Za rfl (by omega))),_,_,_,_,rfl,by rw[Xq,hl];rfl⟩
    .exact⟨_,_,rfl,.inl (Y6 (Zu (Zo (Zb Za (Zb Za Zh)) ev))<|Y6 (Z5 (Zan (Z98 Za (Zz Z1 Z1 Yhq) (YS q))) rfl)<|
      Y6 (Zu (Zdt Za Z1)) (Zm9 (vs:=vs) Za rfl (by omega))),_,_,_,_,rfl,by rw[Xq,hl];rfl⟩)
   λδ' q92=>by
    obtain⟨vs,x,z1,z2,e,hl⟩:=q92;subst e;rw[Wk]at hl;exact Yhn rfl ⟨vs,Zll vs,hl⟩
 obtain⟨d,h,vs,rfl,hl⟩:=key;exact⟨vs,h,hl⟩
end My
namespace L2
open PySem PySem.Spec PyProof.Rows
structure Ap(z TI TO i1 i2:YG):Prop where
 a1:TI≠z
 a2:TO≠z
 a3:i1≠z
 a4:i2≠z
 a5:i1≠TO
 a6:i2≠TO
 a7:i1≠i2
 a8:TI≠TO
 a9:TI≠i1
 a10:TI≠i2
abbrev yT1(h:YH)(x:Str)(t:Tok):YH:=h.push { cls:=.type (strIterType x),data:=.fields #[.str x t,.int 0 0] }
abbrev yT2(h:YH)(x y:Str)(t u:Tok):YH:=yT1 (yT1 h x t) y u
abbrev yT3(h:YH)(x y:Str)(t u:Tok):YH:=(yT2 h x y t u).push { cls:=.type "tuple",data:=.seq #[.ref h.objs.size,.ref (yT1 h x t).objs.size] }
abbrev yT4(h:YH)(x y:Str)(t u:Tok):YH:=(yT3 h x y t u).push { cls:=.type "tuple",data:=.seq #[.none,.none] }
abbrev yT5(h:YH)(x y:Str)(t u:Tok):YH:=(yT4 h x y t u).push { cls:=.type "zip",data:=.fields #[.none,.bool YF,.bool YF,.ref (yT2 h x y t u).objs.size,.ref (yT3 h x y t u).objs.size] }
section
variable {p:Bool}{a b:YJ}
end
end L2
namespace L2
open PySem PySem.Spec PyProof.Rows PySem.W
theorem Zgv{lt:Nat->Nat->Bool}{f:α->KasT β}(t:KasT α):kEv lt (t.bind f)=kEv lt (f (kEv lt t)):=by
 induction t with
 | ret a=>rfl
 | ask i j k ih=>exact ih _
structure Tot(lt:Nat->Nat->Bool)(n:Nat):Prop where
 tr:∀i j k,i<n->j<n->k<n->lt i j=YD->lt j k=YD->lt i k=YD
 tot:∀i j,i<n->j<n->i≠j->lt i j=YF->lt j i=YD
 asy:∀i j,i<n->j<n->lt i j=YD->lt j i=YF
section
variable {lt:Nat->Nat->Bool}{n:Nat}
abbrev gD(p:Array Nat)(i:Nat):Nat:=p.getD i 0
theorem kP.size{p:Array Nat}(h:kP n p):p.size=n:=by rw[<-Vx,List.Perm.length_eq h,XD]
theorem Zqm{p:Array Nat}(h:i<p.size):p[i]? =YB (gD p i):=by rw[Array.getElem?_eq_getElem h];simp[gD,Array.getD,h]
theorem Z0j{p q:Array Nat}(h:p[i]? =q[j]?):gD p i=gD q j:=by
 show p.getD i 0=q.getD j 0;rw[Array.getD_eq_getD_getElem?,Array.getD_eq_getD_getElem?,h]
theorem kP.blw{p:Array Nat}(h:kP n p)(hi:i<n):gD p i<n:=h.at (Nat.lt_of_le_of_lt (QH _) hi) i
theorem kP.ne{p:Array Nat}(h:kP n p)(hi:i<j)(hj:j<n):gD p i≠gD p j:=λe=>by
 have nd:p.toList.Nodup:=(List.Perm.nodup_iff h).mpr List.nodup_range;have sz:=h.size;have a:=Zqm (p:=p) (i:=i) (by omega);have b:=Zqm (p:=p) (i:=j) (by omega);rw[<-Be]at a b;obtain⟨a1,a2⟩:=Xw.mp a;obtain⟨b1,b2⟩:=Xw.mp b;exact Ui.mp nd i j a1 b1 hi (by rw[a2,b2,e])
def Ri(lt:Nat->Nat->Bool)(p:Array Nat)(m:Nat):Prop:=∀i j,i<j->j<m->lt (gD p i) (gD p j)=YD
def Fa(lt:Nat->Nat->Bool)(p:Array Nat)(m:Nat):Prop:=∀i j,i<j->j<m->lt (gD p j) (gD p i)=YD
variable (T:Tot lt n)
include T
theorem Z3k{p:Array Nat}(h:kP n p)(f:Nat):∀m,1<=m->m+f<=n->Ri lt p m->Ri lt p (kEv lt (kas_asc p f m))/\m<=kEv lt (kas_asc p f m)/\kEv lt (kas_asc p f m)<=m+f/\(kEv lt (kas_asc p f m)<m+f->lt (gD p (kEv lt (kas_asc p f m))) (gD p (kEv lt (kas_asc p f m)-1))=YD):=by
 induction f with
 | zero=>exact λm _ _ r=>⟨r,X3 _,X3 _,λz=>YX z (Vw _)⟩
 | succ f ih=>
  intro m h1 hn r;show _/\_;rw[kas_asc,kEv];cases c:lt (p.getD m 0) (p.getD (m-1) 0)with
  | true=>
   rw[YL rfl,kEv];exact⟨r,X3 _,Vk _ _,λ_=>c⟩
  | false=>
   rw[YM Xn];have up:lt (gD p (m-1)) (gD p m)=YD:=T.tot _ _ (h.blw (by omega)) (h.blw (by omega)) (h.ne (by omega) (by omega)).symm c;have r2:Ri lt p (m+1):=λi j hij hj=>by
    rcases U0 j m with q|q
    .exact r i j hij q
    .have:j=m:=by omega
     subst this;rcases U0 i (j-1)with q2|q2
     .exact T.tr _ _ _ (h.blw (by omega)) (h.blw (by omega)) (h.blw (by omega)) (r i (j-1) q2 (by omega)) up
     .have:i=j-1:=by omega
      subst this;exact up
   obtain⟨a,b,c,d⟩:=ih (m+1) (by omega) (by omega) r2;exact⟨a,by omega,by omega,λz=>d (by omega)⟩
theorem Z6x{p:Array Nat}(h:kP n p)(f:Nat):∀m,1<=m->m+f<=n->Fa lt p m->∃m',kEv lt (kas_desc f p m 0)=(p,m',0)/\Fa lt p m'/\m<=m'/\m'<=m+f:=by
 induction f with
 | zero=>exact λm _ _ r=>⟨m,rfl,r,X3 _,X3 _⟩
 | succ f ih=>
  intro m h1 hn r;rw[kas_desc,kEv];cases c:lt (p.getD m 0) (p.getD (m-1) 0)with
  | true=>
   rw[YL rfl,YM (Vw _)];have r2:Fa lt p (m+1):=λi j hij hj=>by
    rcases U0 j m with q|q
    .exact r i j hij q
    .have:j=m:=by omega
     subst this;rcases U0 i (j-1)with q2|q2
     .exact T.tr _ _ _ (h.blw (by omega)) (h.blw (by omega)) (h.blw (by omega)) c (r i (j-1) q2 (by omega))
     .have:i=j-1:=by omega
      subst this;exact c
   obtain⟨m',e,a,b,d⟩:=ih (m+1) (by omega) (by omega) r2;exact⟨m',e,a,by omega,by omega⟩
  | false=>
   rw[YM Xn,kEv];have up:lt (p.getD (m-1) 0) (p.getD m 0)=YD:=T.tot _ _ (h.blw (by omega)) (h.blw (by omega)) (h.ne (by omega) (by omega)).symm c;rw[up,YL rfl,kEv];exact⟨m,rfl,r,X3 _,Vk _ _⟩
theorem Z1g{p:Array Nat}(h:kP n p)(h0:0<n):∃m p',kEv lt (kas_count n p)=(m,p')/\kP n p'/\Ri lt p' m/\1<=m/\m<=n:=by
 rw[kas_count,Zgv];obtain⟨a,b,c,d⟩:=Z3k T h (n-1) 1 (X3 _) (by omega) λi j _ _=>by omega
 generalize kEv lt (kas_asc p (n-1) 1)=m at a b c d
 by_cases e:m=n
 .rw[YL (by rw[e];exact beq_self_eq_true _),kEv]
  exact⟨m,p,rfl,h,a,b,by omega⟩
 rw[YM (λz=>e (YZ.mp z))]
 by_cases m1:m>1
 .rw[YL m1,kEv,a 0 (m-1) (by omega) (by omega),YL rfl,kEv]
  exact⟨m,p,rfl,h,a,b,by omega⟩
 rw[YM m1];have em:m=1:=by omega
 subst em;have lt1:=d (by omega);rw[kas_descPart,Zgv];obtain⟨m',e2,f2,b2,d2⟩:=Z6x T h (n-(1+1)) (1+1) (by omega) (by omega) λi j hij hj=>by
  have:i=0:=by omega
  have:j=1:=by omega
  subst i j;exact lt1
 rw[e2,YM (Vw _),kas_tail3,Zgv,kEv];have kr:kP n (kas_rev p 0 m'):=h.rev _ _;have rr:Ri lt (kas_rev p 0 m') m':=λi j hij hj=>by
  have ge:∀k,k<m'->gD (kas_rev p 0 m') k=gD p (m'-1-k):=λk hk=>Z0j (by
   have:=getElem?_mirror_all (xs:=p) (i:=0) (j:=m') (by rw[h.size];omega) k;rw[YL ⟨QH _,hk⟩,Nat.zero_add]at this;exact this)
  rw[ge i (by omega),ge j hj];exact f2 _ _ (by omega) (by omega)
 obtain⟨a,b,c,_⟩:=Z3k T kr (n-m') m' (by omega) (by omega) rr;have n2:2<=n:=by omega
 have:m'<=n:=by omega
 refine⟨_,_,rfl,kr,a,?_,?_⟩
 .exact QD (by omega) b
 .exact QD c (by omega)
theorem Zzo{p:Array Nat}(h:kP n p){k:Nat}(hk:k<n)(f:Nat):∀l r,l<=r->r<=k->r-l<=f->(∀i,i<l->lt (gD p i) (gD p k)=YD)->(∀i,r<=i->i<k->lt (gD p k) (gD p i)=YD)->Ri lt p k ->
  kEv lt (kas_place p k f l r)<=k/\(∀i,i<kEv lt (kas_place p k f l r)->lt (gD p i) (gD p k)=YD)/\∀i,kEv lt (kas_place p k f l r)<=i->i<k->lt (gD p k) (gD p i)=YD:=by
 induction f with
 | zero=>
  intro l r lr rk z a b R;have:l=r:=by omega
  subst this;exact⟨rk,a,b⟩
 | succ f ih=>
  intro l r lr rk z a b R;rw[kas_place]
  by_cases c:l>=r
  .rw[YL c,kEv]
   exact⟨by omega,a,λi x y=>b i (by omega) y⟩
  rw[YM c,kEv];have hm:(l+r)/2<k:=by omega
  cases q:lt (p.getD k 0) (p.getD ((l+r)/2) 0)with
  | true=>
   rw[YL rfl];refine ih _ _ (by omega) (by omega) (by omega) a (λi x y=>?_) R
   by_cases e:i=(l+r)/2
   .subst e;exact q
   .exact T.tr _ _ _ (h.blw hk) (h.blw (by omega)) (h.blw (by omega)) q (R _ _ (by omega) y)
  | false=>
   rw[YM Xn];have up:lt (gD p ((l+r)/2)) (gD p k)=YD:=T.tot _ _ (h.blw hk) (h.blw (by omega)) (h.ne hm hk).symm q;refine ih _ _ (by omega) (by omega) (by omega) (λi x=>?_) b R
   by_cases e:i=(l+r)/2
   .subst e;exact up
   .exact T.tr _ _ _ (h.blw (by omega)) (h.blw (by omega)) (h.blw hk) (R _ _ (by omega) hm) up
theorem Ydo(f:Nat):∀{p:Array Nat} (h:kP n p) (k:Nat),k+f<=n->Ri lt p k->Ri lt (kEv lt (kas_bin f p k)) (k+f):=by
 induction f with
 | zero=>exact λh k _ r=>r
 | succ f ih=>
  intro p h k hn r;rw[kas_bin,Zgv];obtain⟨a,b,c⟩:=Zzo T h (k:=k) (by omega) k 0 k (QH _) (X3 _) (by omega) (λi z=>YX z (Vs _)) (λi x y=>YX y (by omega)) r;generalize kEv lt (kas_place p k k 0 k)=l at a b c;have ge:∀j,gD (bubble p k (k-l)) j=if j=l then gD p k else if l<j/\j<=k then gD p (j-1)else gD p j:=λj=>by
   have e:=getElem?_bubble (xs:=p) (src:=k) (by rw[h.size];omega) (k-l) (by omega) j;have e0:k-(k-l)=l:=by omega
   rw[e0]at e
   by_cases c1:j=l
   .rw[YL c1]at e|-
    exact Z0j e
   .rw[YM c1]at e|-
    by_cases c2:l<j/\j<=k
    .rw[YL c2]at e|-
     exact Z0j e
    .rw[YM c2]at e|-
     exact Z0j e
  have:=ih (h.bub k (k-l)) (k+1) (by omega) λi j hij hj=>?_
  .rw[show k+1+f=k+(f+1) by omega]at this
   exact this
  rw[ge,ge];rcases UW j l with q|q|q
  .rw[YM (by omega),YM (by omega),YM (by omega),YM (by omega)]
   exact r i j hij (by omega)
  .rw[YM (by omega),YM (by omega),YL q]
   exact b i (by omega)
  .rw[YM (show¬j=l by omega),YL (show l<j/\j<=k by omega)]
   rcases UW i l with q2|q2|q2
   .rw[YM (by omega),YM (by omega)]
    exact r i (j-1) (by omega) (by omega)
   .rw[YL q2]
    exact c (j-1) (by omega) (by omega)
   .rw[YM (by omega),YL (by omega)]
    exact r (i-1) (j-1) (by omega) (by omega)
theorem Z5f(h0:0<n):Ri lt (kEv lt (kas_sort n)) n:=by
 rw[kas_sort,Zgv];obtain⟨m,p,e,kp,r,l1,l2⟩:=Z1g T (p:=Bv (Xo n)) (List.Perm.refl _) h0;rw[e]
 by_cases c:m<n
 .rw[YL c]
  have em:max m 1=m:=by omega
  rw[em];have:=Ydo T (n-m) kp m (by omega) r;rw[show m+(n-m)=n by omega]at this;exact this
 .rw[YM c,kEv]
  have:m=n:=by omega
  rw[this]at r;exact r
theorem Z63(h0:0<n):(Zzi lt n).Pairwise λi j=>lt i j=YD:=by
 have h:kP n (kEv lt (kas_sort n)):=(Ziw h0).ev (P:=kP n);have r:=Z5f T h0;refine Ui.mpr λi j hi hj hij=>?_;have sz:=h.size;rw[<-Vx]at sz;have l2:(Zzi lt n).length=n:=sz;have ge:∀k (hk:k<(Zzi lt n).length),(Zzi lt n)[k]=gD (kEv lt (kas_sort n)) k:=λk hk=>by
  have:=Zqm (p:=kEv lt (kas_sort n)) (i:=k) (by rw[h.size];omega);rw[<-Be]at this;exact(Xw.mp this).2
 rw[ge,ge];exact r i j hij (by omega)
end
theorem Zuj{β:Type}{d:α}{lt:Nat->Nat->Bool}{vs:List α}{R:α->α->Prop}(T:Tot lt vs.length)(hR:∀i j,i<vs.length->j<vs.length->lt i j=YD->R (vs.getD i d) (vs.getD j d)):(sLay d lt vs).Pairwise R:=by
 unfold sLay;split
 .rename_i c
  match vs,c with
  | [],_=>exact .nil
  | [a],_=>exact JZ _ _
 .rename_i c
  have pm:=Zgk (lt:=lt) (n:=vs.length) (by omega);have up:=Z63 T (by omega);have h:=List.Pairwise.imp_of_mem (fun{i j} hi hj e=>hR i j (Xx.mp (pm.mem_iff.mp hi)) (Xx.mp (pm.mem_iff.mp hj)) e) up;exact QW.mpr h
end L2
namespace L2
open PySem PySem.Spec PyProof.Rows
def Z4y(m:MEt):MEt:=λδ K=>m δ λr δ1=>match r with| .nd ts=>K (.nd ((OT.datas ts).map OT.fz)) δ1|_=>False
section
variable {p:Bool}{b:YJ}
theorem Yfk{t:TE}(s:SE G io p YD t m):SE G io p YD t (Z4y m):=by
 refine λC H Y δ fp ex K Q R h kk=>s C H Y δ fp ex _ _ R h λH1 v r δ1 fp1 new r1 h1=>?_;split at h1
 case h_2=>exact h1.elim
 rename_i ts;obtain⟨rel,stp,own,nd,fresh⟩:=r1;generalize et:OT.nd ts=o at own;cases own with
 | nd e1 ow=>
  rename_i a xs ts' bs;cases et;have hn:=Qo.mp nd;refine kk H1 (.ref a) _ δ1 fp1 [a] ⟨rel.drop λb z=>z.imp id λz=>by rw[Xj.mp z];exact .head _,stp,.nd e1 (Das.owns (ow.das (λb l q hc=>?_) λb hb hc=>?_)),Qo.mpr ⟨(λz=>nomatch z),.nil⟩,λb hb=>by rw[Xj.mp hb];exact fresh a (.head _)⟩ h1
  .exact⟨(l hc).1,λz=>(l hc).2.1 (z.imp id λz=>by rw[Xj.mp z];exact .head _),(l hc).2.2⟩
  .have ok:=R.newOk (fresh b (.tail _ hb))
   refine⟨λz=>?_,λz=>z.elim ok.2.1 λz=>hn.1 (by rw[<-Xj.mp z];exact hb),.inr ok.2.2⟩;obtain⟨j,z⟩:=z;exact rel.dx j b z (.inr (.tail _ hb))
 | _=>cases et
theorem Zpy{pt:Bool}{g:MGt}{mt:MTt}{me:MEt}{sc:U6}{y:Str}(hN:X.N.Nodup)(hy:X.N[i]? =YB y)(hx:Loc X.env.scope y)(S:CompScope X own caps N' sc)(hc:X.calm=YD)(nd:caps.Nodup)(hi:MI X io p ci tg iter mi)
  (hg:∀C cells s₂ H₂ fp,MG (Wa X N' sc C cells s₂ H₂ fp) (Zaw own.length caps) ci tg g) (ht:∀C cells s₂ H₂ fp,MIfs (Wa X N' sc C cells s₂ H₂ fp) (Zaw own.length caps) pt ifs mt) (he:∀C cells s₂ H₂ fp,ME (Wa X N' sc C cells s₂ H₂ fp) (Zaw own.length caps) pe YD elt me)
  (hp:(pt&&pe)=YD:=by rfl) (hio:i∉io:=by decide)
  (hsw:V9 (.ListComp elt [⟨tg,iter,ifs,0⟩] sc pos) (YB (.Name y py)) spos.line X.env=pure YD:=by rfl)
  (hs:∀x,By iter X.env x=pure x:=by intro _;rfl) (hf:X.fn y=YD\/X.env.scope.names.lookup y=YB .local:=by first|exact .inl rfl|exact .inr rfl|assumption) :
  MS X io (.Assign [.Name y py] (.ListComp elt [⟨tg,iter,ifs,0⟩] sc pos) spos) (Zo5 i (Z4y (Zhm own.length caps mi g mt me))):=by
 obtain⟨_,A,si⟩:=hi;exact⟨_,Zla (g:=gM X.K (Zaw own.length caps) ci g) (tt:=ttM X.K (Zaw own.length caps) pt mt) (te:=tM X.K (Zaw own.length caps) pe YD me) hN hy hx S hc A (λC cells s₂ H₂ fp=>(hg C cells s₂ H₂ fp).canon) (λC cells s₂ H₂ fp=>(ht C cells s₂ H₂ fp).canon) (λC cells s₂ H₂ fp=>(he C cells s₂ H₂ fp).canon) hsw hs hf,Z71 (Yfk (Z2f si nd hp)) hio⟩
def Z25(i:Nat):MEt:=λδ K=>∃ts,δ[i]? =YB (YB (.nd ts))/\Zoh ts=YD/\K (.nd ((OT.datas ts).map OT.fz)) δ
theorem Z7s(i:Nat)(hg:Gl X "list")(hm:X.mg "list"=YC)(hvb:Qh "list"=YB (.type "list"))
  (hN:X.N[i]? =YB x:=by rfl) (hv:Vis X.env.scope x:=by first|exact QT rfl|exact QF (QT rfl)|exact QF (QF rfl)) (hd:(x==("__debug__" : Str))=YF:=by decide) (hcd:(x==("__classdict__" : Str))=YF:=by decide)
  (he:Xr [.Name x px] X.env=(YF,eval (.Name x px) X.env)::Xr [] X.env:=by rfl) (hpl:(JX pos (Xr [] X.env)).any (·.1)=YF:=by rfl):ME X io YD YD (.Call (.Name "list" pp) [.Name x px] [] pos) (Z25 i):=by
 refine⟨_,Zcl (Zkr rfl) hg hm hvb (Zbj (pv i hN hv hd hcd) Ze4 he) (by decide) (by decide) he hpl,λC H Y δ fp ex K Q R h kk=>?_⟩;obtain⟨ts,hi,hz,h⟩:=h;obtain⟨a',xs,bs,hv0,hx,ow,hfp⟩:=R.ownNd hi;refine⟨_,hv0,a',xs,rfl,.inl (.inl (.inl hx)),λl hl=>?_⟩;have s:=Z9 hl (.lst xs);refine kk _ (.ref l) _ δ fp [l] (RE.tree R R (Stp.refl YD H δ fp) s (λa m=>by rw[Xj.mp m];exact hl) (Qo.mpr ⟨(λz=>nomatch z),.nil⟩) (.nd Yj (Das.owns (((ow.fz_das hz).wide (L':=λa=>((YD=YD->Lf C fp ex a)\/H a=YC)/\a∉[l]) λa q n=>⟨.inl λ_=>q,λz=>n (by rw[Xj.mp z];exact hl)⟩).same s)))) h
def Yjb(i:Nat)(mb:MEt):MEt:=λδ K=>∃ts,δ[i]? =YB (YB (.nd ts))/\Zoh ts=YD/\mb δ λn δ1=>asI n.data λk=>match atI (OT.datas ts) k with|some d=>K (.fz d) δ|none=>False
theorem Ygk(i:Nat)(hb:ME X io YD c b mb)(hs:Ziv b)
  (hN:X.N[i]? =YB x:=by rfl) (hv:Vis X.env.scope x:=by first|exact QT rfl|exact QF (QT rfl)|exact QF (QF rfl)) (hd:(x==("__debug__" : Str))=YF:=by decide) (hcd:(x==("__classdict__" : Str))=YF:=by decide):ME X io YD YD (.Subscript (.Name x px) b pos) (Yjb i mb):=by
 obtain⟨_,B,sb⟩:=hb;refine⟨_,Z67 (Zm1 rfl) (pv i hN hv hd hcd) B hs,λC H Y δ fp ex K Q R h kk=>?_⟩;obtain⟨ts,hi,hz,h⟩:=h;obtain⟨a',xs,bs,hv0,hx,ow,hfp⟩:=R.ownNd hi;refine⟨_,hv0,sb.pureAfter R h λH2 w n R2 s2 q2 h2=>?_⟩;obtain⟨k,e2,h2⟩:=q2.intInv h2;subst e2;split at h2
 case h_2=>exact h2.elim
 rename_i d ed;have qs:=(ow.fz_das hz).same s2;obtain⟨v,e3,q⟩:=qs.atI ed;exact .inl ⟨a',xs,k,v,rfl,rfl,.inl (.inl (s2 _ _ hx)),e3,kk H2 v _ δ fp [] (.fz R2 (.same s2 s2.al) (q.wide λa l _ _=>l)) h2⟩
end
def Z1v(e:FE):FE:=λδ=>(e δ).bind λp=>match p.1 with| .nd ts=>YB (.nd ((OT.datas ts).map OT.fz),p.2)|_=>YC
def Zr1(i:Nat):FE:=λδ=>(Ycp δ[i]?).bind λts=>YB (.nd ((OT.datas ts).map OT.fz),δ)
def Yem(i:Nat)(b:FE):FE:=λδ=>(Ycp δ[i]?).bind λts=>(b δ).bind λq=>match q.1.data with
 | .int k=>(atI (OT.datas ts) k).bind λd=>YB (.fz d,δ)
 | _=>YC
section
variable {p:Bool}
theorem Zzk{n:Nat}{t:FT}(h:MS X io st (Zo5 i (Z4y (Zhm n caps (o2 it) (oG gg) (o2 t) (o2 me))))):MS X io st (oS (wE (Z1v (W3 n caps it gg t me)) (Zcb i))):=h.weak λD δ h=>by
 obtain⟨r,δ',h,k⟩:=Zud h;obtain⟨⟨x,δ1⟩,h1,h⟩:=bs h;refine Zq5 ⟨x,δ1,h1,?_⟩
 try dsimp only at h|-
 split at h
 case h_2=>cases h
 cases h;exact k
theorem Zz2(h:ME X io p c e (Z25 i)):ME X io p c e (o2 (Zr1 i)):=h.weak λδ K h=>by
 obtain⟨r,δ',h,k⟩:=h;obtain⟨ts,h1,h⟩:=bs h;obtain⟨e1,e2⟩:=Zwk h1;cases h;exact⟨ts,e1,e2,k⟩
theorem Ydb(h:ME X io p c e (Yjb i (o2 fb))):ME X io p c e (o2 (Yem i fb)):=h.weak λδ K h=>by
 obtain⟨r,δ',h,k⟩:=h;obtain⟨ts,h1,h⟩:=bs h;obtain⟨e1,e2⟩:=Zwk h1;obtain⟨⟨y,δ2⟩,h2,h⟩:=bs h;refine⟨ts,e1,e2,y,δ2,h2,?_⟩
 try dsimp only at h|-
 split at h
 case h_2=>cases h
 rename_i n q;obtain⟨d,h3,h⟩:=bs h;cases h;rw[q];show(match atI (OT.datas ts) n with|some d=>K (.fz d) δ|none=>False);rw[h3];exact k
end
def Zt3(h:YH)(vs:List Xe):YH:=(h.push (Q0 "list" #[] 0)).update h.objs.size (QX (·++vs.toArray))
theorem Zp5{Q:List Xe->Xh->Prop}(hl:IsTup s.heap l vs.toArray)(hz:vs.length<=Xz)(h:Q vs { s with heap:=Zt3 s.heap vs }):X8 (Qm prog w) A (collect (.ref l)) Q E s:=by
 obtain⟨o,o1,oc,n,od⟩:=id hl;have o2:(s.heap.push (Q0 "list" #[] 0)).get? l=YB o:=Xl _ o1;have o3:(s.heap.push (Q0 "list" #[] 0)).get? s.heap.objs.size=YB (Q0 "list" #[] 0):=Qe _ rfl;unfold collect;refine Xi (wpAny_runValue (codeAny_builtin entry_proto_collect' ?_));show X8 _ _ (do again (.builtin "list.__iadd__" ⟨[<-newList [],.ref l],[]⟩)) _ _ s;refine Xi (wpAny_newList (Qd ⟨Code.quiet_builtin _ (by decide +kernel),codeAny_builtin entry_list_iadd' ?_⟩));show X8 _ _ (Builtin.List.listExtendWith (.ref s.heap.objs.size) (.ref l) (.ref s.heap.objs.size)) _ _ { s with heap:=s.heap.push (Q0 "list" #[] 0) };unfold Builtin.List.listExtendWith;refine Xi (wpAny_typeOf (T :="tuple") ⟨o,o2,oc⟩ ?_);rw[YL (by rw[show(Value.type "tuple"==Value.type "tuple")=YD from rfl,Bool.or_true])];refine Xi (listItems_at o2 od (Xi (listItems_at (xs:=#[]) (n:=0) o3 rfl ?_)));rw[YM (by simp)];refine Xi (listUpdate_at (xs:=#[]) (n:=0) o3 rfl (Qd ?_) (QH _) (by show(#[]++vs.toArray).size<=Xz+1;simp only[Array.size_append,Xy,List.length_nil];omega));refine Xi (wpAny_load (get?_update_seq o3 _) ?_);show X8 _ _ (pure ((#[]:Array Xe)++vs.toArray).toList) Q E _;have ev:((#[]:Array Xe)++vs.toArray).toList=vs:=by simp
 rw[ev];exact Qd h
theorem Ztv(hl:IsTup s.heap l vs.toArray)(hI:BV vs ns)(h64:vs.length<64)
  (h:∀(out:Array Xe) (ns':List Int),BV out.toList ns'->ns'.Perm ns->ns'.Pairwise (·<=·)->Q (.ref (s.heap.objs.size+1)) { s with heap:=sortedAll s.heap vs out }):X8 (Qm prog w) A (call (.builtin "sorted") [.ref l]) Q E s:=by
 have zs:(Zt3 s.heap vs).objs.size=s.heap.objs.size+1:=by unfold Zt3;rw[Heap.size_update,size_push']
 have oL:((Zt3 s.heap vs).push (Q0 "list" vs.toArray 0)).get? (s.heap.objs.size+1)=YB (Q0 "list" vs.toArray 0):=by rw[<-zs];exact Qe _ rfl
 refine Calls.call_function_entry kind_sorted plain_sorted entry_sorted (args_sorted1 _) ?_;unfold Builtin.«sorted»;refine Xi (m:=checkCount "sorted" 1 1 _) (Qd (Xi (Zp5 hl (by rw[Qk];omega) (Xi (wpAny_newList ?_ (by rw[Qk];omega))))));show X8 _ _ _ _ _ { s with heap:=(Zt3 s.heap vs).push (Q0 "list" vs.toArray 0) };rw[show({ s with heap:=Zt3 s.heap vs }:Xh).heap.objs.size=s.heap.objs.size+1 from zs];exact Xi (V8 (VJ slot_list_sort ⟨_,oL,rfl⟩ entry_list_sort (list_sort_tree oL hI h64 λout ns' a1 a2 a3=>⟨_,rfl,Qd ⟨_,rfl,h out ns' a1 a2 a3⟩⟩) (args_list_sort _)))
def Z3c(K:Xc):List V->Hp->VK->Prop:=λxs H Q=>∃(a:YG) (ns:List Int),xs=[.ref a]/\SqT K H a (ns.map V.int)/\ns.length<64/\∀l,H l=YC->Q (.ref l) (upd H l (.lst ((Yh ns).map V.int)))
theorem Zs2(hK:X.K=K):Zbn X (.builtin "sorted") (Z3c K):=by
 subst hK;intro pins s Y H xs us Q I r h;obtain⟨l,ns,rfl,hs,h64,q⟩:=h;obtain⟨u,rfl,ru⟩:=vals1 r;cases(show u=QZ l from ru);obtain⟨its,rv,pl,hz⟩:=I.tuple hs;have hl:=rv.length;rw[Xd]at hl;refine Ztv pl (Zge rv) (by omega) λout ns' a1 a2 a3=>?_;obtain⟨e,he⟩:=sortedAll_at s.heap its out;cases(J9 (a2.trans (Z2 ns).symm) a3 (W8 ns):ns'=Yh ns);refine⟨.ref (s.heap.objs.size+1),_,I.laid (t':=s.toks) (o:=.lst ((Yh ns).map V.int)) (λb ob q=>sortedAll_old q) (by omega) ⟨?_,out.toList,e,Z48 a1,he⟩,rfl,q _ (I.hok.fresh (by omega))⟩;rw[Xd,(Z2 ns).length_eq,Qk];omega
def Z2z:List Xa->(OT->Prop)->Prop:=λds k=>n1 (λd=>∃ns:List Int,d= .tuple (ns.map Xk)/\ns.length<64/\k (.nd (((Yh ns).map Xk).map OT.fz))) ds
theorem Zz9:PN G (Z3c G) Z2z:=λH L xs ds k Q hx h kk=>by
 obtain⟨v,d,rfl,rfl,q,ns,e,h64,h⟩:=hx.one h;have fin:∀(p:YG),H p=YC->Q (.ref p) (upd H p (.lst ((Yh ns).map V.int))):=λp hp=>kk _ _ _ [p] (Z9 hp _) (Own.list hp (Das.ints _)) (Zdf p) (Zay hp) h;subst e;generalize ed:Xa.tuple (ns.map Xk)=d at q;cases q with
 | tup e r=>
  cases ed;exact⟨_,ns,rfl,.inl (.inl (by rw[r.int_inv]at e;exact e)),h64,fin⟩
 | _=>cases ed
def Zr7:List Xa->Option OT:=λds=>match ds with|[.tuple es]=>(Zdq es).bind λns=>if ns.length<64 then YB (.nd (((Yh ns).map Xk).map OT.fz))else YC|_=>YC
theorem Z57:∀ds r k,Zr7 ds=YB r->k r->Z2z ds k:=λds r k h hk=>by
 unfold Zr7 at h;split at h
 case h_2=>cases h
 obtain⟨ns,h1,h⟩:=bs h
 (try split at h)
 case isFalse=>cases h
 rename_i h2;cases h;exact⟨ns,by rw[Zb3 h1],h2,hk⟩
end L2
namespace L2
open PySem PySem.Spec PyProof.Rows PySem.W
structure TmS where
 p:Array Nat
 q:Array (Nat×Nat×Nat)
 g:Nat
def TM(α:Type):Type:=TmS->KasT (Option (α×TmS))
def TM.nxt(f:α->TM β):Option (α×TmS)->KasT (Option (β×TmS))
 | none=>.ret YC
 | some r=>f r.1 r.2
instance:Monad TM where
 pure a:=λt=>.ret (YB (a,t))
 bind m f:=λt=>(m t).bind (TM.nxt f)
def Zum:TM α:=λ_=>.ret YC
def Z9c(i j:Nat):TM (Option Bool):=λt=>.ask i j λb=>.ret (YB (YB b,t))
def Yin(l:List Nat):Nat->Option Nat:=List.rec (motive:=λ_=>Nat->Option Nat) (λ_=>YC) (λx _ ih i=>Nat.rec (motive:=λ_=>Option Nat) (YB x) (λj _=>ih j) i) l
theorem Zwd:∀(l:List Nat) (i:Nat),Yin l i=l[i]?
 | [],_=>rfl
 | _::_,0=>rfl
 | x::l,i+1=>(Zwd l i).trans (VD ..).symm
def Zh8(a:Array Nat)(i:Nat):TM Nat:=match Yin a.toList i with|some x=>pure x|none=>Zum
def fcN(n:Nat)(k:Nat->β):β:=Nat.rec (motive:=λ_=>β) (k 0) (λm _=>k (m+1)) n
theorem Zoy(n:Nat)(k:Nat->β):fcN n k=k n:=by cases n<;>rfl
def fcL(l:List Nat):(List Nat->β)->β:=List.rec (motive:=λ_=>(List Nat->β)->β) (λk=>k []) (λx _ ih k=>fcN x λy=>ih λm=>k (y::m)) l
theorem Z2m(l:List Nat)(k:List Nat->β):fcL l k=k l:=by
 induction l generalizing k with
 | nil=>rfl
 | cons x l ih=>
  show fcN x (λy=>fcL l λm=>k (y::m))=_;rw[Zoy];exact ih _
def fcQ(l:List (Nat×Nat×Nat)):(List (Nat×Nat×Nat)->β)->β:=List.rec (motive:=λ_=>(List (Nat×Nat×Nat)->β)->β) (λk=>k []) (λx _ ih k=>fcN x.1 λa=>fcN x.2.1 λb=>fcN x.2.2 λc=>ih λm=>k ((a,b,c)::m)) l
theorem Ycg(l:List (Nat×Nat×Nat))(k:List (Nat×Nat×Nat)->β):fcQ l k=k l:=by
 induction l generalizing k with
 | nil=>rfl
 | cons x l ih=>
  show fcN x.1 (λa=>fcN x.2.1 λb=>fcN x.2.2 λc=>fcQ l λm=>k ((a,b,c)::m))=_;rw[Zoy,Zoy,Zoy];exact ih _
def fcT(t:TmS)(k:TmS->β):β:=fcL t.p.toList λp=>fcQ t.q.toList λq=>fcN t.g λg=>k ⟨⟨p⟩,⟨q⟩,g⟩
theorem Z4c(t:TmS)(k:TmS->β):fcT t k=k t:=by
 unfold fcT;rw[Z2m,Ycg,Zoy]
def Zj8:TM TmS:=λt=>.ret (YB (t,t))
def Zju(f:TmS->TmS):TM PUnit:=λt=>fcT (f t) λt=>.ret (YB (⟨⟩,t))
def Z1n:List Nat->β->(Nat->β->TM (ForInStep β))->TM β
 | [],b,_=>pure b
 | x::l,b,f=>do
  match<-f x b with
  | .done b=>pure b
  | .yield b=>Z1n l b f
def stM(f:α->β):ForInStep α->ForInStep β
 | .done a=>.done (f a)
 | .yield a=>.yield (f a)
section
variable {it:Array Uv}
def toS(κ:Vh)(it:Array Uv)(t:TmS):Vd:=Vf κ (t.p.map (X7 it)) t.q t.g YC
def Sim(prog:Qi)(w:QJ)(A:QB)(E:Xe->Xh->Prop)(κ:Vh)(it:Array Uv)(φ:β->α)(m:StateT Vd Sem α)(t:TM β):Prop:=∀(u:TmS) (s:Xh) (Q:α->Vd->Xh->Prop),
 (t u).kasWp (kas_cmp prog w A κ it) (λo s'=>∃r,o=YB r/\Q (φ r.1) (toS κ it r.2) s') s->kasC (Qm prog w) A E m Q (toS κ it u) s
variable {α' β':Type}
theorem Zf{φ:β->α}{a:α}{b:β}(h:φ b=a):Sim prog w A E κ it φ (pure a) (pure b):=λu s Q h1=>by
 obtain⟨r,e,h2⟩:=h1;cases e;rw[h]at h2;exact kasC_pure h2
theorem Zk{φ:β->α}{ψ:β'->α'}{m:StateT Vd Sem α}{t:TM β}{f:α->StateT Vd Sem α'}{g:β->TM β'}(h:Sim prog w A E κ it φ m t)(k:∀b,Sim prog w A E κ it ψ (f (φ b)) (g b)):Sim prog w A E κ it ψ (m>>=f) (t>>=g):=λu s Q h1=>by
 have h2:((t u).bind (TM.nxt g)).kasWp (kas_cmp prog w A κ it) (λo s'=>∃r,o=YB r/\Q (ψ r.1) (toS κ it r.2) s') s:=h1;rw[KasT.kasWp_bind]at h2;refine kasC_bind (h u s _ (kas_wp_mono h2 λo s' h3=>?_));cases o with
 | none=>
  obtain⟨r,e,_⟩:=h3;cases e
 | some r=>exact⟨r,rfl,k r.1 r.2 s' Q h3⟩
theorem Zc5:Sim prog w A E κ it (toS κ it) (get:StateT Vd Sem Vd) Zj8:=λu s Q h1=>by
 obtain⟨r,e,h2⟩:=h1;cases e;exact kasC_get h2
theorem Zfo{f:Vd->Vd}{g:TmS->TmS}(h:∀t,f (toS κ it t)=toS κ it (g t)):Sim prog w A E κ it _root_.id (modify f:StateT Vd Sem PUnit) (Zju g):=λu s Q h1=>by
 unfold Zju at h1;rw[Z4c]at h1;obtain⟨r,e,h2⟩:=h1;cases e;refine kasC_modify ?_;rw[h];exact h2
theorem Zjd{φ:β->α}{m:StateT Vd Sem α}:Sim prog w A E κ it φ m Zum:=λu s Q h1=>by
 obtain⟨r,e,_⟩:=h1;cases e
theorem W7{a:Array Nat}:Sim prog w A E κ it (X7 it) (elem' (a.map (X7 it)) i) (Zh8 a i):=by
 rw[elem'_eq];unfold Zh8;rw[Array.getElem?_map,Zwd,Be];cases a[i]? with
 | none=>exact Zjd
 | some x=>exact Zf rfl
theorem Zpg:Sim prog w A E κ it _root_.id (lt' (X7 it i) (X7 it j)) (Z9c i j):=λu s Q h1=>by
 have h2:kas_cmp prog w A κ it i j (λb s'=>∃r,YB (YB b,u)=YB r/\Q (_root_.id r.1) (toS κ it r.2) s') s:=h1;rw[lt'_eq];refine kasC_bind (kasC_get ?_);refine kasC_bind (kasC_lift (wpAny_attempt (Vc h2 (λc s' hc=>?_) λ_ _ hF=>hF.elim)));obtain⟨r,e,h3⟩:=hc;cases e;exact kasC_pure h3
theorem Z2i{φ:β->α}{f:Nat->α->StateT Vd Sem (ForInStep α)}{g:Nat->β->TM (ForInStep β)}(h:∀x b,Sim prog w A E κ it (stM φ) (f x (φ b)) (g x b))(l:List Nat)(b:β):Sim prog w A E κ it φ (forIn l (φ b) f) (Z1n l b g):=by
 induction l generalizing b with
 | nil=>rw[UL];exact Zf rfl
 | cons x l ih=>
  rw[List.forIn_cons];refine Zk (h x b) λr=>?_;cases r with
  | done b=>exact Zf rfl
  | yield b=>exact ih b
theorem Zu1{φ:β->α}{f:Nat->α->StateT Vd Sem (ForInStep α)}{g:Nat->β->TM (ForInStep β)}{x y:Nat}{a:α}{b:β}(e:φ b=a)(h:∀x b,Sim prog w A E κ it (stM φ) (f x (φ b)) (g x b)):Sim prog w A E κ it φ (forIn [x:y] a f) (Z1n (List.range' x (y-x)) b g):=λu s Q h1=>by
 refine kasC_range ?_;rw[<-e];exact Z2i h _ b u s Q h1
theorem Zw{φ:β->α}{c:Prop}[Decidable c]{m n:StateT Vd Sem α}{t v:TM β}(h1:Sim prog w A E κ it φ m t)(h2:Sim prog w A E κ it φ n v):Sim prog w A E κ it φ (if c then m else n) (if c then t else v):=by
 split
 .exact h1
 .exact h2
end
end L2
namespace L2
open PySem PySem.Spec PyProof.Rows PySem.W
structure Rg where
 a:Nat
 b:Nat
instance:ForIn TM Rg Nat where
 forIn r b f:=Z1n (List.range' r.a (r.b-r.a)) b f
def Yjn:Bool->Uv->Array Uv->Nat->Nat->Nat->StateT Vd Sem (Option Nat):=sortPriv%PySem.Builtin.gallop
def Zy4(le:Bool)(key:Nat)(arr:Array Nat)(base i:Nat):TM (Option Bool):=do
 let x<-Zh8 arr (base+i)
 if le then Z9c x key else return(<-Z9c key x).map (!·)
def Zlr(le:Bool)(key:Nat)(arr:Array Nat)(base n hint:Nat):TM (Option Nat):=do
 let mut last:=0
 let mut ofs:=1
 let mut lo:=0
 let mut hi:=0
 let YB right<-Zy4 le key arr base hint|return YC
 if right then
  let most:=n-hint
  for _ in Rg.mk 0 n do
   if ofs>=most then break
   let YB more<-Zy4 le key arr base (hint+ofs)|return YC
   if !more then break
   last:=ofs
   ofs:=2*ofs+1
  lo:=hint+last+1
  hi:=hint+min ofs most
 else
  let most:=hint+1
  for _ in Rg.mk 0 n do
   if ofs>=most then break
   let YB more<-Zy4 le key arr base (hint-ofs)|return YC
   if more then break
   last:=ofs
   ofs:=2*ofs+1
  lo:=hint+1-min ofs most
  hi:=hint-last
 for _ in Rg.mk 0 n do
  if lo>=hi then break
  let m:=lo+(hi-lo)/2
  let YB more<-Zy4 le key arr base m|return YC
  if more then lo:=m+1 else hi:=m
 return YB hi
section
variable {it:Array Uv}
theorem Zdj{φ:β->α}{f:Nat->α->StateT Vd Sem (ForInStep α)}{g:Nat->β->TM (ForInStep β)}{x y:Nat}{a:α}{b:β}(e:φ b=a)(h:∀x b,Sim prog w A E κ it (stM φ) (f x (φ b)) (g x b)):Sim prog w A E κ it φ (forIn [x:y] a f) (forIn (Rg.mk x y) b g):=Zu1 e h
theorem Zjm{le:Bool}{key:Nat}{arr:Array Nat}{base n hint:Nat}:Sim prog w A E κ it _root_.id (Yjn le (X7 it key) (arr.map (X7 it)) base n hint) (Zlr le key arr base n hint):=by
 have bey:∀i,Sim prog w A E κ it _root_.id (do
   let x<-elem' (arr.map (X7 it)) (base+i)
   if le then lt' x (X7 it key)else return(<-lt' (X7 it key) x).map (!·)) (Zy4 le key arr base i):=λi=>Zk W7 λx=>Zw Zpg (Zk Zpg λo=>Zf rfl)
 unfold Zlr;refine Zk (bey hint) λo=>?_;cases o with
 | none=>exact Zf rfl
 | some right=>
  refine Zw ?_ ?_
  .refine Zk (Zdj (φ:=_root_.id) rfl λx b=>?_) λr=>?_
   .exact Zw (Zf rfl) (Zk (bey _) λo=>by
     cases o with
     | none=>exact Zf rfl
     | some m=>exact Zw (Zf rfl) (Zf rfl))
   .obtain⟨r1,last,ofs⟩:=r
    cases r1 with
    | some v=>exact Zf rfl
    | none=>
     refine Zk (Zdj (φ:=_root_.id) rfl λx b=>?_) λr=>?_
     .exact Zw (Zf rfl) (Zk (bey _) λo=>by
       cases o with
       | none=>exact Zf rfl
       | some m=>exact Zw (Zf rfl) (Zf rfl))
     .obtain⟨r1,lo,hi⟩:=r
      cases r1 with
      | some v=>exact Zf rfl
      | none=>exact Zf rfl
  .refine Zk (Zdj (φ:=_root_.id) rfl λx b=>?_) λr=>?_
   .exact Zw (Zf rfl) (Zk (bey _) λo=>by
     cases o with
     | none=>exact Zf rfl
     | some m=>exact Zw (Zf rfl) (Zf rfl))
   .obtain⟨r1,last,ofs⟩:=r
    cases r1 with
    | some v=>exact Zf rfl
    | none=>
     refine Zk (Zdj (φ:=_root_.id) rfl λx b=>?_) λr=>?_
     .exact Zw (Zf rfl) (Zk (bey _) λo=>by
       cases o with
       | none=>exact Zf rfl
       | some m=>exact Zw (Zf rfl) (Zf rfl))
     .obtain⟨r1,lo,hi⟩:=r
      cases r1 with
      | some v=>exact Zf rfl
      | none=>exact Zf rfl
end
end L2
namespace L2
open PySem PySem.Spec PyProof.Rows PySem.W
def Yjf:Array Uv->Array Uv->StateT Vd Sem (Array Uv):=sortPriv%PySem.Builtin.mergeLo
def Ygx:Nat->StateT Vd Sem PUnit:=sortPriv%PySem.Builtin.setMinGallop
def Zol(g:Nat):TM PUnit:=Zju λt=>{ t with g:=g }
def Yd8(a b:Array Nat):TM (Array Nat):=do
 let total:=a.size+b.size;let fin (out:Array Nat) (i j:Nat):=out++a.extract i a.size++b.extract j b.size;let lst (out:Array Nat) (i j:Nat):=out++b.extract j b.size++a.extract i a.size
 let mut out:Array Nat:=#[<-Zh8 b 0]
 let mut i:=0
 let mut j:=1
 if j==b.size then return fin out i j
 if i+1==a.size then return lst out i j
 let mut mg:=(<-Zj8).g
 for _ in Rg.mk 0 total do
  let mut na:=0
  let mut nb:=0
  for _ in Rg.mk 0 total do
   let YB c<-Z9c (<-Zh8 b j) (<-Zh8 a i)|return fin out i j
   if c then
    out:=out.push (<-Zh8 b j);j:=j+1;nb:=nb+1;na:=0
    if j==b.size then return fin out i j
    if nb>=mg then break
   else
    out:=out.push (<-Zh8 a i);i:=i+1;na:=na+1;nb:=0
    if i+1==a.size then return lst out i j
    if na>=mg then break
  mg:=mg+1
  for _ in Rg.mk 0 total do
   if mg>1 then mg:=mg-1
   Zol mg
   let YB k<-Zlr YF (<-Zh8 b j) a i (a.size-i) 0|return fin out i j
   na:=k
   if k>0 then
    out:=out++a.extract i (i+k);i:=i+k
    if i+1==a.size then return lst out i j
    if i==a.size then return fin out i j
   out:=out.push (<-Zh8 b j);j:=j+1
   if j==b.size then return fin out i j
   let YB k<-Zlr YD (<-Zh8 a i) b j (b.size-j) 0|return fin out i j
   nb:=k
   if k>0 then
    out:=out++b.extract j (j+k);j:=j+k
    if j==b.size then return fin out i j
   out:=out.push (<-Zh8 a i);i:=i+1
   if i+1==a.size then return lst out i j
   if na<7&&nb<7 then break
  mg:=mg+1
  Zol mg
 Zum
section
variable {it:Array Uv}{γ:Type}
theorem Zet{φ:β->α}{x:String}{f:PUnit->StateT Vd Sem α}{t:TM β}(h:Sim prog w A E κ it φ (f ⟨⟩) t):Sim prog w A E κ it φ ((liftM (rule x):StateT Vd Sem PUnit)>>=f) t:=λu s Q h1=>kasC_bind (kasC_lift (wpAny_rule (h u s Q h1)))
theorem Ju{φ:β->α}{c d:Prop}[Decidable c][Decidable d]{m n:StateT Vd Sem α}{t v:TM β}(e:c↔d)(h1:Sim prog w A E κ it φ m t)(h2:Sim prog w A E κ it φ n v):Sim prog w A E κ it φ (if c then m else n) (if d then t else v):=by
 by_cases q:d
 .rw[YL q,YL (e.mpr q)];exact h1
 .rw[YM q,YM λz=>q (e.mp z)];exact h2
theorem Zhn{φ:β->α}{f:Nat->α->StateT Vd Sem (ForInStep α)}{g:Nat->β->TM (ForInStep β)}{x y y':Nat}{a:α}{b:β}(ey:y'=y)(e:φ b=a)(h:∀x b,Sim prog w A E κ it (stM φ) (f x (φ b)) (g x b)):Sim prog w A E κ it φ (forIn [x:y'] a f) (forIn (Rg.mk x y) b g):=ey▸Zu1 e h
theorem Zr4{le:Bool}{key:Nat}{arr:Array Nat}{base n n' hint:Nat}(e:n'=n):Sim prog w A E κ it _root_.id (Yjn le (X7 it key) (arr.map (X7 it)) base n' hint) (Zlr le key arr base n hint):=e▸Zjm
def mpS(f:Nat->Uv)(b:Option (Array Nat)×Array Nat×γ):Option (Array Uv)×Array Uv×γ:=(b.1.map (Array.map f),b.2.1.map f,b.2.2)
theorem Zir{g:Nat}:Sim prog w A E κ it _root_.id (Ygx g) (Zol g):=Zfo λt=>rfl
theorem Yw{φ:β->α}{m:StateT Vd Sem (Option γ)}{t:TM (Option γ)}{f:Option γ->StateT Vd Sem α}{g:Option γ->TM β}(h:Sim prog w A E κ it _root_.id m t)(k0:Sim prog w A E κ it φ (f YC) (g YC))(k:∀c,Sim prog w A E κ it φ (f (YB c)) (g (YB c))):Sim prog w A E κ it φ (m>>=f) (t>>=g):=Zk h λo=>by
 cases o with
 | none=>exact k0
 | some c=>exact k c
theorem Ycm{a b:Array Nat}:Sim prog w A E κ it (Array.map (X7 it)) (Yjf (a.map (X7 it)) (b.map (X7 it))) (Yd8 a b):=by
 have sz:∀(a:Array Nat) (k:Nat),(k==(a.map (X7 it)).size)=YD↔(k==a.size)=YD:=λa k=>by rw[Qj]
 have tot:(a.map (X7 it)).size+(b.map (X7 it)).size=a.size+b.size:=by rw[Qj,Qj]
 have m1:∀x,Array.map (X7 it) #[x]=#[X7 it x]:=λx=>by simp
 unfold Yd8;refine Zet (Zk W7 λx0=>?_);refine Ju (sz _ _) (Zf (by simp only[Qc,X4,Qj,m1])) (Ju (sz _ _) (Zf (by simp only[Qc,X4,Qj,m1])) (Zk Zc5 λt0=>?_));refine Zk (Zhn (φ:=mpS (X7 it)) tot (by simp only[mpS,m1];rfl) λx b=>?_) λr=>?_
 .refine Zk (Zhn (φ:=mpS (X7 it)) tot rfl λx b=>?_) λr=>?_
  .refine Zk W7 λx=>Zk W7 λy=>Yw Zpg ?_ λc=>?_
   .exact Zf (by simp only[stM,mpS,Qc,X4,Qj,Qa])
   .refine Zw (Zk W7 λz=>Ju (sz _ _) (Zf ?_) (Zw (Zf ?_) (Zf ?_))) (Zk W7 λz=>Ju (sz _ _) (Zf ?_) (Zw (Zf ?_) (Zf ?_)))<;>simp only[stM,mpS,QL,Qc,X4,Qj,Qa,QC]
  .obtain⟨r1,r2⟩:=r
   cases r1 with
   | some v=>exact Zf rfl
   | none=>
    refine Zet (Zk (Zhn (φ:=mpS (X7 it)) tot rfl λx b=>?_) λr=>?_)
    .refine Zw ?_ ?_<;>(
      refine Zk Zir λ_=>Zk W7 λy=>Yw (Zr4 (by rw[Qj];rfl)) (Zf (by simp only[stM,mpS,QL,Qc,X4,Qj,Qa,QC])) λk=>?_;refine Zw (Ju (sz _ _) (Zf (by simp only[stM,mpS,QL,Qc,X4,Qj,Qa,QC])) (Ju (sz _ _) (Zf (by simp only[stM,mpS,QL,Qc,X4,Qj,Qa,QC])) ?_)) ?_<;>(
       refine Zk W7 λz=>Ju (sz _ _) (Zf (by simp only[stM,mpS,QL,Qc,X4,Qj,Qa,QC])) (Zk W7 λy2=>Yw (Zr4 (by rw[Qj];rfl)) (Zf (by simp only[stM,mpS,QL,Qc,X4,Qj,Qa,QC])) λk2=>?_);refine Zw (Ju (sz _ _) (Zf (by simp only[stM,mpS,QL,Qc,X4,Qj,Qa,QC])) ?_) ?_<;>(
        refine Zk W7 λz2=>Ju (sz _ _) (Zf (by simp only[stM,mpS,QL,Qc,X4,Qj,Qa,QC])) (Zw (Zf (by simp only[stM,mpS,QL,Qc,X4,Qj,Qa,QC])) (Zf (by simp only[stM,mpS,QL,Qc,X4,Qj,Qa,QC]))))))
    .obtain⟨r1,r2⟩:=r
     cases r1 with
     | some v=>exact Zf rfl
     | none=>exact Zk Zir λ_=>Zf rfl
 .obtain⟨r1,r2⟩:=r
  cases r1 with
  | some v=>exact Zf rfl
  | none=>exact Zjd
end
end L2
namespace L2
open PySem PySem.Spec PyProof.Rows PySem.W
def Yid:Array Uv->Array Uv->StateT Vd Sem (Array Uv):=sortPriv%PySem.Builtin.mergeHi
def Yd3(a b:Array Nat):TM (Array Nat):=do
 let total:=a.size+b.size;let fin (out:Array Nat) (i j:Nat):=a.extract 0 i++b.extract 0 j++out.reverse;let fst (out:Array Nat) (i j:Nat):=b.extract 0 j++a.extract 0 i++out.reverse
 let mut i:=a.size-1
 let mut j:=b.size
 let mut out:Array Nat:=#[<-Zh8 a i]
 if i==0 then return fin out i j
 if j==1 then return fst out i j
 let mut mg:=(<-Zj8).g
 for _ in Rg.mk 0 total do
  let mut na:=0
  let mut nb:=0
  for _ in Rg.mk 0 total do
   let YB c<-Z9c (<-Zh8 b (j-1)) (<-Zh8 a (i-1))|return fin out i j
   if c then
    i:=i-1;out:=out.push (<-Zh8 a i);na:=na+1;nb:=0
    if i==0 then return fin out i j
    if na>=mg then break
   else
    j:=j-1;out:=out.push (<-Zh8 b j);nb:=nb+1;na:=0
    if j==1 then return fst out i j
    if nb>=mg then break
  mg:=mg+1
  for _ in Rg.mk 0 total do
   if mg>1 then mg:=mg-1
   Zol mg
   let YB x<-Zlr YF (<-Zh8 b (j-1)) a 0 i (i-1)|return fin out i j
   let k:=i-x
   na:=k
   if k>0 then
    out:=out++(a.extract x i).reverse;i:=x
    if i==0 then return fin out i j
   j:=j-1;out:=out.push (<-Zh8 b j)
   if j==1 then return fst out i j
   let YB x<-Zlr YD (<-Zh8 a (i-1)) b 0 j (j-1)|return fin out i j
   let k:=j-x
   nb:=k
   if k>0 then
    out:=out++(b.extract x j).reverse;j:=x
    if j==1 then return fst out i j
    if j==0 then return fin out i j
   i:=i-1;out:=out.push (<-Zh8 a i)
   if i==0 then return fin out i j
   if na<7&&nb<7 then break
  mg:=mg+1
  Zol mg
 Zum
section
variable {it:Array Uv}{γ:Type}
def mpH(f:Nat->Uv)(b:Option (Array Nat)×Nat×Nat×Array Nat×γ):Option (Array Uv)×Nat×Nat×Array Uv×γ:=(b.1.map (Array.map f),b.2.1,b.2.2.1,b.2.2.2.1.map f,b.2.2.2.2)
theorem Z66{a:Array Nat}(e:j=i):Sim prog w A E κ it (X7 it) (elem' (a.map (X7 it)) j) (Zh8 a i):=e▸W7
theorem Yck{a b:Array Nat}:Sim prog w A E κ it (Array.map (X7 it)) (Yid (a.map (X7 it)) (b.map (X7 it))) (Yd3 a b):=by
 have tot:(a.map (X7 it)).size+(b.map (X7 it)).size=a.size+b.size:=by rw[Qj,Qj]
 have m1:∀x,Array.map (X7 it) #[x]=#[X7 it x]:=λx=>by simp
 unfold Yd3;refine Zet (Zk (Z66 (by rw[Qj])) λx0=>?_);refine Ju (by rw[Qj]) (Zf (by simp only[Qc,X4,JD,Qj,m1])) (Ju (by rw[Qj]) (Zf (by simp only[Qc,X4,JD,Qj,m1])) (Zk Zc5 λt0=>?_));refine Zk (Zhn (φ:=mpH (X7 it)) tot (by simp only[mpH,m1,Qj];rfl) λx b=>?_) λr=>?_
 .refine Zk (Zhn (φ:=mpH (X7 it)) tot rfl λx b=>?_) λr=>?_
  .refine Zk W7 λx=>Zk W7 λy=>Yw Zpg ?_ λc=>?_
   .exact Zf (by simp only[stM,mpH,Qc,X4,JD,Qa])
   .refine Zw (Zk W7 λz=>Zw (Zf ?_) (Zw (Zf ?_) (Zf ?_))) (Zk W7 λz=>Zw (Zf ?_) (Zw (Zf ?_) (Zf ?_)))<;>simp only[stM,mpH,QL,Qc,X4,JD,Qa,QC]
  .obtain⟨r1,r2⟩:=r
   cases r1 with
   | some v=>exact Zf rfl
   | none=>
    refine Zet (Zk (Zhn (φ:=mpH (X7 it)) tot rfl λx b=>?_) λr=>?_)
    .refine Zw ?_ ?_<;>(
      refine Zk Zir λ_=>Zk W7 λy=>Yw Zjm (Zf (by simp only[stM,mpH,QL,Qc,X4,JD,Qa,QC])) λk=>?_;refine Zw (Zw (Zf (by simp only[stM,mpH,QL,Qc,X4,JD,Qa,QC])) ?_) ?_<;>(
       refine Zk W7 λz=>Zw (Zf (by simp only[stM,mpH,QL,Qc,X4,JD,Qa,QC])) (Zk W7 λy2=>Yw Zjm (Zf (by simp only[stM,mpH,QL,Qc,X4,JD,Qa,QC])) λk2=>?_);refine Zw (Zw (Zf (by simp only[stM,mpH,QL,Qc,X4,JD,Qa,QC])) (Zw (Zf (by simp only[stM,mpH,QL,Qc,X4,JD,Qa,QC])) ?_)) ?_<;>(
        refine Zk W7 λz2=>Zw (Zf (by simp only[stM,mpH,QL,Qc,X4,JD,Qa,QC])) (Zw (Zf (by simp only[stM,mpH,QL,Qc,X4,JD,Qa,QC])) (Zf (by simp only[stM,mpH,QL,Qc,X4,JD,Qa,QC]))))))
    .obtain⟨r1,r2⟩:=r
     cases r1 with
     | some v=>exact Zf rfl
     | none=>exact Zk Zir λ_=>Zf rfl
 .obtain⟨r1,r2⟩:=r
  cases r1 with
  | some v=>exact Zf rfl
  | none=>exact Zjd
end
end L2
namespace L2
open PySem PySem.Spec PyProof.Rows PySem.W
def Zpx(i j:Nat):TM (Option Bool):=do
 let t<-Zj8
 let x<-Zh8 t.p i
 let y<-Zh8 t.p j
 Z9c x y
def Zy1(i j:Nat):TM PUnit:=Zju λt=>{ t with p:=kas_rev t.p i j }
def mvL(l:List Nat)(i d:Nat):List Nat:=l.take (i-d)++((l.drop i).take 1++((l.drop (i-d)).take d++l.drop (i+1)))
theorem Z59{l:List Nat}{d:Nat}(hi:i<l.length)(hd:d<=i)(k:Nat):(mvL l i d)[k]? =if k=i-d then l[i]? else if i-d<k/\k<=i then l[k-1]? else l[k]?:=by
 unfold mvL;have l1:(l.take (i-d)).length=i-d:=by rw[Bb];omega
 have l2:((l.drop i).take 1).length=1:=by rw[Bb,QR];omega
 have l3:((l.drop (i-d)).take d).length=d:=by rw[Bb,QR];omega
 rw[Uc,Uc,Uc,l1,l2,l3]
 by_cases a:k<i-d
 .rw[YL a,YM (by omega),YM (by omega),Uu,YL a]
 rw[YM a]
 by_cases b:k=i-d
 .rw[YL (by omega),YL b,Uu,YL (by omega),Vl,show i+(k-(i-d))=i by omega]
 rw[YM (by omega),YM b]
 by_cases c:k<=i
 .rw[YL (by omega),YL (by omega),Uu,YL (by omega),Vl,show i-d+(k-(i-d)-1)=k-1 by omega]
 .rw[YM (by omega),YM (by omega),Vl,show i+1+(k-(i-d)-1-d)=k by omega]
def Yer(p:Array Nat)(i j:Nat):Array Nat:=if(Nat.blt i p.toList.length&&Nat.ble j i)=YD then⟨mvL p.toList i (i-j)⟩else bubble p i (i-j)
theorem Z6z(p:Array Nat)(i j:Nat):Yer p i j=bubble p i (i-j):=by
 unfold Yer
 by_cases c:(Nat.blt i p.toList.length&&Nat.ble j i)=YD
 .rw[YL c]
  rw[XC]at c;have h1:i<p.size:=Bf c.1;have h2:j<=i:=Bf c.2;apply Array.ext_getElem?;intro k;rw[getElem?_bubble h1 (i-j) (by omega)];have:=Z59 (l:=p.toList) h1 (show i-j<=i by omega) k;simp only[Be]at this;rw[<-this,<-Be]
 .rw[YM c]
def Yca(i j:Nat):TM PUnit:=Zju λt=>{ t with p:=Yer t.p i j }
def Z5e(lo m:Nat):TM (Option Nat):=do
 let mut n:=1
 for _ in Rg.mk 1 m do
  let YB c<-Zpx (lo+n) (lo+n-1)|return YC
  if c then break
  n:=n+1
 if n==m then return YB n
 if n>1 then
  let YB c<-Zpx lo (lo+n-1)|return YC
  if c then return YB n
  Zy1 lo (lo+n)
 n:=n+1
 let mut e:=0
 for _ in Rg.mk n m do
  let YB c<-Zpx (lo+n) (lo+n-1)|return YC
  if c then
   if e>0 then Zy1 (lo+n-(e+1)) (lo+n)
   e:=0
  else
   let YB d<-Zpx (lo+n-1) (lo+n)|return YC
   if d then break
   e:=e+1
  n:=n+1
 if e>0 then Zy1 (lo+n-(e+1)) (lo+n)
 Zy1 lo (lo+n)
 for _ in Rg.mk n m do
  let YB c<-Zpx (lo+n) (lo+n-1)|return YC
  if c then break
  n:=n+1
 return YB n
def Z7h(lo n ok:Nat):TM Bool:=do
 for k in Rg.mk (max ok 1) n do
  let mut l:=0
  let mut r:=k
  for _ in Rg.mk 0 k do
   if l>=r then break
   let m:=(l+r)/2
   let YB c<-Zpx (lo+k) (lo+m)|return YF
   if c then r:=m else l:=m+1
  Yca (lo+k) (lo+l)
 return YD
section
variable {it:Array Uv}{γ:Type}
theorem Zha:Sim prog w A E κ it _root_.id (ltAt' i j) (Zpx i j):=Zk Zc5 λt=>Zk W7 λx=>Zk W7 λy=>Zpg
theorem Zmi:Sim prog w A E κ it _root_.id (reverseSlice' i j) (Zy1 i j):=by
 rw[reverseSlice'_eq];exact Zfo λt=>by
  show Vf κ (mirror (t.p.map (X7 it)) i j ((j-i)/2)) t.q t.g YC=Vf κ ((mirror t.p i j ((j-i)/2)).map (X7 it)) t.q t.g YC;rw[show mirror (t.p.map (X7 it)) i j ((j-i)/2)=(mirror t.p i j ((j-i)/2)).map (X7 it)from kas_swaps_map (X7 it) (λk=>i+k) (λk=>j-1-k) _ t.p]
theorem Z6q:Sim prog w A E κ it _root_.id (moveDown' i j) (Yca i j):=by
 rw[moveDown'_eq];exact Zfo λt=>by
  show Vf κ (bubble (t.p.map (X7 it)) i (i-j)) t.q t.g YC=Vf κ ((Yer t.p i j).map (X7 it)) t.q t.g YC;rw[Z6z];rw[show bubble (t.p.map (X7 it)) i (i-j)=(bubble t.p i (i-j)).map (X7 it)from kas_swaps_map (X7 it) (λk=>i-k) (λk=>i-k-1) _ t.p]
theorem Z5j{lo m:Nat}:Sim prog w A E κ it _root_.id (countRun' lo m) (Z5e lo m):=by
 unfold Z5e;refine Zk (Zdj (φ:=_root_.id) rfl λx b=>Yw Zha (Zf rfl) λc=>Zw (Zf rfl) (Zf rfl)) λr=>?_;obtain⟨r1,n⟩:=r;cases r1 with
 | some v=>exact Zf rfl
 | none=>
  refine Zw (Zf rfl) (Zw (Yw Zha (Zf rfl) λc=>Zw (Zf rfl) (Zk Zmi λ_=>?_)) ?_)<;>(
   refine Zet (Zk (Zdj (φ:=_root_.id) rfl λx b=>Yw Zha (Zf rfl) λc=>Zw (Zw (Zk Zmi λ_=>Zf rfl) (Zf rfl)) (Yw Zha (Zf rfl) λd=>Zw (Zf rfl) (Zf rfl))) λr=>?_);obtain⟨r1,n,e⟩:=r;cases r1 with
   | some v=>exact Zf rfl
   | none=>
    refine Zw (Zk Zmi λ_=>?_) ?_<;>(
     refine Zk Zmi λ_=>Zk (Zdj (φ:=_root_.id) rfl λx b=>Yw Zha (Zf rfl) λc=>Zw (Zf rfl) (Zf rfl)) λr=>?_;obtain⟨r1,n⟩:=r;cases r1 with
     | some v=>exact Zf rfl
     | none=>exact Zf rfl))
theorem Z62{lo n ok:Nat}:Sim prog w A E κ it _root_.id (binarySort' lo n ok) (Z7h lo n ok):=by
 unfold Z7h;refine Zk (Zdj (φ:=_root_.id) rfl λk b=>?_) λr=>?_
 .refine Zk (Zdj (φ:=_root_.id) rfl λx b=>Zw (Zf rfl) (Yw Zha (Zf rfl) λc=>Zw (Zf rfl) (Zf rfl))) λr=>?_
  obtain⟨r1,l,m⟩:=r;cases r1 with
  | some v=>exact Zf rfl
  | none=>exact Zk Z6q λ_=>Zf rfl
 .obtain⟨r1,r2⟩:=r
  cases r1 with
  | some v=>exact Zf rfl
  | none=>exact Zf rfl
end
end L2
namespace L2
open PySem PySem.Spec PyProof.Rows PySem.W
def layA{γ:Type}(k:Nat)(m a:Array γ):Array γ:=m.toList.zipIdx.foldl (λa q=>a.setIfInBounds (k+q.2) q.1) a
def Yev(i:Nat):TM Bool:=do
 let t<-Zj8
 let(YB (c,n,u),YB (d,m,_)):=(t.q[i]?,t.q[i+1]?)|Zum
 Zju λ_=>{ t with q:=(t.q.setIfInBounds i (c,n+m,u)).eraseIdxIfInBounds (i+1) }
 let YB k<-Zlr YF (<-Zh8 t.p d) t.p c n 0|return YF
 let(c,n):=(c+k,n-k)
 if n==0 then return YD
 let YB m<-Zlr YD (<-Zh8 t.p (c+n-1)) t.p d m (m-1)|return YF
 if m==0 then return YD
 let x:=t.p.extract c d;let y:=t.p.extract d (d+m)
 let z<-if n<=m then Yd8 x y else Yd3 x y
 Zju λt=>{ t with p:=layA c z t.p }
 let _<-Zj8
 return YD
section
variable {it:Array Uv}{γ:Type}
theorem Z6m{a:Vd}{t:TmS}(h:toS κ it t=a):Sim prog w A E κ it _root_.id (set a:StateT Vd Sem PUnit) (Zju λ_=>t):=λu s Q h1=>by
 unfold Zju at h1;rw[Z4c]at h1;obtain⟨r,e,h2⟩:=h1;cases e;unfold kasC;rw[StateT.run_set,<-h];exact Qd h2
theorem Z7z(f:α->β)(xs:Array α)(i:Nat)(v:α):(xs.map f).setIfInBounds i (f v)=(xs.setIfInBounds i v).map f:=by
 apply Array.ext_getElem?;intro k;rw[Array.getElem?_map,Array.getElem?_setIfInBounds,Array.getElem?_setIfInBounds,Qj];split
 .split<;>rfl
 .rw[Array.getElem?_map]
theorem Zzm(f:α->β)(k:Nat)(m a:Array α):layA k (m.map f) (a.map f)=(layA k m a).map f:=by
 unfold layA;rw[Array.toList_map,List.zipIdx_map,List.foldl_map];generalize m.toList.zipIdx=l
 induction l generalizing a with
 | nil=>rfl
 | cons q l ih=>
  rw[List.foldl_cons,List.foldl_cons];show List.foldl _ ((a.map f).setIfInBounds (k+q.2) (f q.1)) l=_;rw[Z7z];exact ih _
theorem Z8n{a b:Array Nat}{c d:Array Uv}(e:c=a.map (X7 it))(e':d=b.map (X7 it)):Sim prog w A E κ it (Array.map (X7 it)) (Yjf c d) (Yd8 a b):=e▸e'▸Ycm
theorem Z81{a b:Array Nat}{c d:Array Uv}(e:c=a.map (X7 it))(e':d=b.map (X7 it)):Sim prog w A E κ it (Array.map (X7 it)) (Yid c d) (Yd3 a b):=e▸e'▸Yck
theorem Z3a:Sim prog w A E κ it _root_.id (mergeAt' i) (Yev i):=by
 unfold Yev;refine Zk Zc5 λt=>?_;have e1:(U5 (toS κ it t))[i]? =t.q[i]?:=rfl;have e2:(U5 (toS κ it t))[i+1]? =t.q[i+1]?:=rfl;generalize(U5 (toS κ it t))[i]? =o1 at e1|-
 generalize(U5 (toS κ it t))[i+1]? =o2 at e2|-
 subst e1 e2;cases t.q[i]? with
 | none=>exact Zjd
 | some x=>
  cases t.q[i+1]? with
  | none=>exact Zjd
  | some y=>
   obtain⟨c,n,u⟩:=x;obtain⟨d,m,v⟩:=y;refine Zk (Z6m rfl) λ_=>Zk W7 λx=>Yw Zjm (Zf rfl) λk=>Zw (Zf rfl) (Zk W7 λy=>Yw Zjm (Zf rfl) λm=>Zw (Zf rfl) ?_);have ex:∀i j,(t.p.map (X7 it)).extract i j=(t.p.extract i j).map (X7 it):=λi j=>by rw[X4]
   refine Zw (Zk (Z8n (ex _ _) (ex _ _)) λz=>?_) (Zk (Z81 (ex _ _) (ex _ _)) λz=>?_)<;>(
    refine Zk (Zfo λt=>?_) λ_=>Zk Zc5 λt=>Zf rfl;show Vf κ (layA (c+k) (z.map (X7 it)) (t.p.map (X7 it))) t.q t.g YC=Vf κ ((layA (c+k) z t.p).map (X7 it)) t.q t.g YC;rw[Zzm])
def Zvb:TM PUnit:=do
 let sz:=(<-Zj8).p.size
 let mr:=minRun' sz sz 0
 let mut lo:=0
 for _ in Rg.mk 0 sz do
  if lo>=sz then break
  let YB f<-Z5e lo (sz-lo)|return
  let mut n:=f
  if n<mr then
   let fo:=min (sz-lo) mr
   if !(<-Z7h lo fo n)then return
   n:=fo
  if let YB (c,m,_):=(<-Zj8).q.back? then
   let u:=power' sz (2*c+m) (2*c+m+m+n) sz
   for _ in Rg.mk 0 sz do
    let z:=(<-Zj8).q
    let YB (_,_,v):=(if z.size>1 then z[z.size-2]? else YC)|break
    if v<=u then break
    if !(<-Yev (z.size-2))then return
   Zju λt=>{ t with q:=t.q.modify (t.q.size-1) λ(c,m,_)=>(c,m,u) }
  Zju λt=>{ t with q:=t.q.push (lo,n,0) }
  lo:=lo+n
 for _ in Rg.mk 0 sz do
  let z:=(<-Zj8).q
  if z.size<=1 then break
  let k:=z.size-2;let bf:=if k>0 then z[k-1]?.map (·.2.1)else YC
  let k:=if bf.any (·<(z[k+1]?.elim 0 (·.2.1)))then k-1 else k
  if !(<-Yev k)then return
theorem Z07:Sim prog w A E κ it _root_.id sortRuns' Zvb:=by
 rw[sortRuns'_eq];unfold Zvb;refine Zk Zc5 λt=>?_;have sz:(arrOf (toS κ it t)).size=t.p.size:=Qj ..;generalize(arrOf (toS κ it t)).size=n1 at sz|-
 subst sz;refine Zk (Zdj (φ:=_root_.id) rfl λx b=>?_) λr=>?_
 .refine Zw (Zf rfl) (Yw Z5j (Zf rfl) λf=>?_)
  refine Zw (Zet (Zk Z62 λc=>Zw (Zf rfl) ?_)) ?_<;>(
   refine Zk Zc5 λt2=>?_;have e1:(U5 (toS κ it t2)).back? =t2.q.back?:=rfl;generalize(U5 (toS κ it t2)).back? =o1 at e1|-
   subst e1;cases t2.q.back? with
   | none=>exact Zk (Zfo λt=>rfl) λ_=>Zf rfl
   | some y=>
    obtain⟨c,m,v⟩:=y;refine Zk (Zdj (φ:=_root_.id) rfl λx b=>?_) λr=>?_
    .refine Zk Zc5 λt3=>?_
     have e1:U5 (toS κ it t3)=t3.q:=rfl;generalize U5 (toS κ it t3)=z at e1|-
     subst e1;show Sim prog w A E κ it _ (match(if t3.q.size>1 then t3.q[t3.q.size-2]? else YC)with|some (_,_,_)=>_|_=>_) (match(if t3.q.size>1 then t3.q[t3.q.size-2]? else YC)with|some (_,_,_)=>_|_=>_);generalize(if t3.q.size>1 then t3.q[t3.q.size-2]? else YC)=o;cases o with
     | none=>exact Zf rfl
     | some y=>
      obtain⟨_,_,v⟩:=y;exact Zw (Zf rfl) (Zk Z3a λc=>Zw (Zf rfl) (Zf rfl))
    .obtain⟨r1,r2⟩:=r
     cases r1 with
     | some v=>exact Zf rfl
     | none=>exact Zk (Zfo λt=>rfl) λ_=>Zk (Zfo λt=>rfl) λ_=>Zf rfl)
 .obtain⟨r1,lo⟩:=r
  cases r1 with
  | some v=>exact Zf rfl
  | none=>
   refine Zk (Zdj (φ:=_root_.id) rfl λx b=>?_) λr=>?_
   .refine Zk Zc5 λt3=>?_
    have e1:U5 (toS κ it t3)=t3.q:=rfl;generalize U5 (toS κ it t3)=z at e1|-
    subst e1;exact Zw (Zf rfl) (Zk Z3a λc=>Zw (Zf rfl) (Zf rfl))
   .obtain⟨r1,r2⟩:=r
    cases r1 with
    | some v=>exact Zf rfl
    | none=>exact Zf rfl
end
end L2
namespace L2
open PySem PySem.Spec PyProof.Rows PySem.W
def Z22(lt:Nat->Nat->Bool)(n:Nat):KasT α->Option α
 | .ret a=>YB a
 | .ask i j k=>if(Nat.blt i n&&Nat.blt j n)=YD then Z22 lt n (k (lt i j))else YC
theorem Z5i{lt:Nat->Nat->Bool}{n:Nat}{cmp:Nat->Nat->(Bool->Xh->Prop)->Xh->Prop}{Q:α->Xh->Prop}(hc:∀i j C,i<n->j<n->C (lt i j) s->cmp i j C s){t:KasT α}{a:α}(h:Z22 lt n t=YB a)(q:Q a s):t.kasWp cmp Q s:=by
 induction t with
 | ret b=>cases h;exact q
 | ask i j k ih=>
  rw[Z22]at h;split at h
  .rename_i c
   rw[XC]at c;exact hc i j _ (Bf c.1) (Bf c.2) (ih _ h)
  .cases h
theorem Ztr{lt lt':Nat->Nat->Bool}{n:Nat}(h:∀i<n,∀j<n,lt i j=lt' i j)(t:KasT α):Z22 lt n t=Z22 lt' n t:=by
 induction t with
 | ret b=>rfl
 | ask i j k ih=>
  rw[Z22,Z22];split
  .rename_i c
   rw[XC]at c;rw[h i (Bf c.1) j (Bf c.2)];exact ih _
  .rfl
def Zi7(lt:Nat->Nat->Bool)(n:Nat):Option (List Nat):=(Z22 lt n (Zvb ⟨(Xo n).toArray,#[],7⟩)).bind λo=>o.map λr=>r.2.p.toList
theorem Zqy{lt lt':Nat->Nat->Bool}{n:Nat}(h:∀i<n,∀j<n,lt i j=lt' i j):Zi7 lt n=Zi7 lt' n:=by
 unfold Zi7;rw[Ztr h]
def tLay(d:α)(l:List Nat)(vs:List α):List α:=l.map λi=>vs.getD i d
theorem Zs9{lt:Nat->Nat->Bool}{n:Nat}{P:PySem.Fin->Xh->Prop}{l:List Nat}(ho:s.heap.get? a=YB (Q0 "list" vs.toArray n))
  (k0:∀b o,h0.get? b=YB o->s.heap.get? b=YB o) (ha0:h0.get? a=YC) (h2:2<=vs.length) (hz:vs.length<=10000) (hl:Zi7 lt vs.length=YB l) (hp:l.length=vs.length)
  (hk:∀s':Xh,(∀b o,h0.get? b=YB o->s'.heap.get? b=YB o)->∀Q:Vh->Xh->Prop,Q κ s'->X8 (Qm prog w) A (keyKind' vs.toArray) Q E s')
  (hc:∀s':Xh,(∀b o,h0.get? b=YB o->s'.heap.get? b=YB o)->∀i j C,i<vs.length->j<vs.length->C (lt i j) s'->kas_ask prog w A κ vs i j C s')
  (h:P (.done (.ret .none)) { s with heap:=sortedHeap s.heap a vs (Bv (tLay JB l vs)) }):X8 (Qm prog w) A (Builtin.«list.sort» ⟨[.ref a],[]⟩) P E s:=by
 have ha:a<s.heap.objs.size:=XN ho;obtain⟨e1,ho1⟩:∃e1,(s.heap.update a (QX λ_=>(#[]:Array Xe))).get? a=YB (Q0 "list" #[] e1):=⟨_,get?_update_seq ho λ_=>#[]⟩;have ho6:(((s.heap.update a (QX λ_=>(#[]:Array Xe))).push (Q0 "tuple" vs.toArray 0)).push (Q0 "list" #[] 0)).get? a=YB (Q0 "list" #[] e1):=Xl _ (Xl _ ho1);have k6:∀b o,h0.get? b=YB o->(((s.heap.update a (QX λ_=>(#[]:Array Xe))).push (Q0 "tuple" vs.toArray 0)).push (Q0 "list" #[] 0)).get? b=YB o:=λb o e=>by
  refine Xl _ (Xl _ ?_);rw[Heap.get?_update_ne _ _ _ _ (λq=>by rw[q,ha0]at e;cases e)];exact k0 b o e
 rw[list_sort_plain];refine Xi (listItems_at ho rfl ?_);refine Xi (listUpdate_at ho rfl ?_ (by rw[Xy,Qk];omega) (QH _));refine Xi (seqEpoch_at ho1 rfl ?_);refine Xi (wpAny_newTuple ?_ (by show vs.length<=_;rw[Qk];omega));refine Xi (wpAny_newList ?_ (QH _));refine V8 ?_;show X8 (Qm prog w) A _ P E { s with heap:=((s.heap.update a (QX λ_=>(#[]:Array Xe))).push (Q0 "tuple" vs.toArray 0)).push (Q0 "list" #[] 0) };dsimp only;have hs:vs.toArray.size=vs.length:=Xy ..;have n2:¬vs.toArray.size<2:=by omega
 rw[YM n2,YM n2];refine Xi (hk _ k6 _ ?_);have est:Vf κ (vs.toArray.zip vs.toArray) #[] 7 YC=toS κ (UJ vs) ⟨(Xo vs.length).toArray,#[],7⟩:=by
  have e:=kas_range (UJ vs);rw[pairsOf_size]at e;show Vf κ (UJ vs) #[] 7 YC=Vf κ ((Bv (Xo vs.length)).map (X7 (UJ vs))) #[] 7 YC;rw[e]
 obtain⟨o,eo,hl⟩:=Option.bind_eq_some_iff.mp hl;obtain⟨r0,er,hq⟩:=VG.mp hl;subst er;have run:=Z07 (prog:=prog) (w:=w) (A:=A) (E:=E) (κ:=κ) (it:=UJ vs) ⟨(Xo vs.length).toArray,#[],7⟩ { s with heap:=((s.heap.update a (QX λ_=>(#[]:Array Xe))).push (Q0 "tuple" vs.toArray 0)).push (Q0 "list" #[] 0) }
  (λ_ st' s'=>arrOf st'=r0.2.p.map (X7 (UJ vs))/\failedOf st'=YC/\s'={ s with heap:=((s.heap.update a (QX λ_=>(#[]:Array Xe))).push (Q0 "tuple" vs.toArray 0)).push (Q0 "list" #[] 0) })
  (Z5i (λi j C hi hj hC=>by
   have:=hc _ k6 i j C hi hj hC;rw[kas_ask_eq]at this;exact this) eo ⟨r0,rfl,rfl,rfl,rfl⟩)
 rw[<-est]at run;refine Xi (Vc run ?_ λ_ _ e=>e);intro r s' z;obtain⟨har,hf,rfl⟩:=z;have hout:(arrOf r.2).map (·.2)=Bv (tLay JB l vs):=by
  apply Array.toList_inj.mp;rw[har,Array.map_map,Array.toList_map,<-hq];exact Xu λi _=>by show(X7 (UJ vs) i).2=_;rw[kas_item_eq]
 rw[hout];refine Xi (seqEpoch_at ho6 rfl ?_);refine Xi (listUpdate_at ho6 rfl ?_ (QH _) (by rw[Xy,tLay,Xd,hp,Qk];omega));rw[hf];simp only[bne_self_eq_false,Vn,if_false];exact Qd h
theorem Z7r{lt:Nat->Nat->Bool}{p:List Nat}(hl:s.heap.IsList l vs.toArray)(h2:2<=vs.length)(hz:vs.length<=10000)(ho:Zi7 lt vs.length=YB p)(hp:p.length=vs.length)
  (hk:∀s':Xh,(∀b o,s.heap.get? b=YB o->s'.heap.get? b=YB o)->∀Q:Vh->Xh->Prop,Q κ s'->X8 (Qm prog w) A.in1.in1 (keyKind' vs.toArray) Q E s')
  (hc:∀s':Xh,(∀b o,s.heap.get? b=YB o->s'.heap.get? b=YB o)->∀i j C,i<vs.length->j<vs.length->C (lt i j) s'->kas_ask prog w A.in1.in1 κ vs i j C s')
  (h:Q (.ref (s.heap.objs.size+1)) { s with heap:=sortedAll s.heap vs (Bv (tLay JB p vs)) }):X8 (Qm prog w) A (call (.builtin "sorted") [.ref l]) Q E s:=by
 refine Calls.call_function_entry kind_sorted plain_sorted entry_sorted (args_sorted1 _) ?_;unfold Builtin.«sorted»;refine Xi (m:=checkCount "sorted" 1 1 _) (Qd ?_);refine Xi (collect_list hl ?_ (by rw[Qk];omega));refine Xi (wpAny_newList ?_ (by rw[Qk];omega));have hsz:((s.heap.push (Q0 "list" #[] 0)).update s.heap.objs.size (QX (·++vs.toArray))).objs.size=s.heap.objs.size+1:=by
  rw[Heap.size_update,size_push']
 have hoL:(((s.heap.push (Q0 "list" #[] 0)).update s.heap.objs.size (QX (·++vs.toArray))).push (Q0 "list" vs.toArray 0)).get? (s.heap.objs.size+1)=YB (Q0 "list" vs.toArray 0):=by
  rw[<-hsz];exact Qe _ rfl
 have keep:∀b o,s.heap.get? b=YB o->(((s.heap.push (Q0 "list" #[] 0)).update s.heap.objs.size (QX (·++vs.toArray))).push (Q0 "list" vs.toArray 0)).get? b=YB o:=λb o q=>by
  have hlt:b<s.heap.objs.size:=XN q;rw[Heap.get?_push_ne _ _ _ (by rw[hsz];exact XF (Nat.lt_succ_of_lt hlt)),Heap.get?_update_ne _ _ _ _ (XF hlt),Heap.get?_push_ne _ _ _ (XF hlt)];exact q
 show X8 _ _ _ _ _ { s with heap:=((s.heap.push (Q0 "list" #[] 0)).update s.heap.objs.size (QX (·++vs.toArray))).push (Q0 "list" vs.toArray 0) };rw[hsz];refine Xi (V8 (VJ slot_list_sort ⟨_,hoL,rfl⟩ entry_list_sort (Zs9 (h0:=s.heap) hoL keep (Heap.get?_none_of_le (Nat.le_succ _)) h2 hz ho hp hk hc ⟨_,rfl,?_⟩) (args_list_sort _)));exact Qd ⟨_,rfl,h⟩
theorem Zup{p:List Nat}{xs:List V}(h:Vals xs us):Vals (tLay .non p xs) (tLay .none p us):=by
 unfold tLay
 induction p with
 | nil=>exact .nil
 | cons i l ih=>
  refine .cons ?_ ih;show RelV (xs.getD i V.non) (us.getD i JB);rw[Xb,Xb];cases e:xs[i]? with
  | some x=>
   obtain⟨u,e',r⟩:=h.get e;rw[e'];exact r
  | none=>
   have:us[i]? =YC:=Qv (by rw[<-h.length];exact Qy.mp e);rw[this];exact rfl
theorem Das.tLay{p:List Nat}{xs:List V}(h:Das G H L xs ds):Das G H L (L2.tLay .non p xs) (L2.tLay .none p ds):=by
 unfold L2.tLay
 induction p with
 | nil=>exact .nil
 | cons i l ih=>
  refine .cons ?_ ih;show Da G H L (xs.getD i .non) (ds.getD i .none);rw[Xb,Xb];cases e:xs[i]? with
  | some x=>
   obtain⟨u,e',r⟩:=h.get' e;rw[e'];exact r
  | none=>
   have:ds[i]? =YC:=Qv (by rw[<-h.length];exact Qy.mp e);rw[this];exact .non
def Zso(kd:Xa->Option α)(lt:α->α->Bool)(K:Xc):List V->Hp->VK->Prop:=λxs H Q=>∃(a:YG) (vs:List V) (L:YG->Prop) (es:List Xa) (p:List Nat),xs=[.ref a]/\SqL K H a vs/\Das K H L vs es/\2<=vs.length/\vs.length<=10000/\Zi7 (lk kd lt es) vs.length=YB p/\p.length=vs.length/\keyed kd es/\∀l,H l=YC->Q (.ref l) (upd H l (.lst (tLay .non p vs)))
section
variable {kd:Xa->Option α}{lt:α->α->Bool}
theorem Ztl(S:Ycj kd lt)(hK:X.K=K)(hu:X.A.units+64<cLine):Zbn X (.builtin "sorted") (Zso kd lt K):=by
 subst hK;intro pins s Y H xs us Q I r h;obtain⟨l,vs,L,es,p,rfl,hs,hd,h2,hz0,ho,hp,hk,q⟩:=h;obtain⟨u,rfl,ru⟩:=vals1 r;cases(show u=QZ l from ru);obtain⟨its,rv,pl,hz⟩:=I.list hs;have hl:=rv.length;obtain⟨as,ra⟩:=hd.reads rfl I rv (Zlc λd m=>by obtain⟨k,e⟩:=hk d m;exact S.lay d k e);obtain⟨κ,S1,S2⟩:=S.run;obtain⟨z1,z2⟩:=readsAll_get ra;rw[hl]at h2 hz0 ho hp;refine Z7r (κ:=κ) (lt:=lk kd lt es) pl.isList h2 hz0 ho hp (λs' k Q q=>S1 _ _ _ _ s' _ es as Q h2 (ReadsAll.keeps k ra) hk q) (λs' k i j C hi hj hc=>?_) ?_
 .rw[z1]at hi hj
  obtain⟨v,b1,e1,r1⟩:=z2 i _ (Xf hi);obtain⟨w,b2,e2,r2⟩:=z2 j _ (Xf hj);obtain⟨k1,q1⟩:=hk _ (Q4 hi);obtain⟨k2,q2⟩:=hk _ (Q4 hj);have ek:lk kd lt es i j=lt k1 k2:=by
   unfold lk;rw[Xb,Xb,Xf hi,Xf hj];show((kd es[i]).bind λa=>(kd es[j]).map λb=>lt a b).getD YF=_;rw[q1,q2];rfl
  rw[ek]at hc;unfold kas_ask;rw[Xb,Xb,e1,e2];exact S2 _ _ _ _ s' v w _ _ _ _ k1 k2 C (show X.A.units+1+1+32<cLine by omega) (Reads.keeps k r1) (Reads.keeps k r2) q1 q2 hc
 .obtain⟨e,he⟩:=sortedAll_at s.heap its (Bv (tLay JB p its))
  refine⟨.ref (s.heap.objs.size+1),_,I.laid (t':=s.toks) (o:=.lst (tLay .non p vs)) (λb ob q=>sortedAll_old q) (by omega) ⟨?_,tLay JB p its,e,Zup rv,he⟩,rfl,q _ (I.hok.fresh (by omega))⟩;rw[tLay,Xd,hp,Qk];omega
theorem Ztu(S:Ycj kd lt)(hK:X.K=K)(hu:X.A.units+64<cLine):Zbn X (.builtin "sorted") (λxs H Q=>Zst kd lt K xs H Q\/Zso kd lt K xs H Q):=by
 intro pins s Y H xs us Q I r h;rcases h with h|h
 .exact Zhs S hK hu pins s Y H xs us Q I r h
 .exact Ztl S hK hu pins s Y H xs us Q I r h
def Zw5(kd:Xa->Option α)(lt:α->α->Bool):List Xa->(OT->Prop)->Prop:=λds k=>n1 (λd=>∃(es:List Xa) (p:List Nat),d= .list es/\2<=es.length/\es.length<=10000/\Zi7 (lk kd lt es) es.length=YB p/\p.length=es.length/\keyed kd es/\k (.nd ((tLay .none p es).map OT.fz))) ds
theorem Z0y:PN G (Zso kd lt G) (Zw5 kd lt):=λH L xs ds k Q hx h kk=>by
 obtain⟨v,d,rfl,rfl,q,es,p,e,h2,hz,ho,hp,hk,h⟩:=hx.one h;have fin:∀(vs:List V) (r:YG),Das G H L vs es->H r=YC->Q (.ref r) (upd H r (.lst (tLay .non p vs))):=λvs r hv hr=>kk _ _ _ [r] (Z9 hr _) (Own.list hr hv.tLay) (Zdf r) (Zay hr) h;subst e;generalize ed:Qu es=d at q;cases q with
 | lst l e r=>
  cases ed;exact⟨_,_,L,es,p,rfl,.inl e,r,by rw[r.length];exact h2,by rw[r.length];exact hz,by rw[r.length];exact ho,by rw[r.length];exact hp,hk,λp hp=>fin _ p r hp⟩
 | scr ks=>
  cases ed;exact⟨_,_,L,_,p,rfl,ks.sq,Das.ints _,by rw[(Das.ints (G:=G) (H:=H) (L:=L) _).length];exact h2,by rw[(Das.ints (G:=G) (H:=H) (L:=L) _).length];exact hz,by rw[(Das.ints (G:=G) (H:=H) (L:=L) _).length];exact ho,by rw[(Das.ints (G:=G) (H:=H) (L:=L) _).length];exact hp,hk,λp hp=>fin _ p (Das.ints _) hp⟩
 | _=>cases ed
theorem Zzu:PN G (λxs H Q=>Zst kd lt G xs H Q\/Zso kd lt G xs H Q) (λds k=>Zr8 kd lt ds k\/Zw5 kd lt ds k):=λH L xs ds k Q hx h kk=>by
 rcases h with h|h
 .exact .inl (Zmg H L xs ds k Q hx h kk)
 .exact .inr (Z0y H L xs ds k Q hx h kk)
def Z20(kd:Xa->Option α)(lt:α->α->Bool):List Xa->Option OT:=λds=>match ds with
 | [.list es]=>(Zi7 (lk kd lt es) es.length).bind λp=>if(decide (2<=es.length)&&decide (es.length<=10000)&&decide (p.length=es.length)&&es.all λd=>(kd d).isSome)=YD then YB (.nd ((tLay .none p es).map OT.fz))else YC
 | _=>YC
def Zh1(kd:Xa->Option α)(lt:α->α->Bool):List Xa->Option OT:=λds=>match Zh9 kd lt ds with|some o=>YB o|none=>Z20 kd lt ds
theorem Z6u:∀ds r k,Zh1 kd lt ds=YB r->k r->Zr8 kd lt ds k\/Zw5 kd lt ds k:=λds r k h hk=>by
 unfold Zh1 at h;split at h
 .rename_i e
  cases h;exact .inl (Zqc ds _ k e hk)
 .refine .inr ?_
  unfold Z20 at h;split at h
  case h_2=>cases h
  obtain⟨p,hp,h⟩:=Option.bind_eq_some_iff.mp h;split at h
  case isFalse=>cases h
  rename_i c;rw[XC,XC,XC]at c;cases h;exact⟨_,p,rfl,YW c.1.1.1,YW c.1.1.2,hp,YW c.1.2,λd m=>Ul.mp (Vg.mp c.2 d m),hk⟩
end
end L2
namespace My
open PySem L2 PySem.Spec
def Wo(R:FD):FS :=
 (Z6 (Zaf (tD (Zph "int" (Zd 1)))
  (wE (Zuo (Zph "int" (Zd 0)) (Zuo (fUn Yeq (Zph "bool" (Zd 0))) (Zj gEq (Zd 0) (Zd 1)))) Wu)
  fNx)
  (Z6 (Zaf (tD (Zph "str" (Zd 1)))
  (wE (Zuo (Zph "str" (Zd 0)) (Zj gEq (Zd 0) (Zd 1))) Wu)
  fNx)
  (Z6 (Zaf (tO (tV (Zj gNe (Zph "tuple" (Zd 1)) (Zph "tuple" (Zd 0)))) (tV (Zj gNe (Zph "list" (Zd 1)) (Zph "list" (Zd 0)))))
  (wE (fC (.bool YF)) Wu)
  fNx)
  (Z6 (Zaf (tV (Zj gNe (Zag Zai (Zc (Zd 0) Zq)) (Zag Zai (Zc (Zd 1) Zq))))
  (wE (fC (.bool YF)) Wu)
  fNx)
  (Z6 (Zau (Zon (Zc (Zd 0) (Zc (Zd 1) Zq))) (gTp 2 (gCn (gNm 2) (gCn (gNm 3) gNl)))
  (Zaf (tNo (tD (Zy R (Zc (Zd 2) (Zc (Zd 3) Zq)))))
  (wE (fC (.bool YF)) Wu)
  fNx))
  (wE (fC (.bool YD)) Wu))))))
def Zt:Nat->FD
 | 0=>λ_=>RF.bad
 | k+1=>Jh 2 4 (Wo (Zt k))
def Zcu:FS :=
 (wE (Yl gIx (Zd2 (Zc (fC (.int 1)) (Zc (fC (.int 2)) (Zc (fC (.int 6)) (Zc (Zj Zcn (Zj Zzn (fC (.int 10)) (fC (.int 15))) (fC (.int 37))) Zq))))) (Zj Zgz (Zj Zbv (Zd 0) (fC (.int 3))) (fC (.int 4)))) Wu)
def Jc:FD:=Jh 1 1 Zcu
def Zbm:FS :=
 (Z6 (wE (Zy Ww (Zc (Zd 0) (Zc (Zj Zf4 (fC (.int 2)) (Zd 1)) Zq))) (Y0 2))
  (Z6 (wE (Z1v (W3 1 [] (iRb (Zc (fC (.int 1)) (Zc (Zd 1) Zq))) (gNm 0) Znd (Zd2 (Zc (Zd 0) Zq)))) (Zcb 3))
  (Z6 (wE (Zr1 3) (Zcb 4))
  (Z6 (Zau (iRa (Zc (Zj gSb (Zd 1) (fC (.int 2))) Zq)) (gNm 5)
  (Z6 (wE (Z85 3 (Zj Zgz (Yl gIx (Zd 2) (Zj Zf4 (fC (.int 2)) (Zd 5))) (Zag Zai (Zc (Zq9 3) Zq)))) (Y0 6))
  (Z6 (wE (Z85 3 (Zj Zgz (Yl gIx (Zd 2) (Zj Zcn (Zj Zf4 (fC (.int 2)) (Zd 5)) (fC (.int 1)))) (Zag Zai (Zc (Zq9 3) Zq)))) (Y0 7))
  (Z6 (Wl 3 (fBl Zfa (Zc (Yl Zlb (Zd 6) (Zd 7)) Zq)))
  (Wl 4 (Yem 3 (fUn Zo2 (fC (.int 1)))))))))
  (Zft 4)))))
def Wg:FD:=Jh 2 8 Zbm
def Zeh:FS :=
 (Z6 (wE (W3 1 [0] (iRa (Zc (Zd 0) Zq)) (gNm 0) Znd (Z9b (fC (.int 0)) (Zd 1))) (Zcb 3))
  (Z6 (Zau (Zon (Zc (Zd 1) (Zc (Zd 2) Zq))) (gTp 2 (gCn (gNm 4) (gCn (gNm 5) gNl)))
  (Zau (iRa (Zc (Zd 0) Zq)) (gNm 6)
  (Zau (iRa (Zc (Zd 0) Zq)) (gNm 7)
  (Zaf (tV (Zj gNe (Zj (Zuf YF) (Zd 6) (Zd 4)) (Zj (Zuf YF) (Zd 7) (Zd 4))))
  (Zy3 3 (Zj Zcn (Yl gIx (Yl gIx (Zq9 3) (Zd 6)) (Zd 7)) (Zd 5)) (Zd 6) (Zd 7))
  fNx))))
  (Zft 3)))
def Zbt:FD:=Jh 3 8 Zeh
def Zfc:FS :=
 (Z6 (wE (Zag Z83 (Zc (Zd 0) Zq)) (Y0 2))
  (Z6 (wE (Zd 1) (Y0 3))
  (Z6 (Zk7 (tV (Zj gNe (Zd 3) (fC (.int 0)))) (Z6 (wE (Zj Zgz (Zd 2) (Zd 3)) (Y0 4))
  (Z6 (wE (Zd 3) (Y0 2))
  (wE (Zd 4) (Y0 3)))))
  (wE (Ze2 (Zc (Zj Zbv (Zd 0) (Zd 2)) (Zc (Zj Zbv (Zd 1) (Zd 2)) Zq))) Wu))))
def Zat:FD:=Jh 2 5 Zfc
def Zdo:FS :=
 (wE (W3 1 [1] (Zf5 (Zd 0)) (gNm 0) Znd (W3 1 [1] (Zf5 (Zd 0)) (gNm 0) Znd (Zy Zat (Zc (Zd 0) (Zc (Zd 1) Zq))))) Wu)
def Zax:FD:=Jh 2 2 Zdo
def Zbp:FS :=
 (wE (fBl (Zh9 kdT ltT) (Zc (W3 2 [2] (Zon (Zc (Zd 0) (Zc (Zd 1) Zq))) (gTp 2 (gCn (gNm 0) (gCn (gNm 1) gNl))) (tV (Zj gGt (Zd 1) (fC (.int 0)))) (Ze2 (Zc (fBl Zy6 (Zc (Zd 0) Zq)) (Zc (Zy Zat (Zc (Zd 1) (Zc (Zd 2) Zq))) Zq)))) Zq)) Wu)
def Jp:FD:=Jh 3 3 Zbp
def Zb8:FS :=
 (Z6 (wE (Yl gIx (Zd2 (Zc (fC (.int 3)) (Zc (fC (.int 12)) (Zc (Zj Zzn (fC (.int 10)) (fC (.int 20))) Zq)))) (Zj Zgz (Zd 3) (fC (.int 3)))) (Y0 4))
  (Z6 (wE (Zd2 Zq) (Zcb 5))
  (Z6 (Zau (iRa (Zc (Zd 2) Zq)) (gNm 6)
  (Z6 (wE (Zy W9 (Zc (Zd 3) (Zc (Zj Zcn (fC (.int 50)) (Zd 6)) Zq))) (Y0 7))
  (Z6 (Zaf (tV (Zj gLt (Zj Zcn (Zd 1) (Zd 6)) (Zag Zai (Zc (Zd 0) Zq))))
  (wE (Yl gIx (Zd 0) (Zj Zcn (Zd 1) (Zd 6))) (Y0 7))
  fNx)
  (Wl 5 (Zj Zgz (Zd 7) (Zd 4))))))
  (Zft 5))))
def J5:FD:=Jh 4 8 Zb8
def Za7:FS :=
 (Z6 (wE (Zoj (Zd 0) (fC (.int 0))) (Y0 1))
  (Z6 (wE (Yl Zlb (fSl (Zd 0) (oI (Zd 1)) oN) (fSl (Zd 0) oN (oI (Zd 1)))) (Y0 2))
  (Z6 (Zaf (tAn (tV (Zj gGt (Zag Zai (Zc (Zd 2) Zq)) (fC (.int 2)))) (tV (Zj gGt (Yl gIx (Zd 2) (fC (.int 1))) (Yl gIx (Zd 2) (fUn Zo2 (fC (.int 1)))))))
  (wE (Yl Zlb (fSl (Zd 2) oN (oI (fC (.int 1)))) (Z0u (Zd 2) oN (oI (fC (.int 0))) (oI (fUn Zo2 (fC (.int 1)))))) (Y0 2))
  fNx)
  (wE (Zd 2) Wu))))
def Wb:FD:=Jh 1 3 Za7
def Zb7:FS :=
 (Z6 (wE (W3 1 [1] (Zf5 (Zd 0)) (gNm 0) (tV (Zj gNe (Zd 0) (Zd 1))) (Zj gSb (Zd 0) (Zag Ybf (Zc (Zj gGt (Zd 0) (Zd 1)) Zq)))) (Y0 2))
  (wE (Zy Wb (Zc (Zd 2) Zq)) Wu))
def Wy:FD:=Jh 2 3 Zb7
def Zbo:FS :=
 (Z6 (wE (Yl gIx (Zd 1) (Zd 2)) (Y0 4))
  (Z6 (wE (Yl gIx (Zd 1) (Zj Zcn (Zd 2) (fC (.int 1)))) (Y0 5))
  (Z6 (wE (Yl gIx (Zd 1) (Zd 3)) (Y0 6))
  (Z6 (wE (Yl gIx (Zd 1) (Zj Zgz (Zj Zcn (Zd 3) (fC (.int 1))) (Zag Zai (Zc (Zd 0) Zq)))) (Y0 7))
  (wE (Zj gSb (Zj gSb (Zj Zcn (Yl gIx (Yl gIx (Zd 0) (Zd 4)) (Zd 6)) (Yl gIx (Yl gIx (Zd 0) (Zd 5)) (Zd 7))) (Yl gIx (Yl gIx (Zd 0) (Zd 4)) (Zd 7))) (Yl gIx (Yl gIx (Zd 0) (Zd 5)) (Zd 6))) Wu)))))
def Z4:FD:=Jh 4 8 Zbo
def Zdx:FS :=
 (Z6 (Zau (iRa (Zc (Zd 2) Zq)) (gNm 3)
  (Zaf (tV (Zj gLt (Zy Z4 (Zc (Zd 0) (Zc (Zd 1) (Zc (Zd 3) (Zc (Zd 2) Zq))))) (fC (.int 0))))
  (wE (fC (.bool YF)) Wu)
  fNx))
  (wE (fC (.bool YD)) Wu))
def Yq:FD:=Jh 3 4 Zdx
def Wz(R:FD):FS :=
 (Z6 (wE (Zag Zai (Zc (Zd 0) Zq)) (Y0 2))
  (Z6 (Zaf (tV (Zj gEq (Zag Zai (Zc (Zd 1) Zq)) (Zd 2)))
  (wE (fIf (tAn (tV (Zj gLt (Yl gIx (Zd 1) (fC (.int 1))) (Yl gIx (Zd 1) (fUn Zo2 (fC (.int 1)))))) (tD (Zy Yq (Zc (Zd 0) (Zc (Zd 1) (Zc (Zj gSb (Zd 2) (fC (.int 1))) Zq)))))) (Zd 1) (fC .none)) Wu)
  fNx)
  (Z6 (Zau (iRb (Zc (fC (.int 1)) (Zc (Zd 2) Zq))) (gNm 3)
  (Zaf (tAn (tV (Zj (Zuf YD) (Zd 3) (Zd 1))) (tD (Zy Yq (Zc (Zd 0) (Zc (Yl Zlb (Zd 1) (Zd2 (Zc (Zd 3) Zq))) (Zc (Zj gSb (Zag Zai (Zc (Zd 1) Zq)) (fC (.int 1))) Zq))))))
  (Z6 (wE (Zy R (Zc (Zd 0) (Zc (Yl Zlb (Zd 1) (Zd2 (Zc (Zd 3) Zq))) Zq))) (Y0 4))
  (Zaf (tV (Zj Zgu (Zd 4) (fC .none)))
  (wE (Zd 4) Wu)
  fNx))
  fNx))
  (wE (fC .none) Wu))))
def Yb:Nat->FD
 | 0=>λ_=>RF.bad
 | k+1=>Jh 2 5 (Wz (Yb k))
def Zcj:FS :=
 (Z6 (Zaf (tV (Zj gLt (Zag Zai (Zc (Zd 0) Zq)) (fC (.int 3))))
  (wE (fC .none) Wu)
  fNx)
  (wE (Zy (Yb 8) (Zc (Zy Yd (Zc (Zy Z0 (Zc (Zd 0) Zq)) (Zc (Zd 0) Zq))) (Zc (Zd2 (Zc (fC (.int 0)) Zq)) Zq))) Wu))
def Jb:FD:=Jh 1 1 Zcj
def Zeq:FS :=
 (wE (Zor (λi j=>decide (i<=j)) (λi j=>decide (i<j)) (fC (.int 0)) (Zd 1) (Zag Zai (Zc (Zd 0) Zq))) Wu)
def Zbq:FD:=Jh 2 2 Zeq
def Ze9:FS :=
 (Z6 (Zau (Zf5 (Zd 1)) (gNm 2)
  (Zaf (tNo (tD (Zy Zbq (Zc (Zd 0) (Zc (Zd 2) Zq)))))
  (wE (fC (.bool YF)) Wu)
  fNx))
  (wE (Zuo (Zj gGt (Zag Zai (Zc (Zd 1) Zq)) (fC (.int 0))) (Zj gEq (Zl7 (Zc (Zd 1) Zq)) (Zag Zai (Zc (Zd 1) Zq)))) Wu))
def Zcg:FD:=Jh 2 3 Ze9
def Ze3:FS :=
 (Z6 (Zaf (tNo (tD (Zy Zcg (Zc (Zd 0) (Zc (Zd 1) Zq)))))
  (Znf "NoPoint")
  fNx)
  (Z6 (wE (Zd2 Zq) (Zcb 2))
  (Z6 (Zau (Zf5 (Zd 1)) (gNm 3)
  (Wl 2 (W3 1 [0,3] (Zf5 (Zd 1)) (gNm 0) Znd (Yl gIx (Yl gIx (Zd 1) (Zd 2)) (Zd 0)))))
  (Zft 2))))
def Jj:FD:=Jh 2 4 Ze3
def Ze7:FS :=
 (Z6 (Zau (Zf5 (Zd 1)) (gNm 2)
  (Zaf (tNo (tD (Zy We (Zc (Zd 2) Zq))))
  (wE (fC (.bool YF)) Wu)
  fNx))
  (Z6 (Zaf (tO (tV (Zj gLt (Zd 0) (fC (.int 3)))) (tV (Zj gNe (fBl Zfa (Zc (Zd 1) Zq)) (Z8g (Zc (Zd 0) Zq)))))
  (wE (fC (.bool YF)) Wu)
  fNx)
  (wE (Zuo (Zj gEq (Yl gIx (Zd 1) (fC (.int 0))) (fC (.int 0))) (Zj gLt (Yl gIx (Zd 1) (fC (.int 1))) (Yl gIx (Zd 1) (fUn Zo2 (fC (.int 1)))))) Wu)))
def Zcd:FD:=Jh 2 3 Ze7
def Zck:FS :=
 (Zaf (tNo (tD (Zy Zcd (Zc (Zd 0) (Zc (Zd 1) Zq)))))
  (Znf "NoOrder")
  fNx)
def Je:FD:=Jh 2 2 Zck
def Zdg:FS :=
 (Z6 (wE (Zy Je (Zc (Zag Zai (Zc (Zd 0) Zq)) (Zc (Zd 1) Zq))) Zyb)
  (Z6 (wE (Zy Z0 (Zc (Zd 0) Zq)) (Y0 2))
  (Z6 (wE (Zy Yd (Zc (Zd 2) (Zc (Zd 0) Zq))) (Y0 3))
  (Z6 (wE (Zd2 Zq) (Zcb 4))
  (Z6 (Zau (Zf5 (Zy Jz (Zc (Zag Zai (Zc (Zd 0) Zq)) Zq))) (gTp 2 (gCn (gNm 5) (gCn (gNm 6) gNl)))
  (Z6 (wE (Zy Z4 (Zc (Zd 3) (Zc (Zd 1) (Zc (Zd 5) (Zc (Zd 6) Zq))))) (Y0 7))
  (Z6 (Zaf (tV (Zj gLt (Zd 7) (fC (.int 0))))
  (wE (Ze2 (Zc (fC (.str "bars")) (Zc (Ze2 (Zc (Zd 5) (Zc (Zd 6) Zq))) Zq))) Wu)
  fNx)
  (Zaf (tV (Zj gGt (Zd 7) (fC (.int 0))))
  (Wl 4 (Ze2 (Zc (fBl Zfa (Zc (fSl (Zd 1) (oI (Zj Zcn (Zd 5) (fC (.int 1)))) (oI (Zj Zcn (Zd 6) (fC (.int 1))))) Zq)) (Zc (Zy Yr (Zc (Zd 7) (Zc (Zj Zf4 (fC (.int 2)) (Zd 2)) Zq))) Zq))))
  fNx))))
  (Zhu 4 (wE (Ze2 (Zc (fC (.str "ring")) (Zc (fBl (Zh9 kdT ltT) (Zc (Zd 4) Zq)) Zq))) Wu)))))))
def Wr:FD:=Jh 2 8 Zdg
def W2:FS :=
 (Z6 (wE (fBl Zr7 (Zc (Zd 0) Zq)) (Y0 1))
  (wE (Zj gLt (Yl gIx (Zd 1) (fC (.int 1))) (Yl gIx (Zd 1) (fC (.int 2)))) Wu))
def Yk:FD:=Jh 1 2 W2
def Za4:FS :=
 (Z6 (wE (Zd2 (Zc (Ze2 Zq) Zq)) (Y0 2))
  (Z6 (Zau (iRa (Zc (Zd 1) Zq)) (gNm 3)
  (Z6 (wE (Zd2 Zq) (Zcb 4))
  (Z6 (Zau (Zf5 (Zd 2)) (gNm 5)
  (Z6 (wE (fIf (tV (Zj gGt (Zag Zai (Zc (Zd 5) Zq)) (fC (.int 0)))) (Zj Zcn (Yl gIx (Zd 5) (fUn Zo2 (fC (.int 1)))) (fC (.int 1))) (fC (.int 0))) (Y0 6))
  (Zg2 4 (W3 1 [5] (iRb (Zc (Zd 6) (Zc (Zd 0) Zq))) (gNm 0) Znd (Yl Ztp (Zd 1) (Ze2 (Zc (Zd 0) Zq)))))))
  (Zhu 4 (wE (Zd 4) (Y0 2))))))
  (wE (Zd 2) Wu)))
def Jg:FD:=Jh 2 7 Za4
def Zco:FS :=
 (wE (Ze2 (Zc (Zj Zcn (Yl gIx (Yl gIx (Zd 0) (Zd 1)) (Zd 2)) (Yl gIx (Yl gIx (Zd 0) (Zd 3)) (Zd 4))) (Zc (Zj Zcn (Yl gIx (Yl gIx (Zd 0) (Zd 1)) (Zd 3)) (Yl gIx (Yl gIx (Zd 0) (Zd 2)) (Zd 4))) (Zc (Zj Zcn (Yl gIx (Yl gIx (Zd 0) (Zd 1)) (Zd 4)) (Yl gIx (Yl gIx (Zd 0) (Zd 2)) (Zd 3))) Zq)))) Wu)
def Ye:FD:=Jh 5 5 Zco
def Zcq:FS :=
 (Z6 (Zau (Zf5 (Zy Jg (Zc (Zag Zai (Zc (Zd 0) Zq)) (Zc (fC (.int 4)) Zq)))) (gTp 4 (gCn (gNm 1) (gCn (gNm 2) (gCn (gNm 3) (gCn (gNm 4) gNl)))))
  (Zaf (tD (Zy Yk (Zc (Zy Ye (Zc (Zd 0) (Zc (Zd 1) (Zc (Zd 2) (Zc (Zd 3) (Zc (Zd 4) Zq)))))) Zq)))
  (wE (Ze2 (Zc (Zd 1) (Zc (Zd 2) (Zc (Zd 3) (Zc (Zd 4) Zq))))) Wu)
  fNx))
  (wE (fC .none) Wu))
def Zam:FD:=Jh 1 5 Zcq
def Zd0:FS :=
 (wE (Zj gLt (Zj Zf4 (Yl gIx (Zd 0) (fC (.int 0))) (Yl gIx (Zd 1) (fC (.int 1)))) (Zj Zf4 (Yl gIx (Zd 1) (fC (.int 0))) (Yl gIx (Zd 0) (fC (.int 1))))) Wu)
def Zbf:FD:=Jh 2 2 Zd0
def Zja:FS :=
 (wE (Zy Zaa (Zc (Zj Zcn (Zj Zf4 (Yl gIx (Zd 0) (fC (.int 0))) (Yl gIx (Zd 1) (fC (.int 1)))) (Zj Zf4 (Yl gIx (Zd 1) (fC (.int 0))) (Yl gIx (Zd 0) (fC (.int 1))))) (Zc (Zj Zf4 (Yl gIx (Zd 0) (fC (.int 1))) (Yl gIx (Zd 1) (fC (.int 1)))) Zq))) Wu)
def Zfm:FD:=Jh 2 2 Zja
def Zbw:FS :=
 (wE (Zy Zbf (Zc (Zy Zfm (Zc (Yl gIx (Yl gIx (Zd 0) (Zd 1)) (Zd 2)) (Zc (Yl gIx (Yl gIx (Zd 0) (Zd 2)) (Zd 3)) Zq))) (Zc (Yl gIx (Yl gIx (Zd 0) (Zd 1)) (Zd 3)) Zq))) Wu)
def J1:FD:=Jh 4 4 Zbw
def Zca:FS :=
 (Z6 (wE (Zag Zai (Zc (Zd 0) Zq)) (Y0 1))
  (Z6 (Zau (iRa (Zc (Zd 1) Zq)) (gNm 2)
  (Zau (iRa (Zc (Zd 1) Zq)) (gNm 3)
  (Zau (iRa (Zc (Zd 1) Zq)) (gNm 4)
  (Zaf (tD (Zy J1 (Zc (Zd 0) (Zc (Zd 2) (Zc (Zd 3) (Zc (Zd 4) Zq))))))
  (wE (Ze2 (Zc (Zd 2) (Zc (Zd 3) (Zc (Zd 4) Zq)))) Wu)
  fNx))))
  (wE (fC .none) Wu)))
def Wv:FD:=Jh 1 5 Zca
def Zcv:FS :=
 (Z6 (wE (Zy Wv (Zc (Zd 0) Zq)) (Y0 1))
  (Z6 (Zaf (tV (Zj Zgu (Zd 1) (fC .none)))
  (wE (Zd 1) Wu)
  fNx)
  (wE (Zy Zam (Zc (Zy Yd (Zc (Zy Z0 (Zc (Zd 0) Zq)) (Zc (Zd 0) Zq))) Zq)) Wu)))
def Zak:FD:=Jh 1 2 Zcv
def Zdp:FS :=
 (wE (Zj gSb (Zag Z3x (Zc (Yl gIx (Zd 0) (fC (.int 1))) (Zc (Yl gIx (Zd 0) (fC (.int 2))) Zq))) (Yl gIx (Zd 0) (fC (.int 0)))) Wu)
def Yu:FD:=Jh 1 1 Zdp
def Zd5:FS :=
 (Z6 (wE (Zd2 (Zc (Zd2 Zq) Zq)) (Y0 1))
  (Z6 (Zau (iRb (Zc (fC (.int 1)) (Zc (Zd 0) Zq))) (gNm 2)
  (wE (Yl Zlb (Zd 1) (W3 1 [2] (Zf5 (Zd 1)) (gNm 0) Znd (Yl Zlb (Zd 0) (Zd2 (Zc (Zd 1) Zq))))) (Y0 1)))
  (wE (W3 1 [] (Zf5 (fBl (Zh1 kdL ltI) (Zc (Zd 1) Zq))) (gNm 0) (tV (Zj gGt (Zag Zai (Zc (Zd 0) Zq)) (fC (.int 0)))) (Zd 0)) Wu)))
def Yx:FD:=Jh 1 3 Zd5
def Zcr:FS :=
 (Z6 (wE (Zd2 Zq) (Zcb 1))
  (Z6 (Zau (Z1z (Zc (Zd 0) Zq)) (gTp 2 (gCn (gNm 2) (gCn (gNm 3) gNl)))
  (Zau (Zf5 (fSl (Zd 0) (oI (Zd 2)) oN)) (gNm 4)
  (Wl 1 (Ze2 (Zc (Zd 3) (Zc (Zd 4) Zq))))))
  (Zft 1)))
def Ja:FD:=Jh 1 5 Zcr
def Zac:FS :=
 (Z6 (wE (W3 1 [1] (iRa (Zc (Zag Zai (Zc (Zd 0) Zq)) Zq)) (gNm 0) (tV (Zj (Zuf YD) (Zd 0) (Zd 1))) (Zd 0)) (Y0 3))
  (Z6 (wE (Zy Ja (Zc (Zd 3) Zq)) (Y0 4))
  (Z6 (wE (Zgd 2 "tree_rule" Yu (Zc (Zy Ye (Zc (Zd 0) (Zc (Yl gIx (Zd 1) (fC (.int 0))) (Zc (Yl gIx (Zd 1) (fC (.int 0))) (Zc (fC (.int 0)) (Zc (fC (.int 0)) Zq)))))) Zq)) (Y0 5))
  (Z6 (Zau (Zf5 (Zy Ja (Zc (Zd 1) Zq))) (gTp 2 (gCn (gNm 6) (gCn (gNm 7) gNl)))
  (Z6 (Zau (Zf5 (Zd 4)) (gTp 2 (gCn (gNm 8) (gCn (gNm 9) gNl)))
  (wE (Zag Z3x (Zc (Zd 5) (Zc (Zgd 2 "tree_rule" Yu (Zc (Zy Ye (Zc (Zd 0) (Zc (Zd 6) (Zc (Zd 7) (Zc (Zd 8) (Zc (Zd 9) Zq)))))) Zq)) Zq))) (Y0 5)))
  (Zaf (tV (Zj gLe (Zd 5) (fC (.int 0))))
  (wE (fC (.int 0)) Wu)
  fNx)))
  (wE (Zd 5) Wu)))))
def Ym:FD:=Jh 3 10 Zac
def Zb5:FS :=
 (Z6 (wE (Zy Z0 (Zc (Zd 0) Zq)) (Y0 2))
  (Z6 (wE (Zy Yd (Zc (Zd 2) (Zc (Zd 0) Zq))) (Y0 3))
  (Z6 (wE (Zd2 Zq) (Zcb 4))
  (Z6 (Zau (Zf5 (Zy Yx (Zc (Zag Zai (Zc (Zd 0) Zq)) Zq))) (gNm 5)
  (Z6 (wE (Zy Ym (Zc (Zd 3) (Zc (Zd 5) (Zc (Zd 1) Zq)))) (Y0 6))
  (Zaf (tV (Zj gGt (Zd 6) (fC (.int 0))))
  (Wl 4 (Ze2 (Zc (Zd 5) (Zc (Zy Yr (Zc (Zd 6) (Zc (Zj Zf4 (fC (.int 2)) (Zd 2)) Zq))) Zq))))
  fNx)))
  (Zft 4)))))
def J2:FD:=Jh 2 7 Zb5
def Zdm:FS :=
 (Z6 (wE (Zy Zak (Zc (Zd 0) Zq)) (Y0 1))
  (Z6 (Zaf (tV (Zj Zgu (Zd 1) (fC .none)))
  (wE (Ze2 (Zc (fC (.str "bars")) (Zc (Zd 1) Zq))) Wu)
  fNx)
  (wE (Ze2 (Zc (fC (.str "tree")) (Zc (Zy J2 (Zc (Zd 0) (Zc (fC (fnD "tree_rule")) Zq))) Zq))) Wu)))
def Jm:FD:=Jh 1 2 Zdm
def Zk2:FS :=
 (Z6 (wE (Zy Jv (Zc (Zy W0 (Zc (Zd 0) (Zc (fC (.int 0)) Zq))) (Zc (fC (.int 3)) (Zc (fC (.int 6)) (Zc (fC (.int 8)) Zq))))) (Y0 1))
  (Z6 (wE (Zy W0 (Zc (Zd 0) (Zc (fC (.int 1)) Zq))) (Y0 2))
  (Z6 (wE (Zy Wg (Zc (Zj Zbv (Zd 2) (fC (.int 12))) (Zc (Zd 1) Zq))) (Y0 3))
  (Z6 (wE (Zy J5 (Zc (Zd 0) (Zc (fC (.int 2)) (Zc (Zag Zai (Zc (Zd 3) Zq)) (Zc (Zd 2) Zq))))) (Y0 4))
  (Z6 (wE (Zy Jc (Zc (Zd 2) Zq)) (Y0 5))
  (Z6 (wE (Zy Zax (Zc (Zy Zbt (Zc (Zd 1) (Zc (Zd 3) (Zc (Zd 4) Zq)))) (Zc (Zd 5) Zq))) (Y0 6))
  (Z6 (wE (Zy Jp (Zc (Zd 3) (Zc (Zd 4) (Zc (Zd 5) Zq)))) (Y0 7))
  (Z6 (wE (Zy Jb (Zc (Zd 6) Zq)) (Y0 8))
  (Z6 (Zaf (tO (tNo (tD (Zph "list" (Zd 8)))) (tO (tV (Zj gNe (fBl Zfa (Zc (Zd 8) Zq)) (Z8g (Zc (Zd 1) Zq)))) (tO (tV (Zj gNe (Yl gIx (Zd 8) (fC (.int 0))) (fC (.int 0)))) (tV (Zj gGt (Yl gIx (Zd 8) (fC (.int 1))) (Yl gIx (Zd 8) (fUn Zo2 (fC (.int 1)))))))))
  (wE (fC (.bool YF)) Wu)
  fNx)
  (Z6 (Zaf (tO (tNo (tD (Zy (Zt 8) (Zc (Zy Wr (Zc (Zd 6) (Zc (Zd 8) Zq))) (Zc (Ze2 (Zc (fC (.str "ring")) (Zc (Zd 7) Zq))) Zq))))) (tNo (tD (Zy (Zt 8) (Zc (Zy Jm (Zc (Zd 6) Zq)) (Zc (Ze2 (Zc (fC (.str "tree")) (Zc (Zd 7) Zq))) Zq))))))
  (wE (fC (.bool YF)) Wu)
  fNx)
  (Z6 (Zau (iRa (Zc (Zd 1) Zq)) (gNm 9)
  (Zaf (tV (Zj gGt (Zd 1) (fC (.int 4))))
  (Z6 (wE (Zy Jj (Zc (Zd 6) (Zc (W3 1 [9] (iRa (Zc (Zd 1) Zq)) (gNm 0) (tV (Zj gNe (Zd 0) (Zd 1))) (Zd 0)) Zq))) (Y0 10))
  (Zaf (tV (Zj gNe (Yl gIx (Zy Wr (Zc (Zd 10) (Zc (Zy Wy (Zc (Zd 8) (Zc (Zd 9) Zq))) Zq))) (fC (.int 0))) (fC (.str "ring"))))
  (wE (fC (.bool YF)) Wu)
  fNx))
  fNx))
  (wE (fC (.bool YD)) Wu))))))))))))
def Zhd:FD:=Jh 1 11 Zk2
end My
namespace My
open PySem L2 PySem.Spec
theorem Zxv(p:List Int):Sh 1 (Zg p):=Zx0 λd m=>by
 obtain⟨x,_,rfl⟩:=Xv.mp m;exact Zyl x
theorem Ztf(h:∀d∈ds,Wf d=YD):Wf (.list ds)=YD:=by
 rw[Wf]
 induction ds with
 | nil=>rfl
 | cons d ds ih=>rw[Zfu,h d (.head _),ih λe he=>h e (.tail _ he)];rfl
theorem Zhh(p:List Int):Wf (Zg p)=YD:=Ztf λd m=>by
 obtain⟨x,_,rfl⟩:=Xv.mp m;rfl
theorem Z03{a b:List Int}(h:Zg a=Zg b):a=b:=by
 unfold Zg at h;injection h with h;exact List.map_inj_right (λx y z=>by injection z)|>.mp h
theorem Zse(a b:List Int):gNe (Zg a) (Zg b)=YB (.bool (!decide (a=b))):=by
 have s:Uz (Zg a)=YD:=((Zxv a).shp (by omega)).ok;have t:Uz (Zg b)=YD:=((Zxv b).shp (by omega)).ok;unfold gNe;rw[YL (by rw[s,t];rfl)]
 by_cases c:a=b
 .subst c
  rw[Zr6 (Zhh a)];simp
 .have:Q6 (Zg a) (Zg b)=YF:=by
   cases e:Q6 (Zg a) (Zg b)with
   | false=>rfl
   | true=>exact YX (Z03 ((Zlt _ _ (Zhh a) (Zhh b)).mp e)) c
  rw[this,YS c]
theorem Zey(h:p.length<64):Zfa [Zg p]=YB (.nd (((Yh p).map Xk).map OT.fz)):=by
 show((Zdq (p.map Xk)).bind λns=>if ns.length<64 then YB (OT.nd (((Yh ns).map Xk).map OT.fz))else YC)=_;rw[J3,Xg,YL h]
theorem Zmo{i:Int}(h0:0<=i)(h1:i<p.length):gIx (Zg p) (.int i)=YB (.fz (.int (p.getD i.toNat 0))):=by
 unfold Zg;rw[Zqo,Zss h0 h1];rfl
theorem Zim(h:0<p.length):gIx (Zg p) (.int (-1))=YB (.fz (.int (p.getD (p.length-1) 0))):=by
 unfold Zg;rw[Zqo];have e:p=p.dropLast++[p.getLast (by intro z;rw[z]at h;simp at h)]:=(List.dropLast_concat_getLast _).symm;have g:p.getD (p.length-1) 0=p.getLast (by intro z;rw[z]at h;simp at h):=by
  rw[List.getLast_eq_getElem,Xb,Xf (by omega)];rfl
 rw[g]
 conv=>lhs;rw[e,Qg]
 rw[XM,List.map_nil,Zq0];rfl
def Jx(n:Int):List Int:=(Xo n.toNat).map λi:Nat=>(i:Int)
theorem Z0c(n:Int):Qu (Zdn 0 n.toNat)=Zg (Jx n):=by
 unfold Zg Jx Zdn;rw[XR];refine YT _ (Xu λi _=>?_);show Xk (0+(i:Int))=Xk (i:Int);rw[Bh]
def ringB(n:Int)(p:List Int):Bool:=decide (3<=n)&&(decide (Yh p=Jx n)&&(decide (p.getD 0 0=0)&&decide (p.getD 1 0<p.getD (p.length-1) 0)))
theorem Ztt{n:Int}(h:p.length<64)(hn:n<=1000000):Zcd [.int n,Zg p]= .ok (.fz (.bool (ringB n p))):=by
 refine Told.ok (Zx rfl (Zga (ds:=p.map Xk) (λi δ=>∃z,δ=[YB (.fz (.int n)),YB (.fz (Zg p)),z]) (Js Za) ⟨_,rfl⟩ (λi d δ hd q=>?_) λδ' q=>?_))
 .obtain⟨z,rfl⟩:=q
  obtain⟨x,_,rfl⟩:=Xv.mp (Qz hd);exact⟨_,_,rfl,.inl (Z5 (Zke (p:=YD) (Ze1 (Zo (Zb Za Zh) (.of (Zh3 x) (OT.data_fz _))))) rfl),_,rfl⟩
 obtain⟨z,rfl⟩:=q;unfold ringB
 by_cases c:n<3
 .rw[YS (show¬3<=n by omega)]
  exact Wx (Zaj (Yaz (Zan (Zdr Za Z1 (YQ c)))) (Z7 Z1))
 have t1:∀{b:Bool},(!decide (Yh p=Jx n))=b->EvT (tO (tV (Zj gLt (Zd 0) (fC (.int 3)))) (tV (Zj gNe (fBl Zfa (Zc (Zd 1) Zq)) (Z8g (Zc (Zd 0) Zq))))) [YB (.fz (.int n)),YB (.fz (Zg p)),z] b:=λhb=>Z3n (Zan (Zdr Za Z1 (YS c))) (Zan (Zz (Zo9 (Zb Za Zh) (Zey h) (Zf3 _)) (Yab (Zb Za Zh) (by omega) hn) (by rw[Z0c,Zse,hb])));rw[YQ (show 3<=n by omega)]
 by_cases c2:Yh p=Jx n
 .have hp:n.toNat=p.length:=by
   have:=YT List.length c2;rw[(Z2 p).length_eq]at this;unfold Jx at this;simpa using this.symm
  rw[YQ c2]at t1|-
  refine Zr (Z5 (t1 rfl) rfl) (Z7 ?_);have a0:=Y5 (p:=p) (δ:=[YB (.fz (.int n)),YB (.fz (Zg p)),z]) (Za (i:=1)) (Z1 (d:=.int 0)) (by decide) (by omega)
  by_cases c3:p.getD 0 0=0
  .rw[YQ c3]
   exact Zf8 (Zm5 a0 Z1 (YQ c3)) (Zdr (Y5 Za Z1 (by decide) (by omega)) (Wq Za (Zjl Z1) (Zim (by omega))) rfl)
  .rw[YS c3]
   exact Z1r (Zm5 a0 Z1 (YS c3))
 .rw[YS c2]at t1|-
  exact Wx (Zaj (t1 rfl) (Z7 Z1))
def Zzf(n:Nat)(f:Nat->Int):Xa:=.list ((Xo n).map λj=>.int (f j))
def Yn(n:Nat)(r:Nat->Nat->Int):Xa:=.list ((Xo n).map λi=>Zzf n (r i))
theorem Zrz{n:Nat}(f:Nat->α)(h:i<n):atI ((Xo n).map f) (i:Int)=YB (f i):=by
 rw[Zx4,Xp,QG h];rfl
theorem Z4i{n:Nat}{f:Nat->Int}(h:j<n):gIx (Zzf n f) (.int (j:Int))=YB (.fz (.int (f j))):=by
 unfold Zzf;rw[Zqo,Zrz _ h];rfl
theorem Z2a{n:Nat}{r:Nat->Nat->Int}(h:i<n):gIx (Yn n r) (.int (i:Int))=YB (.fz (Zzf n (r i))):=by
 unfold Yn;rw[Zqo,Zrz _ h];rfl
theorem Zct(n:Nat)(r:Nat->Nat->Int):Zai [Yn n r]=YB (.int n):=by
 unfold Yn;rw[Zoz,Xd,XD]
theorem Zxb{t:Int}(hb:b≠0):((XH t b).den:Int)∣b:=by
 rw[Rat.den_divInt,YM hb];have:(b.natAbs/b.gcd t:Nat)∣b.natAbs:=Nat.div_dvd_of_dvd (by rw[VN];exact Nat.gcd_dvd_left ..);exact Int.ofNat_dvd_left.mpr this
theorem Zez{a m k:Int}(hk:0<k)(hm:0<m):XH (k*a) (m*k)=XH a m:=by
 rw[Int.mul_comm k a];exact Rat.divInt_mul_right (by omega)
theorem Zmk{n:Int}(h:p.length<64)(hn:n<=1000000)(c:ringB n p=YD):Je [.int n,Zg p]= .ok (.fz .none) :=
 (Zyz rfl (Z5 (Zke (p:=YD) (Ze1 (Zo (Zb Za (Zb Za Zh)) (.of (by rw[Ztt h hn,c]) (OT.data_fz _))))) rfl)).none
def tw(S:Nat->Nat->Int)(x p y q:Nat):Int:=S x y+S p q-S x q-S p y
def pn(p:List Int)(i:Nat):Nat:=(p.getD i 0).toNat
def InR(n:Nat)(p:List Int):Prop:=p.length=n/\∀i,i<n->0<=p.getD i 0/\p.getD i 0<n
theorem InR.at{n:Nat}{p:List Int}(h:InR n p){i:Nat}(hi:i<n):gIx (Zg p) (.int (i:Int))=YB (.fz (.int (pn p i:Nat)))/\pn p i<n:=by
 obtain⟨h1,h2⟩:=h;obtain⟨a,b⟩:=h2 i hi;rw[Zmo (by omega) (by omega),Q7];unfold pn;rw[JV a];exact⟨rfl,by omega⟩
theorem Zq3{b n:Nat}(h:0<n):Zgz (.int ((b:Int)+1)) (.int (n:Int))=YB (.int (((b+1)%n:Nat):Int)):=by
 rw[Z4a (by omega),show((b:Int)+1).fmod (n:Int)=(((b+1)%n:Nat):Int) by rw[Zgb (by omega)];push_cast;rfl]
theorem Zb6{n x y:Nat}{S:Nat->Nat->Int}(hx:x<n)(hy:y<n)(h0:δ[0]? =YB (YB (.fz (Yn n S))))(h1:δ[i]? =YB (YB (.fz (.int x))))(h2:δ[j]? =YB (YB (.fz (.int y)))):EvV (Yl gIx (Yl gIx (Zd 0) (Zd i)) (Zd j)) δ (.int (S x y)):=Wq (Wq (Za h0) (Za h1) (Z2a hx)) (Za h2) (Z4i hy)
theorem Zit{n a b:Nat}{S:Nat->Nat->Int}(h:InR n p)(hab:a<b)(hb:b<n):Z4 [Yn n S,Zg p,.int a,.int b]= .ok (.fz (.int (tw S (pn p a) (pn p (a+1)) (pn p b) (pn p ((b+1)%n))))):=by
 have hm:(b+1)%n<n:=Nat.mod_lt _ (by omega);obtain⟨e1,l1⟩:=h.at (i:=a) (by omega);obtain⟨e2,l2⟩:=h.at (i:=a+1) (by omega);obtain⟨e3,l3⟩:=h.at hb;obtain⟨e4,l4⟩:=h.at hm;exact Told.int<|Zx rfl<|Zr (Zu (Wq Za Za e1))<|Zr (Zu (Wq Za (Y9 Za Z1) e2))<|Zr (Zu (Wq Za Za e3))<|
  Zr (Zu (Wq Za (Zz (Y9 Za Z1) (Jf (Zb Za Zh) (Zct n S)) (Zq3 (by omega))) e4))<|
  Z7 (Zei (Zei (Y9 (Zb6 l1 l3 rfl rfl rfl) (Zb6 l2 l4 rfl rfl rfl)) (Zb6 l1 l4 rfl rfl rfl)) (Zb6 l2 l3 rfl rfl rfl))
def Jo(n:Nat)(R:Nat->Nat->Int)(b:Int):List (List Rat):=(Xo n).map λi=>(Xo n).map λj=>XH (R i j) b
theorem Zqj(T:List (List Rat)):Zai [tbD T]=YB (.int T.length):=by
 unfold tbD;rw[Zoz,Xd]
theorem Zgq(n:Nat)(R:Nat->Nat->Int)(b:Int):(Jo n R b).length=n:=by unfold Jo;simp
theorem Zyf{S R:Nat->Nat->Int}{m k:Int}(hm:0<m)(hk:0<k){x p y q:Nat}(h1:k*S x y=R x y)(h2:k*S p q=R p q)(h3:k*S x q=R x q)(h4:k*S p y=R p y) :
  XH (tw S x p y q) (2*m)=XH (tw R x p y q) (2*(m*k)):=by
 have e:tw R x p y q=k*tw S x p y q:=by
  unfold tw;rw[<-h1,<-h2,<-h3,<-h4];simp only[Ue,Int.mul_sub]
 rw[e,show 2*(m*k)=(2*m)*k by rw[Int.mul_assoc],Zez hk (by omega)]
theorem Z3v{n:Nat}{R:Nat->Nat->Int}(hn:n<64)(hb:0<b)(bb:Bt 300 b)(bR:∀i j,i<n->j<n->Bt 300 (R i j)):∃(m k:Int) (S:Nat->Nat->Int),Told Z0 [tbD (Jo n R b)] (.int m)/\Told Yd [.int m,tbD (Jo n R b)] (Yn n S)/\0<m/\0<k/\b=m*k/\Bt 300 m/\∀x y,x<n->y<n->k*S x y=R x y:=by
 have hz:∀r∈Jo n R b,r.length<=1000:=λr hr=>by
  unfold Jo at hr;obtain⟨x,_,rfl⟩:=Xv.mp hr;rw[Xd,XD];omega
 have hB:Z86 (Jo n R b) b:=λr hr q hq=>by
  unfold Jo at hr;obtain⟨x,_,rfl⟩:=Xv.mp hr;obtain⟨y,_,rfl⟩:=Xv.mp hq;exact Zxb (by omega)
 have hN:∀r∈Jo n R b,∀q∈r,Bt 300 q.num:=λr hr q hq=>by
  unfold Jo at hr;obtain⟨x,hx,rfl⟩:=Xv.mp hr;obtain⟨y,hy,rfl⟩:=Xv.mp hq;exact Zq2 (by omega) (bR x y (Xx.mp hx) (Xx.mp hy))
 obtain⟨m,e1,m0,hm,k,rfl⟩:=Zej hb bb (by decide) (Jo n R b) hz hB;have k0:0<k:=by
  by_cases c:0<k
  .exact c
  .have:=Bj (a:=m) (b:=k) (by omega) (by omega)
   omega
 have bm:Bt 300 m:=Zlj hb ⟨k,rfl⟩ bb;have e2:=Zf6 m0 bm (Jo n R (m*k)) (by rw[Zgq];omega) hz hm hN;have sc:∀x y,x<n->y<n->k*scI m (XH (R x y) (m*k))=R x y:=λx y hx hy=>by
  have hd:((XH (R x y) (m*k)).den:Int)∣m:=hm _ (Xv.mpr ⟨x,Xx.mpr hx,rfl⟩) _ (Xv.mpr ⟨y,Xx.mpr hy,rfl⟩);have:=Z3i hd;have e:((k*scI m (XH (R x y) (m*k)):Int):Rat)=((R x y:Int):Rat):=by
   have nk:((k:Int):Rat)≠0:=by
    intro z;have:k=0:=by exact_mod_cast z
    omega
   have nm:((m:Int):Rat)≠0:=by
    intro z;have:m=0:=by exact_mod_cast z
    omega
   rw[Ut,this,Q5,Ut];rw[Rat.mul_comm,Rat.mul_assoc];exact Rat.div_mul_cancel (λz=>(Rat.mul_eq_zero.mp z).elim nm nk)
  exact_mod_cast e
 have er:Qu ((Jo n R (m*k)).map λr=>.list (r.map λq=>.int (scI m q)))=Yn n (λi j=>scI m (XH (R i j) (m*k))):=by
  unfold Jo Yn;rw[XR];refine YT Qu (Xu λi _=>?_);show Qu _=Zzf _ _;rw[XR];rfl
 exact⟨m,k,_,e1,er▸e2,m0,k0,rfl,bm,sc⟩
theorem Zkx{n:Nat}{t:Int}(hb:0<b)(hB:Bt n b)(hn:n<=9000:=by decide):Told Zat [.int t,.int b] (frD (XH t b)):=by
 obtain⟨z',e⟩:=Zlw (f1:=λx y z=>[YB (.fz (.int t)),YB (.fz (.int b)),YB (.fz (.int x)),YB (.fz (.int y)),z]) (f2:=λx y z=>[]) (t:=tV (Zj gNe (Zd 3) (fC (.int 0)))) (u:=Z6 (wE (Zj Zgz (Zd 2) (Zd 3)) (Y0 4)) (Z6 (wE (Zd 3) (Y0 2)) (wE (Zd 4) (Y0 3)))) (λx y z=>Zan (Ztj Za Z1 rfl)) (λx y z hy=>⟨_,Y6 (Zu (Za1 Za Za hy)) (Y6 (Zu Za) (Zu Za))⟩) (b.toNat+1) (t.natAbs:Int) b YC (by omega) (by omega) (by omega);have eg:(Bx (t.natAbs:Int) b:Int)=shr t b:=by
  unfold shr;rw[YM (by omega),VN,VN,Int.natAbs_natCast]
 obtain⟨e1,e2⟩:=Ycu (t:=t) (b:=b) (by omega) hB hn _ eg;exact Zx rfl<|Zr (Zu (Jf (Zb Za Zh) (Zxd t)))<|Zr (Zu Za)<|Zr (Znk _ e (by intro z;cases z)) (Z7 (Jt (Zb (Zz Za Za e1) (Zb (Zz Za Za e2) Zh)) (show 2<=1000 by decide)))
theorem Yjs:Zzn (.int 10) (.int 20)=YB (.int 100000000000000000000):=rfl
theorem Yka:Zzn (.int 10) (.int 15)=YB (.int 1000000000000000):=rfl
theorem btc{n:Nat}{m:Int}(h1:decide (-(2^n)<m)=YD)(h2:decide (m<2^n)=YD):Bt n m:=Bt.of_lt (YW h1) (YW h2)
def Zxg(r:List Int):OT:=.nd (r.map λx=>.fz (.int x))
def Dr(n:Nat)(base:Int)(L:List (List Int)):Prop:=L.length=n/\∀r∈L,r.length=n/\∀x∈r,0<=x/\x<base
theorem Dr.put{n:Nat}{base v:Int}{L:List (List Int)}(h:Dr n base L)(h0:0<=v)(h1:v<base)(a b:Nat):Dr n base (L.set a ((L.getD a []).set b v)):=by
 refine⟨by rw[Vr];exact h.1,λr hr=>?_⟩;rcases List.mem_or_eq_of_mem_set hr with hr|rfl
 .exact h.2 r hr
 .by_cases c:a<L.length
  .have m:L.getD a []∈L:=by rw[Xb,Xf c];exact Q4 c
   obtain⟨h3,h4⟩:=h.2 _ m;refine⟨by rw[Vr];exact h3,λx hx=>?_⟩;rcases List.mem_or_eq_of_mem_set hx with hx|rfl
   .exact h4 x hx
   .exact⟨h0,h1⟩
  .rw[List.set_eq_of_length_le (by omega)]at hr
   exact h.2 _ hr
theorem Z7u{e j j2:FE}{d:Int}{L:List (List Int)}{a b:Nat}(he:EvV e δ (.int d))(hi:δ[i]? =YB (YB (.nd (L.map Zxg))))(hj:EvV j δ (.int a))(ha:a<L.length)(hk:EvV j2 δ (.int b))(hb:b<(L.getD a []).length) :
  Zy3 i e j j2 δ= .nx (δ.set i (YB (.nd ((L.set a ((L.getD a []).set b d)).map Zxg)))):=by
 have e1:(L.map Zxg)[a]? =YB (.nd ((L.getD a []).map λx=>.fz (.int x))):=by
  rw[Xp,Xf ha,Xb,Xf ha];rfl
 obtain⟨_,e2,d2⟩:=he;obtain⟨_,e3,d3⟩:=hj;obtain⟨_,e4,d4⟩:=hk;unfold Zy3;rw[Zgm,e2,Jd,hi];dsimp only;rw[Zgm,e3,Jd,d3];dsimp only;rw[Zrn (by rw[Xd];exact ha)];dsimp only;rw[e1];dsimp only;rw[Zgm,e4,Jd,d4];dsimp only;rw[Zrn (by rw[Xd];exact hb)];dsimp only;rw[d2];refine YT RS.nx (YT (δ.set i) (YT YB (YT OT.nd ?_)));rw[List.map_set];refine YT _ ?_;show _=OT.nd _;rw[List.map_set]
def fnL(L:List (List Int))(i j:Nat):Int:=(L.getD i []).getD j 0
theorem Z7n{L:List (List Int)}{a b:Nat}{v:Int}(ha:a<L.length)(hb:b<(L.getD a []).length)(x y:Nat):fnL (L.set a ((L.getD a []).set b v)) x y=if x=a/\y=b then v else fnL L x y:=by
 unfold fnL;rw[Xb (l:=L.set a _),List.getElem?_set]
 by_cases c:a=x
 .subst c
  rw[YL rfl,YL ha];show(((L.getD a []).set b v).getD y 0)=_;rw[Xb,List.getElem?_set]
  by_cases e:b=y
  .subst e
   rw[YL rfl,YL hb,YL ⟨rfl,rfl⟩];rfl
  .rw[YM e,YM λz=>e z.2.symm,<-Xb]
 .rw[YM c,YM λz=>c z.1.symm,<-Xb]
def Z1o(p:List Int)(lo hi:Option Int):List Int:=(p.drop (HT.sIx p.length 0 lo)).take (HT.sIx p.length p.length hi-HT.sIx p.length 0 lo)
theorem Z1a(p:List Int)(lo hi:Option Int):cutD (p.map Xk) lo hi=(Z1o p lo hi).map Xk:=by
 unfold cutD Z1o;rw[Xd,List.map_take,List.map_drop]
theorem Zwa{k:Nat}(h:k<=p.length):Z1o p YC (YB (k:Int))=p.take k:=by
 unfold Z1o;rw[HT.sIx_none,HT.sIx_nat,List.drop_zero,Nat.sub_zero,Nat.min_eq_left h]
theorem Zoa{k:Nat}(h:k<=p.length):Z1o p (YB (k:Int)) YC=p.drop k:=by
 unfold Z1o;rw[HT.sIx_none,HT.sIx_nat,Nat.min_eq_left h,List.take_of_length_le (by rw[QR];omega)]
theorem Z2h(e:FE)(lo hi st:FO)(δ:Zm):Z0u e lo hi st δ=(e δ).bind λp=>(lo p.2).bind λq=>(hi q.2).bind λr=>(st r.2).bind λt=>(stepOf p.1.data q.1 r.1 t.1).bind λo=>YB (o,t.2):=rfl
theorem Zva(p:List Int):stepOf (Zg p) YC (YB 0) (YB (-1))=YB (.nd ((((p.drop 1).reverse).map Xk).map OT.fz)):=by
 unfold Zg;rw[Zpn,show((p.map Xk).drop 1).reverse=((p.drop 1).reverse).map Xk by rw[List.map_reverse,List.map_drop]]
def Pm(n:Nat)(p:List Int):Prop:=p.Perm (Jx n)
theorem Y4{n:Nat}{x:Int}:x∈Jx n↔0<=x/\x<n:=by
 unfold Jx;rw[Q7,Xv];constructor
 .rintro⟨i,hi,rfl⟩
  have:=Xx.mp hi;omega
 .rintro⟨h0,h1⟩
  exact⟨x.toNat,Xx.mpr (by omega),by omega⟩
theorem Zb0(n:Nat):(Jx n).Nodup:=by
 unfold Jx;rw[Q7];exact QW.mpr (List.nodup_range.imp λh e=>h (by omega))
theorem Zf9(n:Nat):(Jx n).Pairwise (·<=·):=by
 unfold Jx;rw[Q7,QW];exact List.pairwise_lt_range.imp λh=>by omega
theorem Zli(n:Nat):(Jx n).length=n:=by unfold Jx;simp
theorem Pm.len{n:Nat}(h:Pm n p):p.length=n:=by rw[h.length_eq,Zli]
theorem Pm.nodup{n:Nat}(h:Pm n p):p.Nodup:=h.nodup_iff.mpr (Zb0 n)
theorem getD_mem(h:i<p.length):p.getD i 0∈p:=by
 rw[Xb,Xf h];exact Q4 h
theorem Pm.inR{n:Nat}(h:Pm n p):InR n p:=⟨h.len,λi hi=>Y4.mp (h.mem_iff.mp (getD_mem (by rw[h.len];exact hi)))⟩
theorem Pm.ne{n:Nat}(h:Pm n p)(hi:i<n)(hj:j<n)(e:p.getD i 0=p.getD j 0):i=j:=by
 have hl:=h.len;rw[Xb,Xb,Xf (by omega),Xf (by omega)]at e;have nd:=Ui.mp h.nodup;rcases UW i j with c|c|c
 .exact(nd i j (by omega) (by omega) c e).elim
 .exact c
 .exact(nd j i (by omega) (by omega) c e.symm).elim
theorem Pm.ringB{n:Nat}(h:Pm n p)(h3:3<=n)(h0:p.getD 0 0=0)(h1:p.getD 1 0<p.getD (n-1) 0):ringB n p=YD:=by
 unfold My.ringB;rw[YQ (show(3:Int)<=n by omega),YQ (J9 ((Z2 p).trans h) (W8 p) (Zf9 n)),YQ h0,h.len,YQ h1];rfl
theorem Z2d{a b:FE}{k:Int}(ha:a δ=YB (.fz (Zg p),δ))(hp:p.length<=1000)(hb:b δ=YB (.fz (.int k),δ))(hk:k∈p):Zoj a b δ=YB (.fz (.int (p.idxOf k:Nat)),δ):=by
 unfold Zoj;rw[ha,Xg,OT.data_fz];unfold Zg;dsimp only;rw[J3,Xg,YL (by omega),hb,Xg,OT.data_fz];dsimp only;rw[YL hk]
def flip(w:List Int):List Int:=w.take 1++(w.drop 1).reverse
theorem Zix(a:Int)(t:List Int):flip (a::t)=a::t.reverse:=rfl
theorem Zy5(w:List Int):(flip w).Perm w:=by
 cases w with
 | nil=>exact .nil
 | cons a t=>rw[Zix];exact(List.reverse_perm t).cons a
theorem Z0w{w:List Int}(h:2<=w.length):(flip w).getD 0 0=w.getD 0 0/\(flip w).getD 1 0=w.getD (w.length-1) 0/\(flip w).getD (w.length-1) 0=w.getD 1 0:=by
 match w,h with
 | a::b::t,_=>
  rw[Zix];simp only[Xb,JR];refine⟨rfl,?_,?_⟩
  .rw[VD,V0 (by simp)]
   simp only[JR,Nat.add_sub_cancel,Nat.sub_zero];rw[VD (l:=b::t)]
  .rw[show t.length+1+1-1=t.length+1 by omega,VD,V0 (by simp)]
   simp
end My
variable {r:List Int}{S R:Nat->Nat->Int}{γ:Type}
namespace My
open PySem L2 PySem.Spec
theorem Zu6{e:FE}{lo hi:FO}{l h:Option Int}(he:EvV e δ (Zg r))(hl:EvO lo δ l)(hh:EvO hi δ h)(hp:Z1o r l h=p):EvV (fSl e lo hi) δ (Zg p):=hp▸(Yfe (ds:=r.map Xk) he hl hh).cast (by rw[Z1a];rfl)
theorem Zsj{a b:FE}{q:List Int}(ha:EvV a δ (Zg p))(hb:EvV b δ (Zg q))(h:p.length<=1000)(k:q.length<=1000):EvV (Yl Zlb a b) δ (Zg (p++q)):=(Zsq (ds:=p.map Xk) (es:=q.map Xk) ha hb (by rw[Xd,Xd];omega)).cast (by rw[<-Qg];rfl)
theorem Zya{e:FE}{x:Int}(h:EvV e δ (.int x)):EvV (Zd2 (Zc e Zq)) δ (Zg [x]):=Zhy (Zb h Zh) (show 1<=1000 by decide)
theorem Z80{e:FE}{hi st:FO}(he:EvV e δ (Zg r))(hh:EvO hi δ (YB 0))(hs:EvO st δ (YB (-1))):EvV (Z0u e oN hi st) δ (Zg ((r.drop 1).reverse)):=by
 obtain⟨t,e1,d1⟩:=he;unfold EvO at hh hs;exact⟨_,by rw[Z2h,e1,Xg,Ye3,Xg,hh,Xg,hs,Xg,d1,Zva,Xg],Zf3 _⟩
theorem Zjf(f:α->β):∀(l:List α) (j:Nat),(l.map f).eraseIdx j=(l.eraseIdx j).map f
 | [],_=>rfl
 | _::_,0=>rfl
 | a::l,j+1=>by
  show f a::(l.map f).eraseIdx j=f a::(l.eraseIdx j).map f;rw[Zjf f l j]
def sm(f:Nat->Int):Nat->Int
 | 0=>0
 | n+1=>sm f n+f n
theorem Zgg{f g:Nat->Int}:∀n,(∀i,i<n->f i=g i)->sm f n=sm g n
 | 0,_=>rfl
 | n+1,h=>by rw[sm,sm,Zgg n λi hi=>h i (Nat.lt_succ_of_lt hi),h n (Vj n)]
theorem Z3w(f g:Nat->Int):∀n,sm (λi=>f i+g i) n=sm f n+sm g n
 | 0=>rfl
 | n+1=>by rw[sm,sm,sm,Z3w f g n];omega
theorem Zna:∀n,sm (λ_=>0) n=0
 | 0=>rfl
 | n+1=>by rw[sm,Zna n];rfl
def cl(lo hi x:Nat):Nat:=if x<lo then lo else if x<hi then x else hi
theorem Yek(k:Nat->Int){lo hi:Nat}(h:lo<=hi)(s:Nat):∀m,sm (λj=>if lo<=s+j/\s+j<hi then k (s+j)-k (s+j+1)else 0) m=k (cl lo hi s)-k (cl lo hi (s+m))
 | 0=>by rw[sm,Nat.add_zero];omega
 | m+1=>by
  rw[sm,Yek k h s m];have e:s+(m+1)=s+m+1:=rfl;rw[e];generalize s+m=x
  by_cases a:lo<=x/\x<hi
  .rw[YL a]
   have e1:cl lo hi x=x:=by unfold cl;rw[YM (by omega),YL a.2]
   have e2:cl lo hi (x+1)=x+1:=by
    unfold cl;rw[YM (by omega)]
    by_cases c:x+1<hi
    .rw[YL c]
    .rw[YM c];omega
   rw[e1,e2];omega
  .rw[YM a]
   have e1:cl lo hi (x+1)=cl lo hi x:=by
    unfold cl
    by_cases b:x<lo
    .rw[YL b]
     by_cases c:x+1<lo
     .rw[YL c]
     .rw[YM c]
      by_cases d:x+1<hi
      .rw[YL d];omega
      .rw[YM d];omega
    .rw[YM b,YM (by omega),YM (by omega),YM (by omega)]
   rw[e1];omega
theorem Z55{lo hi x:Nat}(h:lo<=hi)(a:x<=lo):cl lo hi x=lo:=by
 unfold cl
 by_cases c:x<lo
 .rw[YL c]
 .rw[YM c]
  by_cases d:x<hi
  .rw[YL d];omega
  .rw[YM d];omega
theorem Z7a{lo hi x:Nat}(h:lo<=hi)(a:hi<=x):cl lo hi x=hi:=by
 unfold cl;rw[YM (by omega),YM (by omega)]
def twP(n:Nat)(D:Nat->Nat->Int)(a c:Nat):Int:=D a c+D (a+1) ((c+1)%n)-D a ((c+1)%n)-D (a+1) c
def inS(a c x:Nat):Bool:=decide (a<x)&&decide (x<=c)
def Zmb(a c u v:Nat):Bool:=inS a c u !=inS a c v
theorem Wi{a c x:Nat}:inS a c x=YD↔a<x/\x<=c:=by
 unfold inS;rw[XC,decide_eq_true_eq,decide_eq_true_eq]
theorem Zm3{a c u v:Nat}:Zmb a c u v=YD↔¬((a<u/\u<=c)↔(a<v/\v<=c)):=by
 unfold Zmb;rw[bne_iff_ne,ne_eq,Us,Wi,Wi]
def kw(n:Nat)(D:Nat->Nat->Int)(a c:Nat):Int:=if c=n then D a 0-D (a+1) 0 else D a c-D (a+1) c
def kA(D:Nat->Nat->Int)(u v a:Nat):Int:=D a u-D a v
theorem Z4t{n u v a:Nat}(D:Nat->Nat->Int)(huv:u<v)(hv:v<n)(ha:a<n):sm (λj=>if Zmb a (a+1+j) u v=YD then twP n D a (a+1+j)else 0) (n-(a+1))=
  (if 0<=0+a/\0+a<u then kA D u v (0+a)-kA D u v (0+a+1)else 0)+(if u<=0+a/\0+a<v then kA D v 0 (0+a)-kA D v 0 (0+a+1)else 0):=by
 rw[Nat.zero_add];have tk:∀c,c<n->twP n D a c=kw n D a c-kw n D a (c+1):=λc hc=>by
  unfold twP kw;rw[YM (show¬c=n by omega)]
  by_cases e:c+1=n
  .rw[YL e,e,Nat.mod_self];omega
  .rw[YM e,Vi (by omega)];omega
 have go:∀lo hi,lo<=hi->a+1<=lo->hi<=n->(∀c,a<c->c<n->(Zmb a c u v=YD↔lo<=c/\c<hi))->sm (λj=>if Zmb a (a+1+j) u v=YD then twP n D a (a+1+j)else 0) (n-(a+1))=kw n D a lo-kw n D a hi:=λlo hi h1 h2 h3 h4=>by
  have e:sm (λj=>if Zmb a (a+1+j) u v=YD then twP n D a (a+1+j)else 0) (n-(a+1))=sm (λj=>if lo<=a+1+j/\a+1+j<hi then kw n D a (a+1+j)-kw n D a (a+1+j+1)else 0) (n-(a+1)):=Zgg _ λj hj=>by
   rw[<-tk _ (by omega)];have h:=h4 (a+1+j) (by omega) (by omega)
   by_cases p:Zmb a (a+1+j) u v=YD
   .rw[YL p,YL (h.mp p)]
   .rw[YM p,YM λz=>p (h.mpr z)]
  rw[e,Yek (kw n D a) h1 (a+1),Z55 h1 h2,Z7a h1 (by omega)]
 by_cases h1:a<u
 .rw[YL ⟨QH _,h1⟩,YM (by omega),go u v (by omega) (by omega) (by omega) λc h2 h3=>by rw[Zm3];omega]
  unfold kw kA;rw[YM (by omega),YM (by omega)];omega
 .rw[YM (by omega)]
  by_cases h2:a<v
  .rw[YL ⟨by omega,h2⟩,go v n (by omega) (by omega) (by omega) λc h2 h3=>by rw[Zm3];omega]
   unfold kw kA;rw[YM (by omega),YL rfl];omega
  .rw[YM (by omega)]
   refine(Zgg _ λj hj=>?_).trans (Zna _);exact YM (by rw[Zm3];omega)
def Yes(n:Nat)(F:Nat->Nat->Int):Int:=sm (λa=>sm (λj=>F a (a+1+j)) (n-(a+1))) n
theorem Z0n{n u v:Nat}{D:Nat->Nat->Int}(sy:∀i j,i<n->j<n->D i j=D j i/\D i i=0)(hu:u<n)(hv:v<n):Yes n (λa c=>if Zmb a c u v=YD then twP n D a c else 0)=2*D u v:=by
 have key:∀u v,u<v->v<n->Yes n (λa c=>if Zmb a c u v=YD then twP n D a c else 0)=2*D u v:=λu v huv hv=>by
  unfold Yes;rw[Zgg n λa ha=>Z4t D huv hv ha,Z3w,Yek (kA D u v) (QH u) 0,Yek (kA D v 0) (show u<=v by omega) 0,Z55 (QH _) (X3 _),Z7a (QH _) (by omega),Z55 (by omega) (QH _),Z7a (by omega) (by omega)];unfold kA;have s1:=sy 0 u (by omega) (by omega);have s2:=sy 0 v (by omega) (by omega);have s3:=sy u v (by omega) (by omega);have s4:=sy v u (by omega) (by omega);omega
 have sw:∀a c,Zmb a c u v=Zmb a c v u:=λa c=>by unfold Zmb;cases inS a c u<;>cases inS a c v<;>rfl
 rcases UW u v with h|h|h
 .exact key u v h hv
 .subst h
  have:(λa c=>if Zmb a c u u=YD then twP n D a c else 0)= λ_ _=>(0:Int):=funext λa=>funext λc=>YM (by unfold Zmb;rw[bne_self_eq_false];exact Xn);rw[this,(sy u u hu hu).2];unfold Yes;exact(Zgg n λa _=>Zna _).trans (Zna n)
 .have:(λa c=>if Zmb a c u v=YD then twP n D a c else 0)= λa c=>if Zmb a c v u=YD then twP n D a c else 0:=funext λa=>funext λc=>by rw[sw]
  rw[this,key v u h hu,(sy v u hv hu).1]
def cd(w:Int)(a c i j:Nat):Int:=w*(if Zmb a c i j=YD then 1 else 0)
theorem Zxa{e:FE}{rs:List OT}(h:e δ=YB (.nd rs,δ))(hd:OT.datas rs=ds)(hi:δ[i]? =YB (YB (.nd ts)))(hl:ts.length+ds.length<=1000000):Zg2 i e δ= .nx (δ.set i (YB (.nd (ts++ds.map OT.fz)))):=by
 unfold Zg2;rw[hi];dsimp only;rw[Zgm,h,Jd,hi];dsimp only;have lr:rs.length=ds.length:=by rw[<-hd,Zgf]
 rw[YL (by rw[Qk,lr];omega),hd]
theorem Zuu(xs:List α)(mk f:α->Xa)(hi:EvI it δ (xs.map mk))(hz:xs.length<=1000000)(hb:blk 1 caps δ=YC::cs)(h:∀x∈xs,EvV me (YB (.fz (mk x))::cs) (f x)):∃rs,W3 1 caps it (gNm 0) Znd me δ=YB (.nd rs,δ)/\OT.datas rs=xs.map f:=by
 obtain⟨t,e1,e2⟩:=Zfz xs mk f hi hz hb h;cases t with
 | fz d=>
  unfold W3 at e1;unfold EvI at hi;rw[hi,Xg]at e1;split at e1
  .obtain⟨z,h1,h2⟩:=bs e1
   cases h2
  .cases e1
 | tp ts=>rw[OT.data_tp]at e2;cases e2
 | dc _ _ _=>rw[OT.data_dc]at e2;cases e2
 | nd rs=>
  rw[OT.data_nd,<-datas_map]at e2;injection e2 with e2;exact⟨rs,e1,e2⟩
theorem Zgh(neg:Bool)(x:Int)(p:List Int):Zuf neg (.int x) (Zg p)=YB (.bool (if neg then !decide (x∈p)else decide (x∈p))):=by
 have e:memS (.int x) (p.map Xk)=decide (x∈p):=by
  unfold memS;rw[List.any_map];rw[Us,List.any_eq_true,decide_eq_true_eq];constructor
  .rintro⟨y,hy,h⟩
   have:(y==x)=YD:=h;rw[<-eq_of_beq this];exact hy
  .intro h
   exact⟨x,h,(show(x==x)=YD from beq_self_eq_true x)⟩
 have s:(p.map Xk).all scD=YD:=by
  rw[Vg];intro d hd;obtain⟨y,_,rfl⟩:=Xv.mp hd;rfl
 show(if(scD (.int x)&&(p.map Xk).all scD)=YD then YB (PyData.bool (if neg then !memS (.int x) (p.map Xk)else memS (.int x) (p.map Xk)))else YC)=_;rw[s,e];rfl
theorem Zwx(x y:Bool):gNe (.bool x) (.bool y)=YB (.bool (x !=y)):=by
 cases x<;>cases y<;>rfl
def sd(p:List Int)(q:Nat×Nat):List Int:=(p.drop (q.1+1)).take (q.2-q.1)
theorem Zgs{n:Nat}(h:Pm n p){u:Nat}(hu:u<n){q:Nat×Nat}(h1:q.1<q.2)(h2:q.2<n):decide (p.getD u 0∈sd p q)=inS q.1 q.2 u:=by
 rw[Us,decide_eq_true_eq,Wi];have lp:=h.len;unfold sd;constructor
 .intro m
  obtain⟨k,hk⟩:=BX m;rw[Uu]at hk;split at hk
  .rw[Vl]at hk
   have hl:=(Xw.mp hk).1;have e:p.getD (q.1+1+k) 0=p.getD u 0:=by rw[Xb,hk];rfl
   have:=h.ne (by omega) hu e;omega
  .cases hk
 .rintro⟨h3,h4⟩
  refine Qz (i:=u-(q.1+1)) ?_;rw[Uu,YL (by omega),Vl,show q.1+1+(u-(q.1+1))=u by omega,Xb,Xf (by omega)];rfl
theorem Yav{q:Nat×Nat}(h1:q.1<q.2)(h2:q.2<p.length):Z1o p (YB ((q.1:Int)+1)) (YB ((q.2:Int)+1))=sd p q:=by
 have e1:(q.1:Int)+1=((q.1+1:Nat):Int):=by omega
 have e2:(q.2:Int)+1=((q.2+1:Nat):Int):=by omega
 have f:∀k d:Nat,k<=p.length->HT.sIx p.length d (YB (k:Int))=k:=λk d hk=>by
  show(if(k:Int)<0 then((k:Int)+(p.length:Int)).toNat else min (k:Int).toNat p.length)=k;rw[YM (by omega)];omega
 unfold Z1o sd;rw[e1,e2,f _ _ (by omega),f _ _ (by omega),show q.2+1-(q.1+1)=q.2-q.1 by omega]
theorem Pm.at{n:Nat}{p:List Int}(h:Pm n p){i:Nat}(hi:i<n):∃u,u<n/\p.getD u 0=(i:Int):=by
 have m:(i:Int)∈p:=h.mem_iff.mpr (Y4.mpr ⟨by omega,by omega⟩);obtain⟨u,hu⟩:=BX m;exact⟨u,by rw[<-h.len];exact(Xw.mp hu).1,by rw[Xb,hu];rfl⟩
def smL(F:Nat×Nat->Int)(L:List (Nat×Nat)):Int:=(L.map F).sum
theorem Zw4(F:Nat×Nat->Int)(L M:List (Nat×Nat)):smL F (L++M)=smL F L+smL F M:=by
 unfold smL;rw[Qg,List.sum_append]
theorem Zoq(F:Nat×Nat->Int)(i:Nat):∀m,smL F ((Xo m).map λj=>(i,i+1+j))=sm (λj=>F (i,i+1+j)) m
 | 0=>rfl
 | m+1=>by
  rw[Uq,Qg,Zw4,Zoq F i m,sm];refine YT (_+·) ?_;show F (i,i+1+m)+0=_;omega
theorem Zrt(F:Nat×Nat->Int)(n:Nat):∀m,smL F (Zlq n m)=sm (λa=>sm (λj=>F (a,a+1+j)) (n-(a+1))) m
 | 0=>rfl
 | m+1=>by rw[Zld,Zw4,Zrt F n m,Zoq,sm]
theorem list_range(p:List α)(d:α)(f:α->β):p.map f=(Xo p.length).map λi=>f (p.getD i d):=by
 refine V3 λi=>?_;rw[Xp,Xp]
 by_cases c:i<p.length
 .rw[QG c,Xf c]
  simp[Xb,Xf c]
 .rw[Qv (by omega),Qv (by simp;omega)];rfl
theorem Z5m{n:Nat}{base:Int}{L:List (List Int)}(h:Dr n base L):Qu ((L.map Zxg).map OT.data)=Yn n (fnL L)/\∀i j,i<n->j<n->0<=fnL L i j/\fnL L i j<base:=by
 refine⟨?_,λi j hi hj=>?_⟩
 .unfold Yn
  refine YT Qu ?_;rw[XR,list_range L [],h.1];refine Xu λi hi=>?_;have hi:i<n:=by simpa using hi
  have hr:(L.getD i []).length=n:=by
   refine(h.2 _ ?_).1;rw[Xb,Xf (by rw[h.1];exact hi)];exact Q4 _
  show(OT.nd _).data=Zzf n _;rw[OT.data_nd];unfold Zzf;refine YT Qu ?_;rw[XR,list_range (L.getD i []) 0,hr];rfl
 .have m1:L.getD i []∈L:=by
   rw[Xb,Xf (by rw[h.1];exact hi)];exact Q4 _
  obtain⟨h1,h2⟩:=h.2 _ m1;exact h2 _ (getD_mem (by omega))
theorem ix3{x y z:Xa}{v:Int}(h0:0<=v)(h1:v<3):∃d,gIx (.list [x,y,z]) (.int v)=YB (.fz d)/\(d=x\/d=y\/d=z):=by
 obtain⟨n,rfl⟩:∃n:Nat,v=n:=⟨v.toNat,by omega⟩
 match n with
 | 0=>exact⟨x,rfl,.inl rfl⟩
 | 1=>exact⟨y,rfl,.inr (.inl rfl)⟩
 | 2=>exact⟨z,rfl,.inr (.inr rfl)⟩
 | n+3=>exact YX h1 (by omega)
theorem ix4{x y z w:Xa}{v:Int}(h0:0<=v)(h1:v<4):∃d,gIx (.list [x,y,z,w]) (.int v)=YB (.fz d)/\(d=x\/d=y\/d=z\/d=w):=by
 obtain⟨n,rfl⟩:∃n:Nat,v=n:=⟨v.toNat,by omega⟩
 match n with
 | 0=>exact⟨x,rfl,.inl rfl⟩
 | 1=>exact⟨y,rfl,.inr (.inl rfl)⟩
 | 2=>exact⟨z,rfl,.inr (.inr (.inl rfl))⟩
 | 3=>exact⟨w,rfl,.inr (.inr (.inr rfl))⟩
 | n+4=>exact YX h1 (by omega)
def B20:Int:=100000000000000000000
def wtB(cnt:FE):FS:=(Z6 (wE (Yl gIx (Zd2 (Zc (fC (.int 3)) (Zc (fC (.int 12)) (Zc (Zj Zzn (fC (.int 10)) (fC (.int 20))) Zq)))) (Zj Zgz (Zd 3) (fC (.int 3)))) (Y0 4))
  (Z6 (wE (Zd2 Zq) (Zcb 5))
  (Z6 (Zau (iRa (Zc cnt Zq)) (gNm 6)
  (Z6 (wE (Zy W9 (Zc (Zd 3) (Zc (Zj Zcn (fC (.int 50)) (Zd 6)) Zq))) (Y0 7))
  (Z6 (Zaf (tV (Zj gLt (Zj Zcn (Zd 1) (Zd 6)) (Zag Zai (Zc (Zd 0) Zq))))
  (wE (Yl gIx (Zd 0) (Zj Zcn (Zd 1) (Zd 6))) (Y0 7))
  fNx)
  (Wl 5 (Zj Zgz (Zd 7) (Zd 4))))))
  (Zft 5))))
theorem Yfr(ns:List Int)(st:Nat)(x c:Int){cnt:FE}{m:Nat}(hm:m<=1000)(hc:∀{δ:Zm},δ[2]? =YB (YB (.fz (.int x)))->EvV cnt δ (.int m)):∃vs:List Int,Told (Jh 4 8 (wtB cnt)) [Zg ns,.int st,.int x,.int c] (Zg vs)/\vs.length=m/\∀v∈vs,0<=v/\v<B20:=by
 obtain⟨d,e,h⟩:=ix3 (x:=.int 3) (y:=.int 12) (z:=.int B20) (v:=c.fmod 3) (Zfn (by decide)) (Zf0 (by decide));obtain⟨b,rfl,b0,b1⟩:∃b:Int,d= .int b/\0<b/\b<=B20:=by
  unfold B20 at h|-
  rcases h with h|h|h<;>exact⟨_,h,by decide,by decide⟩
 have key:∃d,Told (Jh 4 8 (wtB cnt)) [Zg ns,.int st,.int x,.int c] d/\∃vs:List Int,d=Zg vs/\vs.length=m/\∀v∈vs,0<=v/\v<B20:=by
  refine Ztw rfl<|Zbl (Zu (Wq (Zhy (Zb Z1 (Zb Z1 (Zb (Zz Z1 Z1 Yjs) Zh))) (show 3<=1000 by decide)) (Za1 Za Z1 (by decide)) e))<|Zbl Zia<|Znv (ds:=Zdn 0 m) (λi δ=>∃(vs:List Int) (z6 z7:Option OT),δ=[YB (.fz (Zg ns)),YB (.fz (.int st)),YB (.fz (.int x)),YB (.fz (.int c)),YB (.fz (.int b)),YB (.nd (vs.map λv=>.fz (.int v))),z6,z7]/\vs.length=i/\∀v∈vs,0<=v/\v<B20) (Zkj (Zb (hc rfl) Zh) (by omega)) ⟨[],YC,YC,rfl,rfl,λ_ h=>nomatch h⟩ (λi d δ hd q=>?_) λδ' q=>?_
  .obtain⟨vs,z6,z7,rfl,hl,hv⟩:=q
   obtain⟨hi,rfl⟩:=Zaq hd;rw[Bh];obtain⟨v,ev⟩:=Zxp c (50+(i:Int));obtain⟨w,e3⟩:∃w,Zaf (tV (Zj gLt (Zj Zcn (Zd 1) (Zd 6)) (Zag Zai (Zc (Zd 0) Zq)))) (wE (Yl gIx (Zd 0) (Zj Zcn (Zd 1) (Zd 6))) (Y0 7)) fNx [YB (.fz (Zg ns)),YB (.fz (.int st)),YB (.fz (.int x)),YB (.fz (.int c)),YB (.fz (.int b)),YB (.nd (vs.map λv=>.fz (.int v))),YB (.fz (.int i)),YB (.fz (.int v))]= .nx [YB (.fz (Zg ns)),YB (.fz (.int st)),YB (.fz (.int x)),YB (.fz (.int c)),YB (.fz (.int b)),YB (.nd (vs.map λv=>.fz (.int v))),YB (.fz (.int i)),YB (.fz (.int w))]:=by
    by_cases q:(st:Int)+(i:Int)<ns.length
    .exact⟨_,Zaz (Zan (Zdr (Y9 Za Za) (Jq Za) (YQ q))) (Zu (Y5 Za (Y9 Za Za) (by omega) q))⟩
    .exact⟨v,Z5 (Zan (Zdr (Y9 Za Za) (Jq Za) (YS q))) rfl⟩
   refine⟨_,_,rfl,.inl (Y6 (Zu (Zo (Zb Za (Zb (Y9 Z1 Za) Zh)) ev))<|Y6 e3 (Zm9 (vs:=vs) (Za1 Za Za (by omega)) rfl (by omega))),vs++[w.fmod b],_,_,rfl,by rw[Xq,hl];rfl,λu hu=>?_⟩;rcases XQ.mp hu with q|q
   .exact hv u q
   .rw[Xj.mp q]
    exact⟨Zfn b0,Int.lt_of_lt_of_le (Zf0 b0) b1⟩
  .obtain⟨vs,z6,z7,rfl,hl,hv⟩:=q
   rw[Wk]at hl;exact Yhn rfl ⟨vs,Zll vs,hl,hv⟩
 obtain⟨d,h,vs,rfl,r⟩:=key;exact⟨vs,h,r⟩
theorem Z54{n:Nat}{S:FS}{xs:List Xa}(hl:xs.length=np)(k:S (Zgo n xs)= .rt o δ'):Jh np n S xs= .ok o:=by rw[Zpw hl,k,Zw9]
theorem Z8t(h:δ[i]? =YB (YB o)):Zft i δ= .rt o (δ.set i YC):=by rw[Zrk,h,Z7y]
def B25:Int:=10000000000000000000000000
def sep(s:List Int)(x y:Nat):Bool:=decide ((x:Int)∈s) !=decide ((y:Int)∈s)
theorem Dr.len{n:Nat}{base:Int}{L:List (List Int)}(h:Dr n base L){k:Nat}(hk:k<n):(L.getD k []).length=n:=by
 refine(h.2 _ ?_).1;rw[Xb,Xf (by rw[h.1];exact hk)];exact Q4 _
theorem Ych{a b:FE}{x y:Nat}{n:Nat}{base:Int}{L:List (List Int)}(h:Dr n base L)(hi:δ[i]? =YB (YB (.nd (L.map Zxg))))(ha:EvV a δ (.int x))(hx:x<n)(hb:EvV b δ (.int y))(hy:y<n):EvV (Yl gIx (Yl gIx (Zq9 i) a) b) δ (.int (fnL L x y)):=by
 have e1:EvV (Zq9 i) δ (.list (L.map Zg)):=Zun hi (by
  rw[OT.data_nd,XR];exact YT Qu (Xu λr _=>Zll r))
 have e2:EvV (Yl gIx (Zq9 i) a) δ (Zg (L.getD x [])):=Z30 e1 ha (Z5z (by rw[Xp,Xb,Xf (by rw[h.1];exact hx)];rfl));exact(Y5 e2 hb (by omega) (by rw[h.len hx];omega)).cast (by rw[show(y:Int).toNat=y by omega];rfl)
def rE(n:Nat)(A B:Xa)(L:List (List Int))(s:List Int)(w:Int)(z6 z7:Option OT):Zm:=[YB (.fz (.int n)),YB (.fz A),YB (.fz B),YB (.nd (L.map Zxg)),YB (.fz (Zg s)),YB (.fz (.int w)),z6,z7]
def Ztg:FS:=Zaf (tV (Zj gNe (Zj (Zuf YF) (Zd 6) (Zd 4)) (Zj (Zuf YF) (Zd 7) (Zd 4))))
  (Zy3 3 (Zj Zcn (Yl gIx (Yl gIx (Zq9 3) (Zd 6)) (Zd 7)) (Zd 5)) (Zd 6) (Zd 7))
  fNx
structure Up(n:Nat)(L0:List (List Int))(s:List Int)(w:Int)(P:Nat->Nat->Prop)(L:List (List Int)):Prop where
 dr:Dr n B25 L
 yes:∀x y,x<n->y<n->P x y->fnL L x y=fnL L0 x y+(if sep s x y=YD then w else 0)
 no:∀x y,x<n->y<n->¬P x y->fnL L x y=fnL L0 x y
theorem Up.mono{n:Nat}{L0 L:List (List Int)}{s:List Int}{w:Int}{P Q:Nat->Nat->Prop}(h:Up n L0 s w P L)(e:∀x y,x<n->y<n->(P x y↔Q x y)):Up n L0 s w Q L:=⟨h.dr,λx y hx hy q=>h.yes x y hx hy ((e x y hx hy).mpr q),λx y hx hy q=>h.no x y hx hy λz=>q ((e x y hx hy).mp z)⟩
theorem Z5u{n:Nat}{A B:Xa}{L0 L:List (List Int)}{s:List Int}{w:Int}{P:Nat->Nat->Prop}(hi:i<n)(hj:j<n)(U:Up n L0 s w P L)(np:¬P i j)(lo:0<=fnL L0 i j)(w0:0<=w)(hb:fnL L0 i j+w<B25) :
  ∃L',Ztg (rE n A B L s w (YB (.fz (.int i))) (YB (.fz (.int j))))= .nx (rE n A B L' s w (YB (.fz (.int i))) (YB (.fz (.int j))))/\Up n L0 s w (λx y=>P x y\/(x=i/\y=j)) L':=by
 have t:=Zan (Zz (g:=gNe) (δ:=rE n A B L s w (YB (.fz (.int i))) (YB (.fz (.int j)))) (Zz (Za (i:=6) rfl) (Za (i:=4) rfl) (Zgh YF (i:Int) s)) (Zz (Za (i:=7) rfl) (Za (i:=4) rfl) (Zgh YF (j:Int) s)) (Zwx _ _));have t:EvT _ _ (sep s i j):=t;cases c:sep s i j with
 | false=>
  rw[c]at t;refine⟨L,Z5 t rfl,U.dr,λx y hx hy q=>?_,λx y hx hy q=>U.no x y hx hy λz=>q (.inl z)⟩;rcases q with q|⟨rfl,rfl⟩
  .exact U.yes x y hx hy q
  .rw[U.no x y hx hy np,c,YM Xn,Int.add_zero]
 | true=>
  rw[c]at t;have f:=Z7n (L:=L) (a:=i) (b:=j) (v:=fnL L i j+w) (by rw[U.dr.1];exact hi) (by rw[U.dr.len hi];exact hj);have e:=U.no i j hi hj np;refine⟨_,Zaz t (Z7u (L:=L) (a:=i) (b:=j) (d:=fnL L i j+w) (Y9 (Ych U.dr rfl (Za rfl) hi (Za rfl) hj) (Za rfl)) rfl (Za rfl) (by rw[U.dr.1];exact hi) (Za rfl) (by rw[U.dr.len hi];exact hj)),U.dr.put (by rw[e];omega) (by rw[e];exact hb) i j,λx y hx hy q=>?_,λx y hx hy q=>?_⟩
  .rw[f]
   by_cases z:x=i/\y=j
   .obtain⟨rfl,rfl⟩:=z
    rw[YL ⟨rfl,rfl⟩,e,c,YL rfl]
   .rw[YM z]
    exact U.yes x y hx hy (q.resolve_right z)
  .rw[f,YM λz=>q (.inr z)]
   exact U.no x y hx hy λz=>q (.inl z)
theorem Z16{n:Nat}{A B:Xa}{L0 L:List (List Int)}{s:List Int}{w:Int}{z7:Option OT}(n10:n<=10)(hi:i<n)(U:Up n L0 s w (λx _=>x<i) L)(lo:∀x y,x<n->y<n->0<=fnL L0 x y)(w0:0<=w)(hb:∀x y,x<n->y<n->fnL L0 x y+w<B25) :
  ∃L' z7',Zau (iRa (Zc (Zd 0) Zq)) (gNm 7) Ztg (rE n A B L s w (YB (.fz (.int i))) z7)= .nx (rE n A B L' s w (YB (.fz (.int i))) z7')/\Up n L0 s w (λx _=>x<i+1) L':=by
 obtain⟨δ',e,L',z7',rfl,U'⟩:=Zg3 (S:=Ztg) (g:=gNm 7) (it:=iRa (Zc (Zd 0) Zq)) (δ:=rE n A B L s w (YB (.fz (.int i))) z7) (ds:=Zdn 0 n) (λj δ=>∃L' z7',δ=rE n A B L' s w (YB (.fz (.int i))) z7'/\Up n L0 s w (λx y=>x<i\/(x=i/\y<j)) L') (Zkj (Zb (Za rfl) Zh) (by omega)) ⟨L,z7,rfl,U.mono λx y _ _=>by omega⟩ λj d δ hd q=>by
  obtain⟨L',z7',rfl,U'⟩:=q;obtain⟨hj,rfl⟩:=Zaq hd;rw[Bh];obtain⟨L2,e2,U2⟩:=Z5u (A:=A) (B:=B) hi hj U' (by omega) (lo i j hi hj) w0 (hb i j hi hj);exact⟨_,_,rfl,.inl e2,L2,_,rfl,U2.mono λx y _ _=>by omega⟩
 rw[Wk]at U';exact⟨L',z7',e,U'.mono λx y _ hy=>by omega⟩
theorem Zz1{n:Nat}{A B:Xa}{L0:List (List Int)}{s:List Int}{w:Int}{z6 z7:Option OT}(n10:n<=10)(D:Dr n B25 L0)(lo:∀x y,x<n->y<n->0<=fnL L0 x y)(w0:0<=w)(hb:∀x y,x<n->y<n->fnL L0 x y+w<B25) :
  ∃L' z6' z7',Zau (iRa (Zc (Zd 0) Zq)) (gNm 6) (Zau (iRa (Zc (Zd 0) Zq)) (gNm 7) Ztg) (rE n A B L0 s w z6 z7)= .nx (rE n A B L' s w z6' z7')/\Dr n B25 L'/\∀x y,x<n->y<n->fnL L' x y=fnL L0 x y+(if sep s x y=YD then w else 0):=by
 obtain⟨δ',e,L',z6',z7',rfl,U'⟩:=Zg3 (S:=Zau (iRa (Zc (Zd 0) Zq)) (gNm 7) Ztg) (g:=gNm 6) (it:=iRa (Zc (Zd 0) Zq)) (δ:=rE n A B L0 s w z6 z7) (ds:=Zdn 0 n) (λi δ=>∃L' z6' z7',δ=rE n A B L' s w z6' z7'/\Up n L0 s w (λx _=>x<i) L') (Zkj (Zb (Za rfl) Zh) (by omega)) ⟨L0,z6,z7,rfl,D,λ_ _ _ _ z=>YX z (Vs _),λ_ _ _ _ _=>rfl⟩ λi d δ hd q=>by
  obtain⟨L',z6',z7',rfl,U'⟩:=q;obtain⟨hi,rfl⟩:=Zaq hd;rw[Bh];obtain⟨L2,z,e2,U2⟩:=Z16 (A:=A) (B:=B) (z7:=z7') n10 hi U' lo w0 hb;exact⟨_,_,rfl,.inl e2,L2,_,z,rfl,U2⟩
 rw[Wk]at U';exact⟨L',z6',z7',e,U'.dr,λx y hx hy=>U'.yes x y hx hy hx⟩
theorem Zri(s:List Int)(x y:Nat):sep s x y=sep s y x:=by unfold sep;cases decide ((x:Int)∈s)<;>cases decide ((y:Int)∈s)<;>rfl
theorem Zrd(s:List Int)(x:Nat):sep s x x=YF:=by unfold sep;cases decide ((x:Int)∈s)<;>rfl
theorem Z1s{n:Nat}:Dr n B25 ((Xo n).map λ_=>X5 n 0)/\∀x y,x<n->y<n->fnL ((Xo n).map λ_=>X5 n 0) x y=0:=by
 refine⟨⟨by rw[Xd,XD],λr hr=>?_⟩,λi j hi hj=>?_⟩
 .obtain⟨_,_,rfl⟩:=Xv.mp hr
  exact⟨VP,λx hx=>by rw[List.eq_of_mem_replicate hx];decide⟩
 .unfold fnL
  rw[Xb (l:=List.map _ _),Xp,QG hi];show(X5 n (0:Int)).getD j 0=0;rw[Xb,Ux,YL hj];rfl
theorem Yfq{t:FT}(x1 x2:α->Xa)(p:α->Bool)(f:α->OT):∀(xs:List α) (z0 z1:Option OT),(∀x∈xs,∀z0 z1,g (.tuple [x1 x,x2 x]) (z0::z1::cs)=YB (YB (.fz (x1 x))::YB (.fz (x2 x))::cs))->(∀x∈xs,t (YB (.fz (x1 x))::YB (.fz (x2 x))::cs)=YB (p x,YB (.fz (x1 x))::YB (.fz (x2 x))::cs))->(∀x∈xs,p x=YD->me (YB (.fz (x1 x))::YB (.fz (x2 x))::cs)=YB (f x,YB (.fz (x1 x))::YB (.fz (x2 x))::cs)) ->
  ∃z0' z1',compLoop g t me (xs.map λx=>.tuple [x1 x,x2 x]) (z0::z1::cs)=YB ((xs.filter p).map f,z0'::z1'::cs):=by
 intro xs
 induction xs with
 | nil=>exact λz0 z1 _ _ _=>⟨z0,z1,rfl⟩
 | cons x xs ih=>
  intro z0 z1 hg ht hm;obtain⟨y0,y1,e⟩:=ih (YB (.fz (x1 x))) (YB (.fz (x2 x))) (λy hy=>hg y (.tail _ hy)) (λy hy=>ht y (.tail _ hy)) λy hy=>hm y (.tail _ hy);refine⟨y0,y1,?_⟩;rw[XM,compLoop,hg x (.head _),Xg,ht x (.head _),Xg];dsimp only;cases hp:p x with
  | true=>rw[YL rfl,hm x (.head _) hp,Xg,Bk hp,XM];dsimp only;rw[e];rfl
  | false=>rw[YM Xn,Ba (by rw[hp];exact Xn)];exact e
theorem Ybv{t:FT}(xs:List α)(x1 x2:α->Xa)(p:α->Bool)(f:α->OT)(hi:EvI it δ (xs.map λx=>.tuple [x1 x,x2 x]))(hz:xs.length<=1000000)(hb:blk 2 caps δ=YC::YC::cs)
  (hg:∀x∈xs,∀z0 z1,g (.tuple [x1 x,x2 x]) (z0::z1::cs)=YB (YB (.fz (x1 x))::YB (.fz (x2 x))::cs)) (ht:∀x∈xs,t (YB (.fz (x1 x))::YB (.fz (x2 x))::cs)=YB (p x,YB (.fz (x1 x))::YB (.fz (x2 x))::cs)) (hm:∀x∈xs,p x=YD->me (YB (.fz (x1 x))::YB (.fz (x2 x))::cs)=YB (f x,YB (.fz (x1 x))::YB (.fz (x2 x))::cs)) :
  W3 2 caps it g t me δ=YB (.nd ((xs.filter p).map f),δ):=by
 obtain⟨z0,z1,e⟩:=Yfq x1 x2 p f xs YC YC hg ht hm;unfold EvI at hi;unfold W3;rw[hi,Xg];dsimp only;rw[YL (by rw[Qk,Xd];omega),hb,e];rfl
theorem Zml(f:α->Xa)(g:β->Xa)(r:List α)(s:List β):Znc (r.map f) (s.map g)=(r.zip s).map λq=>.tuple [f q.1,g q.2]:=by
 unfold Znc;rw[List.zip_map,XR];rfl
theorem Zxc:∀m,m<=10→(Yt m).length<=60:=by decide
theorem Zpc{n:Nat}(hn:n<=10)(R:Nat->Nat->Int)(hb:0<b)(bb:Bt 300 b):Told Zax [Yn n R,.int b] (tbD (Jo n R b)):=by
 have e:tbD (Jo n R b)= .list ((Xo n).map λi=>.list ((Xo n).map λj=>frD (XH (R i j) b))):=by
  unfold tbD Jo;rw[XR];refine YT Qu (Xu λi _=>?_);show Zsn _=_;unfold Zsn;rw[XR];rfl
 rw[e];exact Zx rfl<|Z7<|Zfz (cs:=[YB (.fz (.int b))]) (Xo n) (λi=>Zzf n (R i)) (λi=>.list ((Xo n).map λj=>frD (XH (R i j) b))) (Js Za) (by rw[XD];omega) rfl λi _=>
  Zfz (cs:=[YB (.fz (.int b))]) (Xo n) (λj=>.int (R i j)) (λj=>frD (XH (R i j) b)) (Js Za) (by rw[XD];omega) rfl λj _=>Zo (Zb Za (Zb Za Zh)) (Zkx hb bb)
structure Rw(n:Nat)(R:Nat->Nat->Int):Prop where
 sy:∀i j,i<n->j<n->R i j=R j i/\R i i=0
 bt:∀i j,i<n->j<n->Bt 300 (R i j)
def ctD(p:List Int×Rat):Xa:=.tuple [Zg p.1,frD p.2]
def Zj7(L:List (List Int×Rat)):Xa:=.list (L.map ctD)
theorem Z27(p:List Int×Rat):kdT (ctD p)=YB (p.1,[p.2.num,(p.2.den:Int)]):=by
 show((Zdq (p.1.map Xk)).bind λns=>(Zdq [.int p.2.num,.int (p.2.den:Int)]).bind λms=>YB (ns,ms))=_;rw[J3];rfl
theorem Zk6:∀{a b c:List Int},ltI a b=YD->ltI b c=YD->ltI a c=YD:=by
 intro a
 induction a with
 | nil=>
  intro b c h1 h2;cases b with
  | nil=>cases h1
  | cons y b=>cases c with
   | nil=>cases h2
   | cons z c=>rfl
 | cons x a ih=>
  intro b c h1 h2;cases b with
  | nil=>cases h1
  | cons y b=>cases c with
   | nil=>cases h2
   | cons z c=>
    unfold ltI at h1 h2|-
    by_cases e1:x=y
    .subst e1
     rw[YL rfl]at h1
     by_cases e2:x=z
     .rw[YL e2]at h2|-;exact ih h1 h2
     .rw[YM e2]at h2|-;exact h2
    .rw[YM e1]at h1
     have l1:=YW h1
     by_cases e2:y=z
     .subst e2
      rw[YM e1];exact h1
     .rw[YM e2]at h2
      have l2:=YW h2;rw[YM (by omega)];exact YQ (by omega)
theorem Zmy:∀a:List Int,ltI a a=YF:=by
 intro a
 induction a with
 | nil=>rfl
 | cons x a ih=>unfold ltI;rw[YL rfl];exact ih
theorem Zu2:∀{a b:List Int},a≠b->ltI a b=YF->ltI b a=YD:=by
 intro a
 induction a with
 | nil=>
  intro b ne h;cases b with
  | nil=>exact YX rfl ne
  | cons y b=>cases h
 | cons x a ih=>
  intro b ne h;cases b with
  | nil=>rfl
  | cons y b=>
   unfold ltI at h|-
   by_cases e:x=y
   .subst e
    rw[YL rfl]at h|-
    exact ih (λz=>ne (z▸rfl)) h
   .rw[YM e]at h
    rw[YM (VF e)];have:=of_decide_eq_false h;exact YQ (by omega)
def sCt(L:List (List Int×Rat)):List (List Int×Rat):=sLay ([],0) (lk kdT ltT (L.map ctD)) L
def Dst(L:List (List Int×Rat)):Prop:=∀k l,k<l->l<L.length->(L.getD k ([],0)).1≠(L.getD l ([],0)).1
theorem Z2y{L:List (List Int×Rat)}(h:Dst L)(hi:i<L.length)(hj:j<L.length):lk kdT ltT (L.map ctD) i j=ltI (L.getD i ([],0)).1 (L.getD j ([],0)).1:=by
 have e:∀k,k<L.length->kdT ((L.map ctD).getD k .none)=YB ((L.getD k ([],0)).1,[(L.getD k ([],0)).2.num,((L.getD k ([],0)).2.den:Int)]):=λk hk=>by
  rw[Xb,Xp,Xf hk,Xb,Xf hk];exact Z27 _
 unfold lk;rw[e i hi,e j hj];show ltT _ _=_;unfold ltT
 by_cases c:i=j
 .subst c
  rw[YL rfl,YL rfl,Zmy]
 .rw[YM]
  rcases Nat.lt_or_gt_of_ne c with z|z
  .exact h i j z hj
  .exact λq=>h j i z hi q.symm
theorem Ybl{L:List (List Int×Rat)}(h:Dst L):(sCt L).Pairwise λa b=>ltI a.1 b.1=YD:=by
 refine Zuj (β:=Nat) (d:=([],0)) (vs:=L) ⟨λi j k hi hj hk h1 h2=>?_,λi j hi hj c q=>?_,λi j hi hj q=>?_⟩ λi j hi hj q=>?_
 .rw[Z2y h hi hj]at h1
  rw[Z2y h hj hk]at h2;rw[Z2y h hi hk];exact Zk6 h1 h2
 .rw[Z2y h hi hj]at q
  rw[Z2y h hj hi];refine Zu2 ?_ q;rcases Nat.lt_or_gt_of_ne c with z|z
  .exact h i j z hj
  .exact λq=>h j i z hi q.symm
 .rw[Z2y h hi hj]at q
  rw[Z2y h hj hi];refine JW.mpr λz=>?_;have:=Zk6 q z;rw[Zmy]at this;cases this
 .rw[Z2y h hi hj]at q
  exact q
theorem Zye(d d':α)(lt:Nat->Nat->Bool)(vs:List α):sLay d lt vs=sLay d' lt vs:=by
 unfold sLay;split
 .rfl
 .refine Xu λi hi=>?_
  have:=Xx.mp ((Zgk (by omega)).mem_iff.mp hi);rw[Xb,Xb,Xf this];rfl
theorem Zln{u:FS}(mk:α->Xa)(P:α->Bool)(I:List α->Zm->Prop)(V:α->Xa)(all:List α)(t:∀x done rest,done++x::rest=all->∀δ,I done δ->∃δ1,g (mk x) δ=YB δ1/\(P x=YF->∃δ2,u δ1= .nx δ2/\I (done++[x]) δ2)/\(P x=YD->Zi8 u δ1 (V x))):∀(xs done:List α),done++xs=all->∀(δ:Zm),I done δ ->
  (xs.find? P=YC->∃δ2,forLoop g u (xs.map mk) δ= .nx δ2/\I all δ2)/\∀x,xs.find? P=YB x->Zi8 (forLoop g u (xs.map mk)) δ (V x):=by
 intro xs
 induction xs with
 | nil=>exact λdone e δ h=>⟨λ_=>⟨δ,rfl,by rw[QS]at e;exact e▸h⟩,λx z=>nomatch z⟩
 | cons x xs ih=>
  intro done ea δ h;obtain⟨δ1,e1,a,b⟩:=t x done xs ea δ h;cases c:P x with
  | true=>
   rw[List.find?_cons_of_pos c];refine⟨λz=>(nomatch z),λy hy=>?_⟩;cases hy;obtain⟨o,δ2,e2,d⟩:=b c;refine⟨o,δ2,?_,d⟩;rw[XM,forLoop,e1];dsimp only;rw[e2]
  | false=>
   rw[List.find?_cons_of_neg (by rw[c];exact Xn)];obtain⟨δ2,e2,h2⟩:=a c;have e:forLoop g u ((x::xs).map mk) δ=forLoop g u (xs.map mk) δ2:=by
    rw[XM,forLoop,e1];dsimp only;rw[e2]
   have:=ih (done++[x]) (by rw[QQ];exact ea) δ2 h2;unfold Zi8 at this|-
   rw[e];exact this
theorem Zwy{e:FE}{L:List (List Int×Rat)}(he:EvV e δ (Zj7 L))(h:L.length<64):EvV (fBl (Zh9 kdT ltT) (Zc e Zq)) δ (Zj7 (sCt L)):=by
 refine Zo9 (Zb he Zh) (o:=.nd (((sCt L).map ctD).map OT.fz)) ?_ (by rw[OT.data_nd,OT.map_fz];rfl);unfold sCt;rw[<-Zrb,Zye (ctD ([],0)) PyData.none];refine YL ?_;rw[XC,decide_eq_true_eq,Xd,Vg];refine⟨h,λd m=>?_⟩;obtain⟨p,_,rfl⟩:=Xv.mp m;rw[Z27];rfl
def tq(n:Nat)(R:Nat->Nat->Int)(p:List Int)(q:Nat×Nat):Int:=twP n (λu v=>R (pn p u) (pn p v)) q.1 q.2
def cL(n:Nat)(R:Nat->Nat->Int)(p:List Int)(b:Int)(Q:List (Nat×Nat)):List (List Int×Rat):=(Q.filter λq=>decide (0<tq n R p q)).map λq=>(Yh (sd p q),XH (tq n R p q) (2*b))
def Zug(n:Nat)(R:Nat->Nat->Int)(p:List Int):Option (Nat×Nat):=(Yt n).find? λq=>decide (tq n R p q<0)
def Zzt(n:Nat)(R:Nat->Nat->Int)(p:List Int)(b:Int):Xa:=match Zug n R p with
 | some q=>.tuple [.str "bars",ptD q]
 | none=>.tuple [.str "ring",Zj7 (sCt (cL n R p b (Yt n)))]
theorem Zxe(n:Nat)(R:Nat->Nat->Int)(p:List Int)(b:Int)(Q:List (Nat×Nat))(q:Nat×Nat):cL n R p b (Q++[q])=cL n R p b Q++(if 0<tq n R p q then[(Yh (sd p q),XH (tq n R p q) (2*b))]else[]):=by
 unfold cL;rw[List.filter_append,Qg]
 by_cases c:0<tq n R p q
 .rw[YL c,Bk (p:=λq=>decide (0<tq n R p q)) (YQ c)];rfl
 .rw[YM c,Ba (p:=λq=>decide (0<tq n R p q)) (by rw[YS c];exact Xn)];rfl
theorem Z3m(n:Nat)(R:Nat->Nat->Int)(p:List Int)(b:Int)(Q:List (Nat×Nat)):(cL n R p b Q).length<=Q.length:=by
 unfold cL;rw[Xd];exact VR _ _
theorem Zhw{n:Nat}(h:Pm n p)(hr:ringB n p=YD)(hn:n<=10)(hb:0<b)(bb:Bt 300 b)(W:Rw n R):Told Wr [tbD (Jo n R b),Zg p] (Zzt n R p b):=by
 obtain⟨m,k,S,e1,eS,m0,k0,rfl,bm,sc⟩:=Z3v (by omega:n<64) hb bb W.bt;have hI:=h.inR;have hle:Zai [tbD (Jo n R (m*k))]=YB (.int n):=by rw[Zqj,Zgq]
 have hg:Zf4 (.int 2) (.int m)=YB (.int (2*m)):=Zff (Z2v (by decide));obtain⟨E,hE⟩:∃E:List (List Int×Rat)->Option OT->Option OT->Option OT->Zm,E= λL z5 z6 z7=>[YB (.fz (tbD (Jo n R (m*k)))),YB (.fz (Zg p)),YB (.fz (.int m)),YB (.fz (Yn n S)),YB (.nd ((L.map ctD).map OT.fz)),z5,z6,z7]:=⟨_,rfl⟩;have key:=Zln (g:=gTp 2 (gCn (gNm 5) (gCn (gNm 6) gNl))) (u:=Z6 (wE (Zy Z4 (Zc (Zd 3) (Zc (Zd 1) (Zc (Zd 5) (Zc (Zd 6) Zq))))) (Y0 7))
  (Z6 (Zaf (tV (Zj gLt (Zd 7) (fC (.int 0))))
  (wE (Ze2 (Zc (fC (.str "bars")) (Zc (Ze2 (Zc (Zd 5) (Zc (Zd 6) Zq))) Zq))) Wu)
  fNx)
  (Zaf (tV (Zj gGt (Zd 7) (fC (.int 0))))
  (Wl 4 (Ze2 (Zc (fBl Zfa (Zc (fSl (Zd 1) (oI (Zj Zcn (Zd 5) (fC (.int 1)))) (oI (Zj Zcn (Zd 6) (fC (.int 1))))) Zq)) (Zc (Zy Yr (Zc (Zd 7) (Zc (Zj Zf4 (fC (.int 2)) (Zd 2)) Zq))) Zq))))
  fNx))) ptD (λq=>decide (tq n R p q<0)) (λQ δ=>∃z5 z6 z7,δ=E (cL n R p (m*k) Q) z5 z6 z7) (λq=>.tuple [.str "bars",ptD q]) (Yt n) (λq done rest ea δ hI'=>?_) (Yt n) [] rfl (E [] YC YC YC) ⟨_,_,_,rfl⟩
 .have l0:=Zxc n hn
  have st:∀{S':FS} {d:Xa},Zi8 S' (E [] YC YC YC) d->Told (Jh 2 8 (Z6 (wE (Zy Je (Zc (Zag Zai (Zc (Zd 0) Zq)) (Zc (Zd 1) Zq))) Zyb) (Z6 (wE (Zy Z0 (Zc (Zd 0) Zq)) (Y0 2)) (Z6 (wE (Zy Yd (Zc (Zd 2) (Zc (Zd 0) Zq))) (Y0 3)) (Z6 (wE (Zd2 Zq) (Zcb 4)) S'))))) [tbD (Jo n R (m*k)),Zg p] d:=fun{S' d} q=>
   Zx rfl<|Zr (Z6h (Zo (Zb (Jf (Zb Za Zh) hle) (Zb Za Zh)) (.of (Zmk (by rw[hI.1];omega) (by omega) hr) (OT.data_fz _))))<|Zr (Zu (Zo (Zb Za Zh) e1))<|Zr (Zu (Zo (Zb Za (Zb Za Zh)) eS))<|Zr Zia (by rw[hE]at q;exact q)
  have hi:EvI (Zf5 (Zy Jz (Zc (Zag Zai (Zc (Zd 0) Zq)) Zq))) (E [] YC YC YC) ((Yt n).map ptD):=by
   rw[hE];exact Js (Zo (Zb (Jf (Zb (Za (i:=0) rfl) Zh) hle) Zh) (Zps n (by omega)))
  refine st ?_;unfold Zzt;cases c:Zug n R p with
  | some q=>
   obtain⟨o,δ',e,d⟩:=key.2 q c;exact Wx ⟨o,δ',Zb4 hi e,d⟩
  | none=>
   obtain⟨δ',e,q⟩:=key.1 c;obtain⟨z5,z6,z7,rfl⟩:=q;refine Zr (Zb4 hi e) ?_;have ll:=Z3m n R p (m*k) (Yt n);obtain⟨o,h1,h2⟩:=Zys (Jt (Zb (Z1 (δ:=[YB (.fz (tbD (Jo n R (m*k)))),YB (.fz (Zg p)),YB (.fz (.int m)),YB (.fz (Yn n S)),YB (.fz (Zj7 (cL n R p (m*k) (Yt n)))),z5,z6,z7]) (d:=.str "ring")) (Zb (Zwy (e:=Zd 4) (L:=cL n R p (m*k) (Yt n)) (Za rfl) (by omega)) Zh)) (show 2<=1000 by decide));rw[hE];exact⟨o,_,Zod (o:=.nd (((cL n R p (m*k) (Yt n)).map ctD).map OT.fz)) rfl (by rw[OT.data_nd,OT.map_fz];exact h1),h2⟩
 .obtain⟨l1,l2⟩:=Yg (p:=q) (by rw[<-ea];exact Qn _ (.head _))
  have dl:done.length<=60:=by
   have:=Zxc n hn;rw[<-ea,Xq]at this;omega
  obtain⟨z5,z6,z7,rfl⟩:=hI';have hmod:(q.2+1)%n<n:=Nat.mod_lt _ (by omega);obtain⟨_,a1⟩:=hI.at (i:=q.1) (by omega);obtain⟨_,a2⟩:=hI.at (i:=q.1+1) (by omega);obtain⟨_,a3⟩:=hI.at l2;obtain⟨_,a4⟩:=hI.at hmod;obtain⟨v,hv⟩:∃v,v=tw S (pn p q.1) (pn p (q.1+1)) (pn p q.2) (pn p ((q.2+1)%n)):=⟨_,rfl⟩;have kv:k*v=tq n R p q:=by
   rw[hv];show k*(S _ _+S _ _-S _ _-S _ _)=R _ _+R _ _-R _ _-R _ _;rw[Int.mul_sub,Int.mul_sub,Ue,sc _ _ a1 a3,sc _ _ a2 a4,sc _ _ a1 a4,sc _ _ a2 a3]
  have neg:(v<0)↔tq n R p q<0:=by
   rw[<-kv];exact⟨λz=>Int.mul_neg_of_pos_of_neg k0 z,λz=>Int.not_le.mp λy=>Int.not_lt.mpr (Int.mul_nonneg (Int.le_of_lt k0) y) z⟩
  have ps:(0<v)↔0<tq n R p q:=by
   rw[<-kv];exact⟨λz=>Int.mul_pos k0 z,λz=>Int.not_le.mp λy=>Int.not_lt.mpr (Bj (Int.le_of_lt k0) y) z⟩
  have eF:=Zjy (n:=302) (t:=tw S (pn p q.1) (pn p (q.1+1)) (pn p q.2) (pn p ((q.2+1)%n))) (b:=2*m) (by omega) (Bt.mul (m:=2) (Bt.of_lt (by decide) (by decide)) bm);rw[Zyf m0 k0 (sc _ _ a1 a3) (sc _ _ a2 a4) (sc _ _ a1 a4) (sc _ _ a2 a3),<-hv]at eF;have eF:Told Yr [.int v,.int (2*m)] (frD (XH (tq n R p q) (2*(m*k)))):=eF;rw[hE];have s7:∀{S':FS} {r:RS},S' [YB (.fz (tbD (Jo n R (m*k)))),YB (.fz (Zg p)),YB (.fz (.int m)),YB (.fz (Yn n S)),YB (.nd (((cL n R p (m*k) done).map ctD).map OT.fz)),YB (.fz (.int (q.1:Int))),YB (.fz (.int (q.2:Int))),YB (.fz (.int v))]=r->Z6 (wE (Zy Z4 (Zc (Zd 3) (Zc (Zd 1) (Zc (Zd 5) (Zc (Zd 6) Zq))))) (Y0 7)) S' [YB (.fz (tbD (Jo n R (m*k)))),YB (.fz (Zg p)),YB (.fz (.int m)),YB (.fz (Yn n S)),YB (.nd (((cL n R p (m*k) done).map ctD).map OT.fz)),YB (.fz (.int (q.1:Int))),YB (.fz (.int (q.2:Int))),z7]=r:=λh=>Y6 (Zu (d:=.int v) (Zo (Zb (Za rfl) (Zb (Za rfl) (Zb (Za rfl) (Zb (Za rfl) Zh)))) (.of (hv▸Zit hI l1 l2) (OT.data_fz _)))) h;refine⟨_,rfl,λc=>?_,λc=>?_⟩
  .have nn:¬v<0:=λz=>of_decide_eq_false c (neg.mp z)
   by_cases pv:0<v
   .refine⟨_,s7 (Y6 (Z5 (Zan (Zdr (Za rfl) Z1 (YS nn))) rfl) (Zaz (Zan (Zfw (Za rfl) Z1 (YQ pv))) (Zhx (ts:=((cL n R p (m*k) done).map ctD).map OT.fz) (d:=ctD (Yh (sd p q),XH (tq n R p q) (2*(m*k)))) (Jt (Zb (Zo9 (Zb (Zu6 (r:=p) (Za rfl) (Z84 (Y9 (Za rfl) Z1)) (Z84 (Y9 (Za rfl) Z1)) (Yav l1 (by rw[hI.1];exact l2))) Zh) (Zey ?_) (Zf3 _)) (Zb (Zo (Zb (Za rfl) (Zb (Zz Z1 (Za rfl) hg) Zh)) eF) Zh)) (show 2<=1000 by decide)) rfl ?_))),YB (.fz (.int (q.1:Int))),YB (.fz (.int (q.2:Int))),YB (.fz (.int v)),?_⟩
    .unfold sd
     rw[Bb,QR,hI.1];omega
    .rw[Xd,Xd]
     have:=Z3m n R p (m*k) done;omega
    .rw[Zxe,YL (ps.mp pv)]
     dsimp only;rw[Qg,Qg];rfl
   .refine⟨_,s7 (Y6 (Z5 (Zan (Zdr (Za rfl) Z1 (YS nn))) rfl) (Z5 (Zan (Zfw (Za rfl) Z1 (YS pv))) rfl)),YB (.fz (.int (q.1:Int))),YB (.fz (.int (q.2:Int))),YB (.fz (.int v)),?_⟩
    rw[Zxe,YM λz=>pv (ps.mpr z),QS]
  .obtain⟨o,δ2,e,d⟩:=Wx (S':=Zaf (tV (Zj gGt (Zd 7) (fC (.int 0)))) (Wl 4 (Ze2 (Zc (fBl Zfa (Zc (fSl (Zd 1) (oI (Zj Zcn (Zd 5) (fC (.int 1)))) (oI (Zj Zcn (Zd 6) (fC (.int 1))))) Zq)) (Zc (Zy Yr (Zc (Zd 7) (Zc (Zj Zf4 (fC (.int 2)) (Zd 2)) Zq))) Zq)))) fNx) (Zaj (S':=fNx) (Zan (Zdr (δ:=[YB (.fz (tbD (Jo n R (m*k)))),YB (.fz (Zg p)),YB (.fz (.int m)),YB (.fz (Yn n S)),YB (.nd (((cL n R p (m*k) done).map ctD).map OT.fz)),YB (.fz (.int (q.1:Int))),YB (.fz (.int (q.2:Int))),YB (.fz (.int v))]) (Za (i:=7) rfl) (Z1 (d:=.int 0)) (YQ (neg.mpr (YW c))))) (Z7 (Jt (Zb (Z1 (d:=.str "bars")) (Zb (Jt (Zb (Za (i:=5) rfl) (Zb (Za (i:=6) rfl) Zh)) (show 2<=1000 by decide)) Zh)) (show 2<=1000 by decide))))
   exact⟨o,δ2,s7 e,d⟩
theorem Ya3{n:Nat}(h:Pm n p)(h0:p.getD 0 0=0){q:Nat×Nat}(h1:q.1<q.2)(h2:q.2<n){x:Int}(m:x∈sd p q):1<=x/\x<n:=by
 have mp:x∈p:=List.mem_of_mem_drop (List.mem_of_mem_take m);obtain⟨a,b⟩:=Y4.mp (h.mem_iff.mp mp);have z:=Zgs h (u:=0) (by omega) h1 h2;rw[h0]at z;have z0:inS q.1 q.2 0=YF:=JW.mpr λy=>by have:=Wi.mp y;omega
 rw[z0]at z;have ne:x≠0:=λe=>of_decide_eq_false z (e▸m);omega
theorem Zyo:∀m,m<=10→(Yt m).Nodup:=by decide +kernel
theorem Ybp{n:Nat}(h:Pm n p){q r:Nat×Nat}(h1:q.1<q.2)(h2:q.2<n)(g1:r.1<r.2)(g2:r.2<n)(e:Yh (sd p q)=Yh (sd p r)):q=r:=by
 have key:∀u<n,inS q.1 q.2 u=inS r.1 r.2 u:=λu hu=>by
  rw[<-Zgs h hu h1 h2,<-Zgs h hu g1 g2];refine decide_eq_decide.mpr ?_;rw[<-(Z2 (sd p q)).mem_iff,e,(Z2 (sd p r)).mem_iff]
 have a1:=Wi.mp ((key (q.1+1) (by omega)).symm.trans (Wi.mpr ⟨by omega,by omega⟩));have a2:=Wi.mp ((key q.2 h2).symm.trans (Wi.mpr ⟨by omega,by omega⟩));have a3:=Wi.mp ((key (r.1+1) (by omega)).trans (Wi.mpr ⟨by omega,by omega⟩));have a4:=Wi.mp ((key r.2 g2).trans (Wi.mpr ⟨by omega,by omega⟩));exact Prod.ext (by omega) (by omega)
theorem Z8x{d:Xa}{n:Nat}(h:Sh n d)(hn:n<=64)(hp:Wf d=YD):gEq d d=YB (.bool YD)/\gNe d d=YB (.bool YF):=by
 have s:=(h.shp hn).ok;unfold gEq gNe;rw[YL (by rw[s];rfl),YL (by rw[s];rfl),Zr6 hp];exact⟨rfl,rfl⟩
theorem Yb5{w:Str}(h:PyData.strOk w=YD):Sh 0 (.str w):=⟨by rw[BP];exact h,Nat.le_of_eq rfl⟩
theorem Zvv(w:Str):Wf (.str w)=YD:=by rw[Wf]
theorem Zsv{w:Str}(h:PyData.strOk w=YD):gNe (.str w) (.str w)=YB (.bool YF)/\gEq (.str w) (.str w)=YB (.bool YD):=by
 have:=Z8x (Yb5 h) (by decide) (Zvv w);exact⟨this.2,this.1⟩
theorem Zu4:PyData.strOk "ring"=YD:=by decide +kernel
def twS(n:Nat)(S:Nat->Nat->Int)(p:List Int)(a b:Nat):Int:=tw S (pn p a) (pn p (a+1)) (pn p b) (pn p ((b+1)%n))
def Ent(n:Nat)(p:List Int):Prop:=∀x∈p,0<=x/\x<(n:Int)
theorem Ent.at{n:Nat}{p:List Int}(h:Ent n p){i:Nat}(hi:i<p.length):gIx (Zg p) (.int (i:Int))=YB (.fz (.int (pn p i:Nat)))/\pn p i<n:=by
 obtain⟨a,b⟩:=h _ (getD_mem hi);rw[Zmo (by omega) (by omega),Q7];unfold pn;rw[JV a];exact⟨rfl,by omega⟩
theorem Z61{n a b:Nat}(h:Ent n p)(hab:a<b)(hb:b<p.length)(hc:(b+1)%n<p.length)(hn:0<n):Told Z4 [Yn n S,Zg p,.int a,.int b] (.int (twS n S p a b)):=by
 obtain⟨e1,l1⟩:=h.at (i:=a) (by omega);obtain⟨e2,l2⟩:=h.at (i:=a+1) (by omega);obtain⟨e3,l3⟩:=h.at hb;obtain⟨e4,l4⟩:=h.at hc;exact Zx rfl<|Zr (Zu (Wq Za Za e1))<|Zr (Zu (Wq Za (Y9 Za Z1) e2))<|Zr (Zu (Wq Za Za e3))<|
  Zr (Zu (Wq Za (Zz (Y9 Za Z1) (Jf (Zb Za Zh) (Zct n S)) (Zq3 hn)) e4))<|
  Z7 (Zei (Zei (Y9 (Zb6 l1 l3 rfl rfl rfl) (Zb6 l2 l4 rfl rfl rfl)) (Zb6 l1 l4 rfl rfl rfl)) (Zb6 l2 l3 rfl rfl rfl))
def fits(n:Nat)(S:Nat->Nat->Int)(p:List Int)(b:Nat):Bool:=((Xo b).find? λa=>decide (twS n S p a b<0)).isNone
theorem Zin{n:Nat}{b:Nat}:fits n S p b=YD↔∀a<b,0<=twS n S p a b:=by
 unfold fits;rw[Option.isNone_iff_eq_none,Vm];exact⟨λh a ha=>Int.not_lt.mp λz=>h a (Xx.mpr ha) (YQ z),λh a ha z=>Int.not_lt.mpr (h a (Xx.mp ha)) (YW z)⟩
theorem Zyi{n b:Nat}(h:Ent n p)(hb:b<p.length)(hc:(b+1)%n<p.length)(hn:0<n)(b10:b<=100):Told Yq [Yn n S,Zg p,.int b] (.bool (fits n S p b)):=by
 have key:=Zln (g:=gNm 3) (u:=Zaf (tV (Zj gLt (Zy Z4 (Zc (Zd 0) (Zc (Zd 1) (Zc (Zd 3) (Zc (Zd 2) Zq))))) (fC (.int 0)))) (wE (fC (.bool YF)) Wu) fNx) (λa:Nat=>Xk (0+(a:Int))) (λa=>decide (twS n S p a b<0)) (λ_ δ=>∃z,δ=[YB (.fz (Yn n S)),YB (.fz (Zg p)),YB (.fz (.int b)),z]) (λ_=>.bool YF) (Xo b) (λa done rest ea δ hI=>?_) (Xo b) [] rfl [YB (.fz (Yn n S)),YB (.fz (Zg p)),YB (.fz (.int b)),YC] ⟨_,rfl⟩
 .have hi:EvI (iRa (Zc (Zd 2) Zq)) [YB (.fz (Yn n S)),YB (.fz (Zg p)),YB (.fz (.int b)),YC] ((Xo b).map λa:Nat=>Xk (0+(a:Int))):=Zkj (n:=b) (Zb (Za rfl) Zh) (by omega)
  unfold fits;cases c:(Xo b).find? λa=>decide (twS n S p a b<0)with
  | none=>
   obtain⟨δ',e,z,rfl⟩:=key.1 c;exact Zx rfl (Zr (Zb4 hi e) (Z7 Z1))
  | some a=>
   obtain⟨o,δ',e,d⟩:=key.2 a c;exact Zx rfl (Wx ⟨o,δ',Zb4 hi e,d⟩)
 .obtain⟨z,rfl⟩:=hI
  have ha:a<b:=Xx.mp (by rw[<-ea];exact Qn _ (.head _));have ev:EvV (Zy Z4 (Zc (Zd 0) (Zc (Zd 1) (Zc (Zd 3) (Zc (Zd 2) Zq))))) [YB (.fz (Yn n S)),YB (.fz (Zg p)),YB (.fz (.int b)),YB (.fz (.int (0+(a:Int))))] (.int (twS n S p a b)):=Zo (Zb (Za rfl) (Zb (Za rfl) (Zb ((Za (d:=.int (0+(a:Int))) rfl).cast (by rw[Bh])) (Zb (Za rfl) Zh)))) (Z61 h ha hb hc hn);exact⟨_,rfl,λc=>⟨_,Z5 (Zan (Zdr ev Z1 c)) rfl,_,rfl⟩,λc=>Zaj (Zan (Zdr ev Z1 c)) (Z7 Z1)⟩
structure OKr(n:Nat)(S:Nat->Nat->Int)(r:List Int):Prop where
 pm:Pm n r
 z:r.getD 0 0=0
 lt:r.getD 1 0<r.getD (n-1) 0
 ok:∀b<n,fits n S r b=YD
theorem Zvj:∀(p:List Int) {x y:Int} {s t:List Int},x<y->ltI (p++x::s) (p++y::t)=YD
 | [],x,y,s,t,h=>by
  rw[List.nil_append,List.nil_append,ltI,YM (by omega)];exact YQ h
 | a::p,x,y,s,t,h=>by
  rw[List.cons_append,List.cons_append,ltI,YL rfl];exact Zvj p h
def opD(o:Option (List Int)):Xa:=match o with|none=>.none|some r=>Zg r
structure Zqp(n:Nat)(S:Nat->Nat->Int)(p:List Int)(o:Option (List Int)):Prop where
 ok:∀r,o=YB r->OKr n S r/\p<+: r
 first:∀r',OKr n S r'->p<+: r'->∃r,o=YB r/\(r=r'\/ltI r r'=YD)
structure Beg(n:Nat)(S:Nat->Nat->Int)(p:List Int):Prop where
 ent:Ent n p
 nd:p.Nodup
 z:∃t,p=0::t
 ok:∀b,b+1<p.length->fits n S p b=YD
theorem Zrv(h:p<+: r)(hi:i<p.length):pn p i=pn r i:=by
 obtain⟨t,rfl⟩:=h;unfold pn;rw[Xb,Xb,QK hi]
theorem Zr9{n b:Nat}(h:p<+: r)(hb:b+1<p.length)(hn:p.length<=n):fits n S p b=fits n S r b:=by
 have e:∀a<b,twS n S p a b=twS n S r a b:=λa ha=>by
  unfold twS;rw[Vi (by omega),Zrv h (by omega),Zrv h (by omega),Zrv h (by omega),Zrv h hb]
 rw[Us,Zin,Zin];exact⟨λq a ha=>e a ha▸q a ha,λq a ha=>(e a ha).symm▸q a ha⟩
theorem Pm.of{n:Nat}(h:Ent n p)(nd:p.Nodup)(l:p.length=n):Pm n p:=by
 refine(List.perm_ext_iff_of_nodup nd (Zb0 n)).mpr λx=>⟨λhx=>Y4.mpr (h x hx),λhx=>Qx λc=>?_⟩;have nd2:(x::p).Nodup:=Qo.mpr ⟨c,nd⟩;have:=nd2.length_le_of_subset (l₂:=Jx n) λy hy=>(Xm.mp hy).elim (λe=>e▸hx) λm=>Y4.mpr (h y m);rw[Zli,JR]at this;omega
theorem Zzc{t:FT}{a b:FE}{d:Xa}(h:EvT t δ YD)(k:EvV a δ d):EvV (fIf t a b) δ d:=by
 obtain⟨o,e,d1⟩:=k;exact⟨o,by rw[Z37,h,Xg];exact e,d1⟩
theorem Zqa{t:FT}{a b:FE}{d:Xa}(h:EvT t δ YF)(k:EvV b δ d):EvV (fIf t a b) δ d:=by
 obtain⟨o,e,d1⟩:=k;exact⟨o,by rw[Z37,h,Xg];exact e,d1⟩
def cnd(n:Nat)(S:Nat->Nat->Int)(p:List Int)(x:Int):Bool:=!decide (x∈p)&&fits n S (p++[x]) (p.length-1)
theorem Beg.add{n:Nat}(B:Beg n S p)(l:p.length<n){x:Int}(h0:0<=x)(h1:x<n)(c:cnd n S p x=YD):Beg n S (p++[x]):=by
 unfold cnd at c;rw[XC]at c;obtain⟨c1,c2⟩:=c;have c1:x∉p:=λm=>by rw[YQ m]at c1;cases c1
 obtain⟨t,ht⟩:=B.z;refine⟨λy hy=>?_,?_,⟨t++[x],by rw[ht];rfl⟩,λb hb=>?_⟩
 .rcases XQ.mp hy with q|q
  .exact B.ent y q
  .rw[Xj.mp q];exact⟨h0,h1⟩
 .exact JL.mpr ⟨B.nd,Qo.mpr ⟨(λz=>nomatch z),.nil⟩,λa ha b hb e=>c1 (by rw[<-Xj.mp hb,<-e];exact ha)⟩
 .rw[Xq]at hb
  have hb:b+1<p.length+1:=hb
  by_cases q:b+1<p.length
  .rw[<-Zr9 (p:=p) ⟨[x],rfl⟩ q (by omega)]
   exact B.ok b q
  .rw[show b=p.length-1 by omega];exact c2
theorem Zvw{n:Nat}(h3:3<=n)(hn:n<=10)(B:Beg n S p)(l:p.length=n):∃o,Told (Jh 2 5 (Wz F)) [Yn n S,Zg p] (opD o)/\Zqp n S p o:=by
 obtain⟨t,ht⟩:=B.z;have pz:p.getD 0 0=0:=by rw[ht];rfl
 have st:∀{d:Xa},EvV (fIf (tAn (tV (Zj gLt (Yl gIx (Zd 1) (fC (.int 1))) (Yl gIx (Zd 1) (fUn Zo2 (fC (.int 1)))))) (tD (Zy Yq (Zc (Zd 0) (Zc (Zd 1) (Zc (Zj gSb (Zd 2) (fC (.int 1))) Zq)))))) (Zd 1) (fC .none)) [YB (.fz (Yn n S)),YB (.fz (Zg p)),YB (.fz (.int n)),YC,YC] d->Told (Jh 2 5 (Wz F)) [Yn n S,Zg p] d:=λh=>Zx rfl<|Zr (Zu (Jf (Zb Za Zh) (Zct n S)))<|Wx<|Zaj (Zan (Zm5 (Jq Za) Za (YQ (YT Nat.cast l))))<|Z7 h;have t1:EvT (tV (Zj gLt (Yl gIx (Zd 1) (fC (.int 1))) (Yl gIx (Zd 1) (fUn Zo2 (fC (.int 1)))))) [YB (.fz (Yn n S)),YB (.fz (Zg p)),YB (.fz (.int n)),YC,YC] (decide (p.getD 1 0<p.getD (n-1) 0)):=Zan (Zdr (Wq (Za (i:=1) rfl) (Z1 (d:=.int 1)) (Zmo (p:=p) (i:=1) (by decide) (by omega))) (Wq (Za (i:=1) rfl) (Zjl (Z1 (d:=.int 1))) (Zim (p:=p) (by omega))) (by rw[l];rfl));have t2:EvT (tD (Zy Yq (Zc (Zd 0) (Zc (Zd 1) (Zc (Zj gSb (Zd 2) (fC (.int 1))) Zq))))) [YB (.fz (Yn n S)),YB (.fz (Zg p)),YB (.fz (.int n)),YC,YC] (fits n S p (n-1)):=Ze1 (Zo (Zb (Za rfl) (Zb (Za rfl) (Zb ((Zei (Za (i:=2) (d:=.int n) rfl) (Z1 (d:=.int 1))).cast (YT Xk (by omega:(n:Int)-1=((n-1:Nat):Int)))) Zh))) (Zyi B.ent (by omega) (by rw[show n-1+1=n by omega,Nat.mod_self];omega) (by omega) (by omega)));have no:(OKr n S p->False)->Zqp n S p YC:=λq=>⟨λr z=>(nomatch z),λr' h hp=>by
  have e:=hp.eq_of_length (by rw[l,h.pm.len]);exact(q (e▸h)).elim⟩
 cases c1:decide (p.getD 1 0<p.getD (n-1) 0)with
 | false=>
  rw[c1]at t1;exact⟨YC,st (Zqa (Zvm t1) Z1),no λh=>of_decide_eq_false c1 h.lt⟩
 | true=>
  rw[c1]at t1;cases c2:fits n S p (n-1)with
  | false=>
   rw[c2]at t2;exact⟨YC,st (Zqa (Zsy t1 t2) Z1),no λh=>by have:=h.ok (n-1) (by omega);rw[c2]at this;cases this⟩
  | true=>
   rw[c2]at t2;have ok:OKr n S p:=⟨.of B.ent B.nd l,pz,YW c1,λb hb=>by
    by_cases q:b+1<n
    .exact B.ok b (by omega)
    .rw[show b=n-1 by omega];exact c2⟩
   refine⟨YB p,st (Zzc (Zsy t1 t2) Za),λr hr=>?_,λr' h hp=>⟨p,rfl,.inl (hp.eq_of_length (by rw[l,h.pm.len]))⟩⟩;cases hr;exact⟨ok,List.prefix_refl _⟩
theorem Zpv{n:Nat}(B:Beg n S p)(l:p.length<n){g:Nat->Option (List Int)}(hg:∀i,i<n-1->(cnd n S p (1+(i:Int))=YD->Zqp n S (p++[1+(i:Int)]) (g i))/\(cnd n S p (1+(i:Int))=YF->g i=YC)):Zqp n S p (((Xo (n-1)).find? λi=>(g i).isSome).bind g):=by
 have lead:∀r',OKr n S r'->p<+: r'->∃j r t,j<n-1/\g j=YB r/\r'=p++(1+(j:Int))::t/\(r=r'\/ltI r r'=YD):=λr' h hp=>by
  obtain⟨t,rfl⟩:=hp;have len:=h.pm.len;rw[Xq]at len;cases t with
  | nil=>rw[List.length_nil]at len;omega
  | cons y t=>
   have ym:y∈p++y::t:=Qn _ (.head _);obtain⟨y0,y1⟩:=Y4.mp (h.pm.mem_iff.mp ym);obtain⟨_,_,dj⟩:=JL.mp h.pm.nodup;have yn:y∉p:=λm=>dj y m y (.head _) rfl;obtain⟨s,hs⟩:=B.z;have yz:y≠0:=λe=>yn (by rw[e,hs];exact .head _);have ey:1+((y.toNat-1:Nat):Int)=y:=by omega
   have pre:p++[y]<+: p++y::t:=⟨t,by rw[QQ];rfl⟩;have pl:0<p.length:=by rw[hs];exact Nat.succ_pos _
   have c:cnd n S p y=YD:=by
    unfold cnd;rw[YS yn,Zr9 pre (by rw[Xq,QM];omega) (by rw[Xq,QM];omega),h.ok _ (by omega)];rfl
   have G:=(hg (y.toNat-1) (by omega)).1;rw[ey]at G;obtain⟨r,hr,lr⟩:=(G c).first _ h pre
   exact⟨y.toNat-1,r,t,by omega,hr,by rw[ey],lr⟩
 have okx:∀i r,i<n-1->g i=YB r->OKr n S r/\p++[1+(i:Int)]<+: r:=λi r hi hr=>by
  cases c:cnd n S p (1+(i:Int))with
  | false=>rw[(hg i hi).2 c]at hr;cases hr
  | true=>exact((hg i hi).1 c).ok r hr
 cases c:(Xo (n-1)).find? λi=>(g i).isSome with
 | none=>
  refine⟨λr z=>(nomatch z),λr' h hp=>?_⟩;obtain⟨j,r,t,hj,e,_⟩:=lead r' h hp;exact YX (by rw[e];rfl) (Vm.mp c j (Xx.mpr hj))
 | some i=>
  obtain⟨s,hi,bef⟩:=List.find?_range_eq_some.mp c;have hi:=Xx.mp hi;obtain⟨r,er⟩:=Ul.mp s;obtain⟨o1,o2⟩:=okx i r hi er;show Zqp n S p (g i);rw[er];refine⟨λr2 z=>?_,λr' h hp=>?_⟩
  .cases z
   exact⟨o1,(List.prefix_append _ _).trans o2⟩
  .obtain⟨j,r2,t,hj,e,et,lr⟩:=lead r' h hp
   refine⟨r,rfl,?_⟩;rcases UW i j with q|q|q
   .obtain⟨u,hu⟩:=o2
    rw[QQ]at hu;refine .inr ?_;rw[<-hu,et];exact Zvj p (by omega)
   .subst q
    rw[er]at e;cases e;exact lr
   .have:=bef j q
    rw[e]at this;cases this
theorem Ya9(o:Option (List Int)):Zgu (opD o) .none=YB (.bool o.isSome):=by cases o<;>rfl
theorem Zzl{n:Nat}(h3:3<=n)(hn:n<=10):∀(k:Nat) (p:List Int),Beg n S p->p.length<=n->n<p.length+k->∃o,Told (Yb k) [Yn n S,Zg p] (opD o)/\Zqp n S p o:=by
 intro k
 induction k with
 | zero=>exact λp _ a b=>YX b (by omega)
 | succ k ih=>
  intro p B l1 l2
  by_cases l:p.length=n
  .exact Zvw h3 hn B l
  have ll:p.length<n:=by omega
  have l0:0<p.length:=by obtain⟨t,ht⟩:=B.z;rw[ht];exact Nat.succ_pos _
  have ex:∀i:Nat,∃o,i<n-1->(cnd n S p (1+(i:Int))=YD->Told (Yb k) [Yn n S,Zg (p++[1+(i:Int)])] (opD o)/\Zqp n S (p++[1+(i:Int)]) o)/\(cnd n S p (1+(i:Int))=YF->o=YC):=λi=>by
   by_cases q:i<n-1/\cnd n S p (1+(i:Int))=YD
   .obtain⟨o,h1,h2⟩:=ih (p++[1+(i:Int)]) (B.add ll (by omega) (by omega) q.2) (by rw[Xq];exact ll) (by rw[Xq,QM];omega)
    exact⟨o,λ_=>⟨λ_=>⟨h1,h2⟩,λz=>by rw[q.2]at z;cases z⟩⟩
   .exact⟨YC,λhi=>⟨λc=>YX ⟨hi,c⟩ q,λ_=>rfl⟩⟩
  obtain⟨g,hg⟩:=Um ex;refine⟨_,?_,Zpv B ll λi hi=>⟨λc=>((hg i hi).1 c).2,(hg i hi).2⟩⟩;have key:=Zln (g:=gNm 3) (u:=Zaf (tAn (tV (Zj (Zuf YD) (Zd 3) (Zd 1))) (tD (Zy Yq (Zc (Zd 0) (Zc (Yl Zlb (Zd 1) (Zd2 (Zc (Zd 3) Zq))) (Zc (Zj gSb (Zag Zai (Zc (Zd 1) Zq)) (fC (.int 1))) Zq))))))
  (Z6 (wE (Zy (Yb k) (Zc (Zd 0) (Zc (Yl Zlb (Zd 1) (Zd2 (Zc (Zd 3) Zq))) Zq))) (Y0 4))
  (Zaf (tV (Zj Zgu (Zd 4) (fC .none)))
  (wE (Zd 4) Wu)
  fNx))
  fNx) (λi:Nat=>Xk (1+(i:Int))) (λi=>(g i).isSome) (λ_ δ=>∃z3 z4,δ=[YB (.fz (Yn n S)),YB (.fz (Zg p)),YB (.fz (.int n)),z3,z4]) (λi=>opD (g i)) (Xo (n-1)) (λi done rest ea δ hI=>?_) (Xo (n-1)) [] rfl [YB (.fz (Yn n S)),YB (.fz (Zg p)),YB (.fz (.int n)),YC,YC] ⟨_,_,rfl⟩
  .have hi:EvI (iRb (Zc (fC (.int 1)) (Zc (Zd 2) Zq))) [YB (.fz (Yn n S)),YB (.fz (Zg p)),YB (.fz (.int n)),YC,YC] ((Xo (n-1)).map λi:Nat=>Xk (1+(i:Int))):=Zwb (m:=1) (n:=n) (Zb Z1 (Zb (Za rfl) Zh)) (by decide) (by omega)
   have st:∀{S' S2:FS} {d:Xa},Zi8 S' [YB (.fz (Yn n S)),YB (.fz (Zg p)),YB (.fz (.int n)),YC,YC] d->Zi8 (Z6 (wE (Zag Zai (Zc (Zd 0) Zq)) (Y0 2)) (Z6 (Zaf (tV (Zj gEq (Zag Zai (Zc (Zd 1) Zq)) (Zd 2))) S2 fNx) S')) (Zgo 5 [Yn n S,Zg p]) d:=λq=>Zr (Zu (Jf (Zb Za Zh) (Zct n S)))<|Zr (Z5 (Zan (Zm5 (Jq Za) Za (YS λz=>l (Int.ofNat.inj z)))) rfl) q;cases c:(Xo (n-1)).find? λi=>(g i).isSome with
   | none=>
    obtain⟨δ',e,z3,z4,rfl⟩:=key.1 c;exact Zx rfl (st (Zr (Zb4 hi e) (Z7 Z1)))
   | some i=>
    obtain⟨o,δ',e,d⟩:=key.2 i c;exact Zx rfl (st (Wx ⟨o,δ',Zb4 hi e,d⟩))
  .obtain⟨z3,z4,rfl⟩:=hI
   have hi:i<n-1:=Xx.mp (by rw[<-ea];exact Qn _ (.head _));obtain⟨g1,g2⟩:=hg i hi;have t1:EvT (tV (Zj (Zuf YD) (Zd 3) (Zd 1))) [YB (.fz (Yn n S)),YB (.fz (Zg p)),YB (.fz (.int n)),YB (.fz (.int (1+(i:Int)))),z4] (!decide (1+(i:Int)∈p)):=Zan (Zz (Za rfl) (Za rfl) (Zgh YD _ _));have cat:∀{δ:Zm},δ[1]? =YB (YB (.fz (Zg p)))->δ[3]? =YB (YB (.fz (.int (1+(i:Int)))))->EvV (Yl Zlb (Zd 1) (Zd2 (Zc (Zd 3) Zq))) δ (Zg (p++[1+(i:Int)])):=λh1 h3=>Zsj (Za h1) (Zya (Za h3)) (by omega) (show 1<=1000 by decide)
   by_cases m:1+(i:Int)∈p
   .rw[YQ m]at t1
    have gn:=g2 (by unfold cnd;rw[YQ m];rfl);exact⟨_,rfl,λ_=>⟨_,Z5 (Zvm t1) rfl,_,_,rfl⟩,λz=>by rw[gn]at z;cases z⟩
   rw[YS m]at t1;have ent:Ent n (p++[1+(i:Int)]):=λy hy=>by
    rcases XQ.mp hy with q|q
    .exact B.ent y q
    .rw[Xj.mp q];exact⟨by omega,by omega⟩
   have t2:EvT (tD (Zy Yq (Zc (Zd 0) (Zc (Yl Zlb (Zd 1) (Zd2 (Zc (Zd 3) Zq))) (Zc (Zj gSb (Zag Zai (Zc (Zd 1) Zq)) (fC (.int 1))) Zq))))) [YB (.fz (Yn n S)),YB (.fz (Zg p)),YB (.fz (.int n)),YB (.fz (.int (1+(i:Int)))),z4] (fits n S (p++[1+(i:Int)]) (p.length-1)):=Ze1 (Zo (Zb (Za rfl) (Zb (cat rfl rfl) (Zb ((Zei (Jq (p:=p) (Za rfl)) Z1).cast (YT Xk (by omega:(p.length:Int)-1=((p.length-1:Nat):Int)))) Zh))) (Zyi ent (by rw[Xq];omega) (by rw[show p.length-1+1=p.length by omega,Vi ll,Xq];exact Vj _) (by omega) (by omega)));cases c:fits n S (p++[1+(i:Int)]) (p.length-1)with
   | false=>
    rw[c]at t2;have gn:=g2 (by unfold cnd;rw[c,Bool.and_false]);exact⟨_,rfl,λ_=>⟨_,Z5 (Zsy t1 t2) rfl,_,_,rfl⟩,λz=>by rw[gn]at z;cases z⟩
   | true=>
    rw[c]at t2;have T:=(g1 (by unfold cnd;rw[c,YS m];rfl)).1;have s4:wE (Zy (Yb k) (Zc (Zd 0) (Zc (Yl Zlb (Zd 1) (Zd2 (Zc (Zd 3) Zq))) Zq))) (Y0 4) [YB (.fz (Yn n S)),YB (.fz (Zg p)),YB (.fz (.int n)),YB (.fz (.int (1+(i:Int)))),z4]= .nx [YB (.fz (Yn n S)),YB (.fz (Zg p)),YB (.fz (.int n)),YB (.fz (.int (1+(i:Int)))),YB (.fz (opD (g i)))]:=(Zu (Zo (Zb (Za rfl) (Zb (cat rfl rfl) Zh)) T)).trans rfl;have t4:EvT (tV (Zj Zgu (Zd 4) (fC .none))) [YB (.fz (Yn n S)),YB (.fz (Zg p)),YB (.fz (.int n)),YB (.fz (.int (1+(i:Int)))),YB (.fz (opD (g i)))] (g i).isSome:=Zan (Zz (Za rfl) Z1 (Ya9 _));refine⟨_,rfl,λz=>?_,λz=>?_⟩
    .have z:(g i).isSome=YF:=z
     rw[z]at t4;exact⟨_,Zaz (Zsy t1 t2) (Y6 s4 (Z5 t4 rfl)),_,_,rfl⟩
    .have z:(g i).isSome=YD:=z
     rw[z]at t4;exact Zaj (Zsy t1 t2) (Zr s4 (Zaj t4 (Z7 (Za rfl))))
theorem Zmm{n:Nat}(h3:3<=n)(hn:n<=8)(hb:0<b)(bb:Bt 300 b)(W:Rw n R):∃o,Told Jb [tbD (Jo n R b)] (opD o)/\(∀r,o=YB r->Pm n r/\r.getD 0 0=0/\r.getD 1 0<r.getD (n-1) 0/\Zug n R r=YC)/\∀r,Pm n r->r.getD 0 0=0->r.getD 1 0<r.getD (n-1) 0->Zug n R r=YC->∃r1,o=YB r1/\(r1=r\/ltI r1 r=YD):=by
 obtain⟨m,k,S,e1,eS,m0,k0,rfl,bm,sc⟩:=Z3v (by omega:n<64) hb bb W.bt;have hle:Zai [tbD (Jo n R (m*k))]=YB (.int n):=by rw[Zqj,Zgq]
 have kv:∀r,Pm n r->∀q∈Yt n,k*twS n S r q.1 q.2=tq n R r q:=λr h q hq=>by
  have hI:=h.inR;obtain⟨l1,l2⟩:=Yg hq;obtain⟨_,a1⟩:=hI.at (i:=q.1) (by omega);obtain⟨_,a2⟩:=hI.at (i:=q.1+1) (by omega);obtain⟨_,a3⟩:=hI.at l2;obtain⟨_,a4⟩:=hI.at (Nat.mod_lt (q.2+1) (by omega:0<n));show k*(S _ _+S _ _-S _ _-S _ _)=R _ _+R _ _-R _ _-R _ _;rw[Int.mul_sub,Int.mul_sub,Ue,sc _ _ a1 a3,sc _ _ a2 a4,sc _ _ a1 a4,sc _ _ a2 a3]
 have bar:∀r,Pm n r->(Zug n R r=YC↔∀b<n,fits n S r b=YD):=λr h=>by
  unfold Zug;rw[Vm];constructor
  .intro q b hb
   refine Zin.mpr λa ha=>Int.not_lt.mp λz=>?_;have hm:(a,b)∈Yt n:=Zk5 ha hb;refine q (a,b) hm (YQ ?_);rw[<-kv r h _ hm];exact Int.mul_neg_of_pos_of_neg k0 z
  .intro q x hx z
   obtain⟨l1,l2⟩:=Yg hx;have:=Zin.mp (q x.2 l2) x.1 l1;have z:=YW z;rw[<-kv r h _ hx]at z;exact Int.not_lt.mpr (Int.mul_nonneg (Int.le_of_lt k0) this) z
 have B0:Beg n S [0]:=⟨λx hx=>by rw[Xj.mp hx];exact⟨JN _,by omega⟩,Qo.mpr ⟨(λz=>nomatch z),.nil⟩,⟨[],rfl⟩,λb hb=>YX hb (by rw[QM];omega)⟩;obtain⟨o,T,G⟩:=Zzl h3 (by omega) (S:=S) 8 [0] B0 (by rw[QM];omega) (by rw[QM];omega);refine⟨o,Zx rfl<|Zr (Z5 (Zan (Zdr (Jf (Zb Za Zh) hle) Z1 (YS (by omega)))) rfl)<|Z7 (Zo (Zb (Zo (Zb (Zo (Zb Za Zh) e1) (Zb Za Zh)) eS) (Zb (Zya Z1) Zh)) T),λr hr=>?_,λr h z l q=>?_⟩
 .obtain⟨K,_⟩:=G.ok r hr
  exact⟨K.pm,K.z,K.lt,(bar r K.pm).mpr K.ok⟩
 .refine G.first r ⟨h,z,l,(bar r h).mp q⟩ ?_
  have len:=h.len;cases r with
  | nil=>rw[List.length_nil]at len;omega
  | cons x r=>
   have z:x=0:=z;exact⟨r,by rw[z];rfl⟩
theorem Zgn(k:Nat)(i:Int):Told (Zt (k+1)) [.int i,.int i] (.bool YD) :=
 show Told (Jh 2 4 (Wo (Zt k))) [.int i,.int i] (.bool YD)from Zx rfl<|Wx<|Zaj (Yep (Zgi Za) rfl)<|Z7 (Zf8 (Zob Za rfl) (Zf8 (Ybq (Zgi Za) rfl) (Zm5 Za Za (YQ rfl))))
theorem Zn6(k:Nat){w:Str}(h:PyData.strOk w=YD):Told (Zt (k+1)) [.str w,.str w] (.bool YD) :=
 show Told (Jh 2 4 (Wo (Zt k))) [.str w,.str w] (.bool YD)from Zx rfl<|Zr (Z5 (Yep (Zgi Za) rfl) rfl)<|Wx<|Zaj (Yep (Zgi Za) rfl)<|Z7 (Zf8 (Zob Za rfl) (Zz Za Za (Zsv h).2))
theorem J0{k:Nat}{x:Xa}(hx:x= .list ds\/x= .tuple ds)(h:∀d∈ds,Told (Zt k) [d,d] (.bool YD)):Told (Zt (k+1)) [x,x] (.bool YD):=by
 have key:Zsf "int" x=YF->Zsf "str" x=YF->Ziu x=YF->Zai [x]=YB (.int ds.length)->Z9d [x,x]=YB (Znc ds ds)->Told (Zt (k+1)) [x,x] (.bool YD):=λh1 h2 hf hl hz=>
  show Told (Jh 2 4 (Wo (Zt k))) [x,x] (.bool YD)from Zx rfl<|Zr (Z5 (Ze1 (Zob Za h1 hf)) rfl)<|Zr (Z5 (Ze1 (Zob Za h2 hf)) rfl)<|
   Zr (Z5 (Z3n (Zan (Zz (Zgi Za hf) (Zgi Za hf) ((Zwx _ _).trans (by rw[bne_self_eq_false])))) (Zan (Zz (Zgi Za hf) (Zgi Za hf) ((Zwx _ _).trans (by rw[bne_self_eq_false]))))) rfl)<|
   Zr (Z5 (Zan (Ztj (Jf (Zb Za Zh) hl) (Jf (Zb Za Zh) hl) (by rw[YQ rfl];rfl))) rfl)<|
   Zga (ds:=Znc ds ds) (λi δ=>∃z1 z2,δ=[YB (.fz x),YB (.fz x),z1,z2]) (Zvc (Zb Za (Zb Za Zh)) hz) ⟨YC,YC,rfl⟩ (λi d δ hd q=>by
    obtain⟨z1,z2,rfl⟩:=q;obtain⟨a,b,ha,hb,rfl⟩:=Zrw hd;rw[ha]at hb;cases hb;exact⟨_,_,rfl,.inl (Z5 (Zke (p:=YD) (Ze1 (Zo (Zb Za (Zb Za Zh)) (h a (Qz ha))))) rfl),_,_,rfl⟩) λδ' _=>Z7 Z1
 rcases hx with rfl|rfl
 .exact key rfl rfl rfl (Zoz ds) rfl
 .exact key rfl rfl rfl (Z3u ds) rfl
theorem Zrx(k:Nat)(q:Rat):Told (Zt (k+2)) [frD q,frD q] (.bool YD):=J0 (ds:=[.int q.num,.int (q.den:Int)]) (.inr rfl) λd m=>by
 rcases Xm.mp m with rfl|m
 .exact Zgn k _
 .rw[Xj.mp m];exact Zgn k _
theorem Zxj(k:Nat)(L:List (List Int×Rat)):Told (Zt (k+5)) [.tuple [.str "ring",Zj7 L],.tuple [.str "ring",Zj7 L]] (.bool YD):=J0 (ds:=[.str "ring",Zj7 L]) (.inr rfl) λd m=>by
 rcases Xm.mp m with rfl|m
 .exact Zn6 (k+3) Zu4
 rw[Xj.mp m];refine J0 (k:=k+3) (ds:=L.map ctD) (.inl rfl) λd m=>?_;obtain⟨c,_,rfl⟩:=Xv.mp m;refine J0 (k:=k+2) (ds:=[Zg c.1,frD c.2]) (.inr rfl) λd m=>?_;rcases Xm.mp m with rfl|m
 .refine J0 (k:=k+1) (ds:=c.1.map Xk) (.inl rfl) λd m=>?_
  obtain⟨i,_,rfl⟩:=Xv.mp m;exact Zgn k i
 .rw[Xj.mp m];exact Zrx k _
theorem Z0f{t:FT}(xs:List α)(x1 x2:α->Xa)(p:α->Bool)(f:α->Xa)(hi:EvI it δ (xs.map λx=>.tuple [x1 x,x2 x]))(hz:xs.length<=1000000)(hb:blk 2 caps δ=YC::YC::cs)
  (hg:∀x∈xs,∀z0 z1,g (.tuple [x1 x,x2 x]) (z0::z1::cs)=YB (YB (.fz (x1 x))::YB (.fz (x2 x))::cs)) (ht:∀x∈xs,EvT t (YB (.fz (x1 x))::YB (.fz (x2 x))::cs) (p x)) (hm:∀x∈xs,p x=YD->EvV me (YB (.fz (x1 x))::YB (.fz (x2 x))::cs) (f x)) :
  EvV (W3 2 caps it g t me) δ (.list ((xs.filter p).map f)):=by
 have ch:∀x,∃o:OT,x∈xs->p x=YD->me (YB (.fz (x1 x))::YB (.fz (x2 x))::cs)=YB (o,YB (.fz (x1 x))::YB (.fz (x2 x))::cs)/\o.data=f x:=λx=>by
  by_cases c:x∈xs/\p x=YD
  .obtain⟨o,h⟩:=hm x c.1 c.2
   exact⟨o,λ_ _=>h⟩
  .exact⟨.fz .none,λa b=>YX ⟨a,b⟩ c⟩
 obtain⟨F,hF⟩:=Um ch;refine⟨_,Ybv xs x1 x2 p F hi hz hb hg ht λx m q=>(hF x m q).1,?_⟩;rw[OT.data_nd,XR];exact YT Qu (Xu λx m=>(hF x (Qs.mp m).1 (Qs.mp m).2).2)
def cz(Z:List (List Int×Int))(x y:Nat):Int:=(Z.map λq=>if sep q.1 x y=YD then q.2 else 0).sum
theorem Z6k(Z:List (List Int×Int))(q:List Int×Int)(x y:Nat):cz (Z++[q]) x y=cz Z x y+(if sep q.1 x y=YD then q.2 else 0):=by
 unfold cz;rw[Qg,List.sum_append];show _+(_+0)=_;rw[Int.add_zero]
theorem Zqk{n:Nat}{f g:Nat->Nat->Int}(h:∀i j,i<n->j<n->f i j=g i j):Yn n f=Yn n g:=by
 unfold Yn Zzf;refine YT Qu (Xu λi hi=>YT Qu (Xu λj hj=>?_));rw[h i j (Xx.mp hi) (Xx.mp hj)]
theorem Zww{n:Nat}(n10:n<=10){Ls:List (List Int)}{vs:List Int}(hl:Ls.length<=60)(hv:∀v∈vs,0<=v/\v<1000*B20):Told Zbt [.int n,.list (Ls.map Zg),Zg vs] (Yn n (cz (Ls.zip vs)))/\Rw n (cz (Ls.zip vs)):=by
 obtain⟨D0,f0⟩:=Z1s (n:=n);have s1:wE (W3 1 [0] (iRa (Zc (Zd 0) Zq)) (gNm 0) Znd (Z9b (fC (.int 0)) (Zd 1))) (Zcb 3) (Zgo 8 [.int n,.list (Ls.map Zg),Zg vs])= .nx [YB (.fz (.int n)),YB (.fz (.list (Ls.map Zg))),YB (.fz (Zg vs)),YB (.nd (((Xo n).map λ_=>X5 n 0).map Zxg)),YC,YC,YC,YC]:=by
  refine(Zl3 (Zr3 (cs:=[YB (.fz (.int n))]) (Xo n) (λi:Nat=>Xk (0+(i:Int))) (λ_=>Zxg (X5 n 0)) (Zkj (Zb (Za rfl) Zh) (by omega)) (by rw[XD,Qk];omega) rfl λx _=>?_)).trans (by rw[XR];rfl);unfold Zxg;rw[List.map_replicate];exact Ybh (by omega)
 obtain⟨δ',e,L,z4,z5,z6,z7,rfl,D,ex,bd⟩:=Zg3 (S:=Zau (iRa (Zc (Zd 0) Zq)) (gNm 6) (Zau (iRa (Zc (Zd 0) Zq)) (gNm 7) Ztg)) (g:=gTp 2 (gCn (gNm 4) (gCn (gNm 5) gNl))) (it:=Zon (Zc (Zd 1) (Zc (Zd 2) Zq))) (δ:=[YB (.fz (.int n)),YB (.fz (.list (Ls.map Zg))),YB (.fz (Zg vs)),YB (.nd (((Xo n).map λ_=>X5 n 0).map Zxg)),YC,YC,YC,YC]) (ds:=Znc (Ls.map Zg) (vs.map Xk)) (λk δ=>∃(L:List (List Int)) (z4 z5 z6 z7:Option OT),δ=[YB (.fz (.int n)),YB (.fz (.list (Ls.map Zg))),YB (.fz (Zg vs)),YB (.nd (L.map Zxg)),z4,z5,z6,z7]/\Dr n B25 L/\(∀x y,x<n->y<n->fnL L x y=cz ((Ls.zip vs).take k) x y)/\∀x y,x<n->y<n->0<=fnL L x y/\fnL L x y<=k*(1000*B20)) (Zvh (Za rfl) (Za (d:=Zg vs) rfl) rfl) ⟨_,_,_,_,_,rfl,D0,λi j hi hj=>f0 i j hi hj,λx y hx hy=>by rw[f0 x y hx hy];exact⟨JN _,Int.le_of_eq (by rw[Int.natCast_zero,Int.zero_mul])⟩⟩ λk d δ hd q=>by
  obtain⟨L,z4,z5,z6,z7,rfl,D,ex,bd⟩:=q;rw[Zml,Xp]at hd;obtain⟨⟨s,w⟩,hq,rfl⟩:=VG.mp hd;have ml:=List.of_mem_zip (Qz hq);have k60:k<60:=by
   have:=(Xw.mp hq).1;rw[List.length_zip]at this;omega
  obtain⟨w0,w1⟩:=hv w ml.2;have kB:(k:Int)*(1000*B20)<=60*(1000*B20):=Int.mul_le_mul_of_nonneg_right (by omega) (by decide);obtain⟨L',y6,y7,e,D',f⟩:=Zz1 (A:=.list (Ls.map Zg)) (B:=Zg vs) (s:=s) (z6:=z6) (z7:=z7) n10 D (λx y hx hy=>(bd x y hx hy).1) w0 λx y hx hy=>by
   have:=(bd x y hx hy).2;have:B25=100000*B20:=by decide
   have:0<B20:=by decide
   omega
  refine⟨_,_,rfl,.inl e,L',_,_,y6,y7,rfl,D',λi j hi hj=>?_,λx y hx hy=>?_⟩
  .rw[f i j hi hj,ex i j hi hj,List.take_add_one,hq]
   exact(Z6k _ (s,w) i j).symm
  .have:=bd x y hx hy
   rw[f x y hx hy,Int.natCast_succ,Int.add_mul,Int.one_mul];split<;>omega
 have tk:(Ls.zip vs).take (Znc (Ls.map Zg) (vs.map Xk)).length=Ls.zip vs:=by rw[Zml,Xd,U7]
 rw[tk]at ex;obtain⟨e1,e2⟩:=Z5m D;refine⟨⟨_,Z54 rfl (Y6 s1 (Y6 e (Z8t (i:=3) rfl))),?_⟩,λi j hi hj=>⟨?_,?_⟩,λi j hi hj=>?_⟩
 .rw[OT.data_nd,e1]
  exact Zqk ex
 .unfold cz
  exact YT List.sum (Xu λq _=>by rw[Zri])
 .unfold cz
  rw[show(Ls.zip vs).map (λq=>if sep q.1 i i=YD then q.2 else 0)=(Ls.zip vs).map (λ_=>0)from Xu λq _=>by rw[Zrd,YM Xn]];generalize Ls.zip vs=Z
  induction Z with
  | nil=>rfl
  | cons q Z ih=>rw[XM,JK,ih];rfl
 .rw[<-ex i j hi hj]
  have:=e2 i j hi hj;refine Bt.of_lt ?_ ?_
  .have:(0:Int)<2^300:=by decide +kernel
   omega
  .have:B25<2^300:=by decide +kernel
   omega
def wL(Z:List (List Int×Int))(b:Int):List (List Int×Rat):=(Z.filter λq=>decide (0<q.2)).map λq=>(q.1,XH q.2 b)
theorem Zpq{Ls:List (List Int)}{vs:List Int}(hl:Ls.length<=60)(hb:0<b)(bb:Bt 400 b):Told Jp [.list (Ls.map Zg),Zg vs,.int b] (Zj7 (sCt (wL (Ls.zip vs) b))):=by
 have l:(Ls.zip vs).length<=60:=by rw[List.length_zip];omega
 have l2:=VR (λq:List Int×Int=>decide (0<q.2)) (Ls.zip vs);refine Zx rfl<|Z7<|Zwy ?_ (by unfold wL;rw[Xd];omega);refine(Z0f (t:=tV (Zj gGt (Zd 1) (fC (.int 0)))) (cs:=[YB (.fz (.int b))]) (Ls.zip vs) (λq=>Zg q.1) (λq=>.int q.2) (λq=>decide (0<q.2)) (λq=>ctD (q.1,XH q.2 b)) (Zvh Za (Za (d:=Zg vs) rfl) (Zml _ _ _ _)) (by omega) rfl (λ_ _ _ _=>rfl) (λq _=>Zan (Zfw Za Z1 rfl)) λq _ _=>?_).cast ?_
 .exact Jt (Zb (Zo9 (Zb (Za (d:=Zg q.1) rfl) Zh) (Z50 _) (Zf3 _)) (Zb (Zo (Zb (Za (d:=.int q.2) rfl) (Zb (Za (d:=.int b) rfl) Zh)) (Zkx hb bb)) Zh)) (show 2<=1000 by decide)
 .unfold Zj7 wL
  rw[XR];rfl
def rz(n:Nat)(p:List Int)(w:Nat×Nat->Int):List (List Int×Int):=(Yt n).map λq=>(Yh (sd p q),w q)
theorem Pm.pn{n:Nat}(h:Pm n p){u:Nat}(hu:u<n):((pn p u:Nat):Int)=p.getD u 0:=JV (h.inR.2 u hu).1
theorem Z4j{n:Nat}(h:Pm n p)(w:Nat×Nat->Int){u v:Nat}(hu:u<n)(hv:v<n):cz (rz n p w) (pn p u) (pn p v)=((Yt n).map λq=>cd (w q) q.1 q.2 u v).sum:=by
 unfold cz rz;rw[XR];refine YT List.sum (Xu λq hq=>?_);obtain⟨l1,l2⟩:=Yg hq;have mm:∀{u:Nat},u<n->decide (((My.pn p u:Nat):Int)∈Yh (sd p q))=inS q.1 q.2 u:=fun{u} hu=>by
  rw[<-Zgs h hu l1 l2];exact decide_eq_decide.mpr (by rw[h.pn hu,(Z2 (sd p q)).mem_iff])
 show(if sep (Yh (sd p q)) (My.pn p u) (My.pn p v)=YD then w q else 0)=_;unfold sep cd Zmb;rw[mm hu,mm hv];cases(inS q.1 q.2 u !=inS q.1 q.2 v)
 .rw[YM Xn,YM Xn,Int.mul_zero]
 .rw[YL rfl,YL rfl,Int.mul_one]
theorem kal{n:Nat}{D:Nat->Nat->Int}{P:Int->Prop}(ad:∀x y,P x->P y->P (x+y))(h:∀a c,a<c->c<n->P (twP n D a c)){k l:Nat}(h1:i<j)(h2:j<=k)(h3:k<l)(h4:l<=n):P (D i k+D j (l%n)-D i (l%n)-D j k):=by
 have g:∀(m a k:Nat),a<k->k+m<n->P (D a k+D (a+1) ((k+m+1)%n)-D a ((k+m+1)%n)-D (a+1) k):=by
  intro m
  induction m with
  | zero=>exact λa k ha hk=>h a k ha hk
  | succ m ih=>
   intro a k ha hk;have t:=ad _ _ (ih a k ha (by omega)) (h a (k+m+1) (by omega) (by omega));unfold twP at t;rw[Vi (show k+m+1<n by omega)]at t;refine cast (YT P ?_) t;rw[show k+(m+1)+1=k+m+1+1 by omega];omega
 have g2:∀(m i:Nat),i+m<k->P (D i k+D (i+m+1) (l%n)-D i (l%n)-D (i+m+1) k):=by
  have one:∀a,a<k->P (D a k+D (a+1) (l%n)-D a (l%n)-D (a+1) k):=λa ha=>by
   have:=g (l-k-1) a k ha (by omega);rw[show k+(l-k-1)+1=l by omega]at this;exact this
  intro m
  induction m with
  | zero=>exact λi hi=>one i hi
  | succ m ih=>
   intro i hi;have t:=ad _ _ (ih i (by omega)) (one (i+m+1) (by omega));refine cast (YT P ?_) t;rw[show i+(m+1)+1=i+m+1+1 by omega];omega
 have:=g2 (j-i-1) i (by omega);rw[show i+(j-i-1)+1=j by omega]at this;exact this
theorem Zs3(ns:List Int)(st:Nat)(m:Nat)(c:Int)(hm:m<=1000):∃vs:List Int,Told J5 [Zg ns,.int st,.int m,.int c] (Zg vs)/\vs.length=m/\∀v∈vs,0<=v/\v<B20:=Yfr ns st m c (cnt:=Zd 2) hm λh=>Za h
def lO(L:List (List Int)):OT:=.nd ((L.map Zg).map OT.fz)
theorem Zm0(L:List (List Int)):(lO L).data= .list (L.map Zg):=by unfold lO;rw[OT.data_nd,OT.map_fz]
theorem Zxq(L:List (List Int))(x:List Int):lO (L++[x])= .nd ((L.map Zg).map OT.fz++[OT.fz (Zg x)]):=by
 unfold lO;rw[Qg,Qg];rfl
theorem Zru(L:List (List Int)):OT.datas ((L.map Zg).map OT.fz)=L.map Zg:=by
 have:=Zm0 L;unfold lO at this;rw[OT.data_nd]at this;rw[OT.datas_map];exact PyData.list.inj this
theorem Yfo(L:List (List Int)):Zoh ((L.map Zg).map OT.fz)=YD:=by
 induction L with
 | nil=>rfl
 | cons x L ih=>exact ih
theorem Zx8{δ:Zm}{i:Nat}{L:List (List Int)}(h:δ[i]? =YB (YB (lO L))):Ycp δ[i]? =YB ((L.map Zg).map OT.fz):=by
 rw[h];show(if Zoh ((L.map Zg).map OT.fz)=YD then YB ((L.map Zg).map OT.fz)else YC)=_;rw[YL (Yfo L)]
theorem Z2j{δ:Zm}{i:Nat}{L:List (List Int)}(h:δ[i]? =YB (YB (lO L))):Zr1 i δ=YB (lO L,δ):=by
 unfold Zr1;rw[Zx8 h,Xg,Zru];rfl
theorem Yi6{a:FE}{l:List (List Int)}(hi:δ[i]? =YB (YB (lO l)))(ha:EvV a δ (.int j))(hj:j<l.length)(hl:l.length<=1000) :
  Z85 i a δ=YB (.fz (Zg (l.getD j [])),δ.set i (YB (lO (l.eraseIdx j)))):=by
 obtain⟨t,e0,d0⟩:=ha;rw[Zsd d0]at e0;have e1:((l.map Zg).map OT.fz)[j]? =YB (.fz (Zg (l.getD j []))):=by
  rw[Xp,Xp,Xb,Xf hj];rfl
 unfold lO at hi|-
 unfold Z85;rw[hi];dsimp only;rw[e0,Xg];dsimp only;rw[hi];dsimp only;rw[OT.data_fz];dsimp only;rw[Zrn (by rw[Xd,Xd];exact hj)];dsimp only;rw[e1];dsimp only;rw[YL (by rw[Xd,Xd,Qk];omega),Zjf,Zjf]
theorem popS{e:FE}(h:e δ=YB (o,δ')):wE e (Y0 i) δ= .nx (δ'.set i (YB (.fz o.data))):=by
 rw[Zgm,h,Jd,Zv6]
theorem Z1i{δ:Zm}{i:Nat}{L:List (List Int)}{x:List Int}(h:δ[i]? =YB (YB (lO (L++[x])))):EvV (Yem i (fUn Zo2 (fC (.int 1)))) δ (Zg x):=by
 obtain⟨t,e,d⟩:=Zjl (Z1 (δ:=δ) (d:=.int 1));refine⟨.fz (Zg x),?_,OT.data_fz _⟩;unfold Yem;rw[Zx8 h,Xg,e,Xg];dsimp only;rw[d,Zru,Qg];dsimp only;rw[show atI (L.map Zg++[x].map Zg) (-1)=YB (Zg x)from Zq0 _ _];rfl
def sL(l:List (List Int)):Nat:=(l.map List.length).sum
theorem Zmh:∀(l:List (List Int)) (j:Nat),j<l.length->sL (l.eraseIdx j)+(l.getD j []).length=sL l
 | [],_,h=>by simp at h
 | a::l,0,_=>by unfold sL;rw[XM,JK];exact Nat.add_comm _ _
 | a::l,j+1,h=>by
  have:=Zmh l j (by simpa using h);unfold sL at this|-
  rw[XM,JK,<-this];show(a.length+_)+_=_;exact Nat.add_assoc _ _ _
theorem Z77{S:FS}{Q:Xa->Prop}(I:Nat->Zm->Prop)(hi:EvI it δ ds)(h0:I 0 δ)(turn:∀(i:Nat) (d:Xa) (δ:Zm),ds[i]? =YB d->I i δ->(∃δ1 δ2,g d δ=YB δ1/\S δ1= .nx δ2/\I (i+1) δ2)\/∃δ1,g d δ=YB δ1/\Zsi S δ1 Q)(fin:∀δ',I ds.length δ'->Zsi S' δ' Q):Zsi (Z6 (Zau it g S) S') δ Q:=by
 have key:(∃δ',forLoop g S ds δ= .nx δ'/\I ds.length δ')\/∃o δ',forLoop g S ds δ= .rt o δ'/\Q o.data:=by
  clear fin hi
  induction ds generalizing δ I with
  | nil=>exact .inl ⟨δ,rfl,h0⟩
  | cons d ds ih=>
   rcases turn 0 d δ rfl h0 with⟨δ1,δ2,e1,e2,h1⟩|⟨δ1,e1,d',⟨o,δ2,e2,hd⟩,hq⟩
   .rcases ih (δ:=δ2) (λi δ=>I (i+1) δ) h1 λi d' δ hd hi=>turn (i+1) d' δ (by simpa using hd) hi with⟨δ',e3,h3⟩|⟨o,δ',e3,h3⟩
    .refine .inl ⟨δ',?_,h3⟩
     rw[Zav,e1];dsimp only;rw[e2];exact e3
    .refine .inr ⟨o,δ',?_,h3⟩
     rw[Zav,e1];dsimp only;rw[e2];exact e3
   .refine .inr ⟨o,δ2,?_,by rw[hd];exact hq⟩
    rw[Zav,e1];dsimp only;rw[e2]
 rcases key with⟨δ',e,h⟩|⟨o,δ',e,h⟩
 .exact Zbl (Zb4 hi e) (fin δ' h)
 .exact Zzw ⟨_,⟨o,δ',Zb4 hi e,rfl⟩,h⟩
def rl(S:Nat->Nat->Int)(i j k l:Nat):Int:=min (S i k+S j l) (S i l+S j k)-(S i j+S k l)
theorem Zgp{n k l:Nat}(hi:i<n)(hj:j<n)(hk:k<n)(hl:l<n):Told Ye [Yn n S,.int i,.int j,.int k,.int l] (.tuple [.int (S i j+S k l),.int (S i k+S j l),.int (S i l+S j k)]) :=
 Zx rfl<|Z7<|Jt (Zb (Y9 (Zb6 hi hj rfl rfl rfl) (Zb6 hk hl rfl rfl rfl)) (Zb (Y9 (Zb6 hi hk rfl rfl rfl) (Zb6 hj hl rfl rfl rfl)) (Zb (Y9 (Zb6 hi hl rfl rfl rfl) (Zb6 hj hk rfl rfl rfl)) Zh))) (show 3<=1000 by decide)
theorem Yce(i j:Int):(if j<i then j else i)=min i j:=by
 by_cases c:j<i
 .rw[YL c,Uk (by omega)]
 .rw[YM c,Uw (by omega)]
theorem Z3y{a b:FE}{i j:Int}(ha:EvV a δ (.int i))(hb:EvV b δ (.int j)):EvV (Zag Z3x (Zc a (Zc b Zq))) δ (.int (min i j)):=Yce i j▸Jf (Zb ha (Zb hb Zh)) (Ydz i j)
theorem Zom(x y z:Int):Told Yu [.tuple [.int x,.int y,.int z]] (.int (min y z-x)) :=
 Zx rfl<|Z7<|Zei (Z3y (Wq Za Z1 rfl) (Wq Za Z1 rfl)) (Wq Za Z1 rfl)
def Zpe(p:List Int)(i:Nat):List (Int×Int):=(Xo i).flatMap λk=>(p.drop k).map λy=>(p.getD k 0,y)
def dbl(p:List Int):List (Int×Int):=Zpe p p.length
theorem Zlf(p:List Int)(i:Nat):Zpe p (i+1)=Zpe p i++(p.drop i).map λy=>(p.getD i 0,y):=by
 unfold Zpe;rw[Uq,VB,List.flatMap_cons,List.flatMap_nil,QS]
theorem Zv9(p:List Int)(i:Nat):(Zpe p i).length<=i*p.length:=by
 induction i with
 | zero=>exact QH _
 | succ i ih=>
  rw[Zlf,Xq,Xd,QR,Nat.succ_mul];omega
theorem Zj3{x:Int×Int}:x∈dbl p↔∃k j,k<=j/\j<p.length/\x=(p.getD k 0,p.getD j 0):=by
 unfold dbl Zpe;rw[U9];constructor
 .rintro⟨k,hk,h⟩
  obtain⟨y,hy,rfl⟩:=Xv.mp h;obtain⟨j,hj,rfl⟩:=List.getElem_of_mem hy;rw[QR]at hj;refine⟨k,k+j,by omega,by omega,?_⟩;rw[List.getElem_drop,Xb (i:=k+j),Xf (by omega)];rfl
 .rintro⟨k,j,h1,h2,rfl⟩
  refine⟨k,Xx.mpr (by omega),Xv.mpr ⟨_,?_,rfl⟩⟩;have:p.getD j 0=(p.drop k).getD (j-k) 0:=by
   rw[Xb,Xb,Vl,show k+(j-k)=j by omega]
  rw[this];exact getD_mem (by rw[QR];omega)
theorem Zk8{x:Int×Int}(h:x∈dbl p):x.1∈p/\x.2∈p:=by
 obtain⟨k,j,h1,h2,rfl⟩:=Zj3.mp h;exact⟨getD_mem (by omega),getD_mem h2⟩
theorem Zxf{d:Xa}(h:(p.map Xk)[i]? =YB d):i<p.length/\d= .int (p.getD i 0):=by
 rw[Xp]at h;cases e:p[i]? with
 | none=>rw[e]at h;cases h
 | some x=>
  rw[e]at h;cases h;exact⟨(Xw.mp e).1,by rw[Xb,e];rfl⟩
theorem Zgc(p:List Int)(hl:p.length<=100):Told Ja [Zg p] (.list ((dbl p).map prD)):=by
 refine Zx rfl<|Zr Zia<|Zga (ds:=Zmw (p.map Xk)) (λi δ=>∃z1 z2 z3,δ=[YB (.fz (Zg p)),YB (.nd (((Zpe p i).map prD).map OT.fz)),z1,z2,z3]) (Z4k Za) ⟨_,_,_,rfl⟩ (λi d δ hd q=>?_) λδ' q=>?_
 .obtain⟨z1,z2,z3,rfl⟩:=q
  obtain⟨x,hx,rfl⟩:=Znn hd;obtain⟨hi,rfl⟩:=Zxf hx;have ln:=Zv9 p i;have l2:i*p.length<=100*100:=Nat.mul_le_mul (by omega) hl;refine Zsp (ds:=(p.drop i).map Xk) (λj δ=>∃z,δ=[YB (.fz (Zg p)),YB (.nd (((Zpe p i++((p.drop i).take j).map λy=>(p.getD i 0,y)).map prD).map OT.fz)),YB (.fz (.int i)),YB (.fz (.int (p.getD i 0))),z]) rfl (Js (Zu6 Za (Z84 Za) Yeb (Zoa (by omega)))) ⟨z3,by rw[List.take_zero,List.map_nil,QS];rfl⟩ (λj d δ hd q=>?_) λδ' q=>?_
  .obtain⟨z,rfl⟩:=q
   obtain⟨hj,rfl⟩:=Zxf hd;refine⟨_,_,rfl,.inl (Zhx (Jt (Zb Za (Zb Za Zh)) (show 2<=1000 by decide)) rfl (by rw[Xd,Xd,Xq,Xd,Bb,QR];omega)),YB (.fz (.int ((p.drop i).getD j 0))),?_⟩;have e:(p.drop i).take (j+1)=(p.drop i).take j++[(p.drop i).getD j 0]:=by
    rw[List.take_succ,Xb,Xf hj];rfl
   rw[e];simp only[Qg,QQ];rfl
  .obtain⟨z,rfl⟩:=q
   rw[Xd,U7,<-Zlf];exact⟨_,_,_,rfl⟩
 .obtain⟨z1,z2,z3,rfl⟩:=q
  refine Yb9 rfl ?_;rw[OT.data_nd,OT.map_fz];unfold Zmw;rw[Xd,List.length_zipIdx,Xd];rfl
def away(n:Nat)(p:List Int):List Int:=((Xo n).filter λi:Nat=>!decide ((i:Int)∈p)).map λi:Nat=>(i:Int)
theorem Zbc{n:Nat}{x:Int}:x∈away n p↔0<=x/\x<n/\x∉p:=by
 unfold away;rw[Xv];constructor
 .rintro⟨i,hi,rfl⟩
  obtain⟨h1,h2⟩:=Qs.mp hi;have:=Xx.mp h1;exact⟨by omega,by omega,by simpa using h2⟩
 .rintro⟨h1,h2,h3⟩
  refine⟨x.toNat,Qs.mpr ⟨Xx.mpr (by omega),?_⟩,by omega⟩;rw[show((x.toNat:Nat):Int)=x by omega,YS h3];rfl
theorem Zzp(n:Nat)(p:List Int):(away n p).length<=n:=by
 unfold away;rw[Xd];exact QD (VR _ _) (Nat.le_of_eq XD)
theorem Z7t{n:Nat}(hi:EvI it δ (Zdn 0 n))(hn:n<=1000)(hb:blk 1 caps δ=[YC,YB (.fz (Zg p))]):EvV (W3 1 caps it (gNm 0) (tV (Zj (Zuf YD) (Zd 0) (Zd 1))) (Zd 0)) δ (Zg (away n p)):=by
 refine(Zl1 (cs:=[YB (.fz (Zg p))]) (Xo n) (λi:Nat=>Xk (0+(i:Int))) (λi=>!decide ((i:Int)∈p)) hi (by rw[XD];omega) hb (λx _=>Zan (Zz Za Za ?_)) λx _ _=>rfl).cast ?_
 .rw[Zgh,Bh];rfl
 .unfold away Zg
  rw[XR];refine YT Qu (Xu λi _=>?_);show Xk (0+(i:Int))=Xk i;rw[Bh]
def rlI(S:Nat->Nat->Int)(p q:Int×Int):Int:=rl S p.1.toNat p.2.toNat q.1.toNat q.2.toNat
def Lst(S:Nat->Nat->Int)(A B:List Int)(m:Int):Prop:=(∃p∈dbl A,∃q∈dbl B,m=rlI S p q)/\∀p∈dbl A,∀q∈dbl B,m<=rlI S p q
theorem Lst.exists(S:Nat->Nat->Int){A B:List Int}{p q:Int×Int}(hp:p∈dbl A)(hq:q∈dbl B):∃m,Lst S A B m:=by
 obtain⟨vs,hv⟩:∃vs,vs=(dbl A).flatMap λp=>(dbl B).map λq=>rlI S p q:=⟨_,rfl⟩;have mem:∀x,x∈vs↔∃p∈dbl A,∃q∈dbl B,x=rlI S p q:=λx=>by
  rw[hv,U9];constructor
  .rintro⟨p,hp,h⟩
   obtain⟨q,hq,rfl⟩:=Xv.mp h;exact⟨p,hp,q,hq,rfl⟩
  .rintro⟨p,hp,q,hq,rfl⟩
   exact⟨p,hp,Xv.mpr ⟨q,hq,rfl⟩⟩
 have hm:=(mem _).mpr ⟨p,hp,q,hq,rfl⟩;obtain⟨h1,h2⟩:=Zui (ns:=vs) (List.length_pos_of_mem hm);exact⟨Yfz vs,(mem _).mp h1,λp hp q hq=>h2 _ ((mem _).mpr ⟨p,hp,q,hq,rfl⟩)⟩
theorem Zwh{n:Nat}{ea eb ec ee:FE}{a c e:Int}(h0:δ[0]? =YB (YB (.fz (Yn n S))))(h2:δ[2]? =YB (YB (.fz (fnD "tree_rule"))))(ha:EvV ea δ (.int a))(hb:EvV eb δ (.int b))(hc:EvV ec δ (.int c))(he:EvV ee δ (.int e))(ba:0<=a/\a<n)(bb:0<=b/\b<n)(bc:0<=c/\c<n)(be:0<=e/\e<n) :
  EvV (Zgd 2 "tree_rule" Yu (Zc (Zy Ye (Zc (Zd 0) (Zc ea (Zc eb (Zc ec (Zc ee Zq)))))) Zq)) δ (.int (rlI S (a,b) (c,e))):=by
 have t:=Zgp (S:=S) (n:=n) (i:=a.toNat) (j:=b.toNat) (k:=c.toNat) (l:=e.toNat) (by omega) (by omega) (by omega) (by omega);rw[JV ba.1,JV bb.1,JV bc.1,JV be.1]at t;exact Z0t h2 (Zb (Zo (Zb (Za h0) (Zb ha (Zb hb (Zb hc (Zb he Zh))))) t) Zh) (Zom _ _ _)
def Z95(n:Nat)(S:Nat->Nat->Int)(A B:List Int)(least:Int)(z6 z7 z8 z9:Option OT):Zm:=[YB (.fz (Yn n S)),YB (.fz (Zg A)),YB (.fz (fnD "tree_rule")),YB (.fz (Zg B)),YB (.fz (.list ((dbl B).map prD))),YB (.fz (.int least)),z6,z7,z8,z9]
theorem Zz4{n:Nat}{A:List Int}(hn:n<=100)(hl:A.length<=100)(hA:∀x∈A,1<=x/\x<n)(ne:A≠[]):∃m,Lst S A (away n A) m/\Told Ym [Yn n S,Zg A,fnD "tree_rule"] (.int (max 0 m)):=by
 have hp:0<A.length:=List.length_pos_iff.mpr ne;have n0:0<n:=by have:=hA _ (getD_mem hp);omega
 obtain⟨B,hB⟩:∃B,B=away n A:=⟨_,rfl⟩;have b0:(0:Int)∈B:=by rw[hB];exact Zbc.mpr ⟨by decide,by omega,λz=>YX (hA 0 z).1 (by decide)⟩
 have inB:∀x∈B,0<=x/\x<n:=λx hx=>by rw[hB]at hx;obtain⟨h1,h2,_⟩:=Zbc.mp hx;exact⟨h1,h2⟩
 have inA:∀x∈A,0<=x/\x<n:=λx hx=>⟨Bw (by decide) (hA x hx).1,(hA x hx).2⟩;have a00:(A.getD 0 0,A.getD 0 0)∈dbl A:=Zj3.mpr ⟨0,0,X3 _,hp,rfl⟩;have b00:((0:Int),(0:Int))∈dbl B:=by
  obtain⟨j,hj,e⟩:=List.getElem_of_mem b0;exact Zj3.mpr ⟨j,j,X3 _,hj,by rw[Xb,Xf hj,e];rfl⟩
 obtain⟨m,hm⟩:=Lst.exists S a00 b00;rw[<-hB];refine⟨m,hm,?_⟩;have lB:B.length<=100:=by rw[hB];exact QD (Zzp n A) hn
 have inner:∀(p:Int×Int) (least:Int) (z8 z9:Option OT),p∈dbl A->(∃p∈dbl A,∃q∈dbl B,least=rlI S p q)->∃δ',Zau (Zf5 (Zd 4)) (gTp 2 (gCn (gNm 8) (gCn (gNm 9) gNl)))
   (wE (Zag Z3x (Zc (Zd 5) (Zc (Zgd 2 "tree_rule" Yu (Zc (Zy Ye (Zc (Zd 0) (Zc (Zd 6) (Zc (Zd 7) (Zc (Zd 8) (Zc (Zd 9) Zq)))))) Zq)) Zq))) (Y0 5))
   (Z95 n S A B least (YB (.fz (.int p.1))) (YB (.fz (.int p.2))) z8 z9)= .nx δ'/\
   ∃least' z8 z9,δ'=(Z95 n S A B least' (YB (.fz (.int p.1))) (YB (.fz (.int p.2))) z8 z9)/\(∃p∈dbl A,∃q∈dbl B,least'=rlI S p q)/\least'<=least/\∀q∈dbl B,least'<=rlI S p q:=λp least z8 z9 hp hin=>by
  obtain⟨p1,p2⟩:=Zk8 hp;obtain⟨δ',e,least',z8,z9,rfl,h1,h2,h3⟩:=Zg3 (S:=wE (Zag Z3x (Zc (Zd 5) (Zc (Zgd 2 "tree_rule" Yu (Zc (Zy Ye (Zc (Zd 0) (Zc (Zd 6) (Zc (Zd 7) (Zc (Zd 8) (Zc (Zd 9) Zq)))))) Zq)) Zq))) (Y0 5)) (g:=gTp 2 (gCn (gNm 8) (gCn (gNm 9) gNl))) (it:=Zf5 (Zd 4)) (ds:=(dbl B).map prD) (δ:=(Z95 n S A B least (YB (.fz (.int p.1))) (YB (.fz (.int p.2))) z8 z9))
   (λi δ=>∃least' z8 z9,δ=(Z95 n S A B least' (YB (.fz (.int p.1))) (YB (.fz (.int p.2))) z8 z9)/\(∃p∈dbl A,∃q∈dbl B,least'=rlI S p q)/\least'<=least/\∀j q,j<i->(dbl B)[j]? =YB q->least'<=rlI S p q) (Js Za) ⟨least,z8,z9,rfl,hin,JN _,λj q hj=>YX hj (Vs j)⟩ λi d δ hd q=>by
   obtain⟨least',z8,z9,rfl,h1,h2,h3⟩:=q;rw[Xp]at hd;cases e:(dbl B)[i]? with
   | none=>rw[e]at hd;cases hd
   | some q=>
    rw[e]at hd;cases hd;have hq:=Qz e;obtain⟨q1,q2⟩:=Zk8 hq;refine⟨_,_,rfl,.inl (Zu (Z3y Za (Zwh rfl rfl Za Za Za Za (inA _ p1) (inA _ p2) (inB _ q1) (inB _ q2)))),min least' (rlI S p q),YB (.fz (.int q.1)),YB (.fz (.int q.2)),rfl,?_,Bw (Int.min_le_left ..) h2,λj q' hj hq'=>?_⟩
    .rcases Int.le_total least' (rlI S p q)with z|z
     .rw[Uw z];exact h1
     .rw[Uk z];exact⟨p,hp,q,hq,rfl⟩
    .by_cases cj:j=i
     .subst cj;rw[e]at hq';cases hq';exact Int.min_le_right ..
     .exact Bw (Int.min_le_left ..) (h3 j q' (Nat.lt_of_le_of_ne (Nat.le_of_lt_succ hj) cj) hq')
  refine⟨_,e,least',z8,z9,rfl,h1,h2,λq hq=>?_⟩;obtain⟨j,hj⟩:=BX hq;exact h3 j q (by rw[Xd];exact(Xw.mp hj).1) hj
 have key:∃d,Told Ym [Yn n S,Zg A,fnD "tree_rule"] d/\d= .int (max 0 m):=by
  refine Ztw rfl<|Zbl (Zu (hB▸Z7t (Zkj (Zb (Jf (Zb Za Zh) (Zct n S)) Zh) (QD hn (by decide))) (QD hn (by decide)) rfl))<|Zbl (Zu (Zo (Zb Za Zh) (Zgc B lB)))<|
   Zbl (Zu (Zwh rfl rfl (Y5 Za Z1 (by decide) (by omega)) (Y5 Za Z1 (by decide) (by omega)) Z1 Z1 (inA _ (getD_mem hp)) (inA _ (getD_mem hp)) ⟨by decide,by omega⟩ ⟨by decide,by omega⟩))<|
   Z77 (ds:=(dbl A).map prD) (λi δ=>∃least z6 z7 z8 z9,δ=(Z95 n S A B least z6 z7 z8 z9)/\(∃p∈dbl A,∃q∈dbl B,least=rlI S p q)/\(∀j p,j<i->(dbl A)[j]? =YB p->∀q∈dbl B,least<=rlI S p q)/\(0<i->0<least))
    (Js (Zo (Zb Za Zh) (Zgc A hl))) ⟨_,YC,YC,YC,YC,rfl,⟨_,a00,_,b00,rfl⟩,λj p hj=>YX hj (Vs j),λz=>YX z (Vw 0)⟩ (λi d δ hd q=>?_) λδ' q=>?_
  .obtain⟨least,z6,z7,z8,z9,rfl,h1,h2,h3⟩:=q
   rw[Xp]at hd;cases e:(dbl A)[i]? with
   | none=>rw[e]at hd;cases hd
   | some p=>
    rw[e]at hd;cases hd;have hp':=Qz e;obtain⟨δ',e1,least',z8,z9,rfl,g1,g2,g3⟩:=inner p least z8 z9 hp' h1
    by_cases c:least'<=0
    .refine .inr ⟨_,rfl,Zbl e1 (Z69 (Zan (Z9e Za Z1 (YQ c))) (Zsb Z1 ?_))⟩
     obtain⟨p',hp2,q',hq2,e2⟩:=g1;have:=hm.2 p' hp2 q' hq2;rw[<-e2]at this;rw[Int.max_eq_left (Bw this c)]
    .refine .inl ⟨_,_,rfl,Y6 e1 (Z5 (Zan (Z9e Za Z1 (YS c))) rfl),least',_,_,_,_,rfl,g1,λj p' hj hp2 q hq=>?_,λ_=>Int.lt_of_not_ge c⟩
     by_cases cj:j=i
     .subst cj;rw[e]at hp2;cases hp2;exact g3 q hq
     .exact Bw g2 (h2 j p' (Nat.lt_of_le_of_ne (Nat.le_of_lt_succ hj) cj) hp2 q hq)
  .obtain⟨least,z6,z7,z8,z9,rfl,h1,h2,h3⟩:=q
   rw[Xd]at h2 h3;refine Zsb Za ?_;have l0:=h3 (List.length_pos_of_mem a00);have e:least=m:=by
    refine Int.le_antisymm ?_ ?_
    .obtain⟨⟨p,hp',q,hq,e⟩,_⟩:=hm
     rw[e];obtain⟨j,hj⟩:=BX hp';exact h2 j p (Xw.mp hj).1 hj q hq
    .obtain⟨p,hp',q,hq,e⟩:=h1
     rw[e];exact hm.2 p hp' q hq
   rw[<-e,Int.max_eq_right (Int.le_of_lt l0)]
 obtain⟨d,h,rfl⟩:=key;exact h
theorem Z8c{k x:Int}(hk:0<k):min (k*x) (k*y)=k*min x y:=by
 rcases Int.le_total x y with h|h
 .rw[Uw h,Uw (Int.mul_le_mul_of_nonneg_left h (by omega))]
 .rw[Uk h,Uk (Int.mul_le_mul_of_nonneg_left h (by omega))]
theorem Zrg{k x:Int}(hk:0<k):max 0 (k*x)=k*max 0 x:=by
 rcases Int.le_total 0 x with h|h
 .rw[Int.max_eq_right h,Int.max_eq_right (Int.mul_nonneg (by omega) h)]
 .rw[Int.max_eq_left h,Int.max_eq_left (Bj (by omega) h),Int.mul_zero]
theorem Zy9{k:Int}(hk:0<k){n l m:Nat}(h:∀i j,i<n->j<n->k*S i j=R i j)(hi:i<n)(hj:j<n)(hl:l<n)(hm:m<n):rl R i j l m=k*rl S i j l m:=by
 unfold rl;rw[<-h i l hi hl,<-h j m hj hm,<-h i m hi hm,<-h j l hj hl,<-h i j hi hj,<-h l m hl hm,<-Ue,<-Ue,<-Ue,Z8c hk,<-Int.mul_sub]
theorem Lst.scaled{k:Int}(hk:0<k){n:Nat}{A B:List Int}(h:∀i j,i<n->j<n->k*S i j=R i j)(hA:∀x∈A,0<=x/\x<n)(hB:∀x∈B,0<=x/\x<n){m:Int}(hm:Lst S A B m):Lst R A B (k*m):=by
 have e:∀p∈dbl A,∀q∈dbl B,rlI R p q=k*rlI S p q:=λp hp q hq=>by
  obtain⟨p1,p2⟩:=Zk8 hp;obtain⟨q1,q2⟩:=Zk8 hq;have:=hA _ p1;have:=hA _ p2;have:=hB _ q1;have:=hB _ q2;exact Zy9 hk h (by omega) (by omega) (by omega) (by omega)
 obtain⟨⟨p,hp,q,hq,e1⟩,h2⟩:=hm;exact⟨⟨p,hp,q,hq,by rw[e p hp q hq,e1]⟩,λp hp q hq=>by rw[e p hp q hq];exact Int.mul_le_mul_of_nonneg_left (h2 p hp q hq) (by omega)⟩
def tv(R:Nat->Nat->Int)(a b c e:Int):Int:=R a.toNat c.toNat+R b.toNat e.toNat-R a.toNat b.toNat-R c.toNat e.toNat
theorem Zsu{x:Int}(hx:x∈p)(hy:y∈p):(x,y)∈dbl p\/(y,x)∈dbl p:=by
 obtain⟨i,hi,rfl⟩:=List.getElem_of_mem hx;obtain⟨j,hj,rfl⟩:=List.getElem_of_mem hy;have g:∀k (h:k<p.length),p[k]=p.getD k 0:=λk h=>by rw[Xb,Xf h];rfl
 rw[g i hi,g j hj];rcases Nat.le_total i j with h|h
 .exact .inl (Zj3.mpr ⟨i,j,h,hj,rfl⟩)
 .exact .inr (Zj3.mpr ⟨j,i,h,hi,rfl⟩)
theorem Zze(sym:∀i j,R i j=R j i)(a b c e:Int):rlI R (a,b) (c,e)<=tv R a b c e/\rlI R (a,b) (c,e)<=tv R b a c e/\(rlI R (a,b) (c,e)=tv R a b c e\/rlI R (a,b) (c,e)=tv R a b e c):=by
 unfold rlI rl tv;dsimp only;rw[<-Int.sub_sub,sym b.toNat a.toNat,sym e.toNat c.toNat,Int.add_comm (R b.toNat c.toNat)];refine⟨Int.sub_le_sub_right (Int.sub_le_sub_right (Int.min_le_left ..) _) _,Int.sub_le_sub_right (Int.sub_le_sub_right (Int.min_le_right ..) _) _,?_⟩;rcases Int.le_total (R a.toNat c.toNat+R b.toNat e.toNat) (R a.toNat e.toNat+R b.toNat c.toNat)with z|z
 .rw[Uw z];exact .inl rfl
 .rw[Uk z];exact .inr rfl
theorem Z3p(sym:∀i j,R i j=R j i)(a b c e:Int):tv R b a e c=tv R a b c e:=by
 unfold tv;rw[sym b.toNat a.toNat,sym e.toNat c.toNat,Int.add_comm]
def Ze0(n:Nat)(f:Nat->Nat->Xa):Xa:=.list ((Xo n).map λi=>.list ((Xo n).map λj=>f i j))
def Zi4{α:Type}(I:Zm->Prop)(u:FS)(δ1:Zm)(r:Option Xa):Prop:=match r with
 | none=>∃δ2,u δ1= .nx δ2/\I δ2
 | some v=>∃o δ2,u δ1= .rt o δ2/\o.data=v
theorem Zz5{I:Zm->Prop}{u:FS}(mk:α->Xa)(f:α->Option Xa):∀(xs:List α) (δ:Zm),I δ->(∀x∈xs,∀δ,I δ->∃δ1,g (mk x) δ=YB δ1/\Zi4 (α:=α) I u δ1 (f x))->Zi4 (α:=α) I (forLoop g u (xs.map mk)) δ (xs.findSome? f):=by
 intro xs
 induction xs with
 | nil=>exact λδ h _=>⟨δ,rfl,h⟩
 | cons x xs ih=>
  intro δ h t;obtain⟨δ1,e1,r⟩:=t x (.head _) δ h;rw[List.findSome?_cons];cases q:f x with
  | none=>
   rw[q]at r;obtain⟨δ2,e2,h2⟩:=r;have e:forLoop g u ((x::xs).map mk) δ=forLoop g u (xs.map mk) δ2:=by
    rw[XM,forLoop,e1];dsimp only;rw[e2]
   unfold Zi4;rw[e];exact ih δ2 h2 λy hy=>t y (.tail _ hy)
  | some v=>
   rw[q]at r;obtain⟨o,δ2,e2,d⟩:=r;refine⟨o,δ2,?_,d⟩;rw[XM,forLoop,e1];dsimp only;rw[e2]
theorem Zmq{I J:Zm->Prop}{u:FS}(mk:α->Xa)(f:α->Option Xa)(xs:List α)(hi:EvI it δ (xs.map mk))(h0:J δ)(hJ:∀δ,J δ->I δ)(t:∀x∈xs,∀δ,J δ->∃δ1,g (mk x) δ=YB δ1/\Zi4 (α:=α) J u δ1 (f x)):Zi4 (α:=β) I (Zau it g u) δ (xs.findSome? f):=by
 have h:=Zz5 (I:=J) (g:=g) (u:=u) mk f xs δ h0 t;cases q:xs.findSome? f with
 | none=>
  rw[q]at h;obtain⟨δ2,e,h2⟩:=h;exact⟨δ2,Zb4 hi e,hJ δ2 h2⟩
 | some v=>
  rw[q]at h;obtain⟨o,δ2,e,d⟩:=h;exact⟨o,δ2,Zb4 hi e,d⟩
theorem Zo6{I:Zm->Prop}{t:FT}{S:FS}{r:Option Xa}(h:EvT t δ YD)(k:Zi4 (α:=α) I S δ r):Zi4 (α:=α) I (Zaf t S S') δ r:=by
 cases r with
 | none=>
  obtain⟨δ2,e,h2⟩:=k;exact⟨δ2,Zaz h e,h2⟩
 | some v=>
  obtain⟨o,δ2,e,d⟩:=k;exact⟨o,δ2,Zaz h e,d⟩
theorem Zoo{I:Zm->Prop}{t:FT}{S:FS}(h:EvT t δ YF)(k:I δ):Zi4 (α:=α) I (Zaf t S fNx) δ YC:=⟨δ,Z5 h rfl,k⟩
theorem Zre{I:Zm->Prop}{e:FE}{v:Xa}(h:EvV e δ v):Zi4 (α:=α) I (wE e Wu) δ (YB v):=by
 obtain⟨o,h1,h2⟩:=Zys h;exact⟨o,δ,h1,h2⟩
theorem Zn4{I:Zm->Prop}{S:FS}{r:Option Xa}{v0:Xa}(h:Zi4 (α:=α) I S δ r)(k:∀δ,I δ->Zi8 S' δ v0):Zi8 (Z6 S S') δ (r.getD v0):=by
 cases r with
 | none=>
  obtain⟨δ2,e,h2⟩:=h;exact Zr e (k δ2 h2)
 | some v=>
  obtain⟨o,δ2,e,d⟩:=h;exact Wx ⟨o,δ2,e,d⟩
def frG(T:Nat->Nat->Rat):Nat->Nat->Xa:=λi j=>frD (T i j)
theorem Z2b{q r:Rat}(bq:Bt 400 q.num)(dq:Bt 400 (q.den:Int))(br:Bt 400 r.num)(dr:Bt 400 (r.den:Int)):Told Zfm [frD q,frD r] (frD (q+r)):=by
 rw[<-Zrh];exact Zx rfl<|Z7<|Zo (Zb (Y9 (Zz (Wq (d:=.int q.num) Za Z1 rfl) (Wq (d:=.int (r.den:Int)) Za Z1 rfl) (Zff (Zfl bq dr))) (Zz (Wq (d:=.int r.num) Za Z1 rfl) (Wq (d:=.int (q.den:Int)) Za Z1 rfl) (Zff (Zfl br dq)))) (Zb (Zz (Wq (d:=.int (q.den:Int)) Za Z1 rfl) (Wq (d:=.int (r.den:Int)) Za Z1 rfl) (Zff (Zfl dq dr))) Zh)) (Zi2 (Int.ne_of_gt (Int.mul_pos (Zcx q) (Zcx r))) (dq.mul dr))
theorem Zzr{q r:Rat}{m n:Nat}(bq:Bt m q.num)(dq:Bt m (q.den:Int))(br:Bt n r.num)(dr:Bt n (r.den:Int))(hmn:m+n<=100000000:=by decide):Told Zbf [frD q,frD r] (.bool (decide (q<r))) :=
 Zx rfl<|Z7<|Zdr (Zz (Wq (d:=.int q.num) Za Z1 rfl) (Wq (d:=.int (r.den:Int)) Za Z1 rfl) (Zff (Zfl bq dr hmn))) (Zz (Wq (d:=.int r.num) Za Z1 rfl) (Wq (d:=.int (q.den:Int)) Za Z1 rfl) (Zff (Zfl br dq (by omega)))) (decide_eq_decide.mpr (Zxr q r))
structure Tq(T:Nat->Nat->Rat):Prop where
 num:∀i j,Bt 400 (T i j).num
 den:∀i j,Bt 400 ((T i j).den:Int)
theorem Z19{n a b i0 i9 i10:Nat}{f:Nat->Nat->Xa}(ha:a<n)(hb:b<n)(h6:δ[i0]? =YB (YB (.fz (Ze0 n f))))(h9:δ[i9]? =YB (YB (.fz (.int a))))(h10:δ[i10]? =YB (YB (.fz (.int b)))):EvV (Yl gIx (Yl gIx (Zd i0) (Zd i9)) (Zd i10)) δ (f a b):=by
 refine Wq (Wq (Za h6) (Za h9) (d:=.list ((Xo n).map λj=>f a j)) ?_) (Za h10) ?_
 .unfold Ze0
  rw[Zqo,Zx4,Xp,QG ha];rfl
 .rw[Zqo,Zx4,Xp,QG hb];rfl
theorem Z2e{n:Nat}{T:Nat->Nat->Rat}(h:Tq T){k:Nat}(hi:i<n)(hj:j<n)(hk:k<n):Told J1 [Ze0 n (frG T),.int i,.int j,.int k] (.bool (decide (T i j+T j k<T i k))):=by
 have e:T i j+T j k=XH ((T i j).num*((T j k).den:Int)+(T j k).num*((T i j).den:Int)) (((T i j).den:Int)*((T j k).den:Int)):=(Zrh _ _).symm;have dp:((T i j).den:Int)*((T j k).den:Int)≠0:=Int.ne_of_gt (Int.mul_pos (Zcx _) (Zcx _));have bn:Bt 2000 (T i j+T j k).num:=by
  rw[e];exact Zq2 dp ((((h.num i j).mul (h.den j k)).add ((h.num j k).mul (h.den i j))).mono (by decide))
 have bd:Bt 2000 ((T i j+T j k).den:Int):=by
  rw[e];exact Z28 dp (((h.den i j).mul (h.den j k)).mono (by decide))
 exact Zx rfl<|Z7<|Zo (Zb (Zo (Zb (Z19 (i0:=0) (i9:=1) (i10:=2) hi hj rfl rfl rfl) (Zb (Z19 (i0:=0) (i9:=2) (i10:=3) hj hk rfl rfl rfl) Zh)) (Z2b (h.num i j) (h.den i j) (h.num j k) (h.den j k))) (Zb (Z19 (i0:=0) (i9:=1) (i10:=3) hi hk rfl rfl rfl) Zh)) (Zzr bn bd (h.num i k) (h.den i k))
def mkI(i:Nat):Xa:=.int (i:Int)
theorem Yby{n:Nat}{as:FA}(h:EvA as δ [.int n])(hn:n<=10):EvI (iRa as) δ ((Xo n).map mkI):=by
 have e:Zdn 0 n=(Xo n).map mkI:=by
  unfold Zdn;exact Xu λi _=>YT Xk (Bh _)
 exact e▸Zkj h (by omega)
def sc3(n:Nat)(c:Nat->Nat->Nat->Bool)(v:Nat->Nat->Nat->Xa):Option Xa:=(Xo n).findSome? λi=>(Xo n).findSome? λj=>(Xo n).findSome? λk=>if c i j k=YD then YB (v i j k)else YC
theorem Ybk{n:Nat}(hn:n<=10){t:FT}{S:FS}{d0 v0:Xa}(c:Nat->Nat->Nat->Bool)(v:Nat->Nat->Nat->Xa)(ht:∀i j k,i<n->j<n->k<n->EvT t [YB (.fz d0),YB (.fz (.int n)),YB (.fz (mkI i)),YB (.fz (mkI j)),YB (.fz (mkI k))] (c i j k))(hS:∀i j k,Zi4 (α:=Nat) (λ_=>False) S [YB (.fz d0),YB (.fz (.int n)),YB (.fz (mkI i)),YB (.fz (mkI j)),YB (.fz (mkI k))] (YB (v i j k)))
  (hS':∀z2 z3 z4,Zi8 S' [YB (.fz d0),YB (.fz (.int n)),z2,z3,z4] v0):Zi8 (Z6 (Zau (iRa (Zc (Zd 1) Zq)) (gNm 2) (Zau (iRa (Zc (Zd 1) Zq)) (gNm 3) (Zau (iRa (Zc (Zd 1) Zq)) (gNm 4) (Zaf t S fNx)))) S') [YB (.fz d0),YB (.fz (.int n)),YC,YC,YC] ((sc3 n c v).getD v0):=by
 refine Zn4 (α:=Nat) (I:=λδ=>∃z2 z3 z4,δ=[YB (.fz d0),YB (.fz (.int n)),z2,z3,z4]) ?_ λδ q=>?_
 .refine Zmq (α:=Nat) (J:=λδ=>∃z2 z3 z4,δ=[YB (.fz d0),YB (.fz (.int n)),z2,z3,z4]) mkI _ (Xo n) (Yby (Zb Za Zh) hn) ⟨YC,YC,YC,rfl⟩ (λ_ h=>h) λi hi δ q=>?_
  obtain⟨z2,z3,z4,rfl⟩:=q;refine⟨_,rfl,Zmq (α:=Nat) (J:=λδ=>∃z3 z4,δ=[YB (.fz d0),YB (.fz (.int n)),YB (.fz (mkI i)),z3,z4]) mkI _ (Xo n) (Yby (Zb Za Zh) hn) ⟨z3,z4,rfl⟩ (λδ h=>by obtain⟨z3,z4,e⟩:=h;exact⟨_,z3,z4,e⟩) λj hj δ q=>?_⟩;obtain⟨z3,z4,rfl⟩:=q;refine⟨_,rfl,Zmq (α:=Nat) (J:=λδ=>∃z4,δ=[YB (.fz d0),YB (.fz (.int n)),YB (.fz (mkI i)),YB (.fz (mkI j)),z4]) mkI _ (Xo n) (Yby (Zb Za Zh) hn) ⟨z4,rfl⟩ (λδ h=>by obtain⟨z4,e⟩:=h;exact⟨_,z4,e⟩) λk hk δ q=>?_⟩;obtain⟨z4,rfl⟩:=q;refine⟨_,rfl,?_⟩;have:=ht i j k (Xx.mp hi) (Xx.mp hj) (Xx.mp hk);cases e:c i j k with
  | true=>
   rw[e]at this;rw[YL rfl];exact Zo6 this (hS i j k)
  | false=>
   rw[e]at this;rw[YM Xn];exact Zoo this ⟨_,rfl⟩
 .obtain⟨z2,z3,z4,rfl⟩:=q
  exact hS' z2 z3 z4
theorem Ydq{n:Nat}{f:Nat->Nat->Xa}(h:δ[0]? =YB (YB (.fz (Ze0 n f)))):EvV (Zag Zai (Zc (Zd 0) Zq)) δ (.int n):=by
 have:=Zi6 (δ:=δ) (e:=Zd 0) (ds:=(Xo n).map λi=>.list ((Xo n).map λj=>f i j)) (Za h)
 rwa[Xd,XD]at this
def shR(T:Nat->Nat->Rat)(i j k:Nat):Bool:=decide (T i j+T j k<T i k)
def tpI(i j k:Nat):Xa:=.tuple [.int i,.int j,.int k]
theorem Zkf{n:Nat}(hn:n<=10){T:Nat->Nat->Rat}(h:Tq T):Told Wv [Ze0 n (frG T)] ((sc3 n (shR T) tpI).getD .none) :=
 Zx rfl<|Zr (Zu (Ydq rfl))<|Ybk hn (shR T) tpI (λi j k hi hj hk=>Ze1 (Zo (Zb Za (Zb Za (Zb Za (Zb Za Zh)))) (Z2e h hi hj hk))) (λi j k=>Zre (Jt (Zb Za (Zb Za (Zb Za Zh))) (show 3<=1000 by decide))) λ_ _ _=>Z7 Z1
def shI(R:Nat->Nat->Int)(i j k:Nat):Bool:=decide (R i j+R j k<R i k)
theorem Zqg(n:Nat)(R:Nat->Nat->Int)(b:Int):tbD (Jo n R b)=Ze0 n (frG λi j=>XH (R i j) b):=by
 unfold tbD Jo Ze0;rw[XR];refine YT Qu (Xu λi _=>?_);show Zsn _=_;unfold Zsn;rw[XR];rfl
theorem Z60{x z:Int}(hb:0<b)(h:x<=y+z):XH x b<=XH y b+XH z b:=by
 have e:XH y b+XH z b=XH (y+z) b:=by
  rw[Q5,Q5,Q5,Ud,Ud,Ud,Rat.intCast_add,Rat.add_mul]
 rw[e];refine(Rat.le_iff_sub_nonneg _ _).mpr ?_;have e2:XH (y+z) b-XH x b=XH (y+z-x) b:=by
  rw[Q5,Q5,Q5,Ud,Ud,Ud,Rat.intCast_sub,Rat.sub_eq_add_neg,Rat.sub_eq_add_neg,Rat.add_mul,Rat.neg_mul]
 rw[e2];exact Zx7 (by omega) hb
theorem Z8p{z:Int}:XH y b+XH z b=XH (y+z) b:=by
 rw[Q5,Q5,Q5,Ud,Ud,Ud,Rat.intCast_add,Rat.add_mul]
theorem Z9f{x z:Int}(hb:0<b):XH y b+XH z b<XH x b↔y+z<x:=by
 constructor
 .intro h
  refine Int.not_le.mp λz=>?_;exact YX h (Rat.not_lt.mpr (Z60 hb z))
 .intro h
  refine Rat.not_le.mp λw=>?_;rw[Z8p]at w;have nb:((b:Int):Rat)≠0:=by
   intro e;have:b=0:=by exact_mod_cast e
   omega
  have b0:(0:Rat)<=((b:Int):Rat):=by exact_mod_cast Int.le_of_lt hb
  have w2:=Rat.mul_le_mul_of_nonneg_right w b0;rw[Q5,Q5,Rat.div_mul_cancel nb,Rat.div_mul_cancel nb]at w2;have:x<=y+z:=by exact_mod_cast w2
  omega
theorem Yha(hb:0<b):(shR λi j=>XH (R i j) b)=shI R:=by
 funext i j k;exact decide_eq_decide.mpr (Z9f hb)
theorem Ye2(hb:0<b)(bb:Bt 300 b)(bR:∀i j,Bt 300 (R i j)):Tq λi j=>XH (R i j) b where
 num:=λi j=>Zq2 (by omega) ((bR i j).mono (by decide))
 den:=λi j=>Z28 (by omega) (bb.mono (by decide))
def Ybw(L:List (List Int×Rat)):OT:=.nd ((L.map ctD).map OT.fz)
theorem Zxk(L:List (List Int×Rat)):(Ybw L).data=Zj7 L:=by unfold Ybw Zj7;rw[OT.data_nd,OT.map_fz]
def sdL:Nat->List (List Int)
 | 0=>[[]]
 | k+1=>sdL k++(sdL k).map λs=>s++[(k:Int)+1]
theorem Zlz(k:Nat):(sdL k).length=2^k:=by
 induction k with
 | zero=>rfl
 | succ k ih=>rw[sdL,Xq,Xd,ih,Nat.pow_succ];omega
theorem Zrp(k:Nat):∀s∈sdL k,s.length<=k/\s.Pairwise (·<·)/\∀x∈s,1<=x/\x<=k:=by
 induction k with
 | zero=>intro s hs;rw[Xj.mp hs];exact⟨X3 _,.nil,λ_ m=>nomatch m⟩
 | succ k ih=>
  intro s hs;rcases XQ.mp hs with hs|hs
  .obtain⟨h1,h2,h3⟩:=ih s hs
   exact⟨by omega,h2,λx hx=>by have:=h3 x hx;omega⟩
  .obtain⟨r,hr,rfl⟩:=Xv.mp hs
   obtain⟨h1,h2,h3⟩:=ih r hr;refine⟨by rw[Xq];exact Nat.succ_le_succ h1,List.pairwise_append.mpr ⟨h2,JZ ..,λx hx y hy=>?_⟩,λx hx=>?_⟩
   .rw[Xj.mp hy]
    have:=h3 x hx;omega
   .rcases XQ.mp hx with z|z
    .have:=h3 x z;omega
    .rw[Xj.mp z];omega
def tpN(l:List Nat):Xa:=.tuple (l.map λx:Nat=>.int (x:Int))
def lst(p:List Nat):Nat:=if p.length>0 then p.getD (p.length-1) 0+1 else 0
def ext(n:Nat)(p:List Nat):List (List Nat):=(Xo (n-lst p)).map λj=>p++[lst p+j]
def rs(n:Nat):Nat->List (List Nat)
 | 0=>[[]]
 | m+1=>(rs n m).flatMap (ext n)
theorem Z9s{n k:Nat}(hn:n<=10)(hk:k<=4):(rs n k).length<=300:=by
 have:∀m:Fin 11,∀k:Fin 5,(rs m k).length<=300:=by decide +kernel
 exact this ⟨n,by omega⟩ ⟨k,by omega⟩
theorem Zws{n:Nat}:∀{k:Nat} {p:List Nat},p∈rs n k->p.length=k/\p.Pairwise (·<·)/\(∀x∈p,x<n)/\∀x∈p,x<lst p
 | 0,p,h=>by
  rw[Xj.mp h];exact⟨rfl,.nil,(λ_ m=>nomatch m),λ_ m=>nomatch m⟩
 | k+1,p,h=>by
  obtain⟨q,hq,hp⟩:=U9.mp h;obtain⟨h1,h2,h3,h4⟩:=Zws hq;obtain⟨j,hj,rfl⟩:=Xv.mp hp;have hj:=Xx.mp hj;have hl:lst (q++[lst q+j])=lst q+j+1:=by
   show(if(q++[lst q+j]).length>0 then(q++[lst q+j]).getD ((q++[lst q+j]).length-1) 0+1 else 0)=_;rw[YL (by rw[Xq];exact Nat.succ_pos _),Xq,QM,Nat.add_sub_cancel,Xb,Qw (X3 _),Nat.sub_self];rfl
  refine⟨by rw[Xq,h1];rfl,?_,λx hx=>?_,λx hx=>?_⟩
  .rw[List.pairwise_append]
   exact⟨h2,JZ _ _,λx hx y hy=>by rw[Xj.mp hy];have:=h4 x hx;omega⟩
  .rcases XQ.mp hx with hx|hx
   .exact h3 x hx
   .rw[Xj.mp hx];omega
  .rw[hl]
   rcases XQ.mp hx with hx|hx
   .have:=h4 x hx;omega
   .rw[Xj.mp hx];omega
theorem Yac{n:Nat}{p:List Nat}(h:∀x∈p,x<n):lst p<=n:=by
 unfold lst
 by_cases c:p.length>0
 .rw[YL c,Xb,Xf (by omega)]
  exact h _ (Q4 (by omega))
 .rw[YM c];exact QH _
theorem Z18{p:List Nat}(h:δ[5]? =YB (YB (.fz (tpN p)))):EvV (fIf (tV (Zj gGt (Zag Zai (Zc (Zd 5) Zq)) (fC (.int 0)))) (Zj Zcn (Yl gIx (Zd 5) (fUn Zo2 (fC (.int 1)))) (fC (.int 1))) (fC (.int 0))) δ (.int (lst p:Nat)):=by
 have ln:Zai [tpN p]=YB (.int (p.length:Nat)):=by unfold tpN;rw[Z3u,Xd]
 unfold lst
 by_cases c:p.length>0
 .rw[YL c]
  refine Zzc (Zan (Zfw (Jf (Zb (Za h) Zh) ln) Z1 (YQ (by omega)))) ((Y9 (Wq (d:=.int (p.getD (p.length-1) 0:Nat)) (Za h) (Zjl Z1) ?_) Z1).cast (by rw[Int.natCast_add];rfl));unfold tpN;rw[Yhc];have:atI (p.map λx:Nat=>Xk (x:Int)) (-1)=YB (.int (p.getD (p.length-1) 0:Nat)):=by
   unfold atI ixN;rw[Xd,YM (by decide),YL (by omega),Xg,Xp,show(-1+(p.length:Int)).toNat=p.length-1 by omega,Xb,Xf (by omega)];rfl
  rw[this];rfl
 .rw[YM c]
  exact Zqa (Zan (Zfw (Jf (Zb (Za h) Zh) ln) Z1 (YS (by omega)))) Z1
theorem Zzd{n m:Nat}(hn:n<=10)(hm:m<=4):Told Jg [.int n,.int m] (.list ((rs n m).map tpN)):=by
 refine Zx rfl<|Zr (Zu (d:=.list [tpN []]) (Zhy (Zb (Jt Zh (show 0<=1000 by decide)) Zh) (show 1<=1000 by decide))) ?_;refine Zga (ds:=Zdn 0 m) (λk δ=>∃z3 z4 z5 z6,δ=[YB (.fz (.int n)),YB (.fz (.int m)),YB (.fz (.list ((rs n k).map tpN))),z3,z4,z5,z6]) (Zkj (Zb Za Zh) (by omega)) ⟨YC,YC,YC,YC,rfl⟩ (λk d δ hd q=>?_) λδ' q=>by obtain⟨z3,z4,z5,z6,rfl⟩:=q;rw[Wk];exact Z7 Za
 obtain⟨z3,z4,z5,z6,rfl⟩:=q;obtain⟨hk,rfl⟩:=Zaq hd;rw[Bh];have L1:=Z9s (k:=k+1) hn (by omega);obtain⟨δ',e,z5',z6',rfl⟩:=Zg3 (it:=Zf5 (Zd 2)) (g:=gNm 5) (S:=Z6 (wE (fIf (tV (Zj gGt (Zag Zai (Zc (Zd 5) Zq)) (fC (.int 0)))) (Zj Zcn (Yl gIx (Zd 5) (fUn Zo2 (fC (.int 1)))) (fC (.int 1))) (fC (.int 0))) (Y0 6))
  (Zg2 4 (W3 1 [5] (iRb (Zc (Zd 6) (Zc (Zd 0) Zq))) (gNm 0) Znd (Yl Ztp (Zd 1) (Ze2 (Zc (Zd 0) Zq)))))) (δ:=[YB (.fz (.int n)),YB (.fz (.int m)),YB (.fz (.list ((rs n k).map tpN))),YB (.fz (.int k)),YB (.nd []),z5,z6]) (ds:=(rs n k).map tpN) (λt δ=>∃z5 z6,δ=[YB (.fz (.int n)),YB (.fz (.int m)),YB (.fz (.list ((rs n k).map tpN))),YB (.fz (.int k)),YB (.nd (((((rs n k).take t).flatMap (ext n)).map tpN).map OT.fz)),z5,z6]) (Js Za) ⟨z5,z6,rfl⟩ (λt d δ hd q=>by
   obtain⟨z5,z6,rfl⟩:=q;rw[Xp]at hd;obtain⟨p,hp,rfl⟩:=VG.mp hd;obtain⟨pl,_,px,_⟩:=Zws (Qz hp);have tk:(rs n k).take (t+1)=(rs n k).take t++[p]:=by rw[List.take_succ,hp];rfl
   have ls:(((rs n k).take (t+1)).flatMap (ext n)).length<=300:=by
    have:((rs n k).take (t+1)).flatMap (ext n)++((rs n k).drop (t+1)).flatMap (ext n)=rs n (k+1):=by rw[<-VB,List.take_append_drop];rfl
    have:=YT List.length this;rw[Xq]at this;omega
   rw[tk,VB,Xq]at ls;have le:ext n p=[p].flatMap (ext n):=by rw[List.flatMap_cons,List.flatMap_nil,QS]
   have lx:(ext n p).length=n-lst p:=by unfold ext;rw[Xd,XD]
   rw[<-le,lx]at ls;obtain⟨rr,e1,e2⟩:=Zuu (δ:=[YB (.fz (.int n)),YB (.fz (.int m)),YB (.fz (.list ((rs n k).map tpN))),YB (.fz (.int k)),YB (.nd (((((rs n k).take t).flatMap (ext n)).map tpN).map OT.fz)),YB (.fz (tpN p)),YB (.fz (.int (lst p:Nat)))]) (caps:=[5]) (cs:=[YB (.fz (tpN p))]) (me:=Yl Ztp (Zd 1) (Ze2 (Zc (Zd 0) Zq))) (it:=iRb (Zc (Zd 6) (Zc (Zd 0) Zq))) (Xo (n-lst p)) (λj:Nat=>Xk ((lst p:Nat)+(j:Int))) (λj=>tpN (p++[lst p+j])) (by
     exact Zwb (m:=lst p) (Zb Za (Zb Za Zh)) (QD (Yac px) (by omega)) (by omega)) (by rw[XD];omega) rfl λj _=>(Zyk (o:=.fz (tpN (p++[lst p+j]))) Za (Jt (Zb Za Zh) (show 1<=1000 by decide)) (by
     unfold tpN;show(if(p.map λx:Nat=>Xk (x:Int)).length+[Xk ((lst p:Nat)+(j:Int))].length<=Xz then YB (OT.fz (.tuple ((p.map λx:Nat=>Xk (x:Int))++[Xk ((lst p:Nat)+(j:Int))])))else YC)=_;rw[YL (by rw[Qk,Xd,QM];omega),Qg,List.map_singleton,Int.natCast_add]) (OT.data_fz _))
   refine⟨_,_,rfl,.inl (Y6 (Zu (Z18 rfl)) (Zxa e1 e2 rfl (by rw[Xd,Xd,Xd,XD];omega))),YB (.fz (tpN p)),YB (.fz (.int (lst p:Nat))),?_⟩;rw[tk,VB,<-le,Qg,Qg];have em:(Xo (n-lst p)).map (λj=>tpN (p++[lst p+j]))=(ext n p).map tpN:=by unfold ext;rw[XR];rfl
   rw[em];rfl)
 rw[Xd,U7]at e;refine⟨_,_,rfl,.inl (Y6 Zia (Y6 e (Zod rfl (Zu Za)))),YB (.fz (.int k)),YB (.fz (.list ((rs n (k+1)).map tpN))),z5',z6',?_⟩;rw[OT.data_nd,OT.map_fz];rfl
def Cp(s t:List Int):Prop:=(∀x∈s,x∉t)\/(∀x∈s,x∈t)\/∀x∈t,x∈s
theorem Cp.symm{s t:List Int}(h:Cp s t):Cp t s:=by
 rcases h with h|h|h
 .exact .inl λx h1 h2=>h x h2 h1
 .exact .inr (.inr h)
 .exact .inr (.inl h)
structure Zkq(n:Nat)(s:List Int):Prop where
 ne:s≠[]
 up:s.Pairwise (·<·)
 pt:∀x∈s,1<=x/\x<n
structure Lam(n:Nat)(Ls:List (List Int)):Prop where
 ok:∀s∈Ls,Zkq n s
 cp:∀s∈Ls,∀t∈Ls,Cp s t
theorem Zx3:∀{s t:List Int},s.Pairwise (·<·)->t.Pairwise (·<·)->(∀x,x∈s↔x∈t)->s=t:=by
 intro s
 induction s with
 | nil=>
  intro t _ _ h;cases t with
  | nil=>rfl
  | cons y t=>exact YX ((h y).mpr (.head _)) (λz=>nomatch z)
 | cons x s ih=>
  intro t hs ht h;cases t with
  | nil=>exact YX ((h x).mp (.head _)) (λz=>nomatch z)
  | cons y t=>
   have h1:∀{z:Int},z∈s->x<z:=λm=>Qt hs m;have h2:∀{z:Int},z∈t->y<z:=λm=>Qt ht m;have e:x=y:=by
    rcases Xm.mp ((h x).mp (.head _))with e|m
    .exact e
    .rcases Xm.mp ((h y).mpr (.head _))with e|m'
     .exact e.symm
     .have:=h1 m';have:=h2 m;omega
   subst e;refine YT (x::·) (ih hs.tail ht.tail λz=>⟨λm=>?_,λm=>?_⟩)
   .rcases Xm.mp ((h z).mp (.tail _ m))with e|m'
    .have:=h1 m;omega
    .exact m'
   .rcases Xm.mp ((h z).mpr (.tail _ m))with e|m'
    .have:=h2 m;omega
    .exact m'
theorem Z3h{r:List Int->List Int->Prop}(tr:∀{a b c},r a b->r b c->r a c):∀(F:List (List Int)),F≠[]->∃S∈F,∀T∈F,r S T->r T S:=by
 intro F
 induction F with
 | nil=>exact λh=>YX rfl h
 | cons x F ih=>
  intro _
  by_cases c:F=[]
  .subst c
   exact⟨x,.head _,λT hT h=>by rw[Xj.mp hT]at h|-;exact h⟩
  .obtain⟨S,hS,mx⟩:=ih c
   by_cases q:r S x
   .refine⟨x,.head _,λT hT h=>?_⟩
    rcases Xm.mp hT with rfl|hT
    .exact h
    .exact tr (mx T hT (tr q h)) q
   .refine⟨S,.tail _ hS,λT hT h=>?_⟩
    rcases Xm.mp hT with rfl|hT
    .exact YX h q
    .exact mx T hT h
def wv(w:Int)(p q r t:Bool):Int:=(if(p !=r)=YD then w else 0)+(if(q !=t)=YD then w else 0)-(if(p !=q)=YD then w else 0)-(if(r !=t)=YD then w else 0)
def mm(s:List Int)(x:Int):Bool:=decide (x∈s)
theorem Zpj{s:List Int}{x:Int}:mm s x=YD↔x∈s:=by unfold mm;exact decide_eq_true_iff
theorem Zrf{s:List Int}{x:Int}:mm s x=YF↔x∉s:=by unfold mm;exact decide_eq_false_iff_not
theorem Zr5{s:List Int}{a:Int}(ha:0<=a)(hb:0<=b):sep s a.toNat b.toNat=(mm s a !=mm s b):=by
 unfold sep mm;rw[JV ha,JV hb]
theorem Z79(Z:List (List Int×Int)){a c e:Int}(ha:0<=a)(hb:0<=b)(hc:0<=c)(he:0<=e):tv (cz Z) a b c e=(Z.map λq=>wv q.2 (mm q.1 a) (mm q.1 b) (mm q.1 c) (mm q.1 e)).sum:=by
 induction Z with
 | nil=>rfl
 | cons q Z ih=>
  rw[XM,JK,<-ih];unfold tv cz;simp only[XM,JK,Zr5 ha hc,Zr5 hb he,Zr5 ha hb,Zr5 hc he];unfold wv;omega
def wA(Z:List (List Int×Int))(A:List Int):Int:=((Z.filter λq=>decide (q.1=A)).map λq=>q.2).sum
end My
variable {L0 Ls:List (List Int)}{Z:List (List Int×Int)}{q:Nat×Nat}{I:Zm->Prop}
namespace My
open PySem L2 PySem.Spec
theorem Zy8{f g:List Int×Int->Int}(h:∀q∈Z,f q<=g q):(Z.map f).sum<=(Z.map g).sum:=by
 induction Z with
 | nil=>exact JN _
 | cons q Z ih=>
  rw[XM,XM,JK,JK];exact Int.add_le_add (h q (.head _)) (ih λr hr=>h r (.tail _ hr))
theorem Z36(Z:List (List Int×Int))(A:List Int):(Z.map λq=>if q.1=A then 2*q.2 else 0).sum=2*wA Z A:=by
 unfold wA
 induction Z with
 | nil=>rfl
 | cons q Z ih=>
  rw[XM,JK,ih]
  by_cases c:q.1=A
  .rw[Bk (p:=λq:List Int×Int=>decide (q.1=A)) (YQ c),XM,JK,YL c];omega
  .rw[Ba (p:=λq:List Int×Int=>decide (q.1=A)) (by rw[YS c];exact Xn),YM c];omega
theorem Z11{w:Int}{p q:Bool}:wv w p q YF YF=if(p&&q)=YD then 2*w else 0:=by cases p<;>cases q<;>simp[wv]<;>omega
theorem Z3s{w:Int}{r t:Bool}:wv w YF YF r t=if(r&&t)=YD then 2*w else 0:=by cases r<;>cases t<;>simp[wv]<;>omega
theorem Yaa{w:Int}{r t:Bool}:wv w YD YD r t=if(!r&& !t)=YD then 2*w else 0:=by cases r<;>cases t<;>simp[wv]<;>omega
theorem Yfx{w:Int}(h:0<=w){p q r:Bool}(hn:¬(p=YD/\q=YD/\r=YF)):wv w p q r YF<=0:=by cases p<;>cases q<;>cases r<;>simp[wv]at hn|- <;>omega
theorem inner{n:Nat}{A:List Int}(L:∀s∈Z.map Qp,Zkq n s)(cp:∀s∈Z.map Qp,∀t∈Z.map Qp,Cp s t)(hA:Zkq n A):∃a∈A,∃b∈A,∀s∈Z.map Qp,(∀x∈s,x∈A)->s≠A->¬(a∈s/\b∈s):=by
 obtain⟨F,hF⟩:∃F,F=(Z.map Qp).filter λs=>decide ((∀x∈s,x∈A)/\s≠A):=⟨_,rfl⟩;have mF:∀s,s∈F↔s∈Z.map Qp/\(∀x∈s,x∈A)/\s≠A:=λs=>by rw[hF,Qs,decide_eq_true_iff]
 by_cases c:F=[]
 .obtain⟨a,ha⟩:=JC A hA.ne
  exact⟨a,ha,a,ha,λs hs h1 h2 _=>by have:=(mF s).mpr ⟨hs,h1,h2⟩;rw[c]at this;cases this⟩
 .obtain⟨S,hS,mx⟩:=Z3h (r:=λs t=>∀x∈s,x∈t) (λh1 h2 x hx=>h2 x (h1 x hx)) F c
  obtain⟨S1,S2,S3⟩:=(mF S).mp hS;obtain⟨a,ha⟩:=JC S (L S S1).ne;have eb:∃b∈A,b∉S:=Qx λz=>S3 (Zx3 (L S S1).up hA.up λx=>⟨S2 x,λhx=>Qx λy=>z ⟨x,hx,y⟩⟩);obtain⟨b,hb,nb⟩:=eb;refine⟨a,S2 a ha,b,hb,λs hs h1 h2 ⟨as,bs⟩=>?_⟩;rcases cp s hs S S1 with q|q|q
  .exact q a as ha
  .exact nb (q b bs)
  .exact nb (mx s ((mF s).mpr ⟨hs,h1,h2⟩) q b bs)
theorem outer{n:Nat}{A:List Int}(L:∀s∈Z.map Qp,Zkq n s)(cp:∀s∈Z.map Qp,∀t∈Z.map Qp,Cp s t)(h0:1<=n)(hA:Zkq n A):∃c:Int,0<=c/\c<n/\c∉A/\∀s∈Z.map Qp,(∀x∈A,x∈s)->s≠A->c∈s:=by
 obtain⟨F,hF⟩:∃F,F=(Z.map Qp).filter λs=>decide ((∀x∈A,x∈s)/\s≠A):=⟨_,rfl⟩;have mF:∀s,s∈F↔s∈Z.map Qp/\(∀x∈A,x∈s)/\s≠A:=λs=>by rw[hF,Qs,decide_eq_true_iff]
 by_cases c:F=[]
 .refine⟨0,JN _,by omega,λz=>by have:=(hA.pt 0 z).1;omega,λs hs h1 h2=>?_⟩
  have:=(mF s).mpr ⟨hs,h1,h2⟩;rw[c]at this;cases this
 .obtain⟨U,hU,mx⟩:=Z3h (r:=λs t=>∀x∈t,x∈s) (λh1 h2 x hx=>h1 x (h2 x hx)) F c
  obtain⟨U1,U2,U3⟩:=(mF U).mp hU;have eb:∃b∈U,b∉A:=Qx λz=>U3 (Zx3 (L U U1).up hA.up λx=>⟨λhx=>Qx λy=>z ⟨x,hx,y⟩,U2 x⟩);obtain⟨b,hb,nb⟩:=eb;have:=(L U U1).pt b hb;refine⟨b,by omega,this.2,nb,λs hs h1 h2=>?_⟩;obtain⟨a,ha⟩:=JC A hA.ne;rcases cp s hs U U1 with q|q|q
  .exact YX (U2 a ha) (q a (h1 a ha))
  .exact mx s ((mF s).mpr ⟨hs,h1,h2⟩) q b hb
  .exact q b hb
theorem Zjx{q:List Int×Int}(h:q∈Z):q.1∈Z.map Qp:=Vz h
theorem Zvq{n:Nat}{A:List Int}(LL:Lam n (Z.map Qp))(w0:∀q∈Z,0<=q.2)(h0:1<=n)(hA:Zkq n A){m:Int}(h1:∃a∈A,∃b∈A,∃c,∃e,(0<=c/\c∉A)/\(0<=e/\e∉A)/\m=tv (cz Z) a b c e)(h2:∀a∈A,∀b∈A,∀c e:Int,0<=c->c<n->c∉A->0<=e->e<n->e∉A->m<=tv (cz Z) a b c e):max 0 m=2*wA Z A:=by
 have z0:(0:Int)∉A:=λz=>by have:=(hA.pt 0 z).1;omega
 have pA:∀x∈A,0<=x:=λx hx=>by have:=(hA.pt x hx).1;omega
 have zs:∀s∈Z.map Qp,mm s 0=YF:=λs hs=>Zrf.mpr λz=>by have:=((LL.ok s hs).pt 0 z).1;omega
 have wn:0<=wA Z A:=by
  unfold wA;have:∀F:List (List Int×Int),(∀q∈F,0<=q.2)->0<=(F.map λq=>q.2).sum:=by
   intro F
   induction F with
   | nil=>exact λ_=>JN _
   | cons q F ih=>exact λh=>by rw[XM,JK];exact Int.add_nonneg (h q (.head _)) (ih λr hr=>h r (.tail _ hr))
  exact this _ λq hq=>w0 q (Qs.mp hq).1
 by_cases cr:∃s∈Z.map Qp,¬Cp s A
 .obtain⟨s,hs,nc⟩:=cr
  have e0:wA Z A=0:=by
   unfold wA;rw[List.filter_eq_nil_iff.mpr λq hq c=>nc (by rw[<-YW c];exact LL.cp s hs _ (Zjx hq))];rfl
  have ea:∃a∈A,a∈s:=Qx λz=>nc (.inl λx hx hy=>z ⟨x,hy,hx⟩);have eb:∃b∈A,b∉s:=Qx λz=>nc (.inr (.inr λx hx=>Qx λy=>z ⟨x,hx,y⟩));have ec:∃c∈s,c∉A:=Qx λz=>nc (.inr (.inl λx hx=>Qx λy=>z ⟨x,hx,y⟩));obtain⟨a,aA,as⟩:=ea;obtain⟨b,bA,bs⟩:=eb;obtain⟨c,cs,cA⟩:=ec;have cp:=(LL.ok s hs).pt c cs;have:=h2 a aA b bA c 0 (by omega) cp.2 cA (by omega) (by omega) z0;rw[Z79 Z (pA a aA) (pA b bA) (by omega) (JN _)]at this;have le:(Z.map λq=>wv q.2 (mm q.1 a) (mm q.1 b) (mm q.1 c) (mm q.1 0)).sum<=(Z.map λ_=>(0:Int)).sum:=Zy8 λq hq=>by
   have hq1:=Zjx hq;rw[zs _ hq1];refine Yfx (w0 q hq) λ⟨x,y,z⟩=>?_;rw[Zpj]at x y;rw[Zrf]at z;rcases LL.cp s hs _ hq1 with k|k|k
   .exact k a as x
   .exact z (k c cs)
   .exact bs (k b y)
  have zz:(Z.map λ_=>(0:Int)).sum=0:=by
   clear le this w0 LL zs hs wn e0 h1 h2
   induction Z with
   | nil=>rfl
   | cons q Z ih=>rw[XM,JK,ih];rfl
  rw[e0];omega
 .have cA:∀s∈Z.map Qp,Cp s A:=λs hs=>Qx λz=>cr ⟨s,hs,z⟩
  have lo:2*wA Z A<=m:=by
   obtain⟨a,aA,b,bA,c,e,⟨c0,nc⟩,⟨e0,ne⟩,rfl⟩:=h1;rw[Z79 Z (pA a aA) (pA b bA) c0 e0,<-Z36];refine Zy8 λq hq=>?_;have hw:=w0 q hq
   by_cases eq:q.1=A
   .rw[YL eq,eq,Zpj.mpr aA,Zpj.mpr bA,Zrf.mpr nc,Zrf.mpr ne,Z11]
    exact JN _
   .rw[YM eq]
    rcases cA _ (Zjx hq)with k|k|k
    .rw[Zrf.mpr (λz=>k a z aA),Zrf.mpr (λz=>k b z bA),Z3s];split<;>omega
    .rw[Zrf.mpr (λz=>nc (k c z)),Zrf.mpr (λz=>ne (k e z)),Z11];split<;>omega
    .rw[Zpj.mpr (k a aA),Zpj.mpr (k b bA),Yaa];split<;>omega
  have hi:m<=2*wA Z A:=by
   obtain⟨a,aA,b,bA,nab⟩:=inner LL.ok LL.cp hA;obtain⟨c,c0,cn,nc,hc⟩:=outer LL.ok LL.cp h0 hA;refine Bw (h2 a aA b bA c 0 c0 cn nc (JN _) (by omega) z0) ?_;rw[Z79 Z (pA a aA) (pA b bA) c0 (JN _),<-Z36];refine Zy8 λq hq=>?_;have hq1:=Zjx hq
   by_cases eq:q.1=A
   .rw[YL eq,eq,Zpj.mpr aA,Zpj.mpr bA,Zrf.mpr nc,Zrf.mpr z0,Z11]
    exact JN _
   .rw[YM eq,zs _ hq1]
    rcases cA _ hq1 with k|k|k
    .rw[Zrf.mpr (λz=>k a z aA),Zrf.mpr (λz=>k b z bA),Z3s,Bool.and_false,YM Xn];exact JN _
    .have n2:=nab _ hq1 k eq
     rw[Zrf.mpr (λz=>nc (k c z)),Z11,YM λz=>n2 (by rw[XC]at z;exact⟨Zpj.mp z.1,Zpj.mp z.2⟩)];exact JN _
    .rw[Zpj.mpr (k a aA),Zpj.mpr (k b bA),Zpj.mpr (hc _ hq1 k eq),Yaa];exact JN _
  omega
theorem Zvf(w0:∀q∈Z,0<=q.2)(i j k:Nat):cz Z i k<=cz Z i j+cz Z j k:=by
 unfold cz
 induction Z with
 | nil=>exact JN _
 | cons q Z ih=>
  have:=ih λr hr=>w0 r (.tail _ hr);have hw:=w0 q (.head _);simp only[XM,JK];have:(if sep q.1 i k=YD then q.2 else 0)<=(if sep q.1 i j=YD then q.2 else 0)+(if sep q.1 j k=YD then q.2 else 0):=by
   unfold sep;generalize decide ((i:Int)∈q.1)=x;generalize decide ((j:Int)∈q.1)=y;generalize decide ((k:Int)∈q.1)=z;cases x<;>cases y<;>cases z<;>simp<;>omega
  omega
def kd(a b c e:Bool):Bool:=(a==b)&&(c==e)&&(a !=c)
theorem Yf3(w0:∀q∈Z,0<=q.2)(i j k l:Nat):∃C D1 D2 D3:Int,0<=D1/\0<=D2/\0<=D3/\cz Z i j+cz Z k l=C+D2+D3/\cz Z i k+cz Z j l=C+D1+D3/\cz Z i l+cz Z j k=C+D1+D2/\
  (0 < D1->∃s∈Z.map Qp,kd (mm s i) (mm s j) (mm s k) (mm s l)=YD)/\(0<D2->∃s∈Z.map Qp,kd (mm s i) (mm s k) (mm s j) (mm s l)=YD)/\(0<D3->∃s∈Z.map Qp,kd (mm s i) (mm s l) (mm s j) (mm s k)=YD):=by
 induction Z with
 | nil=>exact⟨0,0,0,0,by decide,by decide,by decide,rfl,rfl,rfl,λz=>by omega,λz=>by omega,λz=>by omega⟩
 | cons q Z ih=>
  obtain⟨C,D1,D2,D3,p1,p2,p3,e1,e2,e3,k1,k2,k3⟩:=ih λr hr=>w0 r (.tail _ hr);have hw:=w0 q (.head _);have up:∀{P:List Int->Prop},(∃s∈Z.map Qp,P s)->∃s∈(q::Z).map Qp,P s:=λ⟨s,h,p⟩=>⟨s,.tail _ h,p⟩;have hd:∀{P:List Int->Prop},P q.1->∃s∈(q::Z).map Qp,P s:=λp=>⟨q.1,.head _,p⟩;have cc:∀x y,cz (q::Z) x y=(if(mm q.1 x !=mm q.1 y)=YD then q.2 else 0)+cz Z x y:=λx y=>rfl;simp only[cc];have hk1:=hd (P:=λs=>kd (mm s i) (mm s j) (mm s k) (mm s l)=YD);have hk2:=hd (P:=λs=>kd (mm s i) (mm s k) (mm s j) (mm s l)=YD);have hk3:=hd (P:=λs=>kd (mm s i) (mm s l) (mm s j) (mm s k)=YD);have u1:=λz=>up (k1 z);have u2:=λz=>up (k2 z);have u3:=λz=>up (k3 z);generalize(∃s∈(q::Z).map Qp,kd (mm s i) (mm s j) (mm s k) (mm s l)=YD)=P1 at*
  generalize(∃s∈(q::Z).map Qp,kd (mm s i) (mm s k) (mm s j) (mm s l)=YD)=P2 at*
  generalize(∃s∈(q::Z).map Qp,kd (mm s i) (mm s l) (mm s j) (mm s k)=YD)=P3 at*
  clear up hd cc ih;generalize mm q.1 i=a at*
  generalize mm q.1 j=b at*
  generalize mm q.1 k=c at*
  generalize mm q.1 l=e at*
  cases h1:kd a b c e with
  | true=>
   refine⟨C,D1+2*q.2,D2,D3,by omega,p2,p3,?_,?_,?_,λ_=>hk1 h1,u2,u3⟩<;>(cases a<;>cases b<;>cases c<;>cases e<;>simp[kd]at h1|- <;>omega)
  | false=>
   cases h2:kd a c b e with
   | true=>
    refine⟨C,D1,D2+2*q.2,D3,p1,by omega,p3,?_,?_,?_,u1,λ_=>hk2 h2,u3⟩<;>(cases a<;>cases b<;>cases c<;>cases e<;>simp[kd]at h2|- <;>omega)
   | false=>
    cases h3:kd a e b c with
    | true=>
     refine⟨C,D1,D2,D3+2*q.2,p1,p2,by omega,?_,?_,?_,u1,u2,λ_=>hk3 h3⟩<;>(cases a<;>cases b<;>cases c<;>cases e<;>simp[kd]at h3|- <;>omega)
    | false=>
     refine⟨C+((if(a !=b)=YD then q.2 else 0)+if(c !=e)=YD then q.2 else 0),D1,D2,D3,p1,p2,p3,?_,?_,?_,u1,u2,u3⟩<;>(cases a<;>cases b<;>cases c<;>cases e<;>simp[kd]at h1 h2 h3|- <;>omega)
theorem Z5b{a b e:Bool}(h:kd a b c e=YD):a=YD/\b=YD/\c=YF/\e=YF\/a=YF/\b=YF/\c=YD/\e=YD:=by
 revert a b c e;decide
theorem Z0h{s t:List Int}(h:Cp s t){x z:Int}(h1:mm s x=YD)(h2:mm t x=YD)(h3:mm s y=YD)(h4:mm t y=YF)(h5:mm s z=YF)(h6:mm t z=YD):False:=by
 rw[Zpj]at h1 h2 h3 h6;rw[Zrf]at h4 h5;rcases h with h|h|h
 .exact h x h1 h2
 .exact h4 (h y h3)
 .exact h5 (h z h6)
theorem Zv7{s t:List Int}(h:Cp s t){a c e:Int}(h1:kd (mm s a) (mm s b) (mm s c) (mm s e)=YD)(h2:kd (mm t a) (mm t c) (mm t b) (mm t e)=YD):False:=by
 rcases Z5b h1 with⟨a1,b1,c1,e1⟩|⟨a1,b1,c1,e1⟩<;>rcases Z5b h2 with⟨a2,c2,b2,e2⟩|⟨a2,c2,b2,e2⟩
 .exact Z0h h a1 a2 b1 b2 c1 c2
 .exact Z0h h b1 b2 a1 a2 e1 e2
 .exact Z0h h c1 c2 e1 e2 a1 a2
 .exact Z0h h e1 e2 c1 c2 b1 b2
theorem Z12{a b e:Bool}(h:kd a b c e=YD):kd a b e c=YD:=by revert a b c e;decide
theorem Zou{n:Nat}(LL:Lam n (Z.map Qp))(w0:∀q∈Z,0<=q.2)(i j k l:Nat):∃x y z:Int,x=cz Z i j+cz Z k l/\y=cz Z i k+cz Z j l/\z=cz Z i l+cz Z j k/\¬(x<z/\y<z)/\¬(x<y/\z<y)/\¬(y<x/\z<x):=by
 obtain⟨C,D1,D2,D3,p1,p2,p3,e1,e2,e3,k1,k2,k3⟩:=Yf3 w0 i j k l;refine⟨_,_,_,rfl,rfl,rfl,?_⟩;rw[e1,e2,e3];have n12:¬(0<D1/\0<D2):=λ⟨x,y⟩=>by
  obtain⟨s,hs,q⟩:=k1 x;obtain⟨t,ht,r⟩:=k2 y;exact Zv7 (LL.cp s hs t ht) q r
 have n13:¬(0<D1/\0<D3):=λ⟨x,y⟩=>by
  obtain⟨s,hs,q⟩:=k1 x;obtain⟨t,ht,r⟩:=k3 y;exact Zv7 (LL.cp s hs t ht) (Z12 q) r
 have n23:¬(0<D2/\0<D3):=λ⟨x,y⟩=>by
  obtain⟨s,hs,q⟩:=k2 x;obtain⟨t,ht,r⟩:=k3 y;exact Zv7 (LL.cp s hs t ht) (Z12 q) (Z12 r)
 omega
theorem Z9i{as:FA}{j:Int}(h:EvA as δ [.int j])(h0:-1000<=j)(h1:j<=1000000):EvI (iRa as) δ (Zdn 0 j.toNat):=by
 obtain⟨_,e1,d1⟩:=h;unfold EvI;rw[Z2s,e1,Xg,d1,Z8v,YL (Zlg (by omega) h1)]
theorem Zbi:∀(l:List (List Int)) (j:Nat),j<l.length->(l.getD j []::l.eraseIdx j).Perm l
 | [],_,h=>by simp at h
 | a::l,0,_=>.refl _
 | a::l,j+1,h=>by
  have:=Zbi l j (by simpa using h);show(l.getD j []::a::l.eraseIdx j).Perm (a::l);exact(List.Perm.swap _ _ _).trans (this.cons a)
def Dj(s t:List Int):Prop:=∀x∈s,x∉t
structure Clu(n:Nat)(l f:List (List Int)):Prop where
 okl:∀s∈l,Zkq n s
 dis:l.Pairwise Dj
 okf:Lam n f
 nd:f.Nodup
 inn:∀s∈f,∀t∈l,(∀x∈s,x∈t)\/Dj s t
theorem Ycl{l:List Int}(h:l.Pairwise (·<=·))(d:l.Nodup):l.Pairwise (·<·):=(h.and d).imp λ⟨a,b⟩=>Int.lt_iff_le_and_ne.mpr ⟨a,b⟩
theorem Clu.step{n:Nat}{l l1 l2 f:List (List Int)}{a b:List Int}(h:Clu n l f)(p1:(a::l1).Perm l)(p2:(b::l2).Perm l1):Clu n (l2++[Yh (a++b)]) (f++[Yh (a++b)]):=by
 have pd:(a::b::l2).Perm l:=(p2.cons a).trans p1;have dd:(a::b::l2).Pairwise Dj:=pd.symm.pairwise h.dis fun{s t} q x hx hy=>q x hy hx;have ma:a∈l:=pd.mem_iff.mp (.head _);have mb:b∈l:=pd.mem_iff.mp (.tail _ (.head _));have m2:∀t∈l2,t∈l:=λt ht=>pd.mem_iff.mp (.tail _ (.tail _ ht));have dab:Dj a b:=Qt dd (.head _);have da:∀t∈l2,Dj a t:=λt ht=>Qt dd (.tail _ ht);have db:∀t∈l2,Dj b t:=λt ht=>Qt dd.tail ht;obtain⟨y,hy⟩:∃y,y=Yh (a++b):=⟨_,rfl⟩;rw[<-hy];have my:∀x,x∈y↔x∈a\/x∈b:=λx=>by rw[hy,(Z2 _).mem_iff,XQ]
 have ca:=h.okl a ma;have cb:=h.okl b mb;have gy:Zkq n y:=by
  refine⟨?_,?_,λx hx=>?_⟩
  .obtain⟨x,hx⟩:=JC a ca.ne
   exact List.ne_nil_of_mem ((my x).mpr (.inl hx))
  .rw[hy]
   refine Ycl (W8 _) ((Z2 _).nodup_iff.mpr (JL.mpr ⟨ca.up.imp λq=>Int.ne_of_lt q,cb.up.imp λq=>Int.ne_of_lt q,λx hx z hz e=>dab x hx (e▸hz)⟩))
  .rcases(my x).mp hx with q|q
   .exact ca.pt x q
   .exact cb.pt x q
 have dy:∀t∈l2,Dj y t:=λt ht x hx=>((my x).mp hx).elim (da t ht x) (db t ht x);have sy:∀s∈f,(∀x∈s,x∈y)\/Dj s y:=λs hs=>by
  rcases h.inn s hs a ma with q|q
  .exact .inl λx hx=>(my x).mpr (.inl (q x hx))
  .rcases h.inn s hs b mb with r|r
   .exact .inl λx hx=>(my x).mpr (.inr (r x hx))
   .exact .inr λx hx hz=>((my x).mp hz).elim (q x hx) (r x hx)
 have ny:y∉f:=λhf=>by
  obtain⟨u,hu⟩:=JC a ca.ne;obtain⟨v,hv⟩:=JC b cb.ne;rcases h.inn y hf a ma with q|q
  .exact dab v (q v ((my v).mpr (.inr hv))) hv
  .exact q u ((my u).mpr (.inl hu)) hu
 refine⟨λs hs=>?_,?_,⟨λs hs=>?_,λs hs t ht=>?_⟩,?_,λs hs t ht=>?_⟩
 .rcases XQ.mp hs with hs|hs
  .exact h.okl s (m2 s hs)
  .rw[Xj.mp hs];exact gy
 .refine List.pairwise_append.mpr ⟨dd.tail.tail,JZ ..,λs hs t ht=>?_⟩
  rw[Xj.mp ht];exact λx hx hz=>dy s hs x hz hx
 .rcases XQ.mp hs with hs|hs
  .exact h.okf.ok s hs
  .rw[Xj.mp hs];exact gy
 .have one:∀s∈f,Cp s y:=λs hs=>(sy s hs).elim (λq=>.inr (.inl q)) .inl
  rcases XQ.mp hs with hs|hs<;>rcases XQ.mp ht with ht|ht
  .exact h.okf.cp s hs t ht
  .rw[Xj.mp ht];exact one s hs
  .rw[Xj.mp hs];exact(one t ht).symm
  .rw[Xj.mp hs,Xj.mp ht];exact .inr (.inl λ_ q=>q)
 .exact JL.mpr ⟨h.nd,Qo.mpr ⟨(λz=>nomatch z),.nil⟩,λs hs t ht e=>by rw[Xj.mp ht]at e;exact ny (e▸hs)⟩
 .rcases XQ.mp hs with hs|hs<;>rcases XQ.mp ht with ht|ht
  .exact h.inn s hs t (m2 t ht)
  .rw[Xj.mp ht];exact sy s hs
  .rw[Xj.mp hs];exact .inr (dy t ht)
  .rw[Xj.mp hs,Xj.mp ht];exact .inl λ_ q=>q
def ones(n:Nat):List (List Int):=(Xo (n-1)).map λi:Nat=>[1+(i:Int)]
theorem Clu.ones(n:Nat):Clu n (My.ones n) (My.ones n):=by
 have mo:∀s∈My.ones n,∃i:Nat,i+1<n/\s=[1+(i:Int)]:=λs hs=>by
  obtain⟨i,hi,rfl⟩:=Xv.mp hs;exact⟨i,by have:=Xx.mp hi;omega,rfl⟩
 have g:∀s∈My.ones n,Zkq n s:=λs hs=>by
  obtain⟨i,hi,rfl⟩:=mo s hs;exact⟨(λz=>nomatch z),JZ ..,λx hx=>by rw[Xj.mp hx];omega⟩
 have c:∀s∈My.ones n,∀t∈My.ones n,(∀x∈s,x∈t)\/Dj s t:=λs hs t ht=>by
  obtain⟨i,hi,rfl⟩:=mo s hs;obtain⟨j,hj,rfl⟩:=mo t ht
  by_cases e:i=j
  .subst e;exact .inl λ_ q=>q
  .exact .inr λx hx hy=>e (by have:=Xj.mp hx;have:=Xj.mp hy;omega)
 refine⟨g,?_,⟨g,λs hs t ht=>(c s hs t ht).elim (λq=>.inr (.inl q)) .inl⟩,?_,c⟩
 .unfold My.ones
  rw[QW];exact List.pairwise_lt_range.imp fun{i j} q x hx hy=>by have:=Xj.mp hx;have:=Xj.mp hy;omega
 .unfold My.ones JT
  rw[QW];exact List.pairwise_lt_range.imp fun{i j} q e=>by injection e with e;omega
theorem Z7w:∀(k:Nat) (s:List Int),s.Pairwise (·<·)->(∀x∈s,1<=x/\x<=(k:Int))->s∈sdL k:=by
 intro k
 induction k with
 | zero=>
  intro s _ h;cases s with
  | nil=>exact .head _
  | cons x s=>have:=h x (.head _);omega
 | succ k ih=>
  intro s hs h
  by_cases c:((k:Int)+1)∈s
  .refine XQ.mpr (.inr (Xv.mpr ⟨s.filter λx=>decide (x<=(k:Int)),ih _ (hs.filter _) λx hx=>?_,?_⟩))
   .obtain⟨h1,h2⟩:=Qs.mp hx
    exact⟨(h x h1).1,YW h2⟩
   .refine Zx3 (List.pairwise_append.mpr ⟨hs.filter _,JZ ..,λx hx y hy=>?_⟩) hs λx=>?_
    .rw[Xj.mp hy]
     have:=YW (Qs.mp hx).2;omega
    .rw[XQ,Qs,decide_eq_true_eq,Xj]
     constructor
     .rintro(⟨q,_⟩|rfl)
      .exact q
      .exact c
     .intro q
      have:=(h x q).2
      by_cases e:x=(k:Int)+1
      .exact .inr e
      .exact .inl ⟨q,by omega⟩
  .refine XQ.mpr (.inl (ih s hs λx hx=>⟨(h x hx).1,?_⟩))
   have:=(h x hx).2;have:x≠(k:Int)+1:=λe=>c (e▸hx);omega
theorem Zw3:∀k,(sdL k).Nodup:=by
 intro k
 induction k with
 | zero=>exact Qo.mpr ⟨(λz=>nomatch z),.nil⟩
 | succ k ih=>
  refine JL.mpr ⟨ih,?_,λs hs t ht e=>?_⟩
  .unfold JT
   rw[QW];exact ih.imp λq e=>q (List.append_cancel_right e)
  .obtain⟨r,_,rfl⟩:=Xv.mp ht
   have:=((Zrp k s hs).2.2 ((k:Int)+1) (by rw[e];exact XQ.mpr (.inr (.head _)))).2;omega
theorem Zv0(n:Nat)(h1:1<=n)(s:List Int):s∈sdL (n-1)/\s≠[]↔Zkq n s:=by
 constructor
 .rintro⟨a,b⟩
  obtain⟨_,h2,h3⟩:=Zrp _ s a;exact⟨b,h2,λx hx=>by have:=h3 x hx;omega⟩
 .rintro⟨a,b,c⟩
  exact⟨Z7w _ s b λx hx=>by have:=c x hx;omega,a⟩
theorem Zy0{n:Nat}(hn:n<=100)(hb:0<b)(bb:Bt 300 b)(bR:∀i j,i<n->j<n->Bt 300 (R i j)):∃(m k:Int) (S:Nat->Nat->Int),Told Z0 [tbD (Jo n R b)] (.int m)/\Told Yd [.int m,tbD (Jo n R b)] (Yn n S)/\0<m/\0<k/\b=m*k/\Bt 300 m/\∀x y,x<n->y<n->k*S x y=R x y:=by
 have hz:∀r∈Jo n R b,r.length<=1000:=λr hr=>by
  unfold Jo at hr;obtain⟨x,_,rfl⟩:=Xv.mp hr;rw[Xd,XD];omega
 have hB:Z86 (Jo n R b) b:=λr hr q hq=>by
  unfold Jo at hr;obtain⟨x,_,rfl⟩:=Xv.mp hr;obtain⟨y,_,rfl⟩:=Xv.mp hq;exact Zxb (by omega)
 have hN:∀r∈Jo n R b,∀q∈r,Bt 300 q.num:=λr hr q hq=>by
  unfold Jo at hr;obtain⟨x,hx,rfl⟩:=Xv.mp hr;obtain⟨y,hy,rfl⟩:=Xv.mp hq;exact Zq2 (by omega) (bR x y (Xx.mp hx) (Xx.mp hy))
 obtain⟨m,e1,m0,hm,k,rfl⟩:=Zej hb bb (by decide) (Jo n R b) hz hB;have k0:0<k:=by
  by_cases c:0<k
  .exact c
  .have:=Bj (a:=m) (b:=k) (by omega) (by omega)
   omega
 have bm:Bt 300 m:=Zlj hb ⟨k,rfl⟩ bb;have e2:=Zf6 m0 bm (Jo n R (m*k)) (by rw[Zgq];omega) hz hm hN;have er:Qu ((Jo n R (m*k)).map λr=>.list (r.map λq=>.int (scI m q)))=Yn n λi j=>scI m (XH (R i j) (m*k)):=by
  unfold Jo Yn;rw[XR];refine YT Qu (Xu λi _=>?_);show Qu _=Zzf _ _;rw[XR];rfl
 rw[er]at e2;refine⟨m,k,_,e1,e2,m0,k0,rfl,bm,λx y hx hy=>?_⟩;have hd:((XH (R x y) (m*k)).den:Int)∣m:=hm _ (Xv.mpr ⟨x,Xx.mpr hx,rfl⟩) _ (Xv.mpr ⟨y,Xx.mpr hy,rfl⟩);have:=Z3i hd;have e:((k*scI m (XH (R x y) (m*k)):Int):Rat)=((R x y:Int):Rat):=by
  have nk:((k:Int):Rat)≠0:=by
   intro z;have:k=0:=by exact_mod_cast z
   omega
  have nm:((m:Int):Rat)≠0:=by
   intro z;have:m=0:=by exact_mod_cast z
   omega
  rw[Ut,this,Q5,Ut];rw[Rat.mul_comm,Rat.mul_assoc];exact Rat.div_mul_cancel (λz=>(Rat.mul_eq_zero.mp z).elim nm nk)
 exact_mod_cast e
def wtL(Ls:List (List Int))(W:List Int->Int)(b:Int):List (List Int×Rat):=(Ls.filter λA=>decide (0<W A)).map λA=>(A,XH (W A) (2*b))
theorem Z5k{n:Nat}(h:δ[0]? =YB (YB (.fz (tbD (Jo n R b))))):EvV (Zag Zai (Zc (Zd 0) Zq)) δ (.int n):=Jf (Zb (Za h) Zh) (by rw[Zqj,Zgq])
theorem Zqf{n:Nat}(hn:n<=10)(hb:0<b)(bb:Bt 300 b)(bR:∀i j,i<n->j<n->Bt 300 (R i j))(eC:Told Yx [.int n] (.list (Ls.map Zg)))(hL:∀s∈Ls,Zkq n s)(lL:Ls.length<=1000){W:List Int->Int}(hW:∀A∈Ls,∀m,Lst R A (away n A) m->max 0 m=W A):Told J2 [tbD (Jo n R b),fnD "tree_rule"] (Zj7 (wtL Ls W b)):=by
 obtain⟨m,k,S,e1,e2,m0,k0,rfl,bm,sc⟩:=Zy0 (n:=n) (by omega) hb bb bR;obtain⟨δ',e3,z5,z6,rfl⟩:=Zg3 (it:=Zf5 (Zy Yx (Zc (Zag Zai (Zc (Zd 0) Zq)) Zq))) (g:=gNm 5) (S:=(Z6 (wE (Zy Ym (Zc (Zd 3) (Zc (Zd 5) (Zc (Zd 1) Zq)))) (Y0 6))
  (Zaf (tV (Zj gGt (Zd 6) (fC (.int 0))))
  (Wl 4 (Ze2 (Zc (Zd 5) (Zc (Zy Yr (Zc (Zd 6) (Zc (Zj Zf4 (fC (.int 2)) (Zd 2)) Zq))) Zq))))
  fNx))) (δ:=[YB (.fz (tbD (Jo n R (m*k)))),YB (.fz (fnD "tree_rule")),YB (.fz (.int m)),YB (.fz (Yn n S)),YB (.nd []),YC,YC]) (ds:=Ls.map Zg)
  (λi δ=>∃z5 z6,δ=[YB (.fz (tbD (Jo n R (m*k)))),YB (.fz (fnD "tree_rule")),YB (.fz (.int m)),YB (.fz (Yn n S)),YB (Ybw (wtL (Ls.take i) W (m*k))),z5,z6]) (Js (Zo (Zb (Z5k rfl) Zh) eC)) ⟨YC,YC,rfl⟩ (λi d δ hd q=>by
   obtain⟨z5,z6,rfl⟩:=q;rw[Xp]at hd;cases e:Ls[i]? with
   | none=>rw[e]at hd;cases hd
   | some s=>
    rw[e]at hd;cases hd;have gs:=hL s (Qz e);have ls:s.length<=100:=by
     obtain⟨x,hx⟩:=JC s gs.ne;have n1:1<=n:=by have:=gs.pt x hx;omega
     have:=(Zrp _ s ((Zv0 n n1 s).mpr gs).1).1;omega
    obtain⟨mS,hm,eL⟩:=Zz4 (S:=S) (A:=s) (n:=n) (by omega) ls gs.pt gs.ne;have hR:=hW s (Qz e) _ (hm.scaled k0 sc (λx hx=>⟨by have:=(gs.pt x hx).1;omega,(gs.pt x hx).2⟩) λx hx=>by
     obtain⟨a1,a2,_⟩:=Zbc.mp hx;exact⟨a1,a2⟩)
    rw[Zrg k0]at hR;have eF:=Zjy (n:=302) (t:=max 0 mS) (b:=2*m) (by omega) (Bt.mul (m:=2) (Bt.of_lt (by decide) (by decide)) bm);have eD:XH (W s) (2*(m*k))=XH (max 0 mS) (2*m):=by rw[<-hR,show 2*(m*k)=(2*m)*k by rw[Int.mul_assoc],Zez k0 (by omega)]
    have cw:0<max 0 mS↔0<W s:=by
     rw[<-hR];exact⟨λq=>Int.mul_pos k0 q,λq=>Int.not_le.mp λz=>by have:=Bj (a:=k) (by omega) z;omega⟩
    have et:wtL (Ls.take (i+1)) W (m*k)=wtL (Ls.take i) W (m*k)++if 0<W s then[(s,XH (W s) (2*(m*k)))]else[]:=by
     unfold wtL;rw[List.take_succ,e,Option.toList_some,List.filter_append,Qg]
     by_cases c:0<W s
     .rw[YL c,Bk (p:=λA=>decide (0<W A)) (YQ c)];rfl
     .rw[YM c,Ba (p:=λA=>decide (0<W A)) (by rw[YS c];exact Xn)];rfl
    have ll:(wtL (Ls.take i) W (m*k)).length<=1000:=by
     unfold wtL;rw[Xd];exact QD (VR ..) (QD (List.length_take_le' ..) lL)
    by_cases c:0<max 0 mS
    .refine⟨_,_,rfl,.inl (Y6 (Zu (Zo (Zb Za (Zb Za (Zb Za Zh))) eL)) (Zaz (Zan (Zfw Za Z1 (YQ c))) (Zhx (d:=ctD (s,XH (max 0 mS) (2*m))) (ts:=((wtL (Ls.take i) W (m*k)).map ctD).map OT.fz) (Jt (Zb Za (Zb (Zo (Zb Za (Zb (Zfv Z1 Za) Zh)) eF) Zh)) (show 2<=1000 by decide)) rfl (by rw[Xd,Xd];omega)))),YB (.fz (Zg s)),YB (.fz (.int (max 0 mS))),?_⟩
     rw[et,YL (cw.mp c),eD];show _=[_,_,_,_,YB (Ybw (wtL (Ls.take i) W (m*k)++[(s,XH (max 0 mS) (2*m))])),YB (.fz (Zg s)),YB (.fz (.int (max 0 mS)))];unfold Ybw;rw[Qg,Qg];rfl
    .refine⟨_,_,rfl,.inl (Y6 (Zu (Zo (Zb Za (Zb Za (Zb Za Zh))) eL)) (Z5 (Zan (Zfw Za Z1 (YS c))) rfl)),YB (.fz (Zg s)),YB (.fz (.int (max 0 mS))),?_⟩
     rw[et,YM (λz=>c (cw.mpr z)),QS];rfl)
 rw[Xd,U7]at e3;exact Zx rfl<|Zr (Zu (Zo (Zb Za Zh) e1))<|Zr (Zu (Zo (Zb Za (Zb Za Zh)) e2))<|Zr Zia<|Zr e3 (Yb9 rfl (Zxk _))
def al3(x y z:Int):Bool:=decide ((Yh [x,y,z]).getD 1 0<(Yh [x,y,z]).getD 2 0)
theorem Zpu(h:ns.length<64):Zr7 [.tuple (ns.map Xk)]=YB (.nd (((Yh ns).map Xk).map OT.fz)):=by
 show((Zdq (ns.map Xk)).bind λns=>if ns.length<64 then YB (OT.nd (((Yh ns).map Xk).map OT.fz))else YC)=_;rw[J3,Xg,YL h]
theorem Z14(x y z:Int):Told Yk [.tuple [.int x,.int y,.int z]] (.bool (al3 x y z)):=by
 have l3:(Yh [x,y,z]).length=3:=(Z2 _).length_eq;exact Zx rfl<|Zr (Zu (Zo9 (Zb (Za (d:=.tuple ([x,y,z].map Xk)) rfl) Zh) (Zpu (show 3<64 by decide)) (Zf3 _))) (Z7 (Zdr (Y5 Za (Z1 (d:=.int 1)) (by decide) (by rw[l3];decide)) (Y5 Za (Z1 (d:=.int 2)) (by decide) (by rw[l3];decide)) rfl))
theorem Zql{x z:Int}:al3 x y z=YD↔(x<z/\y<z)\/(x<y/\z<y)\/(y<x/\z<x):=by
 unfold al3;rw[decide_eq_true_iff]
 by_cases a:y<=z
 .have e1:Yh [y,z]=[y,z]:=by show(if y<=z then _ else _)=_;rw[YL a]
  by_cases b:x<=y
  .have:Yh [x,y,z]=[x,y,z]:=by show insI x (Yh [y,z])=_;rw[e1];show(if x<=y then _ else _)=_;rw[YL b]
   rw[this];show y<z↔_;omega
  .by_cases c:x<=z
   .have:Yh [x,y,z]=[y,x,z]:=by show insI x (Yh [y,z])=_;rw[e1];show(if x<=y then _ else y::if x<=z then _ else _)=_;rw[YM b,YL c]
    rw[this];show x<z↔_;omega
   .have:Yh [x,y,z]=[y,z,x]:=by show insI x (Yh [y,z])=_;rw[e1];show(if x<=y then _ else y::if x<=z then _ else _)=_;rw[YM b,YM c];rfl
    rw[this];show z<x↔_;omega
 .have e1:Yh [y,z]=[z,y]:=by show(if y<=z then _ else _)=_;rw[YM a];rfl
  by_cases b:x<=z
  .have:Yh [x,y,z]=[x,z,y]:=by show insI x (Yh [y,z])=_;rw[e1];show(if x<=z then _ else _)=_;rw[YL b]
   rw[this];show z<y↔_;omega
  .by_cases c:x<=y
   .have:Yh [x,y,z]=[z,x,y]:=by show insI x (Yh [y,z])=_;rw[e1];show(if x<=z then _ else z::if x<=y then _ else _)=_;rw[YM b,YL c]
    rw[this];show x<y↔_;omega
   .have:Yh [x,y,z]=[z,y,x]:=by show insI x (Yh [y,z])=_;rw[e1];show(if x<=z then _ else z::if x<=y then _ else _)=_;rw[YM b,YM c];rfl
    rw[this];show y<x↔_;omega
def alS(S:Nat->Nat->Int)(p:List Nat):Bool:=match p with
 | [i,j,k,l]=>al3 (S i j+S k l) (S i k+S j l) (S i l+S j k)
 | _=>YF
def Z3d(n:Nat)(S:Nat->Nat->Int):Option Xa:=(rs n 4).findSome? λp=>if alS S p=YD then YB (tpN p)else YC
theorem Zl0{n:Nat}(hn:n<=10)(S:Nat->Nat->Int):Told Zam [Yn n S] ((Z3d n S).getD .none):=by
 have hle:∀{δ:Zm},δ[0]? =YB (YB (.fz (Yn n S)))->EvV (Zag Zai (Zc (Zd 0) Zq)) δ (.int n):=λh=>Jf (Zb (Za h) Zh) (Zct n S);refine Zx rfl<|Zn4 (α:=Nat) (I:=λδ=>∃z1 z2 z3 z4,δ=[YB (.fz (Yn n S)),z1,z2,z3,z4]) (Zmq (α:=List Nat) (J:=λδ=>∃z1 z2 z3 z4,δ=[YB (.fz (Yn n S)),z1,z2,z3,z4]) tpN _ (rs n 4) (Js (Zo (Zb (hle rfl) (Zb Z1 Zh)) (Zzd hn (by decide)))) ⟨YC,YC,YC,YC,rfl⟩ (λ_ h=>h) λp hp δ q=>?_) λδ q=>?_
 .obtain⟨z1,z2,z3,z4,rfl⟩:=q
  obtain⟨l4,_,lt,_⟩:=Zws hp
  match p,l4 with
  | [i,j,k,l],_=>
   have hi:=lt i (.head _);have hj:=lt j (.tail _ (.head _));have hk:=lt k (.tail _ (.tail _ (.head _)));have hl:=lt l (.tail _ (.tail _ (.tail _ (.head _))));have et:EvT (tD (Zy Yk (Zc (Zy Ye (Zc (Zd 0) (Zc (Zd 1) (Zc (Zd 2) (Zc (Zd 3) (Zc (Zd 4) Zq)))))) Zq))) [YB (.fz (Yn n S)),YB (.fz (.int i)),YB (.fz (.int j)),YB (.fz (.int k)),YB (.fz (.int l))] (alS S [i,j,k,l]):=Ze1 (Zo (Zb (Zo (Zb Za (Zb Za (Zb Za (Zb Za (Zb Za Zh))))) (Zgp hi hj hk hl)) Zh) (Z14 _ _ _));refine⟨_,rfl,?_⟩;cases c:alS S [i,j,k,l]with
   | true=>
    rw[c]at et;rw[YL rfl];exact Zo6 et (Zre (Jt (Zb Za (Zb Za (Zb Za (Zb Za Zh)))) (show 4<=1000 by decide)))
   | false=>
    rw[c]at et;rw[YM Xn];exact Zoo et ⟨_,_,_,_,rfl⟩
 .obtain⟨z1,z2,z3,z4,rfl⟩:=q
  exact Z7 Z1
def clp(n:Nat)(R:Nat->Nat->Int)(i j:Nat):Int:=if i<n/\j<n then R i j else 0
theorem Zq4{n:Nat}(hi:i<n)(hj:j<n):clp n R i j=R i j:=YL ⟨hi,hj⟩
theorem Z1l(n:Nat)(R:Nat->Nat->Int)(b:Int):Jo n R b=Jo n (clp n R) b:=by
 unfold Jo;exact Xu λi hi=>Xu λj hj=>by rw[Zq4 (Xx.mp hi) (Xx.mp hj)]
theorem Zjw{f g:α->Option β}:∀{l:List α},(∀x∈l,f x=g x)->l.findSome? f=l.findSome? g
 | [],_=>rfl
 | x::l,h=>by rw[List.findSome?_cons,List.findSome?_cons,h x (.head _),Zjw λy hy=>h y (.tail _ hy)]
theorem Zy7{n:Nat}{c c':Nat->Nat->Nat->Bool}{v:Nat->Nat->Nat->Xa}(h:∀i j k,i<n->j<n->k<n->c i j k=c' i j k):sc3 n c v=sc3 n c' v:=by
 unfold sc3;exact Zjw λi hi=>Zjw λj hj=>Zjw λk hk=>by rw[h i j k (Xx.mp hi) (Xx.mp hj) (Xx.mp hk)]
theorem Zwm{n:Nat}(hn:n<=10)(hb:0<b)(bb:Bt 300 b)(bR:∀i j,i<n->j<n->Bt 300 (R i j)):Told Wv [tbD (Jo n R b)] ((sc3 n (shI R) tpI).getD .none):=by
 have e:=Zkf hn (Ye2 (R:=clp n R) hb bb λi j=>by
  unfold clp;split
  .rename_i c;exact bR i j c.1 c.2
  .exact Bt.mono (m:=1) (Bt.of_lt (by decide) (by decide)) (by decide))
 rw[Yha hb,<-Zqg,<-Z1l]at e
 rwa[Zy7 (c:=shI (clp n R)) (c':=shI R) λi j k hi hj hk=>by unfold shI;rw[Zq4 hi hj,Zq4 hj hk,Zq4 hi hk]]at e
theorem Zxu{k x:Int}(hk:0<k):k*x<k*y↔x<y:=⟨λh=>Int.lt_of_mul_lt_mul_left h (by omega),λh=>Int.mul_lt_mul_of_pos_left h hk⟩
theorem Ztd{k x z:Int}(hk:0<k):al3 (k*x) (k*y) (k*z)=al3 x y z:=by
 rw[Us,Zql,Zql];simp only[Zxu hk]
theorem Zp7{n:Nat}{k:Int}(hk:0<k)(sc:∀x y,x<n->y<n->k*S x y=R x y):Z3d n S=Z3d n R:=by
 unfold Z3d;refine Zjw λp hp=>?_;obtain⟨l4,_,lt,_⟩:=Zws hp
 match p,l4 with
 | [i,j,k',l],_=>
  have hi:=lt i (.head _);have hj:=lt j (.tail _ (.head _));have hk':=lt k' (.tail _ (.tail _ (.head _)));have hl:=lt l (.tail _ (.tail _ (.tail _ (.head _))));have e:alS R [i,j,k',l]=alS S [i,j,k',l]:=by
   show al3 _ _ _=al3 _ _ _;rw[<-sc i j hi hj,<-sc k' l hk' hl,<-sc i k' hi hk',<-sc j l hj hl,<-sc i l hi hl,<-sc j k' hj hk',<-Ue,<-Ue,<-Ue,Ztd hk]
  rw[e]
def Zxs(n:Nat)(R:Nat->Nat->Int):Option Xa:=match sc3 n (shI R) tpI with|some d=>YB d|none=>Z3d n R
theorem Z33{n:Nat}{c:Nat->Nat->Nat->Bool}{d:Xa}(h:sc3 n c tpI=YB d):∃i j k,d=tpI i j k/\i<n/\j<n/\k<n/\c i j k=YD:=by
 unfold sc3 at h;obtain⟨i,hi,h⟩:=Vt h;obtain⟨j,hj,h⟩:=Vt h;obtain⟨k,hk,h⟩:=Vt h
 by_cases e:c i j k=YD
 .rw[YL e]at h
  cases h;exact⟨i,j,k,rfl,Xx.mp hi,Xx.mp hj,Xx.mp hk,e⟩
 .rw[YM e]at h;cases h
theorem Zmr{n:Nat}(hn:n<=10)(hb:0<b)(bb:Bt 300 b)(bR:∀i j,i<n->j<n->Bt 300 (R i j)):Told Zak [tbD (Jo n R b)] ((Zxs n R).getD .none):=by
 have e:=Zwm hn hb bb bR;unfold Zxs;cases q:sc3 n (shI R) tpI with
 | some d=>
  rw[q]at e;obtain⟨i,j,k,rfl,_⟩:=Z33 q;exact Zx rfl<|Zr (Zu (Zo (Zb Za Zh) e))<|Wx (Zaj (Zan (Zz (Za (d:=tpI i j k) rfl) Z1 rfl)) (Z7 (Za (d:=tpI i j k) rfl)))
 | none=>
  rw[q]at e;obtain⟨m,k,S,e1,e2,m0,k0,rfl,bm,sc⟩:=Zy0 (n:=n) (by omega) hb bb bR;have e3:=Zl0 hn S;rw[Zp7 k0 sc]at e3;exact Zx rfl<|Zr (Zu (Zo (Zb Za Zh) e))<|Zr (Z5 (Zan (Zz (Za (d:=.none) rfl) Z1 rfl)) rfl) (Z7 (Zo (Zb (Zo (Zb (Zo (Zb Za Zh) e1) (Zb Za Zh)) e2) Zh) e3))
theorem Z56{n:Nat}{d:Xa}(h:Z3d n R=YB d):∃p,d=tpN p/\p∈rs n 4/\alS R p=YD:=by
 obtain⟨p,hp,h⟩:=Vt h
 by_cases e:alS R p=YD
 .rw[YL e]at h
  cases h;exact⟨p,rfl,hp,e⟩
 .rw[YM e]at h;cases h
theorem Zuq{n:Nat}(hn:n<=10)(hb:0<b)(bb:Bt 300 b)(bR:∀i j,i<n->j<n->Bt 300 (R i j))(eC:Told Yx [.int n] (.list (Ls.map Zg)))(hL:∀s∈Ls,Zkq n s)(lL:Ls.length<=1000){W:List Int->Int}(hW:∀A∈Ls,∀m,Lst R A (away n A) m->max 0 m=W A)(h:Zxs n R=YC):Told Jm [tbD (Jo n R b)] (.tuple [.str "tree",Zj7 (wtL Ls W b)]):=by
 have e:=Zmr hn hb bb bR;rw[h]at e;exact Zx rfl<|Zr (Zu (Zo (Zb Za Zh) e))<|Zr (Z5 (Zan (Zz (Za (d:=.none) rfl) Z1 rfl)) rfl) (Z7 (Jt (Zb Z1 (Zb (Zo (Zb Za (Zb Z1 Zh)) (Zqf hn hb bb bR eC hL lL hW)) Zh)) (show 2<=1000 by decide)))
theorem Z06{n:Nat}(LL:Lam n (Z.map Qp))(w0:∀q∈Z,0<=q.2):Zxs n (cz Z)=YC:=by
 have h1:sc3 n (shI (cz Z)) tpI=YC:=by
  cases q:sc3 n (shI (cz Z)) tpI with
  | none=>rfl
  | some d=>
   obtain⟨i,j,k,_,_,_,_,c⟩:=Z33 q;have:=YW c;have:=Zvf w0 i j k;omega
 have h2:Z3d n (cz Z)=YC:=by
  cases q:Z3d n (cz Z)with
  | none=>rfl
  | some d=>
   obtain⟨p,_,hp,c⟩:=Z56 q;obtain⟨l4,_⟩:=Zws hp
   match p,l4 with
   | [i,j,k,l],_=>
    have c:al3 (cz Z i j+cz Z k l) (cz Z i k+cz Z j l) (cz Z i l+cz Z j k)=YD:=c;obtain⟨x,y,z,rfl,rfl,rfl,n1,n2,n3⟩:=Zou LL w0 i j k l;rw[Zql]at c;omega
 unfold Zxs;rw[h1];exact h2
theorem Zh6(x y:Nat):cz Z x y=cz Z y x:=by
 unfold cz;exact YT List.sum (Xu λq _=>by rw[Zri])
theorem Zqd{n:Nat}(LL:Lam n (Z.map Qp))(w0:∀q∈Z,0<=q.2)(h1:1<=n){A:List Int}(hA:Zkq n A){m:Int}(hm:Lst (cz Z) A (away n A) m):max 0 m=2*wA Z A:=by
 refine Zvq LL w0 h1 hA ?_ λa ha b hb c e c0 cn cA e0 en eA=>?_
 .obtain⟨⟨⟨a,b⟩,hp,⟨c,e⟩,hq,rfl⟩,_⟩:=hm
  obtain⟨p1,p2⟩:=Zk8 hp;obtain⟨q1,q2⟩:=Zk8 hq;obtain⟨c0,_,cA⟩:=Zbc.mp q1;obtain⟨e0,_,eA⟩:=Zbc.mp q2;rcases(Zze (R:=cz Z) Zh6 a b c e).2.2 with q|q
  .exact⟨a,p1,b,p2,c,e,⟨c0,cA⟩,⟨e0,eA⟩,q⟩
  .exact⟨a,p1,b,p2,e,c,⟨e0,eA⟩,⟨c0,cA⟩,q⟩
 .have hc:c∈away n A:=Zbc.mpr ⟨c0,cn,cA⟩
  have he:e∈away n A:=Zbc.mpr ⟨e0,en,eA⟩;rcases Zsu ha hb with d1|d1<;>rcases Zsu hc he with d2|d2
  .exact Bw (hm.2 _ d1 _ d2) (Zze (R:=cz Z) Zh6 a b c e).1
  .exact Z3p (R:=cz Z) Zh6 a b c e▸Bw (hm.2 _ d1 _ d2) (Zze (R:=cz Z) Zh6 a b e c).2.1
  .exact Bw (hm.2 _ d1 _ d2) (Zze (R:=cz Z) Zh6 b a c e).2.1
  .exact Z3p (R:=cz Z) Zh6 a b c e▸Bw (hm.2 _ d1 _ d2) (Zze (R:=cz Z) Zh6 b a e c).1
def trL(Ls:List (List Int))(Z:List (List Int×Int))(b:Int):List (List Int×Rat):=(Ls.filter λA=>decide (0<wA Z A)).map λA=>(A,XH (wA Z A) b)
theorem Ydk(hb:0<b):wtL Ls (λA=>2*wA Z A) b=trL Ls Z b:=by
 unfold wtL trL;rw[show(λA=>decide (0<2*wA Z A))= λA=>decide (0<wA Z A)from funext λA=>decide_eq_decide.mpr (by omega)];refine Xu λA _=>?_;rw[Int.mul_comm 2 b,Zez (by decide) hb]
theorem Z1y{n:Nat}(h1:1<=n)(hn:n<=10)(LL:Lam n (Z.map Qp))(w0:∀q∈Z,0<=q.2)(hb:0<b)(bb:Bt 300 b)(bR:∀i j,i<n->j<n->Bt 300 (cz Z i j))(eC:Told Yx [.int n] (.list (Ls.map Zg)))(hL:∀s∈Ls,Zkq n s)(lL:Ls.length<=1000):Told Jm [tbD (Jo n (cz Z) b)] (.tuple [.str "tree",Zj7 (trL Ls Z b)]):=by
 have:=Zuq hn hb bb bR eC hL lL (W:=λA=>2*wA Z A) (λA hA m hm=>Zqd LL w0 h1 (hL A hA) hm) (Z06 LL w0)
 rwa[Ydk hb]at this
theorem Zz6(c:Int):∃b,Told Jc [.int c] (.int b)/\0<b/\Bt 200 b:=by
 obtain⟨d,e,h⟩:=ix4 (x:=.int 1) (y:=.int 2) (z:=.int 6) (w:=.int (1000000000000000+37)) (v:=(c.fdiv 3).fmod 4) (Zfn (by decide)) (Zf0 (by decide));have key:∀b:Int,d= .int b->0<b->Bt 200 b->∃b,Told Jc [.int c] (.int b)/\0<b/\Bt 200 b:=λb hd h1 h2=>⟨b,Zx rfl (Z7 (hd▸Wq (Zhy (Zb Z1 (Zb Z1 (Zb Z1 (Zb (Y9 (Zz Z1 Z1 Yka) Z1) Zh)))) (show 4<=1000 by decide)) (Za1 (Zdt Za Z1) Z1 (by decide)) e)),h1,h2⟩;rcases h with h|h|h|h
 .exact key _ h (by decide) (btc (by decide +kernel) (by decide +kernel))
 .exact key _ h (by decide) (btc (by decide +kernel) (by decide +kernel))
 .exact key _ h (by decide) (btc (by decide +kernel) (by decide +kernel))
 .exact key _ h (by decide) (btc (by decide +kernel) (by decide +kernel))
theorem Z8y:PyData.strOk "tree"=YD:=by decide +kernel
theorem Zt8(k:Nat)(L:List (List Int×Rat)):Told (Zt (k+5)) [.tuple [.str "tree",Zj7 L],.tuple [.str "tree",Zj7 L]] (.bool YD):=J0 (ds:=[.str "tree",Zj7 L]) (.inr rfl) λd m=>by
 rcases Xm.mp m with rfl|m
 .exact Zn6 (k+3) Z8y
 rw[Xj.mp m];refine J0 (k:=k+3) (ds:=L.map ctD) (.inl rfl) λd m=>?_;obtain⟨c,_,rfl⟩:=Xv.mp m;refine J0 (k:=k+2) (ds:=[Zg c.1,frD c.2]) (.inr rfl) λd m=>?_;rcases Xm.mp m with rfl|m
 .refine J0 (k:=k+1) (ds:=c.1.map Xk) (.inl rfl) λd m=>?_
  obtain⟨i,_,rfl⟩:=Xv.mp m;exact Zgn k i
 .rw[Xj.mp m];exact Zrx k _
def lsN(l:List Nat):Xa:=.list (l.map λx:Nat=>.int (x:Int))
theorem Zra(p:List Nat):Zai [lsN p]=YB (.int (p.length:Nat)):=by unfold lsN;rw[Zoz,Xd]
theorem Ztz{f g:Int->Int->Bool}{a b c:FE}{i j k:Int}(ha:EvV a δ (.int i))(hb:EvV b δ (.int j))(hc:EvV c δ (.int k))(h:f i j=YD)(hg:g j k=YD):EvV (Zor f g a b c) δ (.bool YD):=by
 obtain⟨_,a1,a2⟩:=ha;obtain⟨_,b1,b2⟩:=hb;obtain⟨_,c1,c2⟩:=hc;refine⟨.fz (.bool (g j k)),?_,by rw[hg];exact OT.data_fz _⟩;unfold Zor;rw[a1,Xg,b1,Xg];dsimp only;rw[a2,b2];dsimp only;rw[YL h,c1,Xg,c2]
theorem Z5q{n:Nat}{f:Nat->Nat->Xa}(h:δ[i]? =YB (YB (.fz (Ze0 n f)))):EvV (Zag Zai (Zc (Zd i) Zq)) δ (.int n):=by
 have:=Zi6 (δ:=δ) (e:=Zd i) (ds:=(Xo n).map λi=>.list ((Xo n).map λj=>f i j)) (Za h)
 rwa[Xd,XD]at this
theorem Zsw{p:List Nat}(h:δ[i]? =YB (YB (.fz (lsN p))))(hp:p.Nodup)(hl:p.length<=1000):EvV (Zl7 (Zc (Zd i) Zq)) δ (.int (p.length:Nat)):=by
 obtain⟨_,e1,d1⟩:=Zb (Za h) Zh;have em:p.map (λx:Nat=>Xk (x:Int))=(p.map λx:Nat=>(x:Int)).map Xk:=by rw[XR];rfl
 refine⟨.fz (.int (Zw7 (p.map λx:Nat=>(x:Int)))),?_,by
  rw[Zt7 ?_,Xd,OT.data_fz];rw[JT,QW];exact hp.imp λz e=>z (Int.ofNat.inj e)⟩
 unfold Zl7;rw[e1,Xg];dsimp only;rw[d1];unfold lsN;rw[em];show(Zdq _).bind _=_;rw[J3,Xg,YL (by rw[Xd];omega)]
theorem map_getD{α:Type}(p:List Nat)(f:Nat->α):p.map f=(Xo p.length).map λi=>f (p.getD i 0):=by
 refine List.ext_getElem (by rw[Xd,Xd,XD]) λi h1 h2=>?_;rw[Xd]at h1;rw[List.getElem_map,List.getElem_map,List.getElem_range,Xb,Xf h1];rfl
theorem Ztx{n:Nat}{f:Nat->Nat->Xa}{p:List Nat}(h1:0<p.length)(hp:p.Nodup)(hb:∀x∈p,x<n)(hl:p.length<=1000):Told Zcg [Ze0 n f,lsN p] (.bool YD):=by
 refine Zx rfl<|Zga (ds:=p.map λx:Nat=>.int (x:Int)) (λk δ=>∃z,δ=[YB (.fz (Ze0 n f)),YB (.fz (lsN p)),z]) (Js Za) ⟨YC,rfl⟩ (λk d δ hd q=>?_) λδ' q=>?_
 .obtain⟨z,rfl⟩:=q
  rw[Xp]at hd;obtain⟨x,hx,rfl⟩:=VG.mp hd;have hx:=hb x (Qz hx);have e:Told Zbq [Ze0 n f,.int x] (.bool YD):=Zx rfl<|Z7 (Ztz Z1 Za (Z5q rfl) (YQ (by omega)) (YQ (by omega)));exact⟨_,_,rfl,.inl (Z5 (Zke (Ze1 (Zo (Zb Za (Zb Za Zh)) e))) rfl),_,rfl⟩
 .obtain⟨z,rfl⟩:=q
  exact Z7 (Zf8 (Zfw (Jf (Zb Za Zh) (Zra p)) Z1 (YQ (by omega))) (Zm5 (Zsw rfl hp hl) (Jf (Zb Za Zh) (Zra p)) (YQ rfl)))
theorem Ztq{n:Nat}{f:Nat->Nat->Xa}{p:List Nat}(h1:0<p.length)(hp:p.Nodup)(hb:∀x∈p,x<n)(hl:p.length<=1000):Told Jj [Ze0 n f,lsN p] (Ze0 p.length λi j=>f (p.getD i 0) (p.getD j 0)):=by
 refine Zx rfl<|Zr (Z5 (Zke (Ze1 (Zo (Zb Za (Zb Za Zh)) (Ztx h1 hp hb hl)))) rfl) (Zr Zia ?_);refine Zga (ds:=p.map λx:Nat=>.int (x:Int)) (λk δ=>∃z,δ=[YB (.fz (Ze0 n f)),YB (.fz (lsN p)),YB (.nd (((p.take k).map λa=>Qu (p.map λb=>f a b)).map OT.fz)),z]) (Js Za) ⟨YC,rfl⟩ (λk d δ hd q=>?_) λδ' q=>?_
 .obtain⟨z,rfl⟩:=q
  rw[Xp]at hd;obtain⟨a,ha,rfl⟩:=VG.mp hd;have am:=hb a (Qz ha);refine⟨_,_,rfl,.inl (Zhx (d:=.list (p.map λb=>f a b)) (Zfz (cs:=[YB (.fz (Ze0 n f)),YB (.fz (.int a))]) p (λx:Nat=>Xk (x:Int)) _ (Js Za) (by omega) rfl λb hm=>Z19 (i0:=1) (i9:=2) (i10:=0) am (hb b hm) rfl rfl rfl) rfl (by rw[Xd,Xd,Bb];omega)),YB (.fz (.int a)),?_⟩;have tk:p.take (k+1)=p.take k++[a]:=by rw[List.take_succ,ha];rfl
  rw[tk,Qg,Qg];rfl
 .obtain⟨z,rfl⟩:=q
  refine Yb9 rfl ?_;rw[Xd,U7,OT.data_nd,OT.map_fz,map_getD];unfold Ze0;exact YT Qu (Xu λi _=>YT Qu (map_getD p _))
def sb(R:Nat->Nat->Int)(ps:List Nat):Nat->Nat->Int:=λi j=>R (ps.getD i 0) (ps.getD j 0)
theorem Z0m{n:Nat}{p:List Nat}(h1:0<p.length)(hp:p.Nodup)(hb:∀x∈p,x<n)(hl:p.length<=1000):Told Jj [tbD (Jo n R b),lsN p] (tbD (Jo p.length (sb R p) b)):=by
 rw[Zqg,Zqg];exact Ztq h1 hp hb hl
theorem Z0z{L:List (List Int)}(hi:i<L.length)(hj:j<L.length):lk kdL ltI (L.map Zg) i j=ltI (L.getD i []) (L.getD j []):=by
 have e:∀k,k<L.length->kdL ((L.map Zg).getD k .none)=YB (L.getD k []):=λk hk=>by
  rw[Xb,Xp,Xf hk,Xb,Xf hk];exact J3 _
 unfold lk;rw[e i hi,e j hj];rfl
theorem Z8z{L:List (List Int)}(nd:L.Nodup)(hi:i<L.length)(hj:j<L.length)(h:i≠j):L.getD i []≠L.getD j []:=by
 rw[Xb,Xb,Xf hi,Xf hj];exact λe=>h ((List.getElem_inj nd).mp e)
def UpL(L:List (List Int)):Prop:=L.Pairwise λa b=>ltI a b=YD
theorem Zs4{L:List (List Int)}(nd:L.Nodup)(h:L.length<64):∃L1:List (List Int),Zh1 kdL ltI [.list (L.map Zg)]=YB (.nd ((L1.map Zg).map OT.fz))/\L1.Perm L/\UpL L1:=by
 refine⟨sLay [] (lk kdL ltI (L.map Zg)) L,?_,Zjb _ _ _,?_⟩
 .have e2:Zh9 kdL ltI [.list (L.map Zg)]=YB (.nd ((sLay PyData.none (lk kdL ltI (L.map Zg)) (L.map Zg)).map OT.fz)):=by
   show(if(decide ((L.map Zg).length<64)&&(L.map Zg).all λd=>(kdL d).isSome)=YD then YB (OT.nd ((sLay PyData.none (lk kdL ltI (L.map Zg)) (L.map Zg)).map OT.fz))else YC)=_;rw[YL];rw[XC,decide_eq_true_eq,Xd,Vg];refine⟨h,λd m=>?_⟩;obtain⟨p,_,rfl⟩:=Xv.mp m;show(Zdq (p.map Xk)).isSome=YD;rw[J3];rfl
  have e3:sLay PyData.none (lk kdL ltI (L.map Zg)) (L.map Zg)=(sLay [] (lk kdL ltI (L.map Zg)) L).map Zg:=by rw[<-Zrb,Zye (Zg []) PyData.none]
  unfold Zh1;rw[e2,e3]
 .refine Zuj (β:=Nat) (d:=[]) (vs:=L) ⟨λi j k hi hj hk h1 h2=>?_,λi j hi hj c q=>?_,λi j hi hj q=>?_⟩ λi j hi hj q=>?_
  .rw[Z0z hi hj]at h1
   rw[Z0z hj hk]at h2;rw[Z0z hi hk];exact Zk6 h1 h2
  .rw[Z0z hi hj]at q
   rw[Z0z hj hi];exact Zu2 (Z8z nd hi hj c) q
  .rw[Z0z hi hj]at q
   rw[Z0z hj hi];refine JW.mpr λz=>?_;have:=Zk6 q z;rw[Zmy]at this;cases this
  .rw[Z0z hi hj]at q
   exact q
def bits:Nat->Nat->List Nat
 | 0,_=>[]
 | k+1,i=>if Nat.blt i (2^k)=YD then bits k i else bits k (i-2^k)++[k+1]
def Yed:List Nat->List Nat->Bool
 | [],[]=>YF
 | [],_::_=>YD
 | _::_,[]=>YF
 | x::xs,y::ys=>bif Nat.beq x y then Yed xs ys else Nat.blt x y
theorem Z38:∀a b:List Nat,ltI (a.map λx:Nat=>(x:Int)) (b.map λx:Nat=>(x:Int))=Yed a b
 | [],[]=>rfl
 | [],_::_=>rfl
 | _::_,[]=>rfl
 | x::xs,y::ys=>by
  rw[XM,XM,ltI,Yed]
  by_cases c:x=y
  .subst c
   rw[YL rfl,show Nat.beq x x=YD from Nat.beq_refl x];exact Z38 xs ys
  .rw[YM (by omega),show Nat.beq x y=YF from JW.mpr λz=>c (Nat.eq_of_beq_eq_true z)]
   show decide _=Nat.blt x y;rw[Us,decide_eq_true_iff];exact⟨λz=>Nat.ble_eq_true_of_le (by omega),λz=>by have:=Bf z;omega⟩
theorem Zdd:∀(k i:Nat),i<2^k->(sdL k)[i]? =YB ((bits k i).map λx:Nat=>(x:Int))
 | 0,i,h=>by
  have:i=0:=by omega
  subst this;rfl
 | k+1,i,h=>by
  have l:=Zlz k;rw[sdL,bits]
  by_cases c:i<2^k
  .rw[YL (show Nat.blt i (2^k)=YD from Nat.ble_eq_true_of_le c),QK (by omega)]
   exact Zdd k i c
  .rw[YM (λz:Nat.blt i (2^k)=YD=>c (Bf z)),Qw (by omega),Xp,l,Zdd k (i-2^k) (by rw[Nat.pow_succ]at h;omega),Qa,Qg]
   show YB (_++[(k:Int)+1])=YB (_++[((k+1:Nat):Int)]);rw[Int.natCast_add];rfl
def ltS(k i j:Nat):Bool:=Yed (bits k i) (bits k j)
def chB(lt:Nat->Nat->Bool):List Nat->Bool
 | []=>YD
 | [_]=>YD
 | x::y::l=>lt x y&&chB lt (y::l)
def okS(k:Nat):Bool:=match Zi7 (ltS k) (2^k)with
 | some p=>fcL p λp=>p.isPerm (Xo (2^k))&&chB (ltS k) p
 | none=>YF
theorem Yae{k:Nat}(hi:i<2^k)(hj:j<2^k):ltI ((sdL k).getD i []) ((sdL k).getD j [])=ltS k i j:=by
 rw[Xb,Xb,Zdd k i hi,Zdd k j hj];exact Z38 _ _
theorem Z31{R:α->α->Prop}(tr:∀{a b c},R a b->R b c->R a c){f:Nat->α}{lt:Nat->Nat->Bool}:∀{p:List Nat},(∀i∈p,∀j∈p,lt i j=YD->R (f i) (f j))->chB lt p=YD->(p.map f).Pairwise R
 | [],_,_=>.nil
 | [_],_,_=>JZ ..
 | x::y::l,h,c=>by
  rw[chB,XC]at c;have t:=Z31 (R:=R) (f:=f) tr (p:=y::l) (λi hi j hj=>h i (.tail _ hi) j (.tail _ hj)) c.2;have xy:=h x (.head _) y (.tail _ (.head _)) c.1;rw[XM];refine .cons (λz hz=>?_) t;rcases Xm.mp hz with rfl|hz
  .exact xy
  .exact tr xy (Qt t hz)
theorem Zjs{k:Nat}(h:okS k=YD)(h6:6<=k)(h9:k<=9):∃L1:List (List Int),Zh1 kdL ltI [.list ((sdL k).map Zg)]=YB (.nd ((L1.map Zg).map OT.fz))/\L1.Perm (sdL k)/\UpL L1:=by
 have p64:2^6<=2^k:=Va (by decide) h6;have p512:2^k<=2^9:=Va (by decide) h9;have l:=Zlz k;unfold okS at h;split at h
 case h_2=>cases h
 rename_i p ep;rw[Z2m,XC]at h;have pm:=List.isPerm_iff.mp h.1;have lp:p.length=2^k:=by rw[pm.length_eq,XD]
 have lt:∀i∈p,i<2^k:=λi hi=>Xx.mp (pm.mem_iff.mp hi);have ep:Zi7 (lk kdL ltI ((sdL k).map Zg)) (2^k)=YB p:=by
  rw[Zqy (lt':=ltS k) λi hi j hj=>by rw[Z0z (by omega) (by omega),Yae hi hj]];exact ep
 have lm:((sdL k).map Zg).length=2^k:=by rw[Xd,l]
 refine⟨p.map λi=>(sdL k).getD i [],?_,?_,Z31 (R:=λa b=>ltI a b=YD) (f:=λi=>(sdL k).getD i []) Zk6 (λi hi j hj c=>by rw[Yae (lt i hi) (lt j hj)];exact c) h.2⟩
 .have n0:Zh9 kdL ltI [.list ((sdL k).map Zg)]=YC:=by
   show(if(decide (((sdL k).map Zg).length<64)&&((sdL k).map Zg).all λd=>(kdL d).isSome)=YD then YB (OT.nd ((sLay PyData.none (lk kdL ltI ((sdL k).map Zg)) ((sdL k).map Zg)).map OT.fz))else YC)=YC;exact YM (by rw[YS (by omega),Bool.false_and];exact Xn)
  unfold Zh1;rw[n0];show(Zi7 (lk kdL ltI ((sdL k).map Zg)) ((sdL k).map Zg).length).bind _=_;rw[lm,ep,Xg,YL]
  .refine YT (λx:List Xa=>YB (OT.nd (x.map OT.fz))) ?_
   unfold tLay;rw[XR];refine Xu λi hi=>?_;have hi:=lt i hi;rw[Xb,Xp,Zdd k i hi];show Zg _=Zg ((sdL k).getD i []);rw[Xb,Zdd k i hi];rfl
  .rw[XC,XC,XC,decide_eq_true_eq,decide_eq_true_eq,decide_eq_true_eq,Vg]
   refine⟨⟨⟨by omega,by omega⟩,lp⟩,λd m=>?_⟩;obtain⟨s,_,rfl⟩:=Xv.mp m;show(Zdq (s.map Xk)).isSome=YD;rw[J3];rfl
 .have e:(Xo (2^k)).map (λi=>(sdL k).getD i [])=sdL k:=by
   refine V3 λi=>?_;rw[Xp]
   by_cases c:i<2^k
   .rw[QG c,Qa,Xb,Zdd k i c];rfl
   .rw[Qv (by rw[XD];omega),Qv (by omega)];rfl
  exact(pm.map _).trans (by rw[e])
theorem Ybj:okS 6=YD/\okS 7=YD:=by decide +kernel
theorem Zw8{k:Nat}(hk:k<=7):∃L1:List (List Int),Zh1 kdL ltI [.list ((sdL k).map Zg)]=YB (.nd ((L1.map Zg).map OT.fz))/\L1.Perm (sdL k)/\UpL L1:=by
 rcases U0 k 6 with c|c
 .exact Zs4 (Zw3 k) (by rw[Zlz];exact Nat.lt_of_le_of_lt (Va (by decide) (show k<=5 by omega)) (by decide))
 .have:k=6\/k=7:=by omega
  rcases this with rfl|rfl
  .exact Zjs Ybj.1 (by decide) (by decide)
  .exact Zjs Ybj.2 (by decide) (by decide)
theorem Zp1{n:Nat}(h0:1<=n)(hn:n<=8):∃Ls:List (List Int),Told Yx [.int n] (.list (Ls.map Zg))/\(∀s,s∈Ls↔Zkq n s)/\UpL Ls/\Ls.length<=512:=by
 have p2:∀{k:Nat},k<=7->(sdL k).length<=128:=fun{k} hk=>by
  rw[Zlz];exact QD (Va (by decide) hk) (by decide)
 have l2:=p2 (k:=n-1) (by omega);obtain⟨L1,eS,pS,uS⟩:=Zw8 (k:=n-1) (by omega);refine⟨L1.filter λs=>decide (0<s.length),?_,λs=>?_,uS.filter _,QD (VR ..) (by rw[pS.length_eq];omega)⟩
 .refine Zx rfl<|Zr (Zu (Zhy (Zb (Zhy Zh (show 0<=1000 by decide)) Zh) (show 1<=1000 by decide)))<|
   Zga (ds:=Zdn 1 (n-1)) (λk δ=>∃z2,δ=[YB (.fz (.int n)),YB (.fz (.list ((sdL k).map Zg))),z2]) (Zwb (m:=1) (Zb Z1 (Zb Za Zh)) (by decide) (by omega)) ⟨YC,rfl⟩ (λk d δ hd q=>?_) λδ' q=>?_
  .obtain⟨z2,rfl⟩:=q
   obtain⟨hk,rfl⟩:=Zaq hd;have lk:=p2 (k:=k) (by omega);refine⟨_,_,rfl,.inl (Zu (EvV.cast (Zsq (ds:=(sdL k).map Zg) (es:=(sdL k).map λs=>Zg (s++[(k:Int)+1])) Za (Zfz (cs:=[YB (.fz (.int (1+(k:Int))))]) (sdL k) Zg (λs=>Zg (s++[(k:Int)+1])) (Js Za) (by omega) rfl λs hs=>?_) (by rw[Xd,Xd];omega)) (y:=.list ((sdL (k+1)).map Zg)) ?_)),_,rfl⟩
   .have ls:=(Zrp k s hs).1
    exact(Zsq (ds:=s.map Xk) (es:=[.int (1+(k:Int))]) Za (Zhy (Zb Za Zh) (show 1<=1000 by decide)) (by rw[Xd];show _+1<=_;omega)).cast (by unfold Zg;rw[Qg,Int.add_comm];rfl)
   .rw[sdL,Qg,XR];rfl
  .obtain⟨z2,rfl⟩:=q
   rw[Wk];refine Z7 (Zl1 (cs:=[]) L1 Zg (λs=>decide (0<s.length)) (Js (Zo9 (Zb Za Zh) eS (by rw[OT.data_nd,OT.map_fz]))) (by rw[pS.length_eq];omega) rfl (λs _=>Zan (Zfw (Zi6 (ds:=s.map Xk) Za) Z1 (decide_eq_decide.mpr (by rw[Xd];omega)))) λs _ _=>rfl)
 .rw[Qs,decide_eq_true_eq,List.length_pos_iff,pS.mem_iff]
  exact Zv0 n h0 s
theorem Zzz:∀{L M:List (List Int×Rat)},L.Pairwise (λa b=>ltI a.1 b.1=YD)->M.Pairwise (λa b=>ltI a.1 b.1=YD)->(∀x,x∈L↔x∈M)->L=M:=by
 intro L
 induction L with
 | nil=>
  intro M _ _ h;cases M with
  | nil=>rfl
  | cons y M=>exact YX ((h y).mpr (.head _)) (λz=>nomatch z)
 | cons x L ih=>
  intro M hL hM h;cases M with
  | nil=>exact YX ((h x).mp (.head _)) (λz=>nomatch z)
  | cons y M=>
   have h1:∀{z:List Int×Rat},z∈L->ltI x.1 z.1=YD:=λm=>Qt hL m;have h2:∀{z:List Int×Rat},z∈M->ltI y.1 z.1=YD:=λm=>Qt hM m;have no:∀{a b:List Int},ltI a b=YD->ltI b a=YD->False:=λp q=>by
    have:=Zk6 p q;rw[Zmy]at this;cases this
   have e:x=y:=by
    rcases Xm.mp ((h x).mp (.head _))with e|m
    .exact e
    .rcases Xm.mp ((h y).mpr (.head _))with e|m'
     .exact e.symm
     .exact(no (h1 m') (h2 m)).elim
   subst e;refine YT (x::·) (ih hL.tail hM.tail λz=>⟨λm=>?_,λm=>?_⟩)
   .rcases Xm.mp ((h z).mp (.tail _ m))with e|m'
    .subst e;exact(no (h1 m) (h1 m)).elim
    .exact m'
   .rcases Xm.mp ((h z).mpr (.tail _ m))with e|m'
    .subst e;exact(no (h2 m) (h2 m)).elim
    .exact m'
theorem Z4o(q:List Int×Int)(Z:List (List Int×Int))(A:List Int):wA (q::Z) A=(if q.1=A then q.2 else 0)+wA Z A:=by
 unfold wA
 by_cases e:q.1=A
 .rw[Bk (p:=λq:List Int×Int=>decide (q.1=A)) (YQ e),XM,JK,YL e]
 .rw[Ba (p:=λq:List Int×Int=>decide (q.1=A)) (by rw[YS e];exact Xn),YM e,Bh]
theorem Z9t{A:List Int}(h:A∉Z.map Qp):wA Z A=0:=by
 unfold wA;rw[List.filter_eq_nil_iff.mpr λq hq c=>h (by rw[<-YW c];exact Vz hq)];rfl
theorem Zu0(nd:(Z.map Qp).Nodup){q:List Int×Int}(hq:q∈Z):wA Z q.1=q.2:=by
 induction Z with
 | nil=>cases hq
 | cons r Z ih=>
  obtain⟨n1,n2⟩:=Qo.mp nd;rw[Z4o];rcases Xm.mp hq with rfl|hq
  .rw[YL rfl,Z9t n1,Int.add_zero]
  .rw[YM (λe:r.1=q.1=>n1 (by rw[e];exact Vz hq)),ih n2 hq,Bh]
theorem Ycz(nd:(Z.map Qp).Nodup)(b:Int):Dst (wL Z b):=by
 have pw:(wL Z b).Pairwise λx y=>x.1≠y.1:=by
  unfold wL;rw[QW];have:Z.Pairwise λx y=>x.1≠y.1:=QW.mp nd;exact(this.filter _).imp λh=>h
 intro k l hkl hl;have:=Ui.mp pw k l (by omega) hl hkl
 rwa[Xb,Xb,Xf (by omega),Xf hl]
theorem Zu7{n:Nat}(ok:∀s∈Z.map Qp,Zkq n s)(nd:(Z.map Qp).Nodup)(mem:∀s,s∈Ls↔Zkq n s)(up:UpL Ls)(b:Int):trL Ls Z b=sCt (wL Z b):=by
 refine Zzz ?_ (Ybl (Ycz nd b)) λx=>?_
 .unfold trL
  rw[QW];exact(up.filter _).imp λh=>h
 .have pm:(sCt (wL Z b)).Perm (wL Z b):=Zjb _ _ _
  rw[pm.mem_iff];unfold trL wL;rw[Xv,Xv];constructor
  .rintro⟨A,hA,rfl⟩
   have w:=YW (Qs.mp hA).2;have m:A∈Z.map Qp:=Qx λz=>by rw[Z9t z]at w;omega
   obtain⟨q,hq,rfl⟩:=Xv.mp m;rw[Zu0 nd hq]at w|-
   exact⟨q,Qs.mpr ⟨hq,YQ w⟩,rfl⟩
  .rintro⟨q,hq,rfl⟩
   obtain⟨h1,h2⟩:=Qs.mp hq;have w:=YW h2;refine⟨q.1,Qs.mpr ⟨(mem _).mpr (ok _ (Vz h1)),?_⟩,by rw[Zu0 nd h1]⟩;rw[Zu0 nd h1];exact h2
def Arc(o s:List Int):Prop:=∃a m c,o=a++m++c/\m.Perm s
theorem Arc.left{o s:List Int}(x:List Int)(h:Arc o s):Arc (x++o) s:=by
 obtain⟨a,m,c,rfl,p⟩:=h;exact⟨x++a,m,c,by simp only[QQ],p⟩
theorem Arc.right{o s:List Int}(x:List Int)(h:Arc o s):Arc (o++x) s:=by
 obtain⟨a,m,c,rfl,p⟩:=h;exact⟨a,m,c++x,by simp only[QQ],p⟩
theorem Arc.rev{o s:List Int}(h:Arc o s):Arc o.reverse s:=by
 obtain⟨a,m,c,rfl,p⟩:=h;exact⟨c.reverse,m.reverse,a.reverse,by simp only[List.reverse_append,QQ],(List.reverse_perm m).trans p⟩
structure Ord(n:Nat)(l f:List (List Int)):Prop where
 arc:∀t∈l,∃o:List Int,o.Perm t/\∀s∈f,(∀x∈s,x∈t)->Arc o s
 cov:∀x:Int,1<=x->x<n->∃t∈l,x∈t
theorem Ord.step{n:Nat}{l l1 l2 f:List (List Int)}{a b:List Int}(h:Clu n l f)(O:Ord n l f)(p1:(a::l1).Perm l)(p2:(b::l2).Perm l1):Ord n (l2++[Yh (a++b)]) (f++[Yh (a++b)]):=by
 have pd:(a::b::l2).Perm l:=(p2.cons a).trans p1;have dd:(a::b::l2).Pairwise Dj:=pd.symm.pairwise h.dis fun{s t} q x hx hy=>q x hy hx;have ma:a∈l:=pd.mem_iff.mp (.head _);have mb:b∈l:=pd.mem_iff.mp (.tail _ (.head _));have m2:∀t∈l2,t∈l:=λt ht=>pd.mem_iff.mp (.tail _ (.tail _ ht));have da:∀t∈l2,Dj a t:=λt ht=>Qt dd (.tail _ ht);have my:∀x,x∈Yh (a++b)↔x∈a\/x∈b:=λx=>by rw[(Z2 _).mem_iff,XQ]
 refine⟨λt ht=>?_,λx h1 h2=>?_⟩
 .rcases XQ.mp ht with ht|ht
  .obtain⟨o,po,ho⟩:=O.arc t (m2 t ht)
   refine⟨o,po,λs hs sub=>?_⟩;rcases XQ.mp hs with hs|hs
   .exact ho s hs sub
   .rw[Xj.mp hs]at sub
    obtain⟨x,hx⟩:=JC a (h.okl a ma).ne;exact(da t ht x hx (sub x ((my x).mpr (.inl hx)))).elim
  .rw[Xj.mp ht]
   obtain⟨oa,pa,ha⟩:=O.arc a ma;obtain⟨ob,pb,hb⟩:=O.arc b mb;have po:(oa++ob).Perm (Yh (a++b)):=(pa.append pb).trans (Z2 _).symm;refine⟨oa++ob,po,λs hs sub=>?_⟩;rcases XQ.mp hs with hs|hs
   .rcases h.inn s hs a ma with q|q
    .exact(ha s hs q).right ob
    .exact(hb s hs λx hx=>((my x).mp (sub x hx)).resolve_left (q x hx)).left oa
   .rw[Xj.mp hs]
    exact⟨[],oa++ob,[],by simp,po⟩
 .obtain⟨t,ht,hx⟩:=O.cov x h1 h2
  rcases Xm.mp (pd.mem_iff.mpr ht)with rfl|m
  .exact⟨_,XQ.mpr (.inr (.head _)),(my x).mpr (.inl hx)⟩
  .rcases Xm.mp m with rfl|m
   .exact⟨_,XQ.mpr (.inr (.head _)),(my x).mpr (.inr hx)⟩
   .exact⟨t,XQ.mpr (.inl m),hx⟩
theorem Ord.ones(n:Nat):Ord n (My.ones n) (My.ones n):=by
 refine⟨λt ht=>⟨t,.refl _,λs hs sub=>?_⟩,λx h1 h2=>⟨[x],?_,.head _⟩⟩
 .obtain⟨i,hi,rfl⟩:=Xv.mp ht
  obtain⟨j,hj,rfl⟩:=Xv.mp hs;have:=Xj.mp (sub _ (.head _));refine⟨[],[1+(i:Int)],[],rfl,?_⟩;rw[this]
 .refine Xv.mpr ⟨(x-1).toNat,Xx.mpr (by omega),?_⟩
  rw[show 1+(((x-1).toNat:Nat):Int)=x by omega]
theorem Zmt(c:Int){n:Nat}(h2:2<=n)(hn:n<=10):∃Ls:List (List Int),Told Wg [.int c,.int n] (.list (Ls.map Zg))/\Ls.length<=20/\Lam n Ls/\Ls.Nodup/\∃o:List Int,(∀x:Int,x∈o↔1<=x/\x<n)/\o.Nodup/\o.length=n-1/\∀s∈Ls,Arc o s:=by
 obtain⟨vs,e0,hv⟩:=Zt5 c (2*n) (by omega);have s0:EvV (Zj Zf4 (fC (.int 2)) (Zd 1)) (Zgo 8 [.int c,.int n]) (.int (2*n:Nat)):=(Zfv Z1 Za (by decide)).cast (YT Xk (by omega));have e1:Z1v (W3 1 [] (iRb (Zc (fC (.int 1)) (Zc (Zd 1) Zq))) (gNm 0) Znd (Zd2 (Zc (Zd 0) Zq))) [YB (.fz (.int c)),YB (.fz (.int n)),YB (.fz (Zg vs)),YC,YC,YC,YC,YC]=YB (lO (ones n),[YB (.fz (.int c)),YB (.fz (.int n)),YB (.fz (Zg vs)),YC,YC,YC,YC,YC]):=by
  obtain⟨rs,h1,h2⟩:=Zuu (caps:=[]) (it:=iRb (Zc (fC (.int 1)) (Zc (Zd 1) Zq))) (me:=Zd2 (Zc (Zd 0) Zq)) (cs:=[]) (δ:=[YB (.fz (.int c)),YB (.fz (.int n)),YB (.fz (Zg vs)),YC,YC,YC,YC,YC]) (Xo (n-1)) (λi:Nat=>Xk (1+(i:Int))) (λi:Nat=>Zg [1+(i:Int)]) (Zwb (m:=1) (n:=n) (Zb Z1 (Zb Za Zh)) (by decide) (by omega)) (by rw[XD];omega) rfl λi _=>Zya Za;unfold Z1v;rw[h1,Xg];dsimp only;rw[h2];unfold lO ones;rw[XR,XR,XR];rfl
 have lo:(ones n).length=n-1:=by unfold ones;rw[Xd,XD]
 have key:∃d,Told Wg [.int c,.int n] d/\∃Ls:List (List Int),d= .list (Ls.map Zg)/\Ls.length<=20/\Lam n Ls/\Ls.Nodup/\∃o:List Int,(∀x:Int,x∈o↔1<=x/\x<n)/\o.Nodup/\o.length=n-1/\∀s∈Ls,Arc o s:=by
  refine Ztw rfl<|Zbl (Zu (Zo (Zb Za (Zb s0 Zh)) e0))<|Zbl (Zl3 e1)<|Zbl (Zl3 (Z2j (i:=3) rfl))<|Znv (ds:=Zdn 0 ((n:Int)-2).toNat) (λi δ=>∃(l f:List (List Int)) (z5 z6 z7:Option OT),δ=[YB (.fz (.int c)),YB (.fz (.int n)),YB (.fz (Zg vs)),YB (lO l),YB (lO f),z5,z6,z7]/\l.length+i=n-1/\sL l=n-1/\f.length=n-1+i/\Clu n l f/\Ord n l f) (Z9i (Zb (Zei Za Z1) Zh) (by omega) (by omega)) ⟨ones n,ones n,_,_,_,rfl,lo,?_,lo,Clu.ones n,Ord.ones n⟩ (λi d δ hd q=>?_) λδ' q=>?_
  .unfold sL ones
   rw[XR];generalize n-1=k
   induction k with
   | zero=>rfl
   | succ k ih=>rw[Uq,Qg,List.sum_append,ih];rfl
  .obtain⟨l,f,z5,z6,z7,rfl,ll,sl,lf,cl,od⟩:=q
   obtain⟨hi,rfl⟩:=Zaq hd;rw[Bh];obtain⟨j,ej,hj⟩:=Znp (vs.getD (2*i) 0) (n:=l.length) (by omega);have l1:(l.eraseIdx j).length=l.length-1:=List.length_eraseIdx_of_lt hj;obtain⟨j2,ej2,hj2⟩:=Znp (vs.getD (2*i+1) 0) (n:=(l.eraseIdx j).length) (by omega);have l2:((l.eraseIdx j).eraseIdx j2).length=l.length-2:=by rw[List.length_eraseIdx_of_lt hj2,l1];omega
   have x1:=Zmh l j hj;have x2:=Zmh (l.eraseIdx j) j2 hj2;have cl2:=cl.step (Zbi l j hj) (Zbi (l.eraseIdx j) j2 hj2);have od2:=od.step cl (Zbi l j hj) (Zbi (l.eraseIdx j) j2 hj2);have p1:EvV (Zj Zgz (Yl gIx (Zd 2) (Zj Zf4 (fC (.int 2)) (Zd 5))) (Zag Zai (Zc (Zq9 3) Zq))) [YB (.fz (.int c)),YB (.fz (.int n)),YB (.fz (Zg vs)),YB (lO l),YB (lO f),YB (.fz (.int i)),z6,z7] (.int j):=(Za1 (j:=l.length) ((Y5 (p:=vs) (i:=2*(i:Int)) Za (Zfv Z1 Za (by decide)) (by omega) (by omega)).cast (by rw[show(2*(i:Int)).toNat=2*i by omega])) ((Zi6 (Zun rfl (Zm0 l))).cast (by rw[Xd])) (by omega)).cast (YT _ ej);have p2:EvV (Zj Zgz (Yl gIx (Zd 2) (Zj Zcn (Zj Zf4 (fC (.int 2)) (Zd 5)) (fC (.int 1)))) (Zag Zai (Zc (Zq9 3) Zq))) [YB (.fz (.int c)),YB (.fz (.int n)),YB (.fz (Zg vs)),YB (lO (l.eraseIdx j)),YB (lO f),YB (.fz (.int i)),YB (.fz (Zg (l.getD j []))),z7] (.int j2):=(Za1 (j:=(l.eraseIdx j).length) ((Y5 (p:=vs) (i:=2*(i:Int)+1) Za (Y9 (Zfv Z1 Za (by decide)) Z1) (by omega) (by omega)).cast (by rw[show(2*(i:Int)+1).toNat=2*i+1 by omega])) ((Zi6 (Zun rfl (Zm0 _))).cast (by rw[Xd])) (by omega)).cast (YT _ ej2);obtain⟨y,hy⟩:∃y,y=Yh (l.getD j []++(l.eraseIdx j).getD j2 []):=⟨_,rfl⟩;rw[<-hy]at cl2 od2;have ly:y.length=(l.getD j []).length+((l.eraseIdx j).getD j2 []).length:=by rw[hy,(Z2 _).length_eq,Xq]
   refine⟨_,_,rfl,.inl (Y6 (popS (i:=6) (Yi6 (i:=3) rfl p1 hj (by omega)))<|Y6 (popS (i:=7) (Yi6 (i:=3) rfl p2 hj2 (by omega)))<|Y6 (δ':=[YB (.fz (.int c)),YB (.fz (.int n)),YB (.fz (Zg vs)),YB (lO ((l.eraseIdx j).eraseIdx j2++[y])),YB (lO f),YB (.fz (.int i)),YB (.fz (Zg (l.getD j []))),YB (.fz (Zg ((l.eraseIdx j).getD j2 [])))]) ?_ ?_),(l.eraseIdx j).eraseIdx j2++[y],f++[y],YB (.fz (.int i)),YB (.fz (Zg (l.getD j []))),YB (.fz (Zg ((l.eraseIdx j).getD j2 []))),rfl,by rw[Xq];show _+1+_=_;omega,?_,by rw[Xq];show _+1=_;omega,cl2,od2⟩
   .refine(Zhx (ts:=(((l.eraseIdx j).eraseIdx j2).map Zg).map OT.fz) (d:=Zg y) ?_ rfl (by rw[Xd,Xd];omega)).trans (by rw[Zxq];rfl)
    rw[hy];exact Zo9 (Zb (Zsj Za Za (by omega) (by omega)) Zh) (Zey (by rw[Xq];omega)) (Zf3 _)
   .refine(Zhx (ts:=(f.map Zg).map OT.fz) (d:=Zg y) ?_ rfl (by rw[Xd,Xd];omega)).trans (by rw[Zxq f y];rfl)
    exact Z1i rfl
   .unfold sL
    rw[Qg,List.sum_append];show sL _+(y.length+0)=_;omega
  .obtain⟨l,f,z5,z6,z7,rfl,ll,sl,lf,cl,od⟩:=q
   rw[Wk]at lf ll;refine Yhn (o:=lO f) rfl ⟨f,Zm0 f,by omega,cl.okf,cl.nd,?_⟩
   match l,(show l.length=1 by omega)with
   | [t],_=>
    obtain⟨o,po,ho⟩:=od.arc t (.head _);have gt:=cl.okl t (.head _);have cv:∀x:Int,1<=x->x<n->x∈t:=λx h1 h2=>by
     obtain⟨t',ht,hx⟩:=od.cov x h1 h2
     rwa[Xj.mp ht]at hx
    refine⟨o,λx=>?_,po.nodup_iff.mpr (gt.up.imp λq=>Int.ne_of_lt q),?_,λs hs=>ho s hs λx hx=>?_⟩
    .rw[po.mem_iff]
     exact⟨λh=>gt.pt x h,λh=>cv x h.1 h.2⟩
    .rw[po.length_eq]
     have:t.length+0=n-1:=sl;omega
    .have:=(cl.okf.ok s hs).pt x hx
     exact cv x this.1 this.2
 obtain⟨d,h,Ls,rfl,r⟩:=key;exact⟨Ls,h,r⟩
theorem Z8u{o s:List Int}(nd:o.Nodup)(h:Arc o s)(z:(0:Int)∉s):∃u0 u1,1<=u0/\u1<=o.length+1/\∀u,u<o.length+1->((0::o).getD u 0∈s↔u0<=u/\u<u1):=by
 obtain⟨a,m,c,rfl,pm⟩:=h;obtain⟨n1,n2,d1⟩:=JL.mp nd;obtain⟨n3,n4,d2⟩:=JL.mp n1;refine⟨1+a.length,1+a.length+m.length,by omega,by simp only[Xq];omega,λu hu=>?_⟩;cases u with
 | zero=>
  show(0:Int)∈s↔_;exact⟨λh=>YX h z,λh=>by omega⟩
 | succ k=>
  rw[<-pm.mem_iff];show((a++m++c).getD k 0)∈m↔_;simp only[Xq]at hu;rw[Xb]
  by_cases c1:k<a.length
  .rw[QK (by rw[Xq];omega),QK c1,Xf c1]
   exact⟨λh=>YX rfl (d2 _ (Q4 c1) _ h),λh=>by omega⟩
  .by_cases c2:k<a.length+m.length
   .rw[QK (by rw[Xq];omega),Qw (by omega),Xf (show k-a.length<m.length by omega)]
    exact⟨λ_=>by omega,λ_=>Q4 _⟩
   .rw[Qw (by rw[Xq];omega),Xq,Xf (show k-(a.length+m.length)<c.length by omega)]
    exact⟨λh=>YX rfl (d1 _ (XQ.mpr (.inr h)) _ (Q4 (show k-(a.length+m.length)<c.length by omega))),λh=>by omega⟩
def iv(u0 u1 u:Nat):Bool:=decide (u0<=u/\u<u1)
theorem Z78{w:Int}(hw:0<=w){x p y q:Bool}(h1:¬(x=YD/\p=YF/\y=YD/\q=YF))(h2:¬(x=YF/\p=YD/\y=YF/\q=YD)):0<=(if(x !=y)=YD then w else 0)+(if(p !=q)=YD then w else 0)-(if(x !=q)=YD then w else 0)-(if(p !=y)=YD then w else 0):=by
 cases x<;>cases p<;>cases y<;>cases q<;>simp at h1 h2|- <;>omega
theorem Yhk{n:Nat}{a b:Nat}(hab:a<b)(hb:b<n):∀Z:List (List Int×Int),(∀r∈Z,0<=r.2/\∃u0 u1,1<=u0/\∀u,u<n->decide (((pn p u:Nat):Int)∈r.1)=iv u0 u1 u)->0<=tq n (cz Z) p (a,b):=by
 intro Z
 induction Z with
 | nil=>exact λ_=>JN _
 | cons r Z ih=>
  intro h;have i1:=ih λt ht=>h t (.tail _ ht);obtain⟨w0,u0,u1,h1,hu⟩:=h r (.head _);have bm:(b+1)%n<n:=Nat.mod_lt _ (by omega);have e:tq n (cz (r::Z)) p (a,b)=((if(iv u0 u1 a !=iv u0 u1 b)=YD then r.2 else 0)+(if(iv u0 u1 (a+1) !=iv u0 u1 ((b+1)%n))=YD then r.2 else 0)-(if(iv u0 u1 a !=iv u0 u1 ((b+1)%n))=YD then r.2 else 0)-(if(iv u0 u1 (a+1) !=iv u0 u1 b)=YD then r.2 else 0))+tq n (cz Z) p (a,b):=by
   have cc:∀u v,u<n->v<n->cz (r::Z) (pn p u) (pn p v)=(if(iv u0 u1 u !=iv u0 u1 v)=YD then r.2 else 0)+cz Z (pn p u) (pn p v):=λu v hu' hv=>by
    show(if sep r.1 (pn p u) (pn p v)=YD then r.2 else 0)+_=_;unfold sep;rw[hu u hu',hu v hv];rfl
   unfold tq twP;dsimp only;rw[cc a b (by omega) hb,cc (a+1) _ (by omega) bm,cc a _ (by omega) bm,cc (a+1) b (by omega) hb];omega
  rw[e];refine Int.add_nonneg (Z78 w0 (λ⟨x,y,z,w⟩=>?_) λ⟨x,y,z,w⟩=>?_) i1
  .have x:=YW x
   have y:=of_decide_eq_false y;have z:=YW z;omega
  .have x:=of_decide_eq_false x
   have y:=YW y;have z:=of_decide_eq_false z;have w:=YW w
   by_cases c:b+1<n
   .rw[Vi c]at w;omega
   .rw[show b+1=n by omega,Nat.mod_self]at w;omega
theorem Z8d{n:Nat}(h3:3<=n){o:List Int}(mo:∀x:Int,x∈o↔1<=x/\x<n)(nd:o.Nodup)(lo:o.length=n-1)(w0:∀q∈Z,0<=q.2)(ok:∀s∈Z.map Qp,Zkq n s)(arc:∀s∈Z.map Qp,Arc o s):∃p,Pm n p/\p.getD 0 0=0/\p.getD 1 0<p.getD (n-1) 0/\Zug n (cz Z) p=YC:=by
 have key:∀o:List Int,(∀x:Int,x∈o↔1<=x/\x<n)->o.Nodup->o.length=n-1->(∀s∈Z.map Qp,Arc o s)->o.getD 0 0<o.getD (n-2) 0->∃p,Pm n p/\p.getD 0 0=0/\p.getD 1 0<p.getD (n-1) 0/\Zug n (cz Z) p=YC:=by
  intro o mo nd lo arc lt;have z0:(0:Int)∉o:=λz=>by have:=((mo 0).mp z).1;omega
  have pm:Pm n (0::o):=(List.perm_ext_iff_of_nodup (Qo.mpr ⟨z0,nd⟩) (Zb0 n)).mpr λx=>by
   rw[Y4,Xm,mo];omega
  refine⟨0::o,pm,rfl,?_,?_⟩
  .rw[show n-1=(n-2)+1 by omega]
   exact lt
  .refine Vm.mpr λq hq=>?_
   obtain⟨l1,l2⟩:=Yg hq;have:0<=tq n (cz Z) (0::o) q:=Yhk l1 l2 Z λr hr=>⟨w0 r hr,by
    have m:=Zjx hr;obtain⟨u0,u1,h1,_,hu⟩:=Z8u nd (arc _ m) λz=>by have:=((ok _ m).pt 0 z).1;omega
    exact⟨u0,u1,h1,λu hu'=>by
     rw[pm.pn hu'];exact decide_eq_decide.mpr (hu u (by omega))⟩⟩
   rw[decide_eq_true_iff];omega
 rcases Int.lt_trichotomy (o.getD 0 0) (o.getD (n-2) 0)with c|c|c
 .exact key o mo nd lo arc c
 .have g:∀k,k<o.length->o.getD k 0=o[k]?.getD 0:=λk _=>by rw[Xb]
  rw[Xb,Xb,Xf (show 0<o.length by omega),Xf (show n-2<o.length by omega)]at c;have:=(List.getElem_inj nd).mp (show o[0]=o[n-2]from c);omega
 .refine key o.reverse (λx=>by rw[List.mem_reverse,mo]) ((List.reverse_perm o).nodup_iff.mpr nd) (by rw[List.length_reverse,lo]) (λs hs=>(arc s hs).rev) ?_
  rw[Xb,Xb,V0 (by omega),V0 (by omega),lo,show n-1-1-0=n-2 by omega,show n-1-1-(n-2)=0 by omega,<-Xb,<-Xb];exact c
theorem Zxi{w:Int}(hw:0<=w){a b e:Bool}(h:kd a c b e=YF):(if(a !=b)=YD then w else 0)+(if(c !=e)=YD then w else 0)<=(if(a !=c)=YD then w else 0)+(if(b !=e)=YD then w else 0):=by
 cases a<;>cases b<;>cases c<;>cases e<;>simp[kd]at h|- <;>omega
theorem Z4p{w:Int}(hw:0<w){a b e:Bool}(h:kd a b c e=YD):(if(a !=b)=YD then w else 0)+(if(c !=e)=YD then w else 0)<(if(a !=c)=YD then w else 0)+(if(b !=e)=YD then w else 0):=by
 cases a<;>cases b<;>cases c<;>cases e<;>simp[kd]at h|- <;>omega
theorem Ydt{k l:Nat}:∀Z:List (List Int×Int),(∀q∈Z,0<=q.2/\kd (mm q.1 i) (mm q.1 k) (mm q.1 j) (mm q.1 l)=YF)->cz Z i j+cz Z k l<=cz Z i k+cz Z j l
 | [],_=>JN _
 | q::Z,h=>by
  have ih:=Ydt Z λr hr=>h r (.tail _ hr);have cc:∀x y,cz (q::Z) x y=(if(mm q.1 x !=mm q.1 y)=YD then q.2 else 0)+cz Z x y:=λx y=>rfl;have:=Zxi (h q (.head _)).1 (h q (.head _)).2;rw[cc,cc,cc,cc];omega
theorem Z7f{k l:Nat}{t:List Int×Int}:∀Z:List (List Int×Int),(∀q∈Z,0<=q.2/\kd (mm q.1 i) (mm q.1 k) (mm q.1 j) (mm q.1 l)=YF)->t∈Z->0<t.2->kd (mm t.1 i) (mm t.1 j) (mm t.1 k) (mm t.1 l)=YD->cz Z i j+cz Z k l<cz Z i k+cz Z j l
 | [],_,h,_,_=>nomatch h
 | q::Z,h,ht,t0,tk=>by
  have cc:∀x y,cz (q::Z) x y=(if(mm q.1 x !=mm q.1 y)=YD then q.2 else 0)+cz Z x y:=λx y=>rfl;rw[cc,cc,cc,cc];rcases Xm.mp ht with rfl|ht
  .have:=Ydt (i:=i) (j:=j) (k:=k) (l:=l) Z λr hr=>h r (.tail _ hr)
   have:=Z4p t0 tk;omega
  .have:=Z7f Z (λr hr=>h r (.tail _ hr)) ht t0 tk
   have:=Zxi (h q (.head _)).1 (h q (.head _)).2;omega
def rp(n:Nat)(r:List Int)(w:Nat×Nat->Int):List (List Int×Int):=(rz n r w).filter λq=>decide (0<q.2)
theorem Yak(h:∀q∈Z,0<=q.2)(x y:Nat):cz (Z.filter λq=>decide (0<q.2)) x y=cz Z x y:=by
 unfold cz
 induction Z with
 | nil=>rfl
 | cons q Z ih=>
  have ih:=ih λr hr=>h r (.tail _ hr);have h0:=h q (.head _);rw[XM,JK]
  by_cases c:0<q.2
  .rw[Bk (p:=λq:List Int×Int=>decide (0<q.2)) (YQ c),XM,JK,ih]
  .rw[Ba (p:=λq:List Int×Int=>decide (0<q.2)) (by rw[YS c];exact Xn),ih,show q.2=0 by omega]
   split<;>omega
theorem Zbb{n:Nat}(h:Pm n r)(W:Rw n R){x y:Nat}(hx:x<n)(hy:y<n):cz (rz n r (tq n R r)) x y=2*R x y:=by
 have pnlt:∀u,u<n->pn r u<n:=λu hu=>(h.inR.at hu).2;obtain⟨u,hu,eu⟩:=h.at hx;obtain⟨v,hv,ev⟩:=h.at hy;have pu:pn r u=x:=by unfold pn;rw[eu];rfl
 have pv:pn r v=y:=by unfold pn;rw[ev];rfl
 have fin:smL (λq=>if Zmb q.1 q.2 u v=YD then tq n R r q else 0) (Yt n)=2*R x y:=by
  have:=Z0n (n:=n) (u:=u) (v:=v) (D:=λu v=>R (pn r u) (pn r v)) (λi j hi hj=>W.sy _ _ (pnlt i hi) (pnlt j hj)) hu hv;rw[pu,pv]at this;exact(Zrt _ n n).trans this
 rw[<-fin,<-pu,<-pv,Z4j h _ hu hv];unfold smL;refine YT List.sum (Xu λq _=>?_);unfold cd;split
 .rw[Int.mul_one]
 .rw[Int.mul_zero]
theorem Zgy{n:Nat}(h:Pm n r){u:Nat}(hu:u<n)(h1:q.1<q.2)(h2:q.2<n):mm (Yh (sd r q)) (pn r u:Nat)=inS q.1 q.2 u:=by
 rw[<-Zgs h hu h1 h2];unfold mm;exact decide_eq_decide.mpr (by rw[h.pn hu,(Z2 (sd r q)).mem_iff])
theorem Zrj{n:Nat}{w:Nat×Nat->Int}{x:List Int×Int}(m:x∈rp n r w):∃q∈Yt n,0<w q/\x=(Yh (sd r q),w q):=by
 obtain⟨h1,h2⟩:=Qs.mp m;obtain⟨q,hq,rfl⟩:=Xv.mp h1;exact⟨q,hq,YW h2,rfl⟩
theorem Z05{n:Nat}(h:Pm n r)(hn:n<=10)(w:Nat×Nat->Int):((rp n r w).map Qp).Nodup:=by
 unfold rp rz JT;rw[QW];refine List.Pairwise.filter _ ?_;rw[QW];refine(Zyo n hn).imp_of_mem fun{a b} ha hb ne e=>ne ?_;obtain⟨a1,a2⟩:=Yg ha;obtain⟨b1,b2⟩:=Yg hb;exact Ybp h a1 a2 b1 b2 e
theorem Z9j{n:Nat}(h:Pm n r)(z:r.getD 0 0=0)(w:Nat×Nat->Int):∀s∈(rp n r w).map Qp,Zkq n s:=λs hs=>by
 obtain⟨x,hx,rfl⟩:=Xv.mp hs;obtain⟨q,hq,_,rfl⟩:=Zrj hx;obtain⟨l1,l2⟩:=Yg hq;have hl:=h.len;refine⟨λe=>?_,Ycl (W8 _) ((Z2 _).nodup_iff.mpr ?_),λx hx=>Ya3 h z l1 l2 ((Z2 _).mem_iff.mp hx)⟩
 .have:=YT List.length e
  rw[(Z2 _).length_eq]at this;unfold sd at this;rw[Bb,QR,List.length_nil]at this;omega
 .unfold sd
  exact((List.take_sublist _ _).trans (List.drop_sublist _ _)).nodup h.nodup
theorem Yf5{n:Nat}(h:Pm n r)(LL:Lam n (Z.map Qp))(w0:∀q∈Z,0<=q.2)(W:Rw n (cz Z))(nn:∀q∈Yt n,0<=tq n (cz Z) r q):∀s∈(rp n r (tq n (cz Z) r)).map Qp,∀t∈(rp n r (tq n (cz Z) r)).map Qp,Cp s t:=by
 have pnlt:∀u,u<n->pn r u<n:=λu hu=>(h.inR.at hu).2;have cross:∀q1∈Yt n,∀q2∈Yt n,0<tq n (cz Z) r q1->0<tq n (cz Z) r q2->q1.1<q2.1->q2.1<q1.2->q1.2<q2.2->False:=λq1 m1 q2 m2 p1 p2 c1 c2 c3=>by
  obtain⟨a1,a2⟩:=Yg m1;obtain⟨b1,b2⟩:=Yg m2;have hi:0<n:=by omega
  have hj:q1.1+1<n:=by omega
  have hk:q2.1+1<n:=by omega
  have hl:q1.2+1<n:=by omega
  have no:∀x y z,x<n->y<n->z<n->0<x->x<y->y<z->∀t∈rz n r (tq n (cz Z) r),0<=t.2/\kd (mm t.1 (pn r 0:Nat)) (mm t.1 (pn r y:Nat)) (mm t.1 (pn r x:Nat)) (mm t.1 (pn r z:Nat))=YF:=λx y z hx hy hz x0 xy yz t ht=>by
   obtain⟨q,hq,rfl⟩:=Xv.mp ht;obtain⟨l1,l2⟩:=Yg hq;refine⟨nn q hq,JW.mpr λe=>?_⟩;rw[Zgy h hi l1 l2,Zgy h hx l1 l2,Zgy h hy l1 l2,Zgy h hz l1 l2]at e;rcases Z5b e with⟨e1,e2,e3,e4⟩|⟨e1,e2,e3,e4⟩
   .rw[Wi]at e1;omega
   .rw[Wi]at e3 e4
    unfold inS at e2;rw[Bool.and_eq_false_iff,decide_eq_false_iff_not,decide_eq_false_iff_not]at e2;omega
  have in1:∀{q:Nat×Nat} {u:Nat},q∈Yt n->u<n->q.1<u->u<=q.2->mm (Yh (sd r q)) (pn r u:Nat)=YD:=λhq hu x y=>by
   obtain⟨l1,l2⟩:=Yg hq;rw[Zgy h hu l1 l2,Wi];exact⟨x,y⟩
  have in0:∀{q:Nat×Nat} {u:Nat},q∈Yt n->u<n->(u<=q.1\/q.2<u)->mm (Yh (sd r q)) (pn r u:Nat)=YF:=λhq hu x=>by
   obtain⟨l1,l2⟩:=Yg hq;rw[Zgy h hu l1 l2,JW];intro e;rw[Wi]at e;omega
  have t1:(Yh (sd r q1),tq n (cz Z) r q1)∈rz n r (tq n (cz Z) r):=Vz m1;have t2:(Yh (sd r q2),tq n (cz Z) r q2)∈rz n r (tq n (cz Z) r):=Vz m2
  -- the points at places 0,behind the gaps q1.1,q2.1,q1.2
  have s2:=Z7f (i:=pn r 0) (j:=pn r (q1.1+1)) (k:=pn r (q2.1+1)) (l:=pn r (q1.2+1)) _ (no (q1.1+1) (q2.1+1) (q1.2+1) hj hk hl (by omega) (by omega) (by omega)) t2 p2 (by
   rw[in0 m2 hi (.inl (by omega)),in0 m2 hj (.inl (by omega)),in1 m2 hk (by omega) (by omega),in1 m2 hl (by omega) (by omega)];rfl)
  have s1:=Z7f (i:=pn r 0) (j:=pn r (q1.2+1)) (k:=pn r (q2.1+1)) (l:=pn r (q1.1+1)) (Z:=rz n r (tq n (cz Z) r)) (λt ht=>⟨(no (q1.1+1) (q2.1+1) (q1.2+1) hj hk hl (by omega) (by omega) (by omega) t ht).1,by
   have:=(no (q1.1+1) (q2.1+1) (q1.2+1) hj hk hl (by omega) (by omega) (by omega) t ht).2;exact JW.mpr λe=>by rw[Z12 e]at this;cases this⟩) t1 p1 (by
   rw[in0 m1 hi (.inl (by omega)),in0 m1 hl (.inr (by omega)),in1 m1 hk (by omega) (by omega),in1 m1 hj (by omega) (by omega)];rfl)
  rw[Zbb h W (pnlt _ hi) (pnlt _ hj),Zbb h W (pnlt _ hk) (pnlt _ hl),Zbb h W (pnlt _ hi) (pnlt _ hk),Zbb h W (pnlt _ hj) (pnlt _ hl)]at s2;rw[Zbb h W (pnlt _ hi) (pnlt _ hl),Zbb h W (pnlt _ hk) (pnlt _ hj),Zbb h W (pnlt _ hi) (pnlt _ hk),Zbb h W (pnlt _ hl) (pnlt _ hj)]at s1;obtain⟨x,y,z,rfl,rfl,rfl,_,n2,_⟩:=Zou LL w0 (pn r 0) (pn r (q1.1+1)) (pn r (q2.1+1)) (pn r (q1.2+1));have y1:=(W.sy _ _ (pnlt _ hk) (pnlt _ hj)).1;have y2:=(W.sy _ _ (pnlt _ hl) (pnlt _ hj)).1;omega
 intro s hs t ht;obtain⟨x,hx,rfl⟩:=Xv.mp hs;obtain⟨y,hy,rfl⟩:=Xv.mp ht;obtain⟨q1,m1,p1,rfl⟩:=Zrj hx;obtain⟨q2,m2,p2,rfl⟩:=Zrj hy;obtain⟨a1,a2⟩:=Yg m1;obtain⟨b1,b2⟩:=Yg m2;have at':∀{q:Nat×Nat},q∈Yt n->∀x∈Yh (sd r q),∃u,u<n/\x=(pn r u:Nat)/\q.1<u/\u<=q.2:=fun{q} hq x hx=>by
  obtain⟨l1,l2⟩:=Yg hq;have xr:x∈r:=List.mem_of_mem_drop (List.mem_of_mem_take ((Z2 _).mem_iff.mp hx));obtain⟨x0,xn⟩:=Y4.mp (h.mem_iff.mp xr);obtain⟨u,hu,eu⟩:=h.at (i:=x.toNat) (by omega);have e:x=(pn r u:Nat):=by rw[h.pn hu,eu];omega
  have:=Zgy h hu l1 l2;rw[<-e,Zpj.mpr hx]at this;exact⟨u,hu,e,Wi.mp this.symm⟩
 have to':∀{q:Nat×Nat} {u:Nat},q∈Yt n->u<n->q.1<u->u<=q.2->((pn r u:Nat):Int)∈Yh (sd r q):=fun{q u} hq hu x y=>by
  obtain⟨l1,l2⟩:=Yg hq;exact Zpj.mp ((Zgy h hu l1 l2).trans (Wi.mpr ⟨x,y⟩))
 by_cases d1:q1.2<=q2.1\/q2.2<=q1.1
 .refine .inl λx hx hy=>?_
  obtain⟨u,hu,rfl,c1,c2⟩:=at' m1 x hx;have:=Zgy h hu b1 b2;rw[Zpj.mpr hy]at this;have:=Wi.mp this.symm;omega
 .by_cases d2:q2.1<=q1.1/\q1.2<=q2.2
  .refine .inr (.inl λx hx=>?_)
   obtain⟨u,hu,rfl,c1,c2⟩:=at' m1 x hx;exact to' m2 hu (by omega) (by omega)
  .by_cases d3:q1.1<=q2.1/\q2.2<=q1.2
   .refine .inr (.inr λx hx=>?_)
    obtain⟨u,hu,rfl,c1,c2⟩:=at' m2 x hx;exact to' m1 hu (by omega) (by omega)
   .by_cases d4:q1.1<q2.1
    .exact(cross q1 m1 q2 m2 p1 p2 d4 (by omega) (by omega)).elim
    .exact(cross q2 m2 q1 m1 p2 p1 (by omega) (by omega) (by omega)).elim
theorem Ygt{n:Nat}:cL n R r b (Yt n)=wL (rp n r (tq n R r)) (2*b):=by
 unfold cL wL rp rz;rw[List.filter_filter];simp only[Bool.and_self];rw[List.filter_map,XR];rfl
theorem Zwc{n:Nat}(h1:1<=n)(hn:n<=10)(h:Pm n r)(z:r.getD 0 0=0)(nb:Zug n (cz Z) r=YC)(LL:Lam n (Z.map Qp))(nd:(Z.map Qp).Nodup)(w0:∀q∈Z,0<=q.2)(W:Rw n (cz Z))(hb:0<b)(mem:∀s,s∈Ls↔Zkq n s)(up:UpL Ls):sCt (cL n (cz Z) r b (Yt n))=sCt (wL Z b):=by
 have nn:∀q∈Yt n,0<=tq n (cz Z) r q:=λq hq=>Int.not_lt.mp λc=>Vm.mp nb q hq (YQ c);have C1:Lam n ((rp n r (tq n (cz Z) r)).map Qp):=⟨Z9j h z _,Yf5 h LL w0 W nn⟩;have C0:∀q∈rp n r (tq n (cz Z) r),0<=q.2:=λx hx=>by
  obtain⟨q,_,p,rfl⟩:=Zrj hx;exact Int.le_of_lt p
 have r0:∀q∈rz n r (tq n (cz Z) r),0<=q.2:=λx hx=>by
  obtain⟨q,hq,rfl⟩:=Xv.mp hx;exact nn q hq
 have e2:∀x y,x<n->y<n->2*cz Z x y=cz (rp n r (tq n (cz Z) r)) x y:=λx y hx hy=>by
  unfold rp;rw[Yak r0,Zbb h W hx hy]
 have ew:∀A,Zkq n A->wA (rp n r (tq n (cz Z) r)) A=2*wA Z A:=λA hA=>by
  obtain⟨a,ha⟩:=JC A hA.ne;have z0:(0:Int)∈away n A:=Zbc.mpr ⟨JN _,by omega,λz=>by have:=(hA.pt 0 z).1;omega⟩;obtain⟨m,hm⟩:=Lst.exists (cz Z) ((Zsu ha ha).elim id id) ((Zsu z0 z0).elim id id);have a1:=Zqd LL w0 h1 hA hm;have a2:=Zqd C1 C0 h1 hA (hm.scaled (by decide) e2 (λx hx=>⟨by have:=(hA.pt x hx).1;omega,(hA.pt x hx).2⟩) λx hx=>by
   obtain⟨a1,a2,_⟩:=Zbc.mp hx;exact⟨a1,a2⟩)
  rw[Zrg (by decide),a1]at a2;omega
 rw[Ygt,<-Zu7 C1.ok (Z05 h hn _) mem up,<-Zu7 LL.ok nd mem up];unfold trL;rw[List.filter_congr (q:=λA=>decide (0<wA Z A)) λA hA=>by rw[ew A ((mem A).mp hA)];exact decide_eq_decide.mpr (by omega)];refine Xu λA hA=>?_;rw[ew A ((mem A).mp (Qs.mp hA).1),Int.mul_comm 2 b,Zez (by decide) hb]
def Kl(R:Nat->Nat->Int)(p:List Int):Prop:=∀a b c d:Int,[a,b,c,d].Sublist p->R a.toNat b.toNat+R c.toNat d.toNat<=R a.toNat c.toNat+R b.toNat d.toNat/\R a.toNat d.toNat+R b.toNat c.toNat<=R a.toNat c.toNat+R b.toNat d.toNat
theorem Z6w{l:List Int}(h:l.Sublist r):∃is:List Nat,is.Pairwise (·<·)/\(is.map λi=>r.getD i 0)=l/\∀i∈is,i<r.length:=by
 induction h with
 | slnil=>exact⟨[],.nil,rfl,λ_ m=>nomatch m⟩
 | cons x h ih=>
  obtain⟨is,h1,h2,h3⟩:=ih;refine⟨is.map (·+1),?_,?_,λi hi=>?_⟩
  .rw[QW];exact h1.imp λq=>by omega
  .rw[XR,<-h2];rfl
  .obtain⟨j,hj,rfl⟩:=Xv.mp hi
   have:=h3 j hj;rw[JR];omega
 | cons_cons x h ih=>
  obtain⟨is,h1,h2,h3⟩:=ih;refine⟨0::is.map (·+1),.cons (λi hi=>?_) ?_,?_,λi hi=>?_⟩
  .obtain⟨j,_,rfl⟩:=Xv.mp hi;omega
  .rw[QW];exact h1.imp λq=>by omega
  .rw[XM,XR,<-h2];rfl
  .rcases Xm.mp hi with rfl|hi
   .rw[JR];omega
   .obtain⟨j,hj,rfl⟩:=Xv.mp hi
    have:=h3 j hj;rw[JR];omega
theorem Zw1:∀(p:List Int) (k:Nat) (is:List Nat),is.Pairwise (·<·)->(∀i∈is,k<=i/\i<k+p.length)->(is.map λi=>p.getD (i-k) 0).Sublist p
 | [],k,is,_,h=>by
  cases is with
  | nil=>exact .slnil
  | cons i is=>have:=h i (.head _);simp only[List.length_nil]at this;omega
 | x::t,k,[],_,_=>List.nil_sublist _
 | x::t,k,i::is,hp,h=>by
  have sh:∀j,k+1<=j->(x::t).getD (j-k) 0=t.getD (j-(k+1)) 0:=λj hj=>by
   rw[show j-k=(j-(k+1))+1 by omega];rfl
  have lt:∀j∈is,i<j:=λj hj=>Qt hp hj;have hi:=h i (.head _);simp only[JR]at h
  by_cases c:i=k
  .subst c
   have:=Zw1 t (i+1) is hp.tail λj hj=>by have:=lt j hj;have:=h j (.tail _ hj);omega
   rw[XM,Nat.sub_self];refine .cons_cons x ?_;rw[show is.map (λj=>(x::t).getD (j-i) 0)=is.map λj=>t.getD (j-(i+1)) 0 from Xu λj hj=>sh j (lt j hj)];exact this
  .have:=Zw1 t (k+1) (i::is) hp λj hj=>by
    have:=h j hj;rcases Xm.mp hj with rfl|hj
    .omega
    .have:=lt j hj;omega
   refine .cons x ?_;rw[show(i::is).map (λj=>(x::t).getD (j-k) 0)=(i::is).map λj=>t.getD (j-(k+1)) 0 from Xu λj hj=>sh j (by
    rcases Xm.mp hj with rfl|hj
    .omega
    .have:=lt j hj;omega)]
   exact this
theorem Kl.of_ring{n:Nat}(h:Pm n r)(sy:∀i j,R i j=R j i)(nn:∀q∈Yt n,0<=tq n R r q):Kl R r:=λa b c d hs=>by
 obtain⟨is,h1,h2,h3⟩:=Z6w hs
 match is,h2 with
 | [u1,u2,u3,u4],h2=>
  injection h2 with e1 h2;injection h2 with e2 h2;injection h2 with e3 h2;injection h2 with e4 h2;have l12:u1<u2:=Qt h1 (.head _);have l23:u2<u3:=Qt h1.tail (.head _);have l34:u3<u4:=Qt h1.tail.tail (.head _);have l4:u4<n:=by have:=h3 u4 (.tail _ (.tail _ (.tail _ (.head _))));rwa[h.len]at this
  have K:∀{i j k l:Nat},i<j->j<=k->k<l->l<=n->0<=R (pn r i) (pn r k)+R (pn r j) (pn r (l%n))-R (pn r i) (pn r (l%n))-R (pn r j) (pn r k):=λg1 g2 g3 g4=>kal (n:=n) (D:=λu v=>R (pn r u) (pn r v)) (P:=λx=>0<=x) (λx y hx hy=>Int.add_nonneg hx hy) (λa c h1 h2=>nn (a,c) (Zk5 h1 h2)) g1 g2 g3 g4;have k1:=K l12 (VM l23) l34 (VM l4);have k2:=K l23 (VM l34) l4 (X3 n);rw[Vi l4]at k1;rw[Nat.mod_self]at k2;have p:∀{u:Nat} {x:Int},r.getD u 0=x->pn r u=x.toNat:=λe=>by unfold pn;rw[e]
  rw[p e1,p e2,p e3,p e4]at k1;rw[p e2,p e3,p e4]at k2;have s1:=sy (pn r 0) b.toNat;have s2:=sy (pn r 0) c.toNat;refine⟨?_,by omega⟩
  by_cases z:u1=0
  .subst z
   rw[p e1]at k2;have:=sy a.toNat b.toNat;have:=sy a.toNat c.toNat;omega
  .have k3:=K (show 0<u1 by omega) (VM l12) l23 (by omega)
   rw[Vi (show u3<n by omega)]at k3;rw[p e1,p e2,p e3]at k3;omega
theorem Kl.sub{l:List Int}(h:Kl R p)(s:l.Sublist p):Kl R l:=λa b c d q=>h a b c d (q.trans s)
theorem Kl.map{R R':Nat->Nat->Int}{p:List Int}{f:Int->Int}(h:Kl R p)(e:∀x∈p,∀y∈p,R' (f x).toNat (f y).toNat=R x.toNat y.toNat):Kl R' (p.map f):=λa b c d q=>by
 obtain⟨l,hl,el⟩:=List.sublist_map_iff.mp q
 match l,el with
 | [x,y,z,w],el=>
  injection el with e1 el;injection el with e2 el;injection el with e3 el;injection el with e4 el;have m:∀v∈[x,y,z,w],v∈p:=λv hv=>hl.subset hv;have mx:=m x (.head _);have my:=m y (.tail _ (.head _));have mz:=m z (.tail _ (.tail _ (.head _)));have mw:=m w (.tail _ (.tail _ (.tail _ (.head _))));rw[e1,e2,e3,e4,e x mx y my,e z mz w mw,e x mx z mz,e y my w mw,e x mx w mw,e y my z mz];exact h x y z w hl
theorem Kl.step{x:Int}{l:List Int}(sy:∀i j,R i j=R j i)(h:Kl R (x::l)):Kl R (l++[x]):=λa b c d q=>by
 obtain⟨r1,r2,e,h1,h2⟩:=List.sublist_append_iff.mp q
 match r2,h2 with
 | [],_=>
  rw[QS]at e;exact h a b c d (.cons x (e▸h1))
 | y::t,h2=>
  have hl:=h2.length_le;have ht:t=[]:=by
   cases t with
   | nil=>rfl
   | cons _ _=>simp at hl
  subst ht;have ey:y=x:=by
   have:=h2.subset (Xj.mpr rfl);exact Xj.mp this
  subst ey;have e:[a,b,c]++[d]=r1++[y]:=e;obtain⟨e1,e2⟩:=List.append_inj' e rfl;subst e1;injection e2 with e2 _;subst e2;have:=h d a b c (.cons_cons d h1);have s1:=sy d.toNat a.toNat;have s2:=sy d.toNat b.toNat;have s3:=sy d.toNat c.toNat;omega
theorem Kl.rot(sy:∀i j,R i j=R j i):∀(l m:List Int),Kl R (l++m)->Kl R (m++l)
 | [],m,h=>by rw[QS];exact h
 | x::l,m,h=>by
  have:=Kl.rot sy l (m++[x]) (by rw[<-QQ];exact h.step sy)
  rwa[QQ]at this
theorem Kl.flip(sy:∀i j,R i j=R j i)(h:Kl R p):Kl R (My.flip p):=by
 have rv:Kl R p.reverse:=λa b c d q=>by
  have:=h d c b a (by have:=q.reverse;rwa[List.reverse_reverse]at this);have s1:=sy a.toNat b.toNat;have s2:=sy a.toNat c.toNat;have s3:=sy a.toNat d.toNat;have s4:=sy b.toNat c.toNat;have s5:=sy b.toNat d.toNat;have s6:=sy c.toNat d.toNat;omega
 cases p with
 | nil=>exact h
 | cons x t=>
  rw[Zix];rw[List.reverse_cons]at rv;exact Kl.rot sy t.reverse [x] rv
theorem Kl.bar{m:Nat}(hp:Pm m p)(h3:3<=m)(sy:∀i j,R i j=R j i)(dg:∀i,R i i=0)(tr:∀i j k,R i k<=R i j+R j k)(h:Kl R p):Zug m R p=YC:=by
 have hl:=hp.len;have K:∀u1 u2 u3 u4,u1<u2->u2<u3->u3<u4->u4<m->R (pn p u1) (pn p u2)+R (pn p u3) (pn p u4)<=R (pn p u1) (pn p u3)+R (pn p u2) (pn p u4)/\R (pn p u1) (pn p u4)+R (pn p u2) (pn p u3)<=R (pn p u1) (pn p u3)+R (pn p u2) (pn p u4):=λu1 u2 u3 u4 a b c d=>
  h _ _ _ _ (Zw1 p 0 [u1,u2,u3,u4] (.cons (λx hx=>by simp at hx;omega) (.cons (λx hx=>by simp at hx;omega) (.cons (λx hx=>by simp at hx;omega) (JZ ..)))) λx hx=>by simp at hx;omega)
 refine Vm.mpr λq hq=>?_;obtain⟨a,b⟩:=q;obtain⟨l1,l2⟩:=Yg hq;have l1:a<b:=l1;have l2:b<m:=l2;have:0<=tq m R p (a,b):=by
  show 0<=R (pn p a) (pn p b)+R (pn p (a+1)) (pn p ((b+1)%m))-R (pn p a) (pn p ((b+1)%m))-R (pn p (a+1)) (pn p b)
  by_cases c1:b+1<m
  .rw[Vi c1]
   by_cases c2:a+1<b
   .have:=(K a (a+1) b (b+1) (by omega) c2 (by omega) c1).2
    omega
   .rw[show b=a+1 by omega,dg]
    have:=tr (pn p a) (pn p (a+1)) (pn p (a+1+1));omega
  .rw[show b+1=m by omega,Nat.mod_self]
   by_cases c2:a=0
   .subst c2
    rw[dg];have:=tr (pn p (0+1)) (pn p 0) (pn p b);omega
   .by_cases c3:a+1<b
    .have:=(K 0 a (a+1) b (by omega) (by omega) c3 l2).1
     have:=sy (pn p 0) (pn p a);have:=sy (pn p 0) (pn p (a+1));omega
    .rw[show b=a+1 by omega,dg]
     have:=tr (pn p a) (pn p (a+1)) (pn p 0);omega
 rw[decide_eq_true_iff];omega
theorem Znz{n:Nat}(h:Pm n p)(h3:3<=n)(hn:n<=10)(sy:∀i j,R i j=R j i)(kl:Kl R p):∃r,Told Wb [Zg p] (Zg r)/\Pm n r/\r.getD 0 0=0/\r.getD 1 0<r.getD (n-1) 0/\Kl R r:=by
 have hl:=h.len;have m0:(0:Int)∈p:=h.mem_iff.mpr (Y4.mpr (by omega));have hk:p.idxOf 0<p.length:=List.idxOf_lt_length_of_mem m0;obtain⟨k,ek⟩:∃k,p.idxOf 0=k:=⟨_,rfl⟩;obtain⟨w,ew⟩:∃w,p.drop k++p.take k=w:=⟨_,rfl⟩;have hw:Pm n w:=by
  unfold Pm;rw[<-ew];refine(List.perm_append_comm.trans ?_).trans h;rw[List.take_append_drop]
 have wl:=hw.len;have kw:Kl R w:=by
  rw[<-ew];exact Kl.rot sy _ _ (by rw[List.take_append_drop];exact kl)
 have w0:w.getD 0 0=0:=by
  rw[<-ew,Xb,QK (by rw[QR];omega),Vl,Nat.add_zero,Xf (by omega)];subst ek;exact List.getElem_idxOf hk
 have e1:∀{δ:Zm},δ[0]? =YB (YB (.fz (Zg p)))->EvV (Zoj (Zd 0) (fC (.int 0))) δ (.int k):=λh0=>⟨_,by rw[Z2d (p:=p) (k:=0) (by rw[Zyn,h0,Zxt]) (by omega) rfl m0,ek],OT.data_fz _⟩;have e2:∀{δ:Zm},δ[0]? =YB (YB (.fz (Zg p)))->δ[1]? =YB (YB (.fz (.int k)))->EvV (Yl Zlb (fSl (Zd 0) (oI (Zd 1)) oN) (fSl (Zd 0) oN (oI (Zd 1)))) δ (Zg w):=λh0 h1=>ew▸Zsj (Zu6 (Za h0) (Z84 (Za h1)) Yeb (Zoa (by omega))) (Zu6 (Za h0) Yeb (Z84 (Za h1)) (Zwa (by omega))) (by rw[QR];omega) (by rw[Bb];omega);have e3:∀{δ:Zm} {b:Bool},decide (w.getD (n-1) 0<w.getD 1 0)=b->δ[2]? =YB (YB (.fz (Zg w)))->EvT (tAn (tV (Zj gGt (Zag Zai (Zc (Zd 2) Zq)) (fC (.int 2)))) (tV (Zj gGt (Yl gIx (Zd 2) (fC (.int 1))) (Yl gIx (Zd 2) (fUn Zo2 (fC (.int 1))))))) δ b:=λhb h2=>Zsy (Zan (Zfw (Jq (Za h2)) Z1 (YQ (by omega)))) (Zan (Zfw (Y5 (Za h2) Z1 (by decide) (by omega)) (Wq (Za h2) (Zjl Z1) (Zim (by omega))) (by rw[wl];exact hb)))
 by_cases c:w.getD (n-1) 0<w.getD 1 0
 .obtain⟨g0,g1,g2⟩:=Z0w (w:=w) (by omega)
  rw[wl]at g1 g2;exact⟨flip w,Zx rfl<|Zr (Zu (e1 rfl))<|Zr (Zu (e2 rfl rfl))<|Zr (Zaz (e3 (YQ c) rfl) (Zu (Zsj (Zu6 Za Yeb (Z84 Z1) (Zwa (k:=1) (by omega))) (Z80 Za rfl rfl) (by rw[Bb];omega) (by rw[List.length_reverse,QR];omega)))) (Z7 Za),(Zy5 w).trans hw,by rw[g0,w0],by rw[g1,g2];exact c,kw.flip sy⟩
 .refine⟨w,Zx rfl<|Zr (Zu (e1 rfl))<|Zr (Zu (e2 rfl rfl))<|Zr (Z5 (e3 (YS c) rfl) rfl) (Z7 Za),hw,w0,?_,kw⟩
  have:w.getD 1 0≠w.getD (n-1) 0:=λe=>by
   have:=hw.ne (by omega) (by omega) e;omega
  omega
theorem Zu5{t:FT}(xs:List α)(mk f:α->Xa)(pr:α->Bool)(hi:EvI it δ (xs.map mk))(hz:xs.length<=1000000)(hb:blk 1 caps δ=YC::cs)(ht:∀x∈xs,EvT t (YB (.fz (mk x))::cs) (pr x))(h:∀x∈xs,pr x=YD->EvV me (YB (.fz (mk x))::cs) (f x)):EvV (W3 1 caps it (gNm 0) t me) δ (.list ((xs.filter pr).map f)):=by
 have ch:∀x,∃o:OT,x∈xs->pr x=YD->me (YB (.fz (mk x))::cs)=YB (o,YB (.fz (mk x))::cs)/\o.data=f x:=λx=>by
  by_cases c:x∈xs/\pr x=YD
  .obtain⟨o,e1,e2⟩:=h x c.1 c.2
   exact⟨o,λ_ _=>⟨e1,e2⟩⟩
  .exact⟨.fz .none,λa b=>YX ⟨a,b⟩ c⟩
 obtain⟨g,hg⟩:=Um ch;unfold EvI at hi;refine⟨_,Zop (cs:=cs) xs mk pr g hi (by rw[Qk];omega) hb (λx hx=>ht x hx) λx hx hp=>(hg x hx hp).1,?_⟩;rw[OT.data_nd,XR];refine YT Qu (Xu λx hx=>?_);obtain⟨h1,h2⟩:=Qs.mp hx;exact(hg x h1 h2).2
def wo(pt x:Int):Int:=x-if x>pt then 1 else 0
def wos(pt:Int)(r:List Int):List Int:=(r.filter λx=>!decide (x=pt)).map (wo pt)
theorem Ya5{n:Nat}(h:Pm n r){pt:Nat}(hp:pt<n):Pm (n-1) (wos pt r):=by
 have mf:∀x,x∈r.filter (λx=>!decide (x=(pt:Int)))↔(0<=x/\x<n)/\x≠pt:=λx=>by
  rw[Qs,h.mem_iff,Y4,Bool.not_eq_true',decide_eq_false_iff_not]
 refine(List.perm_ext_iff_of_nodup ?_ (Zb0 _)).mpr λy=>?_
 .unfold wos JT
  rw[QW];refine(h.nodup.filter _).imp_of_mem fun{a b} ha hb ne e=>ne ?_;have a1:=(mf a).mp ha;have b1:=(mf b).mp hb;unfold wo at e;split at e<;>split at e<;>omega
 .rw[Y4]
  unfold wos;rw[Xv];constructor
  .rintro⟨x,hx,rfl⟩
   have:=(mf x).mp hx;unfold wo;split<;>omega
  .rintro⟨h0,h1⟩
   by_cases c:y<pt
   .refine⟨y,(mf y).mpr ⟨⟨h0,by omega⟩,by omega⟩,?_⟩
    unfold wo;rw[YM (by omega)];omega
   .refine⟨y+1,(mf _).mpr ⟨⟨by omega,by omega⟩,by omega⟩,?_⟩
    unfold wo;rw[YL (by omega)];omega
def oth(n pt:Nat):List Nat:=(Xo n).filter λx=>!decide (x=pt)
theorem Yap{n pt:Nat}(hp:pt<n):(oth n pt).length=n-1/\∀x,x<n->x≠pt->(oth n pt).getD (if x>pt then x-1 else x) 0=x:=by
 have e:oth n pt=Xo pt++(Xo (n-1-pt)).map λi=>pt+1+i:=by
  unfold oth;have s:Xo n=Xo pt++([pt]++(Xo (n-1-pt)).map λi=>pt+1+i):=by
   refine V3 λi=>?_
   by_cases c:i<n
   .rw[QG c]
    by_cases c1:i<pt
    .rw[QK (by rw[XD];exact c1),QG c1]
    .rw[Qw (by rw[XD];omega),XD]
     by_cases c2:i=pt
     .subst c2;rw[Nat.sub_self];rfl
     .rw[Qw (by rw[QM];omega),QM,Xp,QG (by omega),Qa]
      exact YT YB (by omega)
   .rw[Qv (by rw[XD];omega),Qv (by simp only[Xq,XD,QM,Xd];omega)]
  rw[s,List.filter_append,List.filter_append];rw[List.filter_eq_self.mpr λx hx=>by have:=Xx.mp hx;rw[YS (by omega)];rfl];rw[Ba (by rw[YQ rfl];exact Xn),List.filter_nil,List.nil_append];rw[List.filter_eq_self.mpr λx hx=>by obtain⟨i,_,rfl⟩:=Xv.mp hx;rw[YS (by omega)];rfl]
 rw[e];refine⟨by rw[Xq,XD,Xd,XD];omega,λx hx ne=>?_⟩;rw[Xb]
 by_cases c:x>pt
 .rw[YL c,Qw (by rw[XD];omega),XD,Xp,QG (by omega),Qa]
  show pt+1+_=x;omega
 .rw[YM c,QK (by rw[XD];omega),QG (by omega)];rfl
theorem Yb4{n pt:Nat}:(oth n pt).Nodup/\∀x∈oth n pt,x<n:=⟨List.nodup_range.filter _,λx hx=>Xx.mp (Qs.mp hx).1⟩
theorem Zo0{n:Nat}{pt:Nat}(hr:r.length<=1000){r':List Int}(e:Told Wb [Zg (wos pt r)] (Zg r')):Told Wy [Zg r,.int pt] (Zg r') :=
 Zx rfl<|Zr (Zu (d:=Zg (wos pt r)) ((Zu5 (cs:=[YB (.fz (.int pt))]) r Xk (λx=>.int (wo pt x)) (λx=>!decide (x=(pt:Int))) (Js Za) (by omega) rfl (λx _=>Zan (Ztj Za Za rfl)) λx _ _=>(Zei Za (Jf (d:=.int (if decide (x>(pt:Int))=YD then 1 else 0)) (Zb (Zfw Za Za rfl) Zh) (Ycy _))).cast (YT Xk (by unfold wo;by_cases c:x>(pt:Int)<;>simp[c]))).cast (by unfold wos Zg;rw[XR];rfl))) (Z7 (Zo (Zb Za Zh) e))
theorem Zv3{n:Nat}(h5:5<=n)(hn:n<=8)(h:Pm n r)(nb:Zug n (cz Z) r=YC)(w0:∀q∈Z,0<=q.2)(W:Rw n (cz Z))(hb:0<b)(bb:Bt 300 b){pt:Nat}(hp:pt<n):∃r' d,Told Wy [Zg r,.int pt] (Zg r')/\Told Jj [tbD (Jo n (cz Z) b),lsN (oth n pt)] (tbD (Jo (n-1) (sb (cz Z) (oth n pt)) b))/\Told Wr [tbD (Jo (n-1) (sb (cz Z) (oth n pt)) b),Zg r'] (.tuple [.str "ring",d]):=by
 have nn:∀q∈Yt n,0<=tq n (cz Z) r q:=λq hq=>Int.not_lt.mp λc=>Vm.mp nb q hq (YQ c);obtain⟨l1,ga⟩:=Yap hp;obtain⟨o1,o2⟩:=Yb4 (n:=n) (pt:=pt);have sy:∀i j,cz Z i j=cz Z j i:=Zh6;have at':∀i,i<n-1->(oth n pt).getD i 0<n:=λi hi=>by
  rw[Xb,Xf (by omega)];exact o2 _ (Q4 _)
 have k1:Kl (sb (cz Z) (oth n pt)) (wos pt r):=by
  refine Kl.map (R:=cz Z) ((Kl.of_ring h sy nn).sub (List.filter_sublist)) λx hx y hy=>?_;have g:∀x∈r.filter (λx=>!decide (x=(pt:Int))),(oth n pt).getD (wo pt x).toNat 0=x.toNat:=λx hx=>by
   obtain⟨x1,x2⟩:=Qs.mp hx;rw[Bool.not_eq_true',decide_eq_false_iff_not]at x2;obtain⟨x3,x4⟩:=Y4.mp (h.mem_iff.mp x1);rw[<-ga x.toNat (by omega) (by omega)];refine YT (λk=>(oth n pt).getD k 0) ?_;unfold wo
   by_cases c:x>(pt:Int)
   .rw[YL c,YL (by omega)];omega
   .rw[YM c,YM (by omega)];omega
  show cz Z _ _=_;rw[g x hx,g y hy]
 obtain⟨r',T1,p1,z1,lt1,k2⟩:=Znz (Ya5 h hp) (by omega) (by omega) (R:=sb (cz Z) (oth n pt)) (λi j=>sy _ _) k1;have nb':Zug (n-1) (sb (cz Z) (oth n pt)) r'=YC:=Kl.bar p1 (by omega) (λi j=>sy _ _) (λi=>by
  show cz Z _ _=0;unfold cz;rw[show Z.map (λq=>if sep q.1 ((oth n pt).getD i 0) ((oth n pt).getD i 0)=YD then q.2 else 0)=Z.map (λ_=>0)from Xu λq _=>by rw[Zrd,YM Xn]];clear nn W k1 k2 w0 nb sy
  induction Z with
  | nil=>rfl
  | cons q Z ih=>rw[XM,JK,ih];rfl) (λi j k=>Zvf w0 _ _ _) k2
 have W':Rw (n-1) (sb (cz Z) (oth n pt)):=⟨λi j hi hj=>W.sy _ _ (at' i hi) (at' j hj),λi j hi hj=>W.bt _ _ (at' i hi) (at' j hj)⟩;have T:=Zhw p1 (p1.ringB (by omega) z1 lt1) (by omega) hb bb W';unfold Zzt at T;rw[nb']at T;have P:=Z0m (n:=n) (R:=cz Z) (b:=b) (p:=oth n pt) (by omega) o1 o2 (by omega);rw[l1]at P;exact⟨r',_,Zo0 (n:=n) (by rw[h.len];omega) T1,P,T⟩
def lwE(ns:List Int)(n:Nat)(c b:Int)(Ls:List (List Int))(vs:List Int)(T cs:Xa)(r:List Int)(z9 z10:Option OT):Zm:=[YB (.fz (Zg ns)),YB (.fz (.int n)),YB (.fz (.int c)),YB (.fz (.list (Ls.map Zg))),YB (.fz (Zg vs)),YB (.fz (.int b)),YB (.fz T),YB (.fz cs),YB (.fz (Zg r)),z9,z10]
theorem Zzy(ns:List Int)(hl:ns.length<=63):Zhd [.list (ns.map Xk)]= .ok (.fz (.bool YD)):=by
 show Zhd [Zg ns]=_;obtain⟨c0,e0⟩:=Zk0 ns (k:=0) (by decide);obtain⟨c1,e1⟩:=Zk0 ns (k:=1) (by decide);obtain⟨n,en,h3,hn⟩:∃n:Nat,Jv [.int c0,.int 3,.int 6,.int 8]= .ok (.fz (.int n))/\3<=n/\n<=8:=by
  obtain⟨m,e,h1,h2⟩:=Z6o c0 (a:=3) (b:=6) (d:=8) (by decide) (by decide);exact⟨m.toNat,by rw[e,JV (by omega)],by omega,by omega⟩
 have n10:n<=10:=by omega
 obtain⟨b,eb,hb,bb⟩:=Zz6 c1;have bb3:Bt 300 b:=bb.mono (by decide);obtain⟨Ls,eS,lS,LS,ndS,o,mo,ndo,lo,arc⟩:=Zmt (c1.fdiv 12) (n:=n) (by omega) n10;obtain⟨vs,eV,lV,bV⟩:=Zs3 ns 2 Ls.length c1 (by omega);have bV2:∀v∈vs,0<=v/\v<1000*B20:=λv hv=>by
  have:=bV v hv;have:(0:Int)<B20:=by decide
  omega
 obtain⟨eR,WR⟩:=Zww n10 (Ls:=Ls) (vs:=vs) (by omega) bV2;have eW:=Zpq (Ls:=Ls) (vs:=vs) (by omega) hb (bb.mono (by decide));obtain⟨Z,hZ⟩:∃Z,Z=Ls.zip vs:=⟨_,rfl⟩;rw[<-hZ]at eR WR eW;have fz:Z.map Qp=Ls:=by rw[hZ,List.map_fst_zip (by omega)]
 have LL:Lam n (Z.map Qp):=by rw[fz];exact LS
 have nd:(Z.map Qp).Nodup:=by rw[fz];exact ndS
 have w0:∀q∈Z,0<=q.2:=λq hq=>by
  rw[hZ]at hq;exact(bV2 q.2 (List.of_mem_zip hq).2).1
 have eT:=Zpc n10 (cz Z) hb bb3;obtain⟨Cs,eC,mC,uC,lC⟩:=Zp1 (n:=n) (by omega) hn;have Tt:=Z1y (by omega) n10 LL w0 hb bb3 WR.bt eC (λs hs=>(mC s).mp hs) (by omega);rw[Zu7 LL.ok nd mC uC]at Tt
 -- the ring
 obtain⟨p,pm,z,lt,nbp⟩:=Z8d h3 mo ndo lo w0 LL.ok (by rw[fz];exact arc);obtain⟨ro,Tf,okf,first⟩:=Zmm h3 hn hb bb3 WR;obtain⟨r,rfl,_⟩:=first p pm z lt nbp
 obtain⟨pr,zr,ltr,nbr⟩:=okf r rfl;have Tf:Told Jb [tbD (Jo n (cz Z) b)] (Zg r):=Tf;have Tr:=Zhw pr (pr.ringB h3 zr ltr) n10 hb bb3 WR;unfold Zzt at Tr;rw[nbr]at Tr;dsimp only at Tr;rw[Zwc (by omega) n10 pr zr nbr LL nd w0 WR hb mC uC]at Tr;have lr:=pr.len;have sr:Yh r=Jx n:=J9 ((Z2 r).trans pr) (W8 r) (Zf9 n);refine Told.ok (Zx rfl ?_);refine Zr (Zu (Zo (Zb (Zo (Zb Za (Zb Z1 Zh)) (.of e0 (OT.data_fz _))) (Zb Z1 (Zb Z1 (Zb Z1 Zh)))) (.of en (OT.data_fz _))))<|Zr (Zu (Zo (Zb Za (Zb Z1 Zh)) (.of e1 (OT.data_fz _))))<|
  Zr (Zu (Zo (Zb (Zdt Za Z1) (Zb Za Zh)) eS))<|Zr (Zu (Zo (Zb Za (Zb Z1 (Zb ((Zi6 (ds:=Ls.map Zg) Za).cast (by rw[Xd])) (Zb Za Zh)))) eV))<|
  Zr (Zu (Zo (Zb Za Zh) eb))<|Zr (Zu (Zo (Zb (Zo (Zb Za (Zb Za (Zb Za Zh))) eR) (Zb Za Zh)) eT))<|
  Zr (Zu (Zo (Zb Za (Zb Za (Zb Za Zh))) eW))<|Zr (Zu (Zo (Zb Za Zh) Tf))<|
  Zr (δ':=lwE ns n c1 b Ls vs (tbD (Jo n (cz Z) b)) (Zj7 (sCt (wL Z b))) r YC YC) (Z5 (Z3n (Zke (p:=YD) (Ze1 (Zob (Za (i:=8) (d:=Zg r) rfl) rfl))) (Z3n (Zan (Zz (Zo9 (d:=Zg (Yh r)) (Zb (Za (i:=8) (d:=Zg r) rfl) Zh) (Zey (by omega)) (Zf3 _)) ((Yab (Zb (Za (i:=1) rfl) Zh) (by omega) (by omega)).cast (y:=Zg (Jx n)) ?_) ((Zse _ _).trans (by rw[sr,YQ rfl];rfl)))) (Z3n (Zan (Ztj (Y5 (p:=r) (Za (i:=8) (d:=Zg r) rfl) (Z1 (d:=.int 0)) (by decide) (by omega)) Z1 (by rw[show r.getD (0:Int).toNat 0=0 from zr];rfl))) (Zan (Zfw (Y5 (p:=r) (Za (i:=8) (d:=Zg r) rfl) (Z1 (d:=.int 1)) (by decide) (by omega)) (Wq (Za (i:=8) (d:=Zg r) rfl) (Zjl Z1) (Zim (by omega))) (YS (by
   rw[lr];show¬r.getD 1 0>_;omega))))))) rfl)<|
  Zr (δ':=lwE ns n c1 b Ls vs (tbD (Jo n (cz Z) b)) (Zj7 (sCt (wL Z b))) r YC YC) (Z5 (Z3n (Zke (p:=YD) (Ze1 (Zo (Zb (Zo (Zb (Za rfl) (Zb (Za rfl) Zh)) Tr) (Zb (Jt (Zb Z1 (Zb (Za (i:=7) rfl) Zh)) (show 2<=1000 by decide)) Zh)) (Zxj 3 _)))) (Zke (p:=YD) (Ze1 (Zo (Zb (Zo (Zb (Za rfl) Zh) Tt) (Zb (Jt (Zb Z1 (Zb (Za (i:=7) rfl) Zh)) (show 2<=1000 by decide)) Zh)) (Zt8 3 _))))) rfl)<|
  Zga (ds:=(Xo n).map mkI) (λi δ=>∃z9 z10,δ=lwE ns n c1 b Ls vs (tbD (Jo n (cz Z) b)) (Zj7 (sCt (wL Z b))) r z9 z10) (Yby (Zb (Za rfl) Zh) n10) ⟨YC,YC,rfl⟩ (λi d δ hd q=>?_) λδ' q=>?_
 .unfold Zdn Jx Zg
  rw[XR];exact YT Qu (Xu λi _=>YT Xk (Bh _))
 .obtain⟨z9,z10,rfl⟩:=q
  have hi:i<n:=by
   refine Nat.lt_of_not_le λz=>?_;rw[Xp,Qv (by rw[XD];exact z)]at hd;cases hd
  rw[Xp,QG hi]at hd;cases hd
  by_cases c:4<n
  .obtain⟨r',d,Tw,Tp,Tg⟩:=Zv3 c hn pr nbr w0 WR hb bb3 hi
   have ec:∀z10,EvV (W3 1 [9] (iRa (Zc (Zd 1) Zq)) (gNm 0) (tV (Zj gNe (Zd 0) (Zd 1))) (Zd 0)) (lwE ns n c1 b Ls vs (tbD (Jo n (cz Z) b)) (Zj7 (sCt (wL Z b))) r (YB (.fz (mkI i))) z10) (lsN (oth n i)):=λz10=>(Zl1 (cs:=[YB (.fz (mkI i))]) (Xo n) mkI (λx=>!decide (x=i)) (Yby (Zb (Za rfl) Zh) n10) (by rw[XD];omega) rfl (λx _=>Zan (Ztj (Za (d:=.int (x:Int)) rfl) (Za (d:=.int (i:Int)) rfl) (YT not (decide_eq_decide.mpr ⟨λh=>Int.ofNat.inj h,λh=>YT _ h⟩)))) λx _ _=>rfl).cast rfl;exact⟨_,_,rfl,.inl (Zaz (Zan (Zfw (Za (i:=1) (d:=.int (n:Int)) rfl) Z1 (YQ (by omega)))) (Y6 (δ':=lwE ns n c1 b Ls vs (tbD (Jo n (cz Z) b)) (Zj7 (sCt (wL Z b))) r (YB (.fz (mkI i))) (YB (.fz (tbD (Jo (n-1) (sb (cz Z) (oth n i)) b))))) (Zu (Zo (Zb (Za rfl) (Zb (ec z10) Zh)) Tp)) (Z5 (Zan (Zz (Wq (Zo (Zb (Za rfl) (Zb (Zo (Zb (Za rfl) (Zb (Za (i:=9) (d:=.int (i:Int)) rfl) Zh)) Tw) Zh)) Tg) Z1 rfl) Z1 (Zsv Zu4).1)) rfl))),_,_,rfl⟩
  .exact⟨_,_,rfl,.inl (Z5 (Zan (Zfw (Za (i:=1) (d:=.int (n:Int)) rfl) Z1 (YS (by omega)))) rfl),YB (.fz (mkI i)),z10,rfl⟩
 .obtain⟨z9,z10,rfl⟩:=q
  exact Z7 Z1
end My
namespace L2
open PySem PySem.Spec PyProof.Rows
structure Ei(K:Xc)(x:Str)(st:YK)(f:YG)(fd:XJ):Prop where
 a:Q8 K Ql x=YB (YB (.ref f))
 F:Fun K x x st f fd
structure En(K:Xc)(mg:Str->Option Xe)(x:Str)(st:YK)(ps:List Str)(f:YG)(fd:XJ):Prop where
 F:Fun K x x st f fd
 b:Binds K fd ps []
 m:mg x=YB (.ref f)
structure Ec(K:Xc)(mg:Str->Option Xe)(x:Str)(f:YG):Prop where
 m:mg x=YB (.ref f)
 a:ClsAt K x f
section
variable {f:YG}{fd:XJ}
theorem en0(X:K.In h)(G:h.Ns Ql mg)(q:Ei K x st f fd)(hb:∀(kV doc pm:Xe) (an:Option YG) (cdv ct:Xe) (us:List Xe),us.length=ps.length->bindArgs (V6 x x (Zg1 st) (Zc7 st) (Zn st) .none kV doc pm an cdv ct) ⟨us,[]⟩=pure (ps.zip us)):En K mg x st ps f fd:=⟨q.F,q.F.binds hb,PySem.W.mg_of X G q.a⟩
abbrev Bd(x:Str)(st:YK)(ps:List Str)(us:List Xe):Prop:=∀(kV doc pm:Xe) (an:Option YG) (cdv ct:Xe),bindArgs (V6 x x (Zg1 st) (Zc7 st) (Zn st) .none kV doc pm an cdv ct) ⟨us,[]⟩=pure (ps.zip us)
theorem l_c{n:Nat}(h:us.length=n+1):∃u vs,us=u::vs/\vs.length=n:=by
 cases us with
 | nil=>cases h
 | cons u vs=>exact⟨u,vs,rfl,Nat.succ.inj h⟩
theorem en1(X:K.In h)(G:h.Ns Ql mg)(q:Ei K x st f fd){p0:Str}(hb:∀v0,Bd x st [p0] [v0]:=by exact λ_ _ _ _ _ _ _=>rfl):En K mg x st [p0] f fd:=en0 X G q λa b c d e g us hl=>by
 have h0:us.length=1:=hl;obtain⟨u0,us0,e0,h1⟩:=l_c h0;cases BZ h1;subst e0;exact hb u0 a b c d e g
theorem en2(X:K.In h)(G:h.Ns Ql mg)(q:Ei K x st f fd){p0 p1:Str}(hb:∀v0 v1,Bd x st [p0,p1] [v0,v1]:=by exact λ_ _ _ _ _ _ _ _=>rfl):En K mg x st [p0,p1] f fd:=en0 X G q λa b c d e g us hl=>by
 have h0:us.length=2:=hl;obtain⟨u0,us0,e0,h1⟩:=l_c h0;obtain⟨u1,us1,e1,h2⟩:=l_c h1;cases BZ h2;subst e1;subst e0;exact hb u0 u1 a b c d e g
theorem en3(X:K.In h)(G:h.Ns Ql mg)(q:Ei K x st f fd){p0 p1 p2:Str}(hb:∀v0 v1 v2,Bd x st [p0,p1,p2] [v0,v1,v2]:=by exact λ_ _ _ _ _ _ _ _ _=>rfl):En K mg x st [p0,p1,p2] f fd:=en0 X G q λa b c d e g us hl=>by
 have h0:us.length=3:=hl;obtain⟨u0,us0,e0,h1⟩:=l_c h0;obtain⟨u1,us1,e1,h2⟩:=l_c h1;obtain⟨u2,us2,e2,h3⟩:=l_c h2;cases BZ h3;subst e2;subst e1;subst e0;exact hb u0 u1 u2 a b c d e g
theorem en4(X:K.In h)(G:h.Ns Ql mg)(q:Ei K x st f fd){p0 p1 p2 p3:Str}(hb:∀v0 v1 v2 v3,Bd x st [p0,p1,p2,p3] [v0,v1,v2,v3]:=by exact λ_ _ _ _ _ _ _ _ _ _=>rfl):En K mg x st [p0,p1,p2,p3] f fd:=en0 X G q λa b c d e g us hl=>by
 have h0:us.length=4:=hl;obtain⟨u0,us0,e0,h1⟩:=l_c h0;obtain⟨u1,us1,e1,h2⟩:=l_c h1;obtain⟨u2,us2,e2,h3⟩:=l_c h2;obtain⟨u3,us3,e3,h4⟩:=l_c h3;cases BZ h4;subst e3;subst e2;subst e1;subst e0;exact hb u0 u1 u2 u3 a b c d e g
theorem en5(X:K.In h)(G:h.Ns Ql mg)(q:Ei K x st f fd){p0 p1 p2 p3 p4:Str}(hb:∀v0 v1 v2 v3 v4,Bd x st [p0,p1,p2,p3,p4] [v0,v1,v2,v3,v4]:=by exact λ_ _ _ _ _ _ _ _ _ _ _=>rfl):En K mg x st [p0,p1,p2,p3,p4] f fd:=en0 X G q λa b c d e g us hl=>by
 have h0:us.length=5:=hl;obtain⟨u0,us0,e0,h1⟩:=l_c h0;obtain⟨u1,us1,e1,h2⟩:=l_c h1;obtain⟨u2,us2,e2,h3⟩:=l_c h2;obtain⟨u3,us3,e3,h4⟩:=l_c h3;obtain⟨u4,us4,e4,h5⟩:=l_c h4;cases BZ h5;subst e4;subst e3;subst e2;subst e1;subst e0;exact hb u0 u1 u2 u3 u4 a b c d e g
theorem ec(X:K.In h)(G:h.Ns Ql mg)(a:Q8 K Ql x=YB (YB (.ref f))):Ec K mg x f:=⟨PySem.W.mg_of X G a,a⟩
end
theorem fsc{P:List Str}{sc:U6}(h1:sc.kind= .function:=by rfl)(h2:sc.isCoroutine=YF:=by rfl)(h3:sc.isGenerator=YF:=by rfl)(h4:N.Nodup:=by decide +kernel)(h5:N.take P.length=P:=by rfl)(h6:∀x∈P,sc.names.lookup x=YB .local\/sc.names.lookup x=YB .cell:=by decide +kernel)(h7:∀y∈sc.names,y.2≠ .free:=by decide +kernel):Zv N P sc:=⟨h1,h2,h3,h4,h5,h6,h7⟩
section
variable {f g:FS}{p:Bool}{ta:FT}
abbrev BS(X:Cx)(io:List Nat)(st:YK)(f:FS):Prop:=MS X io st (oS f)/\XS X io st (xS X.K f)
abbrev BSs(X:Cx)(io:List Nat)(sts:List YK)(f:FS):Prop:=MSs X io sts (oS f)/\XSs X io sts (xS X.K f)
end
section
variable {p:Bool}{k k':Nat}{f:YG}{fd:XJ}
theorem xce(G:FnOk X.prog X.w X.K X.mg X.base CX0 k f fd ps (spD X.K (sD F)))(hr:Room k' X.A)(E:En X.K X.mg x st ps f fd)(ha:MA X io p c (e::es) (o2 ra))(hle:k<=k':=by decide)(hg:Gl X x:=by rfl)(h1:(x==("__debug__" : Str))=YF:=by decide)(h2:Xr (e::es) X.env=(YF,eval e X.env)::Xr es X.env:=by rfl)(h3:((JX pos (Xr es X.env)).any λx=>x.fst)=YF:=by rfl):ME X io p c (.Call (.Name x pp) (e::es) [] pos) (o2 (Zy F ra)):=xcl G (hr.mono hle) E.m E.F.kp E.b ha hg h1 h2 h3
end
section
variable {p pt:Bool}{sc:U6}{g:MGt}{mt:MTt}{me:MEt}
theorem Zkp(own:List Str)(caps:List Nat)(N':List Str)(hi:MI X io p ci tg iter mi)
  (hg:∀C cells s₂ H₂ fp,MG (Wa X N' sc C cells s₂ H₂ fp) (Zaw own.length caps) ci tg g) (ht:∀C cells s₂ H₂ fp,MIfs (Wa X N' sc C cells s₂ H₂ fp) (Zaw own.length caps) pt ifs mt) (he:∀C cells s₂ H₂ fp,ME (Wa X N' sc C cells s₂ H₂ fp) (Zaw own.length caps) pe YD elt me)
  (S:CompScope X own caps N' sc:=by exact⟨rfl,by decide +kernel,rfl,by decide +kernel,rfl,rfl⟩) (hc:X.calm=YD:=by rfl) (nd:caps.Nodup:=by decide) (hp:(pt&&pe)=YD:=by rfl) (hs:∀x,By iter X.env x=pure x:=by intro _;rfl):ME X io p YD (.ListComp elt [⟨tg,iter,ifs,0⟩] sc pos) (Zhm own.length caps mi g mt me):=Z9w S hc nd hi hg ht he hp hs
end
end L2
namespace My
open PySem L2 PySem.Spec
def top(i:Nat):YK:=PySem.Challenge.pw_farcuts_k30_whole_rings_of_trees.main.body.getD i (.Pass ⟨0,0,0,0⟩)
abbrev Zfs:YK:=top 52
abbrev Zdu:YK:=top 55
abbrev Zc8:YK:=top 48
abbrev Zhj:YK:=top 49
abbrev Zdb:YK:=top 50
abbrev Zci:YK:=top 53
abbrev Zhp:YK:=top 56
abbrev Zg7:YK:=top 59
abbrev Zj4:YK:=top 51
abbrev Zf2:YK:=top 57
abbrev Zce:YK:=top 58
abbrev Zc2:YK:=top 54
abbrev Zbr:YK:=top 60
abbrev Zcz:YK:=top 61
abbrev Zcf:YK:=top 23
abbrev Zhk:YK:=top 25
abbrev Zc9:YK:=top 26
abbrev J7:YK:=top 7
abbrev Zbs:YK:=top 16
abbrev Zch:YK:=top 18
abbrev Zfr:YK:=top 17
abbrev Zem:YK:=top 19
abbrev Zd7:YK:=top 27
abbrev Zhv:YK:=top 31
abbrev Zjr:YK:=top 32
abbrev Zi5:YK:=top 33
abbrev Zhl:YK:=top 6
abbrev Zjj:YK:=top 21
abbrev Zef:YK:=top 22
abbrev Zhr:YK:=top 8
abbrev Zg0:YK:=top 9
abbrev Zhi:YK:=top 14
abbrev Zfq:YK:=top 24
abbrev Wm:YK:=top 43
abbrev Zbh:YK:=top 13
abbrev Zec:YK:=top 37
abbrev Zep:YK:=top 44
abbrev Zhf:YK:=top 11
abbrev Zx1:YK:=top 10
abbrev Zc1:YK:=top 29
abbrev Zc0:YK:=top 30
abbrev Zd6:YK:=top 45
abbrev Zfp:YK:=top 42
abbrev Zhg:YK:=top 35
abbrev Zdw:YK:=top 38
abbrev Zae:YK:=top 39
abbrev Zda:YK:=top 40
abbrev Zfx:YK:=top 46
abbrev Z8h:YK:=top 62
set_option genInjectivity false in
set_option genSizeOfSpec false in
structure Txt(K:Xc)(mg:Str->Option Xe)(f:Nat->YG)(fd:Nat->XJ)(cls:Nat->YG):Prop where
 e_law_alike:En K mg "_law_alike" Zfs ["found","due"] (f 0) (fd 0)
 e_law_bottom:En K mg "_law_bottom" Zdu ["cell"] (f 1) (fd 1)
 e_law_cell_at:En K mg "_law_cell_at" Zc8 ["script","k"] (f 2) (fd 2)
 e_law_stir:En K mg "_law_stir" Zhj ["cell","k"] (f 3) (fd 3)
 e_law_numbers:En K mg "_law_numbers" Zdb ["cell","many"] (f 4) (fd 4)
 e_law_clusters:En K mg "_law_clusters" Zci ["cell","n"] (f 5) (fd 5)
 e_law_rows:En K mg "_law_rows" Zhp ["n","sides","weights"] (f 6) (fd 6)
 e_law_size:En K mg "_law_size" Zg7 ["cell","least","most","great"] (f 7) (fd 7)
 e_law_low:En K mg "_law_low" Zj4 ["top","bottom"] (f 8) (fd 8)
 e_law_table:En K mg "_law_table" Zf2 ["rows","bottom"] (f 9) (fd 9)
 e_law_weighted:En K mg "_law_weighted" Zce ["sides","weights","bottom"] (f 10) (fd 10)
 e_law_weights:En K mg "_law_weights" Zc2 ["script","start","many","cell"] (f 11) (fd 11)
 e_law_put_right:En K mg "_law_put_right" Zbr ["ring"] (f 12) (fd 12)
 e_law_without:En K mg "_law_without" Zcz ["ring","point"] (f 13) (fd 13)
 e_twice_weight:En K mg "twice_weight" Zcf ["rows","ring","a","b"] (f 14) (fd 14)
 e_fits_gap:En K mg "fits_gap" Zhk ["rows","ring","b"] (f 15) (fd 15)
 e_first_grown:En K mg "first_grown" Zc9 ["rows","begun"] (f 16) (fd 16)
 e_greatest_divisor:En K mg "greatest_divisor" J7 ["a","b"] (f 17) (fd 17)
 e_shared_bottom:En K mg "shared_bottom" Zbs ["numbers"] (f 18) (fd 18)
 e_table_bottom:En K mg "table_bottom" Zch ["table"] (f 19) (fd 19)
 e_tops_over:En K mg "tops_over" Zfr ["bottom","numbers"] (f 20) (fd 20)
 e_table_over:En K mg "table_over" Zem ["bottom","table"] (f 21) (fd 21)
 e_first_ring:En K mg "first_ring" Zd7 ["table"] (f 22) (fd 22)
 e_is_point:En K mg "is_point" Zhv ["table","point"] (f 23) (fd 23)
 e_is_part:En K mg "is_part" Zjr ["table","points"] (f 24) (fd 24)
 e_part_of:En K mg "part_of" Zi5 ["table","points"] (f 25) (fd 25)
 e_is_whole:En K mg "is_whole" Zhl ["thing"] (f 26) (fd 26)
 e_is_ring:En K mg "is_ring" Zjj ["n","ring"] (f 27) (fd 27)
 e_check_ring:En K mg "check_ring" Zef ["n","ring"] (f 28) (fd 28)
 e_in_least:En K mg "in_least" Zhr ["top","bottom"] (f 29) (fd 29)
 e_fraction:En K mg "fraction" Zg0 ["top","bottom"] (f 30) (fd 30)
 e_pairs_of:En K mg "pairs_of" Zhi ["n"] (f 31) (fd 31)
 e_ring_told:En K mg "ring_told" Zfq ["table","ring"] (f 32) (fd 32)
 e_is_one_alone_greatest:En K mg "is_one_alone_greatest" Wm ["sums"] (f 33) (fd 33)
 e_rising_tuples:En K mg "rising_tuples" Zbh ["n","many"] (f 34) (fd 34)
 e_three_sums:En K mg "three_sums" Zec ["rows","i","j","k","l"] (f 35) (fd 35)
 e_first_four:En K mg "first_four" Zep ["rows"] (f 36) (fd 36)
 e_is_below:En K mg "is_below" Zhf ["q","r"] (f 37) (fd 37)
 e_plus:En K mg "plus" Zx1 ["q","r"] (f 38) (fd 38)
 e_is_short_by:En K mg "is_short_by" Zc1 ["table","i","j","k"] (f 39) (fd 39)
 e_first_short:En K mg "first_short" Zc0 ["table"] (f 40) (fd 40)
 e_first_bars:En K mg "first_bars" Zd6 ["table"] (f 41) (fd 41)
 e_tree_rule:En K mg "tree_rule" Zfp ["sums"] (f 42) (fd 42)
 e_all_cuts:En K mg "all_cuts" Zhg ["n"] (f 43) (fd 43)
 e_doubles_of:En K mg "doubles_of" Zdw ["points"] (f 44) (fd 44)
 e_least_over_sides:En K mg "least_over_sides" Zae ["rows","cut","rule"] (f 45) (fd 45)
 e_weighted_by:En K mg "weighted_by" Zda ["table","rule"] (f 46) (fd 46)
 e_tree_told:En K mg "tree_told" Zfx ["table"] (f 47) (fd 47)
 e_law:En K mg "law" Z8h ["script"] (f 48) (fd 48)
 fa_tree_rule:ClsAt K "tree_rule" (f 42)
 z_abs:mg "abs"=YC
 z_bool:mg "bool"=YC
 z_enumerate:mg "enumerate"=YC
 z_int:mg "int"=YC
 z_isinstance:mg "isinstance"=YC
 z_len:mg "len"=YC
 z_list:mg "list"=YC
 z_min:mg "min"=YC
 z_range:mg "range"=YC
 z_set:mg "set"=YC
 z_sorted:mg "sorted"=YC
 z_str:mg "str"=YC
 z_tuple:mg "tuple"=YC
 z_zip:mg "zip"=YC
 c_NoNumber:Ec K mg "NoNumber" (cls 0)
 c_NoOrder:Ec K mg "NoOrder" (cls 1)
 c_NoPoint:Ec K mg "NoPoint" (cls 2)
 x_NoNumber:Zf1 K (cls 0)
 x_NoOrder:Zf1 K (cls 1)
 x_NoPoint:Zf1 K (cls 2)
 r_NoNumber:Zsx K (cls 0)
 r_NoOrder:Zsx K (cls 1)
 r_NoPoint:Zsx K (cls 2)
end My
variable {f cls:Nat->YG}{fd:Nat->XJ}{p0 p1:Str}
namespace My
open PySem L2 PySem.Spec
section
variable {base:YH}
theorem Zer:Zv ["found","due","one","other"] ["found","due"] (Zn Zfs):=fsc
theorem Zea(T:Txt K mg f fd cls):∀k,FnOk P w K mg base CX0 (1+k) (f 0) (fd 0) ["found","due"] (spD K (sD (Zt k)))
 | 0=>Zyu λds k h=>by obtain⟨r,h,_⟩:=h;cases h
 | k+1=>by
  have G_rec:=Zea T k;refine Z8 T.e_law_alike.F Zer (S:=Wo (Zt k)) rfl rfl (λcdv A outer s H E hr=>?_);have hu:=hr.units;exact(Zfe (Zar (Zm4 (Zm8 (Za2 (Za6 (Zdh (Zie (by decide) (by rfl) T.z_isinstance L2.B.boot_isinstance (by rfl) T.z_int L2.B.boot_int (Yi (mv 1)))) (λ_=>rfl))) (Zi (Zfh (Ze8 (Zhb (Zts (Zdh (Zie (by decide) (by rfl) T.z_isinstance L2.B.boot_isinstance (by rfl) T.z_int L2.B.boot_int (Yi (mv 0)))) (Zhb (Zts (Zvp (Ybz (Zdh (Zie (by decide) (by rfl) T.z_isinstance L2.B.boot_isinstance (by rfl) T.z_bool L2.B.boot_bool (Yi (mv 0)))))) (Zvy (Wh Z87 (Zjz (Zky hu) Ztk (Yi (mv 0)) (Yi (mv 1)) (hm:=(W4 _)))))))))))) (Zc3 Zdc)))
   (Zfe (Zar (Zm4 (Zm8 (Za2 (Za6 (Zdh (Zie (by decide) (by rfl) T.z_isinstance L2.B.boot_isinstance (by rfl) T.z_str L2.B.boot_str (Yi (mv 1)))) (λ_=>rfl))) (Zi (Zfh (Ze8 (Zhb (Zts (Zdh (Zie (by decide) (by rfl) T.z_isinstance L2.B.boot_isinstance (by rfl) T.z_str L2.B.boot_str (Yi (mv 0)))) (Zvy (Wh Z87 (Zjz (Zky hu) Ztk (Yi (mv 0)) (Yi (mv 1)) (hm:=(W4 _)))))))))) (Zc3 Zdc)))
   (Zfe (Zar (Zm4 (Zm8 (MW.mt (Zn1 (Zov (Za8 Yeo (Za9 (Zq8 hu) Z08 (Zdh (Zie (by decide) (by rfl) T.z_isinstance L2.B.boot_isinstance (by rfl) T.z_tuple L2.B.boot_tuple (Yi (mv 1)))) (Zdh (Zie (by decide) (by rfl) T.z_isinstance L2.B.boot_isinstance (by rfl) T.z_tuple L2.B.boot_tuple (Yi (mv 0)))) (hm:=(W4 _)))) (Zny (Za8 Yeo (Za9 (Zq8 hu) Z08 (Zdh (Zie (by decide) (by rfl) T.z_isinstance L2.B.boot_isinstance (by rfl) T.z_list L2.B.boot_list (Yi (mv 1)))) (Zdh (Zie (by decide) (by rfl) T.z_isinstance L2.B.boot_isinstance (by rfl) T.z_list L2.B.boot_list (Yi (mv 0)))) (hm:=(W4 _)))))))) (Zi (Zfh (Ze8 (Zeb Zg5)))) (Zc3 Zdc)))
   (Zfe (Zar (Zm4 (Zm8 (Za8 Yeo (Za9 (Zq8 hu) Z08 (Zdi Zt1 (Zjk Zkw (Zcp rfl) (by rfl) T.z_len L2.B.boot_len (Ze (Yi (mv 0)) (Zb9 Zby)))) (Zdi Zt1 (Zjk Zkw (Zcp rfl) (by rfl) T.z_len L2.B.boot_len (Ze (Yi (mv 1)) (Zb9 Zby)))) (hm:=(W4 _)))) (Zi (Zfh (Ze8 (Zeb Zg5)))) (Zc3 Zdc)))
   (Zfe (Zar (Zx9 (Zwv XX rfl (Zp0 (Zpz (by rfl) T.z_zip L2.B.boot_zip (Ze (Yi (mv 0)) (Ze (Yi (mv 1)) (Zb9 Zby))))) (Zw2 (Zv4 (n:=2) (by rfl) (Zbx (Zbz (Zl2 (Zmc (i:=2) Zer.nd)) (Zbx (Zbz (Zl2 (Zmc (i:=3) Zer.nd)) (Zqq Zpr)))))))
   (Zi (Zm4 (Zm8 (Z4b (Z24 (Za2 (Za6 (Zjh (Zof G_rec hr (by rfl) T.e_law_alike.m T.e_law_alike.F.kp T.e_law_alike.b Zqn (Ze (Yi (mv 2)) (Ze (Yi (mv 3)) (Zb9 Zby))))) (λ_=>rfl))))) (Zi (Zfh (Ze8 (Zeb Zg5)))) (Zc3 Zdc))))))
   (Zi (Zfh (Ze8 (Zeb Zg5))))))))))))))
theorem Zow(T:Txt K mg f fd cls):FnOk P w K mg base CX0 9 (f 0) (fd 0) ["found","due"] (spD K (sD (Zt 8))):=Zea T 8
theorem Zlv:Zv ["cell"] ["cell"] (Zn Zdu):=fsc
theorem Zl5(T:Txt K mg f fd cls):FnOk P w K mg base CX0 1 (f 1) (fd 1) ["cell"] (spD K (sD Jc)):=by
 refine Z8 T.e_law_bottom.F Zlv (S:=Zcu) rfl rfl (λcdv A outer s H E hr=>?_);exact(Zi (xrt (xix (xls (Ze xci (Ze xci (Ze xci (xa1 (Zis (Yhm xci xci) xci)))))) (Zpi (Zue (xv 0) xci) xci))))
theorem Zko:Zv ["script","k"] ["script","k"] (Zn Zc8):=fsc
theorem Zkk(T:Txt K mg f fd cls):FnOk P w K mg base CX0 1 (f 2) (fd 2) ["script","k"] (spD K (sD W0)):=by
 refine Z8 T.e_law_cell_at.F Zko (S:=Zb2) rfl rfl (λcdv A outer s H E hr=>?_);exact(xsq (xif (xlt (xv 1) (xln T.z_len (xa1 (xv 0)))) (Zi (xrt (xix (xv 0) (xv 1)))) xnl) (Zi (xrt xci)))
theorem Zfi:Zv ["cell","k","one"] ["cell","k"] (Zn Zhj):=fsc
theorem Zjv(T:Txt K mg f fd cls):FnOk P w K mg base CX0 1 (f 3) (fd 3) ["cell","k"] (spD K (sD W9)):=by
 refine Z8 T.e_law_stir.F Zfi (S:=Zd3) rfl rfl (λcdv A outer s H E hr=>?_);exact(xsq (xst 2 Zfi.nd (Zpi (Zn7 (Zis (Zis (Zpi (xv 0) xci) (Zn7 xci (xv 1))) xci) xci) xci)) (xsq (xst 2 Zfi.nd (Zpi (Zn7 (xv 2) (xv 2)) xci)) (Zi (xrt (Zue (Zpi (Zn7 (Zis (xv 2) (Zn7 xci (xv 1))) xci) xci) xci)))))
theorem Y8:Zv ["cell","many","found","digits","k","number"] ["cell","many"] (Zn Zdb):=fsc
theorem Zkg(T:Txt K mg f fd cls):FnOk P w K mg base CX0 2 (f 4) (fd 4) ["cell","many"] (spD K (sD Ww)):=by
 have G_law_stir:=Zjv (P:=P) (w:=w) (base:=base) T;refine Z8 T.e_law_numbers.F Y8 (S:=Zb1) rfl rfl (λcdv A outer s H E hr=>?_);exact(xsq (xso 2 Y8.nd (xls xa0)) (xsq (xst 3 Y8.nd (xv 0)) (xsq (xfr XX rfl (Zfy (Yz (by rfl) T.z_range (xa1 (xv 1)))) (xg 4 Y8.nd) (xsq (xst 5 Y8.nd (xce G_law_stir hr T.e_law_stir (Ze (xv 0) (xa1 (xv 4))))) (xsq (xif (xge (xv 0) (Yhm xci xci)) (Zi (xst 5 Y8.nd (Zpi (xv 3) xci))) xnl) (xsq (xst 3 Y8.nd (Zue (xv 3) xci)) (Zi (J8 (Jw 2 (xv 5)))))))) (Zi (Zds (Zdy 2))))))
theorem Yy:Zv ["cell","n","numbers","left","found","k","one","other"] ["cell","n"] (Zn Zci):=fsc
theorem Zji(T:Txt K mg f fd cls):FnOk P w K mg base CX0 3 (f 5) (fd 5) ["cell","n"] (spD K (sD Wg)):=by
 have G_law_numbers:=Zkg (P:=P) (w:=w) (base:=base) T;refine Z8 T.e_law_clusters.F Yy (S:=Zbm) rfl rfl (λcdv A outer s H E hr=>?_);exact(xsq (xst 2 Yy.nd (xce G_law_numbers hr T.e_law_numbers (Ze (xv 0) (xa1 (Zn7 xci (xv 1)))))) (xsq (Zzk (Zpy (i:=3) (own:=["point"]) (caps:=[]) (N':=["point"]) Yy.nd rfl (QT rfl) (by exact⟨rfl,by decide +kernel,rfl,by decide +kernel,rfl,rfl⟩) (by rfl) (by decide) (Zxh (Zek (by rfl) T.z_range (Ze xci (xa1 (xv 1))))) (λ_ _ _ _ _=>(xg 0 (by show JT (["point"]:List Str);decide +kernel))) (λ_ _ _ _ _=>(Zc6 Zc4)) (λ_ _ _ _ _=>(xls (xa1 (xv 0)))))) (xsq (xso 4 Yy.nd (Zz2 (Z7s 3 (by rfl) T.z_list L2.B.boot_list))) (xsq (xfr XX rfl (Zfy (Yz (by rfl) T.z_range (xa1 (Z5p (xv 1) xci)))) (xg 5 Yy.nd) (xsq (xst 6 Yy.nd (Z3j (Ycs 3 (Zpi (xix (xv 2) (Zn7 xci (xv 5))) (xln T.z_len (xa1 (xo 3))))))) (xsq (xst 7 Yy.nd (Z3j (Ycs 3 (Zpi (xix (xv 2) (Zis (Zn7 xci (xv 5)) xci)) (xln T.z_len (xa1 (xo 3))))))) (xsq (J8 (Jw 3 (Zl6 Zms (Z34 Ziq (Zex rfl) (by rfl) T.z_sorted L2.B.boot_sorted (xa1 (Zhc (Zdk Zne (Zz0 (Zd9 rfl) Zh0 (xv 6) (xv 7))))))))) (Zi (J8 (Jw 4 (Ydb (Ygk 3 (Zh5 (Znq xci)) (λ_ _=>rfl)))))))))) (Zi (Zds (Zdy 4)))))))
theorem Zao:Zv ["n","sides","weights","rows","side","weight","i","j"] ["n","sides","weights"] (Zn Zhp):=fsc
theorem Zp6(T:Txt K mg f fd cls):FnOk P w K mg base CX0 1 (f 6) (fd 6) ["n","sides","weights"] (spD K (sD Zbt)):=by
 refine Z8 T.e_law_rows.F Zao (S:=Zeh) rfl rfl (λcdv A outer s H E hr=>?_);have hu:=hr.units;exact(xsq (Z15 (Zhq (i:=3) (own:=["point"]) (caps:=[0]) (N':=["point","n"]) YD Zao.nd rfl (QT rfl) (by exact⟨rfl,by decide +kernel,rfl,by decide +kernel,rfl,rfl⟩) (by rfl) (by decide) (Zfy (Yz (by rfl) T.z_range (xa1 (xv 0)))) (λ_ _ _ _ _=>(xg 0 (by show JT (["point","n"]:List Str);decide +kernel))) (λ_ _ _ _ _=>(Zc6 Zc4)) (λ_ _ _ _ _=>(Yc5 (Yfb xci (xv 1)))))) (xsq (xfr XX rfl (Zp0 (Zpz (by rfl) T.z_zip L2.B.boot_zip (Ze (xv 1) (xa1 (xv 2))))) (xg2 rfl (xg 4 Zao.nd) (xg 5 Zao.nd)) (Zi (xfr XX rfl (Zfy (Yz (by rfl) T.z_range (xa1 (xv 0)))) (xg 6 Zao.nd) (Zi (xfr XX rfl (Zfy (Yz (by rfl) T.z_range (xa1 (xv 0)))) (xg 7 Zao.nd) (Zi (xif (xne hu (Wh Z0q (Zjz (Z2r rfl) Z2g (xv 6) (xv 4) (hm:=(by with_unfolding_all rfl)))) (Wh Z0q (Zjz (Z2r rfl) Z2g (xv 7) (xv 4) (hm:=(by with_unfolding_all rfl))))) (Zi (Z58 (Z5s 3 (Zis (xix (xix (xo 3) (xv 6)) (xv 7)) (xv 5)) (xv 6) (xv 7) (λ_ _=>rfl)))) xnl))))))) (Zi (Zds (Zdy 3)))))
theorem Zqw:Zv ["cell","least","most","great"] ["cell","least","most","great"] (Zn Zg7):=fsc
theorem Zqx(T:Txt K mg f fd cls):FnOk P w K mg base CX0 1 (f 7) (fd 7) ["cell","least","most","great"] (spD K (sD Jv)):=by
 refine Z8 T.e_law_size.F Zqw (S:=Zdv) rfl rfl (λcdv A outer s H E hr=>?_);have hu:=hr.units;exact(xsq (xif (xeq hu (Zpi (Zue (xv 0) xci) xci) xci) (Zi (xrt (Zis (Zis (xv 2) xci) (Zpi (Zue (xv 0) xci) (Z5p (xv 3) (xv 2)))))) xnl) (Zi (xrt (Zis (xv 1) (Zpi (xv 0) (Z5p (Zis (xv 2) xci) (xv 1)))))))
theorem Zbd:Zv ["top","bottom","one","other","left"] ["top","bottom"] (Zn Zj4):=fsc
theorem Zle(T:Txt K mg f fd cls):FnOk P w K mg base CX0 1 (f 8) (fd 8) ["top","bottom"] (spD K (sD Zat)):=by
 refine Z8 T.e_law_low.F Zbd (S:=Zfc) rfl rfl (λcdv A outer s H E hr=>?_);have hu:=hr.units;exact(xsq (xst 2 Zbd.nd (Zdi Z8f (Zjk Zux Zmj (by rfl) T.z_abs L2.B.boot_abs (xa1 (xv 0))))) (xsq (xst 3 Zbd.nd (xv 1)) (xsq (Zsh (Zq6 XX (xne hu (xv 3) xci) (xsq (xst 4 Zbd.nd (Zpi (xv 2) (xv 3))) (xsq (xst 2 Zbd.nd (xv 3)) (Zi (xst 3 Zbd.nd (xv 4))))))) (Zi (xrt (xtp (Ze (Zue (xv 0) (xv 2)) (xa1 (Zue (xv 1) (xv 2))))))))))
theorem Znm:Zv ["rows","bottom"] ["rows","bottom"] (Zn Zf2):=fsc
theorem Zn3(T:Txt K mg f fd cls):FnOk P w K mg base CX0 2 (f 9) (fd 9) ["rows","bottom"] (spD K (sD Zax)):=by
 have G_law_low:=Zle (P:=P) (w:=w) (base:=base) T;refine Z8 T.e_law_table.F Znm (S:=Zdo) rfl rfl (λcdv A outer s H E hr=>?_);exact(Zi (xrt (Zcc (Zkp ["row"] [1] ["row","bottom"] (xil (xv 0)) (λ_ _ _ _ _=>(xg 0 (by show JT (["row","bottom"]:List Str);decide +kernel))) (λ_ _ _ _ _=>(Zc6 Zc4)) (λ_ _ _ _ _=>(Zcc (Zkp ["one"] [1] ["one","bottom"] (xil (xv 0)) (λ_ _ _ _ _=>(xg 0 (by show JT (["one","bottom"]:List Str);decide +kernel))) (λ_ _ _ _ _=>(Zc6 Zc4)) (λ_ _ _ _ _=>(xce G_law_low hr T.e_law_low (Ze (xv 0) (xa1 (xv 1))))))))))))
theorem Zjc:Zv ["sides","weights","bottom"] ["sides","weights","bottom"] (Zn Zce):=fsc
theorem Zjo(T:Txt K mg f fd cls):FnOk P w K mg base CX0 2 (f 10) (fd 10) ["sides","weights","bottom"] (spD K (sD Jp)):=by
 have G_law_low:=Zle (P:=P) (w:=w) (base:=base) T;refine Z8 T.e_law_weighted.F Zjc (S:=Zbp) rfl rfl (λcdv A outer s H E hr=>?_);have hu:=hr.units;exact(Zi (xrt (Zl6 Zqc (Z34 Zmg (Zhs Z26 rfl hu) (by rfl) T.z_sorted L2.B.boot_sorted (xa1 (Zcc (Zkp ["side","weight"] [2] ["side","weight","bottom"] (Zp0 (Zpz (by rfl) T.z_zip L2.B.boot_zip (Ze (xv 0) (xa1 (xv 1))))) (λ_ _ _ _ _=>(xg2 rfl (xg 0 (by show JT (["side","weight","bottom"]:List Str);decide +kernel)) (xg 1 (by show JT (["side","weight","bottom"]:List Str);decide +kernel)))) (λ_ _ _ _ _=>(Zjg (xgt (xv 1) xci))) (λ_ _ _ _ _=>(xtp (Ze (Zl6 Yai (Ykp Z4u (Zkr rfl) (by rfl) T.z_list L2.B.boot_list (xa1 (xv 0)))) (xa1 (xce G_law_low hr T.e_law_low (Ze (xv 1) (xa1 (xv 2)))))))))))))))
theorem Wt:Zv ["script","start","many","cell","base","found","k","number"] ["script","start","many","cell"] (Zn Zc2):=fsc
theorem Zkl(T:Txt K mg f fd cls):FnOk P w K mg base CX0 2 (f 11) (fd 11) ["script","start","many","cell"] (spD K (sD J5)):=by
 have G_law_stir:=Zjv (P:=P) (w:=w) (base:=base) T;refine Z8 T.e_law_weights.F Wt (S:=Zb8) rfl rfl (λcdv A outer s H E hr=>?_);exact(xsq (xst 4 Wt.nd (xix (xls (Ze xci (Ze xci (xa1 (Yhm xci xci))))) (Zpi (xv 3) xci))) (xsq (xso 5 Wt.nd (xls xa0)) (xsq (xfr XX rfl (Zfy (Yz (by rfl) T.z_range (xa1 (xv 2)))) (xg 6 Wt.nd) (xsq (xst 7 Wt.nd (xce G_law_stir hr T.e_law_stir (Ze (xv 3) (xa1 (Zis xci (xv 6)))))) (xsq (xif (xlt (Zis (xv 1) (xv 6)) (xln T.z_len (xa1 (xv 0)))) (Zi (xst 7 Wt.nd (xix (xv 0) (Zis (xv 1) (xv 6))))) xnl) (Zi (J8 (Jw 5 (Zpi (xv 7) (xv 4)))))))) (Zi (Zds (Zdy 5))))))
theorem Jk:Zv ["ring","at","wound"] ["ring"] (Zn Zbr):=fsc
theorem Zib(T:Txt K mg f fd cls):FnOk P w K mg base CX0 1 (f 12) (fd 12) ["ring"] (spD K (sD Wb)):=by
 refine Z8 T.e_law_put_right.F Jk (S:=Za7) rfl rfl (λcdv A outer s H E hr=>?_);exact(xsq (xst 1 Jk.nd (Z0g (Z6s (xv 0) xci))) (xsq (xst 2 Jk.nd (Zhc (Zdk Zne (Zz0 (Zd9 rfl) Zh0 (Zza (Zu8 (xv 0) (Zeo (Zel (xv 1))) (Zi9 Ziz))) (Zza (Zu8 (xv 0) (Zi9 Ziz) (Zeo (Zel (xv 1))))))))) (xsq (xif (MW.mt (Zyt (Zx5 (xgt (xln T.z_len (xa1 (xv 2))) xci) (Zqt (xgt (xix (xv 2) xci) (xix (xv 2) (Zh5 (Znq xci)))))))) (Zi (xst 2 Jk.nd (Zhc (Zdk Zne (Zz0 (Zd9 rfl) Zh0 (Zza (Zu8 (xv 2) (Zi9 Ziz) (Zeo (Zel xci)))) (Z4x (Ydi (xv 2) (Zi9 Ziz) (Zeo (Zel xci)) (Zeo (Zel (Zh5 (Znq xci))))))))))) xnl) (Zi (xrt (xv 2))))))
theorem Zfb:Zv ["ring","point","left"] ["ring","point"] (Zn Zcz):=fsc
theorem Zkn(T:Txt K mg f fd cls):FnOk P w K mg base CX0 2 (f 13) (fd 13) ["ring","point"] (spD K (sD Wy)):=by
 have G_law_put_right:=Zib (P:=P) (w:=w) (base:=base) T;refine Z8 T.e_law_without.F Zfb (S:=Zb7) rfl rfl (λcdv A outer s H E hr=>?_);have hu:=hr.units;exact(xsq (Zul (Zhq (i:=2) (own:=["one"]) (caps:=[1]) (N':=["one","point"]) YF Zfb.nd rfl (QT rfl) (by exact⟨rfl,by decide +kernel,rfl,by decide +kernel,rfl,rfl⟩) (by rfl) (by decide) (xil (xv 0)) (λ_ _ _ _ _=>(xg 0 (by show JT (["one","point"]:List Str);decide +kernel))) (λ_ _ _ _ _=>(Zjg (xne hu (xv 0) (xv 1)))) (λ_ _ _ _ _=>(Z5p (xv 0) (Zdi Yfc (Ygz Ydj Zwo (by rfl) T.z_int L2.B.boot_int (xa1 (Wh Ygn (Zjz Z5t Zfd (xv 0) (xv 1) (hm:=(W4 _))))))))))) (Zi (xrt (xce G_law_put_right hr T.e_law_put_right (xa1 (xv 2))))))
theorem W6:Zv ["rows","ring","a","b","x","p","y","q"] ["rows","ring","a","b"] (Zn Zcf):=fsc
theorem Zdz(T:Txt K mg f fd cls):FnOk P w K mg base CX0 1 (f 14) (fd 14) ["rows","ring","a","b"] (spD K (sD Z4)):=by
 refine Z8 T.e_twice_weight.F W6 (S:=Zbo) rfl rfl (λcdv A outer s H E hr=>?_);exact(xsq (xst 4 W6.nd (xix (xv 1) (xv 2))) (xsq (xst 5 W6.nd (xix (xv 1) (Zis (xv 2) xci))) (xsq (xst 6 W6.nd (xix (xv 1) (xv 3))) (xsq (xst 7 W6.nd (xix (xv 1) (Zpi (Zis (xv 3) xci) (xln T.z_len (xa1 (xv 0)))))) (Zi (xrt (Z5p (Z5p (Zis (xix (xix (xv 0) (xv 4)) (xv 6)) (xix (xix (xv 0) (xv 5)) (xv 7))) (xix (xix (xv 0) (xv 4)) (xv 7))) (xix (xix (xv 0) (xv 5)) (xv 6)))))))))
theorem Zje:Zv ["rows","ring","b","a"] ["rows","ring","b"] (Zn Zhk):=fsc
theorem Zqe(T:Txt K mg f fd cls):FnOk P w K mg base CX0 2 (f 15) (fd 15) ["rows","ring","b"] (spD K (sD Yq)):=by
 have G_twice_weight:=Zdz (P:=P) (w:=w) (base:=base) T;refine Z8 T.e_fits_gap.F Zje (S:=Zdx) rfl rfl (λcdv A outer s H E hr=>?_);exact(xsq (xfr XX rfl (Zfy (Yz (by rfl) T.z_range (xa1 (xv 2)))) (xg 3 Zje.nd) (Zi (xif (xlt (xce G_twice_weight hr T.e_twice_weight (Ze (xv 0) (Ze (xv 1) (Ze (xv 3) (xa1 (xv 2)))))) xci) (Zi (xrt (Zeb Zg5))) xnl))) (Zi (xrt (Zeb Zg5))))
theorem Zas:Zv ["rows","begun","n","point","found"] ["rows","begun"] (Zn Zc9):=fsc
theorem Zcs(T:Txt K mg f fd cls):∀k,FnOk P w K mg base CX0 (3+k) (f 16) (fd 16) ["rows","begun"] (spD K (sD (Yb k)))
 | 0=>Zyu λds k h=>by obtain⟨r,h,_⟩:=h;cases h
 | k+1=>by
  have G_rec:=Zcs T k;have G_fits_gap:=Zqe (P:=P) (w:=w) (base:=base) T;refine Z8 T.e_first_grown.F Zas (S:=Wz (Yb k)) rfl rfl (λcdv A outer s H E hr=>?_);have hu:=hr.units;exact(Zfe (Zar (Zwj (Zwg (i:=2) Zas.nd rfl (QT rfl) (Zdi Zt1 (Zjk Zkw (Zcp rfl) (by rfl) T.z_len L2.B.boot_len (Ze (Yi (mv 0)) (Zb9 Zby))))))
   (Zfe (Zar (Zm4 (Zm8 (Za8 Z87 (Za9 (Zky hu) Ztk (Zdi Zt1 (Zjk Zkw (Zcp rfl) (by rfl) T.z_len L2.B.boot_len (Ze (Yi (mv 1)) (Zb9 Zby)))) (Yi (mv 2)) (hm:=(W4 _)))) (Zi (Zfh (Ze8 (Zhc (Z9o (Yir (MW.mt (Zyt (Zx5 (Za8 Z9p (Za9 Zt4 Zfd (Zhc (Zdk Ygm (Ygy (Zm1 rfl) Z5w (Yi (mv 1)) (Zeb Zk3) (hs:=λ_ _=>rfl)))) (Zhc (Zdk Ygm (Ygy (Zm1 rfl) Z5w (Yi (mv 1)) (Zh5 (Znq (Zeb Zk3))) (hs:=λ_ _=>rfl)))) (hm:=(W4 _)))) (Zqt (Za2 (Za6 (Zjh (Zof G_fits_gap (hr.mono (QD (by decide) (Vk 3 k))) (by rfl) T.e_fits_gap.m T.e_fits_gap.F.kp T.e_fits_gap.b Zqn (Ze (Yi (mv 0)) (Ze (Yi (mv 1)) (Ze (Wh Z47 (Zpb Zvr Zlu (Yi (mv 2)) (Zeb Zk3))) (Zb9 Zby)))))) (λ_=>rfl))))))) (Yi (mv 1)) (Zeb Zhz))))))) (Zc3 Zdc)))
   (Zfe (Zar (Zx9 (Zwv XX rfl (Zxh (Zek (by rfl) T.z_range (Ze (Zeb Zk3) (Ze (Yi (mv 2)) (Zb9 Zby))))) (Zl2 (Zmc (i:=3) Zas.nd))
   (Zi (Zm4 (Zm8 (MW.mt (Zyt (Zx5 (Za8 Z0q (Za9 (Zpa rfl) Z2g (Yi (mv 3)) (Yi (mv 1)) (hm:=(by with_unfolding_all rfl)))) (Zqt (Za2 (Za6 (Zjh (Zof G_fits_gap (hr.mono (QD (by decide) (Vk 3 k))) (by rfl) T.e_fits_gap.m T.e_fits_gap.F.kp T.e_fits_gap.b Zqn (Ze (Yi (mv 0)) (Ze (Zhc (Zdk Zne (Zz0 (Zd9 rfl) Zh0 (Yi (mv 1)) (Zvz (Z4n (Ze (Yi (mv 3)) (Zb9 Zby))))))) (Ze (Wh Z47 (Zpb Zvr Zlu (Zdi Zt1 (Zjk Zkw (Zcp rfl) (by rfl) T.z_len L2.B.boot_len (Ze (Yi (mv 1)) (Zb9 Zby)))) (Zeb Zk3))) (Zb9 Zby)))))) (λ_=>rfl))))))) (Zfe (Zar (Zwj (Zwg (i:=4) Zas.nd rfl (QT rfl) (Zjh (Zof G_rec hr (by rfl) T.e_first_grown.m T.e_first_grown.F.kp T.e_first_grown.b Zqn (Ze (Yi (mv 0)) (Ze (Zhc (Zdk Zne (Zz0 (Zd9 rfl) Zh0 (Yi (mv 1)) (Zvz (Z4n (Ze (Yi (mv 3)) (Zb9 Zby))))))) (Zb9 Zby)))))))
   (Zi (Zm4 (Zm8 (Za8 Zpm (Za9 Zp9 Zp3 (Yi (mv 4)) (Zeb Zhz) (hm:=(W4 _)))) (Zi (Zfh (Ze8 (Yi (mv 4))))) (Zc3 Zdc)))))) (Zc3 Zdc))))))
   (Zi (Zfh (Ze8 (Zeb Zhz))))))))))
theorem Zkb(T:Txt K mg f fd cls):FnOk P w K mg base CX0 11 (f 16) (fd 16) ["rows","begun"] (spD K (sD (Yb 8))):=Zcs T 8
theorem Yp:Zv ["a","b","left"] ["a","b"] (Zn J7):=fsc
theorem Zbg(T:Txt K mg f fd cls):FnOk P w K mg base CX0 1 (f 17) (fd 17) ["a","b"] (spD K (sD Yo)):=by
 refine Z8 T.e_greatest_divisor.F Yp (S:=Jy) rfl rfl (λcdv A outer s H E hr=>?_);have hu:=hr.units;exact(xsq (xst 0 Yp.nd (Zdi Z8f (Zjk Zux Zmj (by rfl) T.z_abs L2.B.boot_abs (xa1 (xv 0))))) (xsq (xst 1 Yp.nd (Zdi Z8f (Zjk Zux Zmj (by rfl) T.z_abs L2.B.boot_abs (xa1 (xv 1))))) (xsq (Zsh (Zq6 XX (xne hu (xv 1) xci) (xsq (xst 2 Yp.nd (Zpi (xv 0) (xv 1))) (xsq (xst 0 Yp.nd (xv 1)) (Zi (xst 1 Yp.nd (xv 2))))))) (Zi (xrt (xv 0))))))
theorem Jl:Zv ["numbers","bottom","q"] ["numbers"] (Zn Zbs):=fsc
theorem Zid(T:Txt K mg f fd cls):FnOk P w K mg base CX0 2 (f 18) (fd 18) ["numbers"] (spD K (sD Wc)):=by
 have G_greatest_divisor:=Zbg (P:=P) (w:=w) (base:=base) T;refine Z8 T.e_shared_bottom.F Jl (S:=Za3) rfl rfl (λcdv A outer s H E hr=>?_);exact(xsq (xst 1 Jl.nd xci) (xsq (xfr XX rfl (xil (xv 0)) (xg 2 Jl.nd) (Zi (xst 1 Jl.nd (Zn7 (Zue (xv 1) (xce G_greatest_divisor hr T.e_greatest_divisor (Ze (xv 1) (xa1 (xix (xv 2) xci))))) (xix (xv 2) xci))))) (Zi (xrt (xv 1)))))
theorem J4:Zv ["table","bottom","row"] ["table"] (Zn Zch):=fsc
theorem Zab(T:Txt K mg f fd cls):FnOk P w K mg base CX0 3 (f 19) (fd 19) ["table"] (spD K (sD Z0)):=by
 have G_shared_bottom:=Zid (P:=P) (w:=w) (base:=base) T;refine Z8 T.e_table_bottom.F J4 (S:=Zbe) rfl rfl (λcdv A outer s H E hr=>?_);exact(xsq (xst 1 J4.nd xci) (xsq (xfr XX rfl (xil (xv 0)) (xg 2 J4.nd) (Zi (xst 1 J4.nd (xce G_shared_bottom hr T.e_shared_bottom (xa1 (Zhc (Zdk Zne (Zz0 (Zd9 rfl) Zh0 (xls (xa1 (xtp (Ze xci (xa1 (xv 1)))))) (xv 2))))))))) (Zi (xrt (xv 1)))))
theorem Zos:Zv ["bottom","numbers"] ["bottom","numbers"] (Zn Zfr):=fsc
theorem Zpf(T:Txt K mg f fd cls):FnOk P w K mg base CX0 1 (f 20) (fd 20) ["bottom","numbers"] (spD K (sD Za0)):=by
 refine Z8 T.e_tops_over.F Zos (S:=Zdl) rfl rfl (λcdv A outer s H E hr=>?_);exact(Zi (xrt (Zcc (Zkp ["q"] [0] ["q","bottom"] (xil (xv 1)) (λ_ _ _ _ _=>(xg 0 (by show JT (["q","bottom"]:List Str);decide +kernel))) (λ_ _ _ _ _=>(Zc6 Zc4)) (λ_ _ _ _ _=>(Zn7 (xix (xv 0) xci) (Zue (xv 1) (xix (xv 0) xci))))))))
theorem Zls:Zv ["bottom","table"] ["bottom","table"] (Zn Zem):=fsc
theorem Zba(T:Txt K mg f fd cls):FnOk P w K mg base CX0 2 (f 21) (fd 21) ["bottom","table"] (spD K (sD Yd)):=by
 have G_tops_over:=Zpf (P:=P) (w:=w) (base:=base) T;refine Z8 T.e_table_over.F Zls (S:=Zcm) rfl rfl (λcdv A outer s H E hr=>?_);exact(Zi (xrt (Zcc (Zkp ["row"] [0] ["row","bottom"] (xil (xv 1)) (λ_ _ _ _ _=>(xg 0 (by show JT (["row","bottom"]:List Str);decide +kernel))) (λ_ _ _ _ _=>(Zc6 Zc4)) (λ_ _ _ _ _=>(xce G_tops_over hr T.e_tops_over (Ze (xv 1) (xa1 (xv 0)))))))))
theorem Zmx:Zv ["table"] ["table"] (Zn Zd7):=fsc
theorem Zl4(T:Txt K mg f fd cls):FnOk P w K mg base CX0 12 (f 22) (fd 22) ["table"] (spD K (sD Jb)):=by
 have G_first_grown:=Zkb (P:=P) (w:=w) (base:=base) T;have G_table_bottom:=Zab (P:=P) (w:=w) (base:=base) T;have G_table_over:=Zba (P:=P) (w:=w) (base:=base) T;refine Z8 T.e_first_ring.F Zmx (S:=Zcj) rfl rfl (λcdv A outer s H E hr=>?_);exact(xsq (xif (xlt (xln T.z_len (xa1 (xv 0))) xci) (Zi (xrt (Zeb Zhz))) xnl) (Zi (xrt (xce G_first_grown hr T.e_first_grown (Ze (xce G_table_over hr T.e_table_over (Ze (xce G_table_bottom hr T.e_table_bottom (xa1 (xv 0))) (xa1 (xv 0)))) (xa1 (xls (xa1 xci))))))))
theorem Zqi:Zv ["table","point"] ["table","point"] (Zn Zhv):=fsc
theorem Zpp(T:Txt K mg f fd cls):FnOk P w K mg base CX0 1 (f 23) (fd 23) ["table","point"] (spD K (sD Zbq)):=by
 refine Z8 T.e_is_point.F Zqi (S:=Zeq) rfl rfl (λcdv A outer s H E hr=>?_);exact(Zi (xrt (Z0r (Z52 Ybi Zt4 xci (xv 1) (xln T.z_len (xa1 (xv 0)))))))
theorem Zkt:Zv ["table","points","point"] ["table","points"] (Zn Zjr):=fsc
theorem Zs8(T:Txt K mg f fd cls):FnOk P w K mg base CX0 2 (f 24) (fd 24) ["table","points"] (spD K (sD Zcg)):=by
 have G_is_point:=Zpp (P:=P) (w:=w) (base:=base) T;refine Z8 T.e_is_part.F Zkt (S:=Ze9) rfl rfl (λcdv A outer s H E hr=>?_);have hu:=hr.units;exact(xsq (xfr XX rfl (xil (xv 1)) (xg 2 Zkt.nd) (Zi (xif (xno (Za2 (Za6 (xce G_is_point hr T.e_is_point (Ze (xv 0) (xa1 (xv 2)))) (λ_=>rfl)))) (Zi (xrt (Zeb Zg5))) xnl))) (Zi (xrt (Zhb (Zts (Wh Ygn (Zjz Z5t Zfd (xln T.z_len (xa1 (xv 1))) xci (hm:=(W4 _)))) (Zvy (Wh Z87 (Zjz (Zky hu) Ztk (Zxz (Zzx (by rfl) (by rfl) T.z_len L2.B.boot_len (by rfl) T.z_set L2.B.boot_set (xa1 (xv 1)))) (xln T.z_len (xa1 (xv 1))) (hm:=(W4 _))))))))))
theorem Zhe:Zv ["table","points","part","point"] ["table","points"] (Zn Zi5):=fsc
theorem Zt2(T:Txt K mg f fd cls):FnOk P w K mg base CX0 3 (f 25) (fd 25) ["table","points"] (spD K (sD Jj)):=by
 have G_is_part:=Zs8 (P:=P) (w:=w) (base:=base) T;refine Z8 T.e_part_of.F Zhe (S:=Ze3) rfl rfl (λcdv A outer s H E hr=>?_);exact(xsq (xif (xno (Za2 (Za6 (xce G_is_part hr T.e_is_part (Ze (xv 0) (xa1 (xv 1)))) (λ_=>rfl)))) (Zi Zl9) xnl) (xsq (xso 2 Zhe.nd (xls xa0)) (xsq (xfr XX rfl (xil (xv 1)) (xg 3 Zhe.nd) (Zi (J8 (Jw 2 (Zcc (Zkp ["other"] [0,3] ["other","table","point"] (xil (xv 1)) (λ_ _ _ _ _=>(xg 0 (by show JT (["other","table","point"]:List Str);decide +kernel))) (λ_ _ _ _ _=>(Zc6 Zc4)) (λ_ _ _ _ _=>(xix (xix (xv 1) (xv 2)) (xv 0))))))))) (Zi (Zds (Zdy 2))))))
theorem Zqz:Zv ["thing"] ["thing"] (Zn Zhl):=fsc
theorem Zjn(T:Txt K mg f fd cls):FnOk P w K mg base CX0 1 (f 26) (fd 26) ["thing"] (spD K (sD We)):=by
 refine Z8 T.e_is_whole.F Zqz (S:=Zed) rfl rfl (λcdv A outer s H E hr=>?_);exact(Zi (xrt (Zhb (Zts (Zdh (Zie (by decide) (by rfl) T.z_isinstance L2.B.boot_isinstance (by rfl) T.z_int L2.B.boot_int (xv 0))) (Zvy (Zvp (Ybz (Zdh (Zie (by decide) (by rfl) T.z_isinstance L2.B.boot_isinstance (by rfl) T.z_bool L2.B.boot_bool (xv 0))))))))))
theorem Zkv:Zv ["n","ring","point"] ["n","ring"] (Zn Zjj):=fsc
theorem Zs7(T:Txt K mg f fd cls):FnOk P w K mg base CX0 2 (f 27) (fd 27) ["n","ring"] (spD K (sD Zcd)):=by
 have G_is_whole:=Zjn (P:=P) (w:=w) (base:=base) T;refine Z8 T.e_is_ring.F Zkv (S:=Ze7) rfl rfl (λcdv A outer s H E hr=>?_);have hu:=hr.units;exact(xsq (xfr XX rfl (xil (xv 1)) (xg 2 Zkv.nd) (Zi (xif (xno (Za2 (Za6 (xce G_is_whole hr T.e_is_whole (xa1 (xv 2))) (λ_=>rfl)))) (Zi (xrt (Zeb Zg5))) xnl))) (xsq (xif (MW.mt (Zn1 (Zov (xlt (xv 0) xci) (Zny (xne hu (Zl6 Zms (Z34 Ziq (Zex rfl) (by rfl) T.z_sorted L2.B.boot_sorted (xa1 (xv 1)))) (Z3f (Zok (by rfl) (by rfl) T.z_list L2.B.boot_list (by rfl) T.z_range L2.B.boot_range (xa1 (xv 0))))))))) (Zi (xrt (Zeb Zg5))) xnl) (Zi (xrt (Zhb (Zts (Wh Z87 (Zjz (Zky hu) Ztk (xix (xv 1) xci) xci (hm:=(W4 _)))) (Zvy (Wh Z9p (Zjz Zt4 Zfd (xix (xv 1) xci) (xix (xv 1) (Zh5 (Znq xci))) (hm:=(W4 _)))))))))))
theorem Zly:Zv ["n","ring"] ["n","ring"] (Zn Zef):=fsc
theorem Zmu(T:Txt K mg f fd cls):FnOk P w K mg base CX0 3 (f 28) (fd 28) ["n","ring"] (spD K (sD Je)):=by
 have G_is_ring:=Zs7 (P:=P) (w:=w) (base:=base) T;refine Z8 T.e_check_ring.F Zly (S:=Zck) rfl rfl (λcdv A outer s H E hr=>?_);exact(Zi (xif (xno (Za2 (Za6 (xce G_is_ring hr T.e_is_ring (Ze (xv 0) (xa1 (xv 1)))) (λ_=>rfl)))) (Zi Zl9) xnl))
theorem Zfk:Zv ["top","bottom","shared"] ["top","bottom"] (Zn Zhr):=fsc
theorem Ziy(T:Txt K mg f fd cls):FnOk P w K mg base CX0 2 (f 29) (fd 29) ["top","bottom"] (spD K (sD Zaa)):=by
 have G_greatest_divisor:=Zbg (P:=P) (w:=w) (base:=base) T;refine Z8 T.e_in_least.F Zfk (S:=Zen) rfl rfl (λcdv A outer s H E hr=>?_);exact(xsq (xst 2 Zfk.nd (xce G_greatest_divisor hr T.e_greatest_divisor (Ze (xv 0) (xa1 (xv 1))))) (xsq (xif (xlt (xv 1) xci) (Zi (xst 2 Zfk.nd (Zh5 (Znq (xv 2))))) xnl) (Zi (xrt (xtp (Ze (Zue (xv 0) (xv 2)) (xa1 (Zue (xv 1) (xv 2)))))))))
theorem Zp4:Zv ["top","bottom"] ["top","bottom"] (Zn Zg0):=fsc
theorem Zj2(T:Txt K mg f fd cls):FnOk P w K mg base CX0 3 (f 30) (fd 30) ["top","bottom"] (spD K (sD Yr)):=by
 have G_in_least:=Ziy (P:=P) (w:=w) (base:=base) T;have G_is_whole:=Zjn (P:=P) (w:=w) (base:=base) T;refine Z8 T.e_fraction.F Zp4 (S:=Zd8) rfl rfl (λcdv A outer s H E hr=>?_);have hu:=hr.units;exact(xsq (xif (MW.mt (Zn1 (Zov (xno (Za2 (Za6 (xce G_is_whole hr T.e_is_whole (xa1 (xv 0))) (λ_=>rfl)))) (Zn1 (Zov (xno (Za2 (Za6 (xce G_is_whole hr T.e_is_whole (xa1 (xv 1))) (λ_=>rfl)))) (Zny (xeq hu (xv 1) xci))))))) (Zi Zl9) xnl) (Zi (xrt (xce G_in_least hr T.e_in_least (Ze (xv 0) (xa1 (xv 1)))))))
theorem Zcy:Zv ["n","pairs","i","j"] ["n"] (Zn Zhi):=fsc
theorem Zpl(T:Txt K mg f fd cls):FnOk P w K mg base CX0 1 (f 31) (fd 31) ["n"] (spD K (sD Jz)):=by
 refine Z8 T.e_pairs_of.F Zcy (S:=Zes) rfl rfl (λcdv A outer s H E hr=>?_);exact(xsq (xso 1 Zcy.nd (xls xa0)) (xsq (xfr XX rfl (Zfy (Yz (by rfl) T.z_range (xa1 (xv 0)))) (xg 2 Zcy.nd) (Zi (xfr XX rfl (Zxh (Zek (by rfl) T.z_range (Ze (Zis (xv 2) xci) (xa1 (xv 0))))) (xg 3 Zcy.nd) (Zi (J8 (Jw 1 (xtp (Ze (xv 2) (xa1 (xv 3)))))))))) (Zi (Zds (Zdy 1)))))
theorem W5:Zv ["table","ring","bottom","rows","weighted","a","b","twice"] ["table","ring"] (Zn Zfq):=fsc
theorem Znx(T:Txt K mg f fd cls):FnOk P w K mg base CX0 4 (f 32) (fd 32) ["table","ring"] (spD K (sD Wr)):=by
 have G_check_ring:=Zmu (P:=P) (w:=w) (base:=base) T;have G_fraction:=Zj2 (P:=P) (w:=w) (base:=base) T;have G_pairs_of:=Zpl (P:=P) (w:=w) (base:=base) T;have G_table_bottom:=Zab (P:=P) (w:=w) (base:=base) T;have G_table_over:=Zba (P:=P) (w:=w) (base:=base) T;have G_twice_weight:=Zdz (P:=P) (w:=w) (base:=base) T;refine Z8 T.e_ring_told.F W5 (S:=Zdg) rfl rfl (λcdv A outer s H E hr=>?_);have hu:=hr.units;exact(xsq (Z4s (Z8o (xce G_check_ring hr T.e_check_ring (Ze (xln T.z_len (xa1 (xv 0))) (xa1 (xv 1)))))) (xsq (xst 2 W5.nd (xce G_table_bottom hr T.e_table_bottom (xa1 (xv 0)))) (xsq (xst 3 W5.nd (xce G_table_over hr T.e_table_over (Ze (xv 2) (xa1 (xv 0))))) (xsq (xso 4 W5.nd (xls xa0)) (xsq (xfr XX rfl (xil (xce G_pairs_of hr T.e_pairs_of (xa1 (xln T.z_len (xa1 (xv 0)))))) (xg2 rfl (xg 5 W5.nd) (xg 6 W5.nd)) (xsq (xst 7 W5.nd (xce G_twice_weight hr T.e_twice_weight (Ze (xv 3) (Ze (xv 1) (Ze (xv 5) (xa1 (xv 6))))))) (xsq (xif (xlt (xv 7) xci) (Zi (xrt (xtp (Ze (Zeb Zj0) (xa1 (xtp (Ze (xv 5) (xa1 (xv 6))))))))) xnl) (Zi (xif (xgt (xv 7) xci) (Zi (J8 (Jw 4 (xtp (Ze (Zl6 Zms (Z34 Ziq (Zex rfl) (by rfl) T.z_sorted L2.B.boot_sorted (xa1 (Zza (Zu8 (xv 1) (Zeo (Zel (Zis (xv 5) xci))) (Zeo (Zel (Zis (xv 6) xci)))))))) (xa1 (xce G_fraction hr T.e_fraction (Ze (xv 7) (xa1 (Zn7 xci (xv 2))))))))))) xnl))))) (Zi (Zog (Znh 4 (xrt (xtp (Ze (Zeb Zj0) (xa1 (Zl6 Zqc (Z34 Zmg (Zhs Z26 rfl hu) (by rfl) T.z_sorted L2.B.boot_sorted (xa1 (xv 4))))))))))))))))
theorem Jr:Zv ["sums","ranked"] ["sums"] (Zn Wm):=fsc
theorem Zcw(T:Txt K mg f fd cls):FnOk P w K mg base CX0 1 (f 33) (fd 33) ["sums"] (spD K (sD Yk)):=by
 refine Z8 T.e_is_one_alone_greatest.F Jr (S:=W2) rfl rfl (λcdv A outer s H E hr=>?_);exact(xsq (xst 1 Jr.nd (Zl6 Z57 (Z34 Zz9 (Zs2 rfl) (by rfl) T.z_sorted L2.B.boot_sorted (xa1 (xv 0))))) (Zi (xrt (Wh Z9p (Zjz Zt4 Zfd (xix (xv 1) xci) (xix (xv 1) xci) (hm:=(W4 _)))))))
theorem Yv:Zv ["n","many","begun","step","grown","points","least"] ["n","many"] (Zn Zbh):=fsc
theorem Zig(T:Txt K mg f fd cls):FnOk P w K mg base CX0 1 (f 34) (fd 34) ["n","many"] (spD K (sD Jg)):=by
 refine Z8 T.e_rising_tuples.F Yv (S:=Za4) rfl rfl (λcdv A outer s H E hr=>?_);exact(xsq (xst 2 Yv.nd (xls (xa1 (xtp xa0)))) (xsq (xfr XX rfl (Zfy (Yz (by rfl) T.z_range (xa1 (xv 1)))) (xg 3 Yv.nd) (xsq (xso 4 Yv.nd (xls xa0)) (xsq (xfr XX rfl (xil (xv 2)) (xg 5 Yv.nd) (xsq (xst 6 Yv.nd (Zhc (Z9o (Yir (xgt (xln T.z_len (xa1 (xv 5))) xci) (Zis (xix (xv 5) (Zh5 (Znq xci))) xci) xci)))) (Zi (Zyj (Zvn 4 (Zcc (Zkp ["point"] [5] ["point","points"] (Zxh (Zek (by rfl) T.z_range (Ze (xv 6) (xa1 (xv 0))))) (λ_ _ _ _ _=>(xg 0 (by show JT (["point","points"]:List Str);decide +kernel))) (λ_ _ _ _ _=>(Zc6 Zc4)) (λ_ _ _ _ _=>(Zhc (Zdk Z9y (Zz0 Z75 Z65 (xv 1) (xtp (xa1 (xv 0)))))))))))))) (Zi (Zog (Znh 4 (xst 2 Yv.nd (xv 4)))))))) (Zi (xrt (xv 2)))))
theorem Zm2:Zv ["rows","i","j","k","l"] ["rows","i","j","k","l"] (Zn Zec):=fsc
theorem Zgl(T:Txt K mg f fd cls):FnOk P w K mg base CX0 1 (f 35) (fd 35) ["rows","i","j","k","l"] (spD K (sD Ye)):=by
 refine Z8 T.e_three_sums.F Zm2 (S:=Zco) rfl rfl (λcdv A outer s H E hr=>?_);exact(Zi (xrt (xtp (Ze (Zis (xix (xix (xv 0) (xv 1)) (xv 2)) (xix (xix (xv 0) (xv 3)) (xv 4))) (Ze (Zis (xix (xix (xv 0) (xv 1)) (xv 3)) (xix (xix (xv 0) (xv 2)) (xv 4))) (xa1 (Zis (xix (xix (xv 0) (xv 1)) (xv 4)) (xix (xix (xv 0) (xv 2)) (xv 3)))))))))
theorem J6:Zv ["rows","i","j","k","l"] ["rows"] (Zn Zep):=fsc
theorem Zl8(T:Txt K mg f fd cls):FnOk P w K mg base CX0 2 (f 36) (fd 36) ["rows"] (spD K (sD Zam)):=by
 have G_is_one_alone_greatest:=Zcw (P:=P) (w:=w) (base:=base) T;have G_rising_tuples:=Zig (P:=P) (w:=w) (base:=base) T;have G_three_sums:=Zgl (P:=P) (w:=w) (base:=base) T;refine Z8 T.e_first_four.F J6 (S:=Zcq) rfl rfl (λcdv A outer s H E hr=>?_);exact(xsq (xfr XX rfl (xil (xce G_rising_tuples hr T.e_rising_tuples (Ze (xln T.z_len (xa1 (xv 0))) (xa1 xci)))) (Zw2 (Zv4 (n:=4) (by rfl) (Zbx (Zbz (xg 1 J6.nd) (Zbx (Zbz (xg 2 J6.nd) (Zbx (Zbz (xg 3 J6.nd) (Zbx (Zbz (xg 4 J6.nd) (Zqq Zpr))))))))))) (Zi (xif (Za2 (Za6 (xce G_is_one_alone_greatest hr T.e_is_one_alone_greatest (xa1 (xce G_three_sums hr T.e_three_sums (Ze (xv 0) (Ze (xv 1) (Ze (xv 2) (Ze (xv 3) (xa1 (xv 4))))))))) (λ_=>rfl))) (Zi (xrt (xtp (Ze (xv 1) (Ze (xv 2) (Ze (xv 3) (xa1 (xv 4)))))))) xnl))) (Zi (xrt (Zeb Zhz))))
theorem Zqv:Zv ["q","r"] ["q","r"] (Zn Zhf):=fsc
theorem Zqu(T:Txt K mg f fd cls):FnOk P w K mg base CX0 1 (f 37) (fd 37) ["q","r"] (spD K (sD Zbf)):=by
 refine Z8 T.e_is_below.F Zqv (S:=Zd0) rfl rfl (λcdv A outer s H E hr=>?_);exact(Zi (xrt (Wh Z9p (Zjz Zt4 Zfd (Zn7 (xix (xv 0) xci) (xix (xv 1) xci)) (Zn7 (xix (xv 1) xci) (xix (xv 0) xci)) (hm:=(W4 _))))))
theorem Z7i:Zv ["q","r"] ["q","r"] (Zn Zx1):=fsc
theorem Z7g(T:Txt K mg f fd cls):FnOk P w K mg base CX0 3 (f 38) (fd 38) ["q","r"] (spD K (sD Zfm)):=by
 have G_in_least:=Ziy (P:=P) (w:=w) (base:=base) T;refine Z8 T.e_plus.F Z7i (S:=Zja) rfl rfl (λcdv A outer s H E hr=>?_);exact(Zi (xrt (xce G_in_least hr T.e_in_least (Ze (Zis (Zn7 (xix (xv 0) xci) (xix (xv 1) xci)) (Zn7 (xix (xv 1) xci) (xix (xv 0) xci))) (xa1 (Zn7 (xix (xv 0) xci) (xix (xv 1) xci)))))))
theorem Zka:Zv ["table","i","j","k"] ["table","i","j","k"] (Zn Zc1):=fsc
theorem Zki(T:Txt K mg f fd cls):FnOk P w K mg base CX0 4 (f 39) (fd 39) ["table","i","j","k"] (spD K (sD J1)):=by
 have G_is_below:=Zqu (P:=P) (w:=w) (base:=base) T;have G_plus:=Z7g (P:=P) (w:=w) (base:=base) T;refine Z8 T.e_is_short_by.F Zka (S:=Zbw) rfl rfl (λcdv A outer s H E hr=>?_);exact(Zi (xrt (xce G_is_below hr T.e_is_below (Ze (xce G_plus hr T.e_plus (Ze (xix (xix (xv 0) (xv 1)) (xv 2)) (xa1 (xix (xix (xv 0) (xv 2)) (xv 3))))) (xa1 (xix (xix (xv 0) (xv 1)) (xv 3)))))))
theorem Ji:Zv ["table","n","i","j","k"] ["table"] (Zn Zc0):=fsc
theorem Zkc(T:Txt K mg f fd cls):FnOk P w K mg base CX0 5 (f 40) (fd 40) ["table"] (spD K (sD Wv)):=by
 have G_is_short_by:=Zki (P:=P) (w:=w) (base:=base) T;refine Z8 T.e_first_short.F Ji (S:=Zca) rfl rfl (λcdv A outer s H E hr=>?_);exact(xsq (xst 1 Ji.nd (xln T.z_len (xa1 (xv 0)))) (xsq (xfr XX rfl (Zfy (Yz (by rfl) T.z_range (xa1 (xv 1)))) (xg 2 Ji.nd) (Zi (xfr XX rfl (Zfy (Yz (by rfl) T.z_range (xa1 (xv 1)))) (xg 3 Ji.nd) (Zi (xfr XX rfl (Zfy (Yz (by rfl) T.z_range (xa1 (xv 1)))) (xg 4 Ji.nd) (Zi (xif (Za2 (Za6 (xce G_is_short_by hr T.e_is_short_by (Ze (xv 0) (Ze (xv 2) (Ze (xv 3) (xa1 (xv 4)))))) (λ_=>rfl))) (Zi (xrt (xtp (Ze (xv 2) (Ze (xv 3) (xa1 (xv 4))))))) xnl))))))) (Zi (xrt (Zeb Zhz)))))
theorem Zgx:Zv ["table","short"] ["table"] (Zn Zd6):=fsc
theorem Zlp(T:Txt K mg f fd cls):FnOk P w K mg base CX0 6 (f 41) (fd 41) ["table"] (spD K (sD Zak)):=by
 have G_first_four:=Zl8 (P:=P) (w:=w) (base:=base) T;have G_first_short:=Zkc (P:=P) (w:=w) (base:=base) T;have G_table_bottom:=Zab (P:=P) (w:=w) (base:=base) T;have G_table_over:=Zba (P:=P) (w:=w) (base:=base) T;refine Z8 T.e_first_bars.F Zgx (S:=Zcv) rfl rfl (λcdv A outer s H E hr=>?_);exact(xsq (xst 1 Zgx.nd (xce G_first_short hr T.e_first_short (xa1 (xv 0)))) (xsq (xif (Za8 Zpm (Za9 Zp9 Zp3 (xv 1) (Zeb Zhz) (hm:=(W4 _)))) (Zi (xrt (xv 1))) xnl) (Zi (xrt (xce G_first_four hr T.e_first_four (xa1 (xce G_table_over hr T.e_table_over (Ze (xce G_table_bottom hr T.e_table_bottom (xa1 (xv 0))) (xa1 (xv 0))))))))))
theorem Zn5:Zv ["sums"] ["sums"] (Zn Zfp):=fsc
theorem Zh7(T:Txt K mg f fd cls):FnOk P w K mg base CX0 1 (f 42) (fd 42) ["sums"] (spD K (sD Yu)):=by
 refine Z8 T.e_tree_rule.F Zn5 (S:=Zdp) rfl rfl (λcdv A outer s H E hr=>?_);exact(Zi (xrt (Z5p (Zdi Ydn (Zjk Zuy (Zo4 (by rfl)) (by rfl) T.z_min L2.B.boot_min (Ze (xix (xv 0) xci) (xa1 (xix (xv 0) xci))))) (xix (xv 0) xci))))
theorem Zde:Zv ["n","sides","point"] ["n"] (Zn Zhg):=fsc
theorem Zp8(T:Txt K mg f fd cls):FnOk P w K mg base CX0 1 (f 43) (fd 43) ["n"] (spD K (sD Yx)):=by
 refine Z8 T.e_all_cuts.F Zde (S:=Zd5) rfl rfl (λcdv A outer s H E hr=>?_);have hu:=hr.units;exact(xsq (xst 1 Zde.nd (xls (xa1 (xls xa0)))) (xsq (xfr XX rfl (Zxh (Zek (by rfl) T.z_range (Ze xci (xa1 (xv 0))))) (xg 2 Zde.nd) (Zi (xst 1 Zde.nd (Zhc (Zdk Zne (Zz0 (Zd9 rfl) Zh0 (xv 1) (Zcc (Zkp ["side"] [2] ["side","point"] (xil (xv 1)) (λ_ _ _ _ _=>(xg 0 (by show JT (["side","point"]:List Str);decide +kernel))) (λ_ _ _ _ _=>(Zc6 Zc4)) (λ_ _ _ _ _=>(Zhc (Zdk Zne (Zz0 (Zd9 rfl) Zh0 (xv 0) (xls (xa1 (xv 1))))))))))))))) (Zi (xrt (Zcc (Zkp ["side"] [] ["side"] (xil (Zl6 Z6u (Z34 Zzu (Ztu Z9r rfl hu) (by rfl) T.z_sorted L2.B.boot_sorted (xa1 (xv 1))))) (λ_ _ _ _ _=>(xg 0 (by show JT (["side"]:List Str);decide +kernel))) (λ_ _ _ _ _=>(Zjg (xgt (xln T.z_len (xa1 (xv 0))) xci))) (λ_ _ _ _ _=>(xv 0))))))))
theorem Zad:Zv ["points","doubles","place","point","other"] ["points"] (Zn Zdw):=fsc
theorem Zlo(T:Txt K mg f fd cls):FnOk P w K mg base CX0 1 (f 44) (fd 44) ["points"] (spD K (sD Ja)):=by
 refine Z8 T.e_doubles_of.F Zad (S:=Zcr) rfl rfl (λcdv A outer s H E hr=>?_);exact(xsq (xso 1 Zad.nd (xls xa0)) (xsq (xfr XX rfl (Z8l (Z76 (by rfl) T.z_enumerate L2.B.boot_enumerate (xa1 (xv 0)))) (xg2 rfl (xg 2 Zad.nd) (xg 3 Zad.nd)) (Zi (xfr XX rfl (xil (Zza (Zu8 (xv 0) (Zeo (Zel (xv 2))) (Zi9 Ziz)))) (xg 4 Zad.nd) (Zi (J8 (Jw 1 (xtp (Ze (xv 3) (xa1 (xv 4)))))))))) (Zi (Zds (Zdy 1)))))
theorem Z3:Zv ["rows","cut","rule","others","beyond","least","a","b","c","e"] ["rows","cut","rule"] (Zn Zae):=fsc
theorem Zfj(T:Txt K mg f fd cls):FnOk P w K mg base CX0 2 (f 45) (fd 45) ["rows","cut","rule"] (spD K (sD Ym)):=by
 have G_doubles_of:=Zlo (P:=P) (w:=w) (base:=base) T;have G_three_sums:=Zgl (P:=P) (w:=w) (base:=base) T;have G_tree_rule:=Zh7 (P:=P) (w:=w) (base:=base) T;refine Z8 T.e_least_over_sides.F Z3 (S:=Zac) rfl rfl (λcdv A outer s H E hr=>?_);exact(xsq (Zul (Zhq (i:=3) (own:=["point"]) (caps:=[1]) (N':=["point","cut"]) YF Z3.nd rfl (QT rfl) (by exact⟨rfl,by decide +kernel,rfl,by decide +kernel,rfl,rfl⟩) (by rfl) (by decide) (Zfy (Yz (by rfl) T.z_range (xa1 (xln T.z_len (xa1 (xv 0)))))) (λ_ _ _ _ _=>(xg 0 (by show JT (["point","cut"]:List Str);decide +kernel))) (λ_ _ _ _ _=>(Zjg (Za8 Z0q (Za9 (Zpa rfl) Z2g (xv 0) (xv 1) (hm:=(by with_unfolding_all rfl)))))) (λ_ _ _ _ _=>(xv 0)))) (xsq (xst 4 Z3.nd (xce G_doubles_of hr T.e_doubles_of (xa1 (xv 3)))) (xsq (xst 5 Z3.nd (Zsk (Zzb (i:=2) G_tree_rule (hr.mono (by decide)) T.fa_tree_rule T.e_tree_rule.F.kp T.e_tree_rule.b Zqn (xa1 (xce G_three_sums hr T.e_three_sums (Ze (xv 0) (Ze (xix (xv 1) xci) (Ze (xix (xv 1) xci) (Ze xci (xa1 xci)))))))))) (xsq (xfr XX rfl (xil (xce G_doubles_of hr T.e_doubles_of (xa1 (xv 1)))) (xg2 rfl (xg 6 Z3.nd) (xg 7 Z3.nd)) (xsq (xfr XX rfl (xil (xv 4)) (xg2 rfl (xg 8 Z3.nd) (xg 9 Z3.nd)) (Zi (xst 5 Z3.nd (Zdi Ydn (Zjk Zuy (Zo4 (by rfl)) (by rfl) T.z_min L2.B.boot_min (Ze (xv 5) (xa1 (Zsk (Zzb (i:=2) G_tree_rule (hr.mono (by decide)) T.fa_tree_rule T.e_tree_rule.F.kp T.e_tree_rule.b Zqn (xa1 (xce G_three_sums hr T.e_three_sums (Ze (xv 0) (Ze (xv 6) (Ze (xv 7) (Ze (xv 8) (xa1 (xv 9))))))))))))))))) (Zi (xif (xle (xv 5) xci) (Zi (xrt xci)) xnl)))) (Zi (xrt (xv 5)))))))
theorem Ws:Zv ["table","rule","bottom","rows","weighted","cut","least"] ["table","rule"] (Zn Zda):=fsc
theorem Zkm(T:Txt K mg f fd cls):FnOk P w K mg base CX0 4 (f 46) (fd 46) ["table","rule"] (spD K (sD J2)):=by
 have G_all_cuts:=Zp8 (P:=P) (w:=w) (base:=base) T;have G_fraction:=Zj2 (P:=P) (w:=w) (base:=base) T;have G_least_over_sides:=Zfj (P:=P) (w:=w) (base:=base) T;have G_table_bottom:=Zab (P:=P) (w:=w) (base:=base) T;have G_table_over:=Zba (P:=P) (w:=w) (base:=base) T;refine Z8 T.e_weighted_by.F Ws (S:=Zb5) rfl rfl (λcdv A outer s H E hr=>?_);exact(xsq (xst 2 Ws.nd (xce G_table_bottom hr T.e_table_bottom (xa1 (xv 0)))) (xsq (xst 3 Ws.nd (xce G_table_over hr T.e_table_over (Ze (xv 2) (xa1 (xv 0))))) (xsq (xso 4 Ws.nd (xls xa0)) (xsq (xfr XX rfl (xil (xce G_all_cuts hr T.e_all_cuts (xa1 (xln T.z_len (xa1 (xv 0)))))) (xg 5 Ws.nd) (xsq (xst 6 Ws.nd (xce G_least_over_sides hr T.e_least_over_sides (Ze (xv 3) (Ze (xv 5) (xa1 (xv 1)))))) (Zi (xif (xgt (xv 6) xci) (Zi (J8 (Jw 4 (xtp (Ze (xv 5) (xa1 (xce G_fraction hr T.e_fraction (Ze (xv 6) (xa1 (Zn7 xci (xv 2))))))))))) xnl)))) (Zi (Zds (Zdy 4)))))))
theorem Zh2:Zv ["table","bars"] ["table"] (Zn Zfx):=fsc
theorem Zn0(T:Txt K mg f fd cls):FnOk P w K mg base CX0 7 (f 47) (fd 47) ["table"] (spD K (sD Jm)):=by
 have G_first_bars:=Zlp (P:=P) (w:=w) (base:=base) T;have G_tree_rule:=Zh7 (P:=P) (w:=w) (base:=base) T;have G_weighted_by:=Zkm (P:=P) (w:=w) (base:=base) T;refine Z8 T.e_tree_told.F Zh2 (S:=Zdm) rfl rfl (λcdv A outer s H E hr=>?_);exact(xsq (xst 1 Zh2.nd (xce G_first_bars hr T.e_first_bars (xa1 (xv 0)))) (xsq (xif (Za8 Zpm (Za9 Zp9 Zp3 (xv 1) (Zeb Zhz) (hm:=(W4 _)))) (Zi (xrt (xtp (Ze (Zeb Zj0) (xa1 (xv 1)))))) xnl) (Zi (xrt (xtp (Ze (Zeb Zj0) (xa1 (xce G_weighted_by hr T.e_weighted_by (Ze (xv 0) (xa1 (Zeb (Yko (by rfl) T.e_tree_rule.m T.fa_tree_rule))))))))))))
theorem Zd4:Zv ["script","n","cell","sides","weights","bottom","table","cuts","ring","point","part"] ["script"] (Zn Z8h):=fsc
theorem Yci(T:Txt K mg f fd cls):FnOk P w K mg base CX0 13 (f 48) (fd 48) ["script"] (spD K (sD Zhd)):=by
 have G_law_alike:=Zow (P:=P) (w:=w) (base:=base) T;have G_law_bottom:=Zl5 (P:=P) (w:=w) (base:=base) T;have G_law_cell_at:=Zkk (P:=P) (w:=w) (base:=base) T;have G_law_clusters:=Zji (P:=P) (w:=w) (base:=base) T;have G_law_rows:=Zp6 (P:=P) (w:=w) (base:=base) T;have G_law_size:=Zqx (P:=P) (w:=w) (base:=base) T;have G_law_table:=Zn3 (P:=P) (w:=w) (base:=base) T;have G_law_weighted:=Zjo (P:=P) (w:=w) (base:=base) T;have G_law_weights:=Zkl (P:=P) (w:=w) (base:=base) T;have G_law_without:=Zkn (P:=P) (w:=w) (base:=base) T;have G_first_ring:=Zl4 (P:=P) (w:=w) (base:=base) T;have G_part_of:=Zt2 (P:=P) (w:=w) (base:=base) T;have G_ring_told:=Znx (P:=P) (w:=w) (base:=base) T;have G_tree_told:=Zn0 (P:=P) (w:=w) (base:=base) T;refine Z8 T.e_law.F Zd4 (S:=Zk2) rfl rfl (λcdv A outer s H E hr=>?_);have hu:=hr.units;exact(xsq (xst 1 Zd4.nd (xce G_law_size hr T.e_law_size (Ze (xce G_law_cell_at hr T.e_law_cell_at (Ze (xv 0) (xa1 xci))) (Ze xci (Ze xci (xa1 xci)))))) (xsq (xst 2 Zd4.nd (xce G_law_cell_at hr T.e_law_cell_at (Ze (xv 0) (xa1 xci)))) (xsq (xst 3 Zd4.nd (xce G_law_clusters hr T.e_law_clusters (Ze (Zue (xv 2) xci) (xa1 (xv 1))))) (xsq (xst 4 Zd4.nd (xce G_law_weights hr T.e_law_weights (Ze (xv 0) (Ze xci (Ze (xln T.z_len (xa1 (xv 3))) (xa1 (xv 2))))))) (xsq (xst 5 Zd4.nd (xce G_law_bottom hr T.e_law_bottom (xa1 (xv 2)))) (xsq (xst 6 Zd4.nd (xce G_law_table hr T.e_law_table (Ze (xce G_law_rows hr T.e_law_rows (Ze (xv 1) (Ze (xv 3) (xa1 (xv 4))))) (xa1 (xv 5))))) (xsq (xst 7 Zd4.nd (xce G_law_weighted hr T.e_law_weighted (Ze (xv 3) (Ze (xv 4) (xa1 (xv 5)))))) (xsq (xst 8 Zd4.nd (xce G_first_ring hr T.e_first_ring (xa1 (xv 6)))) (xsq (xif (MW.mt (Zn1 (Zov (xno (Za2 (Za6 (Zdh (Zie (by decide) (by rfl) T.z_isinstance L2.B.boot_isinstance (by rfl) T.z_list L2.B.boot_list (xv 8))) (λ_=>rfl)))) (Zn1 (Zov (xne hu (Zl6 Zms (Z34 Ziq (Zex rfl) (by rfl) T.z_sorted L2.B.boot_sorted (xa1 (xv 8)))) (Z3f (Zok (by rfl) (by rfl) T.z_list L2.B.boot_list (by rfl) T.z_range L2.B.boot_range (xa1 (xv 1))))) (Zn1 (Zov (xne hu (xix (xv 8) xci) xci) (Zny (xgt (xix (xv 8) xci) (xix (xv 8) (Zh5 (Znq xci)))))))))))) (Zi (xrt (Zeb Zg5))) xnl) (xsq (xif (MW.mt (Zn1 (Zov (xno (Za2 (Za6 (xce G_law_alike hr T.e_law_alike (Ze (xce G_ring_told hr T.e_ring_told (Ze (xv 6) (xa1 (xv 8)))) (xa1 (xtp (Ze (Zeb Zj0) (xa1 (xv 7))))))) (λ_=>rfl)))) (Zny (xno (Za2 (Za6 (xce G_law_alike hr T.e_law_alike (Ze (xce G_tree_told hr T.e_tree_told (xa1 (xv 6))) (xa1 (xtp (Ze (Zeb Zj0) (xa1 (xv 7))))))) (λ_=>rfl)))))))) (Zi (xrt (Zeb Zg5))) xnl) (xsq (xfr XX rfl (Zfy (Yz (by rfl) T.z_range (xa1 (xv 1)))) (xg 9 Zd4.nd) (Zi (xif (xgt (xv 1) xci) (xsq (xst 10 Zd4.nd (xce G_part_of hr T.e_part_of (Ze (xv 6) (xa1 (Zcc (Zkp ["one"] [9] ["one","point"] (Zfy (Yz (by rfl) T.z_range (xa1 (xv 1)))) (λ_ _ _ _ _=>(xg 0 (by show JT (["one","point"]:List Str);decide +kernel))) (λ_ _ _ _ _=>(Zjg (xne hu (xv 0) (xv 1)))) (λ_ _ _ _ _=>(xv 0)))))))) (Zi (xif (xne hu (xix (xce G_ring_told hr T.e_ring_told (Ze (xv 10) (xa1 (xce G_law_without hr T.e_law_without (Ze (xv 8) (xa1 (xv 9))))))) xci) (Zeb Zj0)) (Zi (xrt (Zeb Zg5))) xnl))) xnl))) (Zi (xrt (Zeb Zg5))))))))))))))
theorem Z6c(T:Txt K mg f fd cls):FnOk P w K mg base CX0 13 (f 48) (fd 48) ["script"] (spD K Z9m):=(Yci T).imp λvs H Q E q=>by
 obtain⟨L,ds,k,h1,⟨ns,e,hl,hk⟩,h3⟩:=q;exact⟨L,ds,k,h1,⟨_,by rw[e];exact Zzy ns hl,hk⟩,h3⟩
end
theorem Yat{l:PySem.W.OpenLaw}{fa:YG}(X:K.In h)(G:h.Ns Ql mg)(hfa:mg "law"=YB (.ref fa))
  (q1:Ei K "_law_alike" Zfs f1 d1)
  (q2:Ei K "_law_bottom" Zdu f2 d2)
  (q3:Ei K "_law_cell_at" Zc8 f3 d3)
  (q4:Ei K "_law_stir" Zhj f4 d4)
  (q5:Ei K "_law_numbers" Zdb f5 d5)
  (q6:Ei K "_law_clusters" Zci f6 d6)
  (q7:Ei K "_law_rows" Zhp f7 d7)
  (q8:Ei K "_law_size" Zg7 f8 d8)
  (q9:Ei K "_law_low" Zj4 f9 d9)
  (q10:Ei K "_law_table" Zf2 f10 d10)
  (q11:Ei K "_law_weighted" Zce f11 d11)
  (q12:Ei K "_law_weights" Zc2 f12 d12)
  (q13:Ei K "_law_put_right" Zbr f13 d13)
  (q14:Ei K "_law_without" Zcz f14 d14)
  (q15:Ei K "twice_weight" Zcf f15 d15)
  (q16:Ei K "fits_gap" Zhk f16 d16)
  (q17:Ei K "first_grown" Zc9 f17 d17)
  (q18:Ei K "greatest_divisor" J7 f18 d18)
  (q19:Ei K "shared_bottom" Zbs f19 d19)
  (q20:Ei K "table_bottom" Zch f20 d20)
  (q21:Ei K "tops_over" Zfr f21 d21)
  (q22:Ei K "table_over" Zem f22 d22)
  (q23:Ei K "first_ring" Zd7 f23 d23)
  (q24:Ei K "is_point" Zhv f24 d24)
  (q25:Ei K "is_part" Zjr f25 d25)
  (q26:Ei K "part_of" Zi5 f26 d26)
  (q27:Ei K "is_whole" Zhl f27 d27)
  (q28:Ei K "is_ring" Zjj f28 d28)
  (q29:Ei K "check_ring" Zef f29 d29)
  (q30:Ei K "in_least" Zhr f30 d30)
  (q31:Ei K "fraction" Zg0 f31 d31)
  (q32:Ei K "pairs_of" Zhi f32 d32)
  (q33:Ei K "ring_told" Zfq f33 d33)
  (q34:Ei K "is_one_alone_greatest" Wm f34 d34)
  (q35:Ei K "rising_tuples" Zbh f35 d35)
  (q36:Ei K "three_sums" Zec f36 d36)
  (q37:Ei K "first_four" Zep f37 d37)
  (q38:Ei K "is_below" Zhf f38 d38)
  (q39:Ei K "plus" Zx1 f39 d39)
  (q40:Ei K "is_short_by" Zc1 f40 d40)
  (q41:Ei K "first_short" Zc0 f41 d41)
  (q42:Ei K "first_bars" Zd6 f42 d42)
  (q43:Ei K "tree_rule" Zfp f43 d43)
  (q44:Ei K "all_cuts" Zhg f44 d44)
  (q45:Ei K "doubles_of" Zdw f45 d45)
  (q46:Ei K "least_over_sides" Zae f46 d46)
  (q47:Ei K "weighted_by" Zda f47 d47)
  (q48:Ei K "tree_told" Zfx f48 d48)
  (q49:Ei K "law" Z8h f49 d49)
  (z0:Q8 K Ql "abs"=YB YC)
  (z1:Q8 K Ql "bool"=YB YC)
  (z2:Q8 K Ql "enumerate"=YB YC)
  (z3:Q8 K Ql "int"=YB YC)
  (z4:Q8 K Ql "isinstance"=YB YC)
  (z5:Q8 K Ql "len"=YB YC)
  (z6:Q8 K Ql "list"=YB YC)
  (z7:Q8 K Ql "min"=YB YC)
  (z8:Q8 K Ql "range"=YB YC)
  (z9:Q8 K Ql "set"=YB YC)
  (z10:Q8 K Ql "sorted"=YB YC)
  (z11:Q8 K Ql "str"=YB YC)
  (z12:Q8 K Ql "tuple"=YB YC)
  (z13:Q8 K Ql "zip"=YB YC)
  (cc_NoNumber:Q8 K Ql "NoNumber"=YB (YB (.ref C_NoNumber)))
  (cc_NoOrder:Q8 K Ql "NoOrder"=YB (YB (.ref C_NoOrder)))
  (cc_NoPoint:Q8 K Ql "NoPoint"=YB (YB (.ref C_NoPoint)))
  (x_NoNumber:Zf1 K C_NoNumber)
  (x_NoOrder:Zf1 K C_NoOrder)
  (x_NoPoint:Zf1 K C_NoPoint)
  (r_NoNumber:Zsx K C_NoNumber)
  (r_NoOrder:Zsx K C_NoOrder)
  (r_NoPoint:Zsx K C_NoPoint)
  :∃fd:XJ,(∀(s:Xh) (v:Xe),BindsTo s fd ⟨[v],[]⟩ [("script",v)])/\∀base:YH,K.In base->base.Ns Ql mg->FnOk l.prog w K mg base CX0 13 fa fd ["script"] (spD K Z9m):=by
 have e:=hfa.symm.trans (PySem.W.mg_of X G q49.a);cases e;have T:Txt K mg (λk=>[f1,f2,f3,f4,f5,f6,f7,f8,f9,f10,f11,f12,f13,f14,f15,f16,f17,f18,f19,f20,f21,f22,f23,f24,f25,f26,f27,f28,f29,f30,f31,f32,f33,f34,f35,f36,f37,f38,f39,f40,f41,f42,f43,f44,f45,f46,f47,f48,f49].getD k 0) (λk=>[d1,d2,d3,d4,d5,d6,d7,d8,d9,d10,d11,d12,d13,d14,d15,d16,d17,d18,d19,d20,d21,d22,d23,d24,d25,d26,d27,d28,d29,d30,d31,d32,d33,d34,d35,d36,d37,d38,d39,d40,d41,d42,d43,d44,d45,d46,d47,d48,d49].getD k d49) (λk=>[C_NoNumber,C_NoOrder,C_NoPoint].getD k 0):=⟨en2 X G q1,en1 X G q2,en2 X G q3,en2 X G q4,en2 X G q5,en2 X G q6,en3 X G q7,en4 X G q8,en2 X G q9,en2 X G q10,en3 X G q11,en4 X G q12,en1 X G q13,en2 X G q14,en4 X G q15,en3 X G q16,en2 X G q17,en2 X G q18,en1 X G q19,en1 X G q20,en2 X G q21,en2 X G q22,en1 X G q23,en2 X G q24,en2 X G q25,en2 X G q26,en1 X G q27,en2 X G q28,en2 X G q29,en2 X G q30,en2 X G q31,en1 X G q32,en2 X G q33,en1 X G q34,en2 X G q35,en5 X G q36,en1 X G q37,en2 X G q38,en2 X G q39,en4 X G q40,en1 X G q41,en1 X G q42,en1 X G q43,en1 X G q44,en1 X G q45,en3 X G q46,en2 X G q47,en1 X G q48,en1 X G q49,q43.a,QV X G z0,QV X G z1,QV X G z2,QV X G z3,QV X G z4,QV X G z5,QV X G z6,QV X G z7,QV X G z8,QV X G z9,QV X G z10,QV X G z11,QV X G z12,QV X G z13,ec X G cc_NoNumber,ec X G cc_NoOrder,ec X G cc_NoPoint,x_NoNumber,x_NoOrder,x_NoPoint,r_NoNumber,r_NoOrder,r_NoPoint⟩;refine⟨d49,λs v=>?_,λbase _ _=>Z6c (P:=l.prog) (w:=w) (base:=base) T⟩;obtain⟨_,_,_,_,_,_,_,_,_,rfl,_,_⟩:=q49.F.ex;exact .of_eq rfl
theorem walk{l:PySem.W.OpenLaw}{q:Qi}{d:DefRec}{K:Params->Xc}(hn:l.most=YB 63)(hdf:d.params.defaults=[])
  (hY:∀(w:QJ) (h:YH),YP w h->(K w.params).In h)
  (F:∀(w:QJ) (mg:Str->Option Xe) (fa:YG) (h:YH),(K w.params).In h->h.Ns Ql mg->mg d.name=YB (.ref fa) ->
   ∃fd:XJ,(∀(s:Xh) (u:Xe),BindsTo s fd ⟨[u],[]⟩ [("script",u)])/\∀base:YH,(K w.params).In base->base.Ns Ql mg->FnOk l.prog w (K w.params) mg base CX0 13 fa fd ["script"] (spD (K w.params) Z9m)) :
  PySem.W.WalkO q loose XP YP l.row.toRowW d [] (λf vs=>PySem.call f vs) :=
 L2.Z6y (n:=63) (k:=13) (x :="script") (CX:=λ_=>CX0) (sp:=λw=>spD (K w.params) Z9m) hn (by decide) hdf ⟨rfl,by decide,by decide⟩ hY F (λ_ _ a ns hl _ hS=>Yd0 hl hS) λ_ _ _ _ _ z=>z
end My
open PySem PySem.W PyProof.Rows
theorem PySem.W.Fast.tw706184627475323891:True:=trivial
theorem PySem.W.Fast.tw3304315887585160303:True:=trivial
theorem PySem.W.Fast.tw5976662311523026464:True:=trivial
theorem PySem.W.Fast.tw4740316963648370196:True:=trivial
theorem PySem.W.Fast.tw11577726068333475685:True:=trivial
theorem PySem.W.Fast.tw3517844272506935984:True:=trivial
theorem PySem.W.Fast.tw6302387443341093015:True:=trivial
theorem PySem.W.Fast.tw3222299724999907040:True:=trivial
theorem PySem.W.Fast.tw9347439565727464959:True:=trivial
theorem PySem.W.Fast.tw5230953722615945306:True:=trivial
theorem PySem.W.Fast.tw2671832977903897690:True:=trivial
theorem PySem.W.Fast.tw12655547402100919347:True:=trivial
theorem PySem.W.Fast.tw16917029259952301243:True:=trivial
theorem PySem.W.Fast.tw7413233023127308346:True:=trivial
theorem PySem.W.Fast.tw7521079660756288294:True:=trivial
theorem PySem.W.Fast.tw16672158426983829123:True:=trivial
theorem PySem.W.Fast.tw13956336688944230962:True:=trivial
theorem PySem.W.Fast.tw10508247579242722964:True:=trivial
theorem PySem.W.Fast.tw2139510914590219531:True:=trivial
theorem PySem.W.Fast.tw1526673638048290753:True:=trivial
theorem PySem.W.Fast.tw8948184669557914999:True:=trivial
theorem PySem.W.Fast.tw5558622831152314723:True:=trivial
theorem PySem.W.Fast.tw7491331026043908618:True:=trivial
theorem PySem.W.Fast.tw11961174240712745045:True:=trivial
theorem PySem.W.Fast.tw2650671936594428371:True:=trivial
theorem PySem.W.Fast.tw18090999914317392353:True:=trivial
theorem PySem.W.Fast.tw14918302802518255226:True:=trivial
theorem PySem.W.Fast.tw15272674598241349117:True:=trivial
theorem PySem.W.Fast.tw17417463496671288137:True:=trivial
theorem PySem.W.Fast.tw17369103679197746842:True:=trivial
theorem PySem.W.Fast.tw12247995253507588068:True:=trivial
theorem PySem.W.Fast.tw16827220803122849026:True:=trivial
theorem PySem.W.Fast.tw12627261953265468849:True:=trivial
theorem PySem.W.Fast.tw4063670458794280037:True:=trivial
theorem PySem.W.Fast.tw13089632748546622159:True:=trivial
theorem PySem.W.Fast.tw3385504290338043934:True:=trivial
theorem PySem.W.Fast.tw18141155766215018825:True:=trivial
theorem PySem.W.Fast.tw15149429643771626465:True:=trivial
theorem PySem.W.Fast.tw10713996133636550877:True:=trivial
theorem PySem.W.Fast.tw15481461375498608980:True:=trivial
set_option maxRecDepth 100000 in
set_option maxHeartbeats 0 in
theorem PySem.Challenge.cw_farcuts_k30_whole_rings_of_trees_holds : PySem.Challenge.rw_farcuts_k30_whole_rings_of_trees.Holds := by
 w_on;o_law;k_head;(case hw=>w_witness2)
 k_fill
 refine My.walk (l:=PySem.Challenge.rw_farcuts_k30_whole_rings_of_trees) rfl rfl (λw h Y_a=>PySem.W.kIn_of Y_a) ?F
 case F=>
  intro w mg fa h KX G hmg;refine' My.Yat KX G hmg ?_ ?_ ?_ ?_ ?_ ?_ ?_ ?_ ?_ ?_ ?_ ?_ ?_ ?_ ?_ ?_ ?_ ?_ ?_ ?_ ?_ ?_ ?_ ?_ ?_ ?_ ?_ ?_ ?_ ?_ ?_ ?_ ?_ ?_ ?_ ?_ ?_ ?_ ?_ ?_ ?_ ?_ ?_ ?_ ?_ ?_ ?_ ?_ ?_ ?_ ?_ ?_ ?_ ?_ ?_ ?_ ?_ ?_ ?_ ?_ ?_ ?_ ?_ ?_ ?_ ?_ ?_ ?_ ?_ ?_ ?_ ?_
  all_goals try (first|(refine' ⟨?a,L2.Ya1 ?l ?c ?k⟩;(case a=>k_is);(case l=>k_is);(case c=>k_is);(case k=>k_is))|k_is|kit_is|(show PySem.W.excIn _ _ _ _=YD;k_exc)|(refine' ⟨?_,?_,?_,?_,?_,?_,?_,?_,?_,?_,?_⟩<;>first|k_is|kit_is|(show PySem.W.isClsIn _ _=YD;k_is)))
#print axioms PySem.Challenge.cw_farcuts_k30_whole_rings_of_trees_holds
